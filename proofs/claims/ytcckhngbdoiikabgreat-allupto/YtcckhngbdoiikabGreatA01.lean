import Derived.Test.YtcckhngbdoiikabGreatRows
import Derived.ProofKit
import Derived.OpenShut
import Derived.JoinedCond
set_option maxRecDepth 20000
set_option maxHeartbeats 12800000
set_option linter.unusedVariables false
namespace Go.Proofs.YtcckhngbdoiikabGreat
open Go.ChangeShapes Go.WideShapes Go.ChangeAt Go.RowKit
theorem Tryz.lN:ownKnob Tryz.prog.godebug=none:=by kernel_rfl
end Go.Proofs.YtcckhngbdoiikabGreat
