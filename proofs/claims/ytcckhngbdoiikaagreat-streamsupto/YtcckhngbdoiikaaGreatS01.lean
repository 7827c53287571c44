import Derived.Test.YtcckhngbdoiikaaGreatRows
import Derived.ProofKit
import Derived.OpenShut
import Derived.JoinedCond
set_option maxRecDepth 20000
set_option maxHeartbeats 12800000
set_option linter.unusedVariables false
namespace Go.Proofs.YtcckhngbdoiikaaGreat
open Go.ChangeShapes Go.WideShapes Go.ChangeAt Go.RowKit
theorem Tryz.lK:ownKnob Tryz.prog.godebug=none:=by kernel_rfl
end Go.Proofs.YtcckhngbdoiikaaGreat
