import Derived.Test.YtcckhngbdoiikaaGreatG25
import Derived.Deep.DeepCutAuto
import Derived.Deep.RegionWith
import Derived.BigRegion
import Derived.IntWalk
import Derived.BigQuiet
import Derived.Deep.QuietTactic

namespace Go.Proofs.YtcckhngbdoiikaaGreat
open Go.RowKit Go.Deep
set_option linter.unusedVariables false
theorem Below_drew {n:Nat} {w w':World} (h:Below n w w'):Below n w w'.drew:=⟨h.os,h.tape,h.output,h.size,h.block⟩
end Go.Proofs.YtcckhngbdoiikaaGreat
