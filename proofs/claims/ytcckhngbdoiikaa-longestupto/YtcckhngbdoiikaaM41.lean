import Derived.Test.YtcckhngbdoiikaaM37
import Derived.Test.YtcckhngbdoiikaaM39
import Derived.Test.YtcckhngbdoiikaaM40

namespace Go.Proofs.Ytcckhngbdoiikaa
open Go.RowKit Go.Deep
theorem longest_any (ops : List OpT) (v : Value) (s : ByteArray) (W : World) (h : OpsAt W v ops) (hs : s.size ≤ 1048576) : Calls Try.prog 8 #[v, .string s] W fun e W' => e = .returned (.bool true) ∧ Below W.heap.size W W' :=
  longest_x cuts_any (fun ops v w h => built_any ops v w h) (fun pb kd g s w h ho hs => split_any pb kd g s w h ho hs) ops v s W h hs
end Go.Proofs.Ytcckhngbdoiikaa
