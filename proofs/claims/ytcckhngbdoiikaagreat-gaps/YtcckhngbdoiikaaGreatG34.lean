import Derived.Test.YtcckhngbdoiikaaGreatG09
import Derived.Test.YtcckhngbdoiikaaGreatG03
import Derived.Laws.IdiomStrings

namespace Go.Proofs.YtcckhngbdoiikaaGreat
open Go.RowKit Go.Deep
set_option linter.unusedVariables false
def bytesOf (l:List Nat):ByteArray:=⟨(l.map UInt8.ofNat).toArray⟩
theorem bytesOf_append (l m:List Nat):bytesOf l ++ bytesOf m = bytesOf (l ++ m):=by
 apply ByteArray.ext
 rw [ByteArray.data_append]
 simp [bytesOf]
theorem conv1 (b:Nat) (hb:b < 256) (w:World):(convert 134 9 (.slice (some ⟨w.heap.size,0,none⟩) 1 1)).run Tryz.prog (w.alloc (.cells #[.int .u8 (b:Int)] 5)) = .ok (.string (bytesOf [b])) (w.alloc (.cells #[.int .u8 (b:Int)] 5)) :=
 run_convert_bytes_back _ 134 9 5 _ 1 [UInt8.ofNat b] Tryz.underlying134 Tryz.underlying5 Tryz.underlying9 (fun j hj=>by
  have:j = 0:=by simp at hj; omega
  subst this
  have e:(UInt8.ofNat b).toNat = b:=by simp; omega
  simp only [List.getElem_cons_zero,e]
  exact World.cell?_alloc_mark w _ _ _ 0)
theorem bytesOf_size (l:List Nat):(bytesOf l).size = l.length:=by simp [bytesOf,ByteArray.size]
end Go.Proofs.YtcckhngbdoiikaaGreat
