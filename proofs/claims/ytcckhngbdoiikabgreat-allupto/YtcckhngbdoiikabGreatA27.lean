import Derived.Test.YtcckhngbdoiikabGreatA07
import Derived.Laws.IdiomStrings
set_option maxRecDepth 20000
set_option maxHeartbeats 12800000
set_option linter.unusedVariables false
namespace Go.Proofs.YtcckhngbdoiikabGreat
open Go.RowKit Go.Deep
def K1(l:List Nat):ByteArray:=⟨(l.map UInt8.ofNat).toArray⟩
theorem Rx(l m:List Nat):K1 l++K1 m=K1 (l++m):=by
 apply ByteArray.ext;rw[ByteArray.data_append];simp[K1]
theorem Ac8(b:Nat)(h:b<256)(w:World):(convert 147 9 (.slice (some ⟨w.heap.size,0,none⟩) 1 1)).run Tryz.prog (w.alloc (.cells #[.int .u8 (b:Int)] 5))=.ok (.string (K1 [b])) (w.alloc (.cells #[.int .u8 (b:Int)] 5)):=
 run_convert_bytes_back _ 147 9 5 _ 1 [UInt8.ofNat b] Tryz.underlying147 Tryz.underlying5 Tryz.underlying9 (fun j f=>by
  have:j=0:=by simp at f;omega
  subst this;have e:(UInt8.ofNat b).toNat=b:=by simp;omega
  simp only[List.getElem_cons_zero,e];exact World.cell?_alloc_mark w _ _ _ 0)
theorem Qc(l:List Nat):(K1 l).size=l.length:=by simp[K1,ByteArray.size]
end Go.Proofs.YtcckhngbdoiikabGreat
