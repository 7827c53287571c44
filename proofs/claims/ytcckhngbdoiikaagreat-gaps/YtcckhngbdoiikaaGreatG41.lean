import Derived.Test.YtcckhngbdoiikaaGreatG34
import Derived.Test.YtcckhngbdoiikaaGreatG09
import Derived.Test.YtcckhngbdoiikaaGreatG08
import Derived.Test.YtcckhngbdoiikaaGreatG12

namespace Go.Proofs.YtcckhngbdoiikaaGreat
open Go.RowKit Go.Deep
set_option linter.unusedVariables false
def natsI (l:List Nat):List Int:=l.map (fun (n:Nat)=>(n:Int))
theorem natsI_len (l:List Nat):(natsI l).length = l.length:=by simp [natsI]
theorem IRow.formN {w:World} {v:Value} {l:List Nat} (h:IRow w v (natsI l)):∃ (ad:Option Addr) (cap:Nat),v = .slice ad l.length cap∧(l.length = 0∨∃ g,ad = some ⟨g,0,none⟩):=by
 have:=h.form
 rw [natsI_len] at this
 exact this
theorem IRow.cellN {w:World} {l:List Nat} {g cap:Nat} (h:IRow w (.slice (some ⟨g,0,none⟩) l.length cap) (natsI l)) (j:Nat) (hj:j < l.length):w.cell? ⟨g,j,none⟩ = some (.int .i64 (l.getD j 0:Int)):=by
 have h':IRow w (.slice (some ⟨g,0,none⟩) (natsI l).length cap) (natsI l):=by rw [natsI_len]; exact h
 rw [h'.cell j (by rw [natsI_len]; exact hj)]
 simp [natsI,hj]
end Go.Proofs.YtcckhngbdoiikaaGreat
