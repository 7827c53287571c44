import Derived.Test.YtcckhngbdoiikabGreatA27
import Derived.Test.YtcckhngbdoiikabGreatA10
set_option maxRecDepth 20000
set_option maxHeartbeats 12800000
set_option linter.unusedVariables false
namespace Go.Proofs.YtcckhngbdoiikabGreat
open Go.RowKit Go.Deep
def Dc(l:List Nat):List Int:=l.map (fun(n:Nat)=>(n:Int))
theorem Bf(l:List Nat):(Dc l).length=l.length:=by simp[Dc]
theorem Q2.gZ{w:World}{v:Value}{l:List Nat}(h:Q2 w v (Dc l)):∃(B:Option Addr) (f:Nat),v=.slice B l.length f/\(l.length=0\/∃g,B=some ⟨g,0,none⟩):=by
 have:=h.aV;rw[Bf]at this;exact this
theorem Q2.cellN{w:World}{l:List Nat}{g f:Nat}(h:Q2 w (.slice (some ⟨g,0,none⟩) l.length f) (Dc l))(j:Nat)(B:j<l.length):w.cell? ⟨g,j,none⟩=some (.int .i64 (l.getD j 0:Int)):=by
 have D:Q2 w (.slice (some ⟨g,0,none⟩) (Dc l).length f) (Dc l):=by rw[Bf];exact h
 rw[D.cell j (by rw[Bf];exact B)];simp[Dc,B]
end Go.Proofs.YtcckhngbdoiikabGreat
