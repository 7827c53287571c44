import Derived.Test.YtcckhngbdoiikaaGreatS31
import Derived.Test.YtcckhngbdoiikaaGreatS11
set_option maxRecDepth 20000
set_option maxHeartbeats 12800000
set_option linter.unusedVariables false
namespace Go.Proofs.YtcckhngbdoiikaaGreat
open Go.RowKit Go.Deep
def Ub(l:List Nat):List Int:=l.map (fun(n:Nat)=>(n:Int))
theorem Ve(l:List Nat):(Ub l).length=l.length:=by simp[Ub]
theorem O2.gU{w:World}{v:Value}{l:List Nat}(h:O2 w v (Ub l)):∃(B:Option Addr) (f:Nat),v=.slice B l.length f/\(l.length=0\/∃g,B=some ⟨g,0,none⟩):=by
 have:=h.aT;rw[Ve]at this;exact this
theorem O2.cellN{w:World}{l:List Nat}{g f:Nat}(h:O2 w (.slice (some ⟨g,0,none⟩) l.length f) (Ub l))(j:Nat)(B:j<l.length):w.cell? ⟨g,j,none⟩=some (.int .i64 (l.getD j 0:Int)):=by
 have D:O2 w (.slice (some ⟨g,0,none⟩) (Ub l).length f) (Ub l):=by rw[Ve];exact h
 rw[D.cell j (by rw[Ve];exact B)];simp[Ub,B]
end Go.Proofs.YtcckhngbdoiikaaGreat
