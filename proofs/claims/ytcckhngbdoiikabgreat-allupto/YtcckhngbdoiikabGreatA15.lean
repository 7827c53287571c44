import Derived.Test.YtcckhngbdoiikabGreatA10
import Derived.Deep.RegionLaw
set_option maxRecDepth 20000
set_option maxHeartbeats 12800000
set_option linter.unusedVariables false
namespace Go.Proofs.YtcckhngbdoiikabGreat
open Go.RowKit Go.Deep
theorem C1.hH{w w':World}{gb g f:Nat}{O:Nat->Prop}{R:E0}{B M:Value}{s:I0}(h:C1 w gb O R B M)
  (K:w'.ownsRow 0 122 2 (.slice (some ⟨g,0,none⟩) (R.last.length+1) f) (R.last.length+1) (W8 R.last++W8 [s]))
  (U:w.grownBy w' M.ownBlock) (G:M.ownBlock=some g\/g=w.heap.size) (a0:g<w'.heap.size):
  C1 (w'.setCell ⟨gb,515,none⟩ (.slice (some ⟨g,0,none⟩) (R.last.length+1) f)) gb (fun k=>O k\/k=g) { R with last:=R.last++ [s] } B (.slice (some ⟨g,0,none⟩) (R.last.length+1) f)/\C0 O w w'/\Blk w' gb (D5 R.aJ R.first B M) 126:=by
 have Y:C0 O w w':=D8 U (fun k e=>(h.ola k e).1);have V:=h.aO.lt;have J:g≠gb:=by
  rcases G with e|e
  ·exact(h.ola g e).2
  ·omega
 have W:∀k,B.ownBlock=some k->k≠g:=by
  intro k e Z;subst Z;rcases G with D|D
  ·exact h.ne _ e D
  ·have:=h.olt _ (h.dN _ e).1;omega
 have X:Blk w' gb (D5 R.aJ R.first B M) 126:=by
  have:=U.block gb V (fun e=>(h.ola gb e.symm).2 rfl);unfold Blk;rw[this];exact h.aO
 have hl:w'.ownsRow 0 122 2 B R.aC.length (W8 R.aC):=h.fA.kept U (by
  cases e:B.ownBlock with
  |none=>exact .inl rfl
  |some k=>exact .inr (fun D=>h.ne k e D.symm))
 refine⟨⟨?_,?_,?_,.inl h.og,?_,?_,?_,?_⟩,Y,X⟩
 ·have:=X.set 515 (.slice (some ⟨g,0,none⟩) (R.last.length+1) f);rw[Uz]at this;exact this
 ·exact U2 hl (fun e=>(h.dN _ e).2 rfl) _
 ·have:=U2 K (p:=⟨gb,515,none⟩) (fun e=>J (zE e)) (.slice (some ⟨g,0,none⟩) (R.last.length+1) f);rw[<-Rg]at this;show World.ownsRow _ 0 122 2 _ (R.last++ [s]).length _;rw[zL];exact this
 ·exact fun k e=>⟨.inl (h.dN k e).1,(h.dN k e).2⟩
 ·intro k e;cases(zE e:g=k);exact⟨.inr rfl,J⟩
 ·intro k e D;cases(zE D:g=k);exact W _ e rfl
 ·intro k e;simp;rcases e with e|e
  ·exact yG (h.olt k e) Y.size
  ·omega
theorem KI(R:E0)(gb:Nat)(O:Nat->Prop)(fv lv:Value)(p:Z6)(w:World)(h:C1 w gb O R fv lv)(hl:R.last.length<=1000):
  Calls Tryz.prog 116 #[.pointer (some ⟨gb,0,none⟩),X9 p] w fun e w'=>
   e=.returned (.tuple #[])/\∃O' ap,C1 w' gb O' (R.endRule p) fv ap/\C0 O w w'/\∀k,O' k->O k\/w.heap.size<=k:=by
 obtain⟨_,ad,ab,ah,ai⟩:=P0 h.iJ;obtain⟨J,K,pe⟩:=p;have a8:w.cell? ⟨gb,512,none⟩=some (.int .u64 (R.first.lo.toNat:Int)):=by rw[h.aO.cell];exact Tp _ _ _ _
 have a9:w.cell? ⟨gb,513,none⟩=some (.int .u64 (R.first.hi.toNat:Int)):=by rw[h.aO.cell];exact Up _ _ _ _
 have ac:=h.aO.frozen 512;have ae:=h.aO.frozen 513;have ax:=h.aO.lt;have ar:gb<w.heap.size+1:=by omega
 have a1:gb<(w.alloc (.cells (M2 ⟨J,K,pe⟩) 196)).drew.heap.size:=by simp;omega
 have M:(w.alloc (.cells (M2 ⟨J,K,pe⟩) 196)).drew.cell? ⟨gb,512,none⟩=some (.int .u64 (R.first.lo.toNat:Int)):=by rw[(h.alloc _).drew.aO.cell];exact Tp _ _ _ _
 have U:(w.alloc (.cells (M2 ⟨J,K,pe⟩) 196)).drew.cell? ⟨gb,513,none⟩=some (.int .u64 (R.first.hi.toNat:Int)):=by rw[(h.alloc _).drew.aO.cell];exact Up _ _ _ _
 have V:=(h.alloc (.cells (M2 ⟨J,K,pe⟩) 196)).drew.aO.frozen 512;have W:=(h.alloc (.cells (M2 ⟨J,K,pe⟩) 196)).drew.aO.frozen 513;have Z:=Hd5 M U V W a1;clear M U V W a1;have HR:=Hd h;have a0:=Hd ah;clear h ai ah;go_enter Tryz.func116,Tryz.ntmps116;go_wp2_with fail
 go_region_with (go_at_call 118;refine(Ni R.first J _).mono ?_;rintro e w1 ⟨rfl,D⟩;have q0:=(D.cell (p:=⟨gb,512,none⟩) Z.out.2.2.2.2).trans Z.out.1;have q1:=(D.cell (p:=⟨gb,513,none⟩) Z.out.2.2.2.2).trans Z.out.2.1;have q2:=(D.frozen (p:=⟨gb,512,none⟩) Z.out.2.2.2.2).trans Z.out.2.2.1;have q3:=(D.frozen (p:=⟨gb,513,none⟩) Z.out.2.2.2.2).trans Z.out.2.2.2.1)
 all_goals
  have B:=((HR.out.alloc _).drew.aA D).iT (R.first.or J);have a2:O gb:=HR.out.og;have nO:∀k,O k->k<w.heap.size:=HR.out.olt;have a3:=((((((C0.refl O w).alloc (.cells (M2 ⟨J,K,pe⟩) 196)).drew).aA D).setCell (p:=⟨gb,512,none⟩) (fun _=>a2) (.int .u64 ((R.first.or J).lo.toNat:Int))).setCell (p:=⟨gb,513,none⟩) (fun _=>a2) (.int .u64 ((R.first.or J).hi.toNat:Int)));have X:=(((((Blk.aR w (M2 ⟨J,K,pe⟩) 196).drew).aA D).aG (p:=⟨gb,512,none⟩) (by simp;omega) (.int .u64 ((R.first.or J).lo.toNat:Int))).aG (p:=⟨gb,513,none⟩) (by simp;omega) (.int .u64 ((R.first.or J).hi.toNat:Int)));clear q0 q1 q2 q3 a8 a9 ac ae Z D HR;generalize((w1.setCell ⟨gb,512,none⟩ (.int .u64 ((R.first.or J).lo.toNat:Int))).setCell ⟨gb,513,none⟩ (.int .u64 ((R.first.or J).hi.toNat:Int)))=w2 at B a3 X⊢;have aa:w2.cell? ⟨gb,515,none⟩=some (.slice ad R.last.length ab):=by rw[B.aO.cell,Tz,a0.out]
  have af:=B.aO.frozen 515;have b2:w2.cell? ⟨w.heap.size,2,none⟩=some (.int .u64 (K.lo.toNat:Int)):=X.cell 2;have b3:w2.cell? ⟨w.heap.size,3,none⟩=some (.int .u64 (K.hi.toNat:Int)):=X.cell 3;have z1:gb<w2.heap.size:=B.aO.lt;have z2:w.heap.size<w2.heap.size:=X.lt;have G:lv.ownBlock≠some gb:=fun e=>(B.ola gb e).2 rfl
  obtain⟨i,hi,am,an,ao⟩:=info_parts Tryz.eP;have a4:=(B.iJ.alloc (.cells (K5 K) 122)).drew;rw[a0.out]at a4;rw[a0.out]at G;have HO:=Hd a4;have a7:=Hd B;have aj:=Hd a3;have a6:=Hd G;have au:=Hd nO;clear a4 B a3 G X nO;go_wp2_with fail
  go_region_law ((refine step_append_lies _ (by rfl) _ _ _ (by rfl) 0 122 i _ 2 16 Tryz.underlying124 hi am an ao rfl (by omega) (.slice ad R.last.length ab) R.last.length (W8 R.last) (by rfl) HO.out ⟨w2.heap.size,0,none⟩ 1 1 [.int .u64 (K.lo.toNat:Int),.int .u64 (K.hi.toNat:Int)] (by rfl) (by rfl) (World.news_of_block (cs:=K5 K) (t:=122) (fr:=(0,0)) (heap_alloc_new w2 _)) (by simp[Value.oneCell']) (by omega) (by unfold maxLen;omega) (by omega) (by simp) (w2.heap.size+1) (by simp) ?_;intro g aq w3 a5 f Y ag;have av:=(f.cell_far ⟨gb,515,none⟩ (by simp;omega) (Ne.symm a6.out)).trans (((World.cell?_alloc_past _ _ _ z1)).trans aa);have aw:=(f.frozen_far ⟨gb,515,none⟩ (by simp;omega) (Ne.symm a6.out)).trans (((World.frozen?_alloc_past _ _ _ z1)).trans af)))
  all_goals
   go_wp2_with fail
   go_end0
   have ak:=((a7.out).alloc (.cells (K5 K) 122)).drew;rw[<-a0.out]at f Y;obtain⟨q1,q2,q3⟩:=ak.hH (s:=K) a5 f (by simpa using Y) ag;refine⟨rfl,_,_,q1,((((aj.out).alloc _).drew).trans' q2).setCell (fun _=>a2) _,fun k hk=>hk.elim .inl (fun e=>?_)⟩;subst e;rcases Y with e|e
   ·exact .inl ((a7.out.ola _ e).1)
   ·exact .inr (by omega)
end Go.Proofs.YtcckhngbdoiikabGreat
