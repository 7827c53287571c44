import Derived.Test.YtcckhngbdoiikabGreatA07
import Derived.Test.YtcckhngbdoiikabGreatA08
set_option maxRecDepth 20000
set_option maxHeartbeats 12800000
set_option linter.unusedVariables false
namespace Go.Proofs.YtcckhngbdoiikabGreat
open Go.RowKit Go.Deep
theorem Rd.lQ{w:World}{f:Nat}{s:ByteArray}{p gb:Nat}(h:Rd w f s p gb)(B:1<=p):Rd (w.setCell ⟨f,1,none⟩ (.int .i64 ((p:Int)-1))) f s (p-1) gb:=by
 have:=h.set (p-1)
 rwa [show(((p-1:Nat):Int))=(p:Int)-1 from by omega]at this
theorem Ik(s:ByteArray)(p D gb:Nat)(w:World)(hr:Rd w D s p gb)(hs:s.size<=120)(hp:p<=s.size):
  Calls Tryz.prog 152 #[.pointer (some ⟨D,0,none⟩)] w fun e w'=>
   e=.returned (.tuple #[.int .i64 (B4 s p).1,.int .i64 (B4 s p).2.1,.bool (B4 s p).2.2.1])/\Rd w' D s (B4 s p).2.2.2 gb/\C0 (·=D) w w':=by
 have hK:C0 (·=D) w w:=C0.refl _ _;have X:=LJ s p D gb w hr hs (by omega);have Y:=Hj s p hp;unfold B4;rcases hI:A4 s p with⟨lo,ok,q⟩;rw[hI]at X Y;simp only at X Y⊢;have M:=Hd X;clear X hI;cases ok with
 |false=>
  rw[if_pos (Or.inl rfl)];go_enter Tryz.func152,Tryz.ntmps152;go_wp2_with fail;refine(V7 M).mono ?_;rintro e Z ⟨rfl,f,B⟩;have HH:Hid (Rd Z D s q gb/\C0 (·=D) w Z):=⟨f,B⟩;clear f B;go_wp2_with fail
  go_ret3
  exact⟨rfl,HH.out.1,HH.out.2⟩
 |true=>
  by_cases G:F0 s q=45
  ·rw[if_neg (by simp[G])];have hq:q<s.size:=A1 (by rw[G];decide);have V:=Hj s (q+1) (by omega);rcases hI:A4 s (q+1)with⟨hi,a2,q2⟩;rw[hI]at V;simp only at V⊢;have a1:∀W,Rd W D s (q+1) gb->_:=fun W h=>LJ s (q+1) D gb W h hs (by omega)
   rw[hI]at a1;have a0:=Hd a1;clear a1 hI
   by_cases K:a2=true/\hi<lo
   ·rw[if_pos K];obtain⟨rfl,K⟩:=K;go_enter Tryz.func152,Tryz.ntmps152;go_wp2_with fail;refine(V7 M).mono ?_;rintro e Z ⟨rfl,f,B⟩;have c1:=f.c1;have f1:=f.f1;go_wp2_with fail;refine(I3 s q D gb _ f hs (by omega)).mono ?_;rintro e w2 ⟨rfl,n,rfl⟩;rw[G];go_wp2_with fail;refine((V7 a0) _ (f.drewN n).set1).mono ?_;rintro e w2 ⟨rfl,J,U⟩;have c2:=J.c1;have f2:=J.f1;go_wp2_with fail
    go_ret3
    exact⟨rfl,J.lQ (by omega),(((B.drewN n).setCell (fun _=>rfl) _).trans' U).setCell (fun _=>rfl) _⟩
   ·rw[if_neg K];cases a2 with
    |false=>
     go_enter Tryz.func152,Tryz.ntmps152;go_wp2_with fail;refine(V7 M).mono ?_;rintro e Z ⟨rfl,f,B⟩;have c1:=f.c1;have f1:=f.f1;go_wp2_with fail;refine(I3 s q D gb _ f hs (by omega)).mono ?_;rintro e w2 ⟨rfl,n,rfl⟩;rw[G];go_wp2_with fail;refine((V7 a0) _ (f.drewN n).set1).mono ?_;rintro e w2 ⟨rfl,J,U⟩;go_wp2_with fail
     go_ret3
     exact⟨rfl,J,((B.drewN n).setCell (fun _=>rfl) _).trans' U⟩
    |true=>
     have a3:¬hi<lo:=fun e=>K ⟨rfl,e⟩
     clear K;go_enter Tryz.func152,Tryz.ntmps152;go_wp2_with fail;refine(V7 M).mono ?_;rintro e Z ⟨rfl,f,B⟩;have c1:=f.c1;have f1:=f.f1;go_wp2_with fail;refine(I3 s q D gb _ f hs (by omega)).mono ?_;rintro e w2 ⟨rfl,n,rfl⟩;rw[G];go_wp2_with fail;refine((V7 a0) _ (f.drewN n).set1).mono ?_;rintro e w2 ⟨rfl,J,U⟩;go_wp2_with fail
     go_ret3
     exact⟨rfl,J,((B.drewN n).setCell (fun _=>rfl) _).trans' U⟩
  ·rw[if_pos (Or.inr G)];have e1:(F0 s q !=45)=true:=by simp[G]
   go_enter Tryz.func152,Tryz.ntmps152;go_wp2_with fail;refine(V7 M).mono ?_;rintro e Z ⟨rfl,f,B⟩;go_wp2_with fail;refine(I3 s q D gb _ f hs (by omega)).mono ?_;rintro e w2 ⟨rfl,n,rfl⟩;have HH:Hid (Rd Z D s q gb/\C0 (·=D) w Z):=⟨f,B⟩;clear f B;go_wp2_with fail
   go_ret3
   exact⟨rfl,HH.out.1.drewN n,HH.out.2.drewN n⟩
theorem Rd.alloc{w:World}{f:Nat}{s:ByteArray}{p gb:Nat}(h:Rd w f s p gb)(o:Obj):Rd (w.alloc o) f s p gb:=Blk.alloc h o
theorem Rd.aA{w w':World}{f:Nat}{s:ByteArray}{p gb:Nat}(h:Rd w f s p gb)(k:Bw w w'):Rd w' f s p gb:=Blk.aA h k
theorem Rd.lt{w:World}{f:Nat}{s:ByteArray}{p gb:Nat}(h:Rd w f s p gb):f<w.heap.size:=Blk.lt h
theorem Uh(h f:Int)(w:World):
  Calls Tryz.prog 151 #[.agg Tryz.zeroCells228,.int .i64 h,.int .i64 f] w fun e w'=>e=.returned (.agg (Z1 (P9 Ja h f)))/\Bw w w':=by
 rw[Iu];exact Zi Ja h f w
theorem UH(w:World):
  Calls Tryz.prog 148 #[.agg Tryz.zeroCells228] w fun e w'=>e=.returned (.agg (Z1 (Px Ja)))/\Bw w w':=by
 rw[Iu];exact Dx Ja w
theorem KF(s:ByteArray)(p f gb:Nat)(w:World)(hr:Rd w f s p gb)(hs:s.size<=120)(hp:p<s.size):
  Calls Tryz.prog 149 #[.pointer (some ⟨f,0,none⟩)] w fun e w'=>
   e=.returned (.tuple #[.agg (Z1 (Y7 s p).1),.bool (Y7 s p).2.1])/\Rd w' f s (Y7 s p).2.2 gb/\C0 (·=f) w w':=by
 have hK:C0 (·=f) w w:=C0.refl _ _;have c1:=hr.c1;have f1:=hr.f1;have ap:=hr.lt;generalize hF:Y7 s p=F;have HF:=Hd hF;clear hF;rcases hinv:decide (F0 s (p+1)=94)with _|_
 ·have e1:(F0 s (p+1)==94)=false:=by simpa using hinv
  rcases hM:B4 s (p+1)with⟨lo,hi,ok,q⟩;have a9:=R7 s (p+1) (by omega);have V:∀W,Rd W f s (p+1) gb->_:=fun W h=>Ik s (p+1) f gb W h hs (by omega)
  generalize hR:C4 s (s.size+1) (P9 Ja lo hi) ok q=R;have HE:=Hd ((V7 HF).symm.trans (Mg hinv rfl hM hR));rw[hM]at V a9;simp only at V a9;have ab:=Hd V;have HR:=Hd hR;clear V hM hinv HF hR;go_enter Tryz.func149,Tryz.ntmps149;go_wp2_with fail;refine(I3 s (p+1) f gb _ (hr.set1.alloc _) hs (by omega)).mono ?_;rintro e w2 ⟨rfl,n,rfl⟩;go_wp2_with fail;refine((V7 ab) _ ((hr.set1.alloc _).drewN n)).mono ?_;rintro e w3 ⟨rfl,ae,a6⟩;go_wp2_with fail;refine(Uh lo hi _).mono ?_;rintro e D ⟨rfl,Y⟩;have a2:=ae.aA Y;have a0:C0 (·=f) w D:=((((hK.setCell (fun _=>rfl) _).alloc _).drewN n).trans' a6).aA Y;have K:Blk D w.heap.size Tryz.zeroCells228 228:=by
   refine((Blk.drewN ?_ n).kept a6 (by omega)).aA Y;have:=Blk.aR (w.setCell ⟨f,1,none⟩ (.int .i64 ((p:Int)+1))) Tryz.zeroCells228 228;simpa using this
  have ao:w.heap.size<D.heap.size:=K.lt;have aa:Hid (Rd D f s q gb/\C0 (·=f) w D/\Blk D w.heap.size Tryz.zeroCells228 228):=⟨a2,a0,K⟩;clear a2 a0 K ae a6 Y hr hK c1 f1;have hn:=Blk.aR D Tryz.zeroCells228 228;go_wp2_with(refine Ka rfl (.tmp 8) (.tmp 36) rfl D.heap.size rfl rfl hn Dd ?_);simp only[Act.put];rw[World.setRow_alloc_new]
  go_loopg[5,6,7] (s.size+1) (fun g a b c wr=>∃(A:Nat->Bool) (k:Bool) (t:Nat) (x y:Int),a=.int .i64 x/\b=.int .i64 y/\c=.bool k/\t<=s.size/\
   (k=true->s.size<g+t)/\C4 s g A k t=R/\Rd wr f s t gb/\Blk wr D.heap.size (Z1 A) 228/\Blk wr w.heap.size Tryz.zeroCells228 228/\C0 (·=f) w wr)
  case atStart=>
   obtain⟨a2,a0,K⟩:=aa.out;exact⟨_,ok,q,lo,hi,rfl,rfl,rfl,a9.2.1,fun _=>by omega,HR.out,a2.alloc _,Blk.aR _ _ _,K.alloc _,a0.alloc _⟩
  case round=>
   obtain⟨A,k,t,x,y,rfl,rfl,rfl,ht,hg,hm,B,ac,X,a7⟩:=hrel;have G:=Hd hm;have HG:=Hd hg;clear hm aa HR hn ab hg;cases k with
   |false=>
    have J:=(V7 G).symm.trans (U8 s gk A false t (by simp));rw[J]at HE;have a5:F=(Ja,false,t):=V7 HE;clear HE J G;subst a5;go_wp2_with(refine Gu rfl (.tmp 2) (.tmp 55) rfl w.heap.size rfl rfl X Dd ?_);exact bodyPost_ret (G3 Tryz.results149 _ _ w.heap.size 228 _ (0,0) _ rfl (X.setRow _) Tryz.underlying228 rfl (by rw[Z2];exact Tryz.cW)) rfl ⟨rfl,B.aP (by omega) _,a7.setRow (by omega) _⟩
   |true=>
    by_cases U:F0 s t=93
    ·have J:=(V7 G).symm.trans (U8 s gk A true t (by simp[U]));rw[J]at HE;have a5:F=(A,true,t+1):=V7 HE;clear HE J G;subst a5;go_wp2_with fail;refine(I3 s t f gb _ B hs (by omega)).mono ?_;rintro e w6 ⟨rfl,n6,rfl⟩;rw[U];have c5:=B.c1;have f5:=B.f1;have M:=(ac.drewN n6).aG (p:=⟨f,1,none⟩) (by simp;omega) (.int .i64 ((t:Int)+1));have a3:=(X.drewN n6).aG (p:=⟨f,1,none⟩) (by simp;omega) (.int .i64 ((t:Int)+1));go_wp2_with(first|refine Sn rfl (.tmp 8) rfl D.heap.size rfl M ?_|refine Ka rfl (.tmp 2) (.tmp 66) rfl w.heap.size rfl rfl a3 Dd ?_);exact bodyPost_ret (G3 Tryz.results149 _ _ w.heap.size 228 _ (0,0) _ rfl (a3.setRow _) Tryz.underlying228 rfl (by rw[Z2];exact Tryz.cW)) rfl ⟨rfl,((B.drewN n6).set1).aP (by omega) _,((a7.drewN n6).setCell (fun _=>rfl) _).setRow (by omega) _⟩
    ·have ak:(F0 s t !=93)=true:=by simp[U]
     go_wp2_with fail;refine(I3 s t f gb _ B hs (by omega)).mono ?_;rintro e w6 ⟨rfl,n6,rfl⟩;go_wp2_with fail;refine(Ik s t f gb _ (B.drewN n6) hs (by omega)).mono ?_;rintro e w6 ⟨rfl,ah,a8⟩;have M:=(ac.drewN n6).kept a8 (by omega);have a3:=(X.drewN n6).kept a8 (by omega);go_wp2_with(refine Sn rfl (.tmp 8) rfl D.heap.size rfl M ?_);refine(Zi A _ _ _).mono ?_;rintro e w7 ⟨rfl,Z⟩;have ad:=M.aA Z;go_wp2_with(refine Ka rfl (.tmp 8) (.tmp 52) rfl D.heap.size rfl rfl ad (Z2 _) ?_);have an:=(V7 HG) (by trivial);have a4:=R7 s t ht;have ag:gk=(gk-1)+1:=by omega
     have a1:=V7 G;rw[ag]at a1;unfold C4 at a1;rw[if_pos ⟨rfl,U⟩]at a1
     go_roundg (gk-1)
     case measure=>omega
     case rel=>
      refine⟨_,_,_,_,_,rfl,rfl,rfl,a4.2.1,fun e=>?_,a1,(ah.aA Z).aP (by omega) _,ad.setRow _,(a3.aA Z).aP (by omega) _,(((a7.drewN n6).trans' a8).aA Z).setRow (by omega) _⟩;have:=a4.2.2 e;omega
 ·have e1:(F0 s (p+1)==94)=true:=by simpa using hinv
  rcases hM:B4 s (p+2)with⟨lo,hi,ok,q⟩;have a9:=R7 s (p+2) (by have:=A1 (s:=s) (p:=p+1) (by have:=eq_of_beq e1;omega);omega);have V:∀W,Rd W f s (p+2) gb->_:=fun W h=>Ik s (p+2) f gb W h hs (by have:=A1 (s:=s) (p:=p+1) (by have:=eq_of_beq e1;omega);omega)
  generalize hR:C4 s (s.size+1) (P9 Ja lo hi) ok q=R;have HE:=Hd ((V7 HF).symm.trans (Mg hinv rfl hM hR));rw[hM]at V a9;simp only at V a9;have ab:=Hd V;have HR:=Hd hR;clear V hM hinv HF hR;go_enter Tryz.func149,Tryz.ntmps149;go_wp2_with fail;refine(I3 s (p+1) f gb _ (hr.set1.alloc _) hs (by omega)).mono ?_;rintro e w2 ⟨rfl,n,rfl⟩;go_wp2_with fail;refine((V7 ab) _ ((hr.set1.alloc _).drewN n).set1).mono ?_;rintro e w3 ⟨rfl,ae,a6⟩;go_wp2_with fail;refine(Uh lo hi _).mono ?_;rintro e D ⟨rfl,Y⟩;have a2:=ae.aA Y;have a0:C0 (·=f) w D:=(((((hK.setCell (fun _=>rfl) _).alloc _).drewN n).setCell (fun _=>rfl) _).trans' a6).aA Y;have K:Blk D w.heap.size Tryz.zeroCells228 228:=by
   refine(((Blk.drewN ?_ n).aG (by simp;omega) _).kept a6 (by omega)).aA Y;have:=Blk.aR (w.setCell ⟨f,1,none⟩ (.int .i64 ((p:Int)+1))) Tryz.zeroCells228 228;simpa using this
  have ao:w.heap.size<D.heap.size:=K.lt;have aa:Hid (Rd D f s q gb/\C0 (·=f) w D/\Blk D w.heap.size Tryz.zeroCells228 228):=⟨a2,a0,K⟩;clear a2 a0 K ae a6 Y hr hK c1 f1;have hn:=Blk.aR D Tryz.zeroCells228 228;go_wp2_with(refine Ka rfl (.tmp 8) (.tmp 36) rfl D.heap.size rfl rfl hn Dd ?_);simp only[Act.put];rw[World.setRow_alloc_new]
  go_loopg[5,6,7] (s.size+1) (fun g a b c wr=>∃(A:Nat->Bool) (k:Bool) (t:Nat) (x y:Int),a=.int .i64 x/\b=.int .i64 y/\c=.bool k/\t<=s.size/\
   (k=true->s.size<g+t)/\C4 s g A k t=R/\Rd wr f s t gb/\Blk wr D.heap.size (Z1 A) 228/\Blk wr w.heap.size Tryz.zeroCells228 228/\C0 (·=f) w wr)
  case atStart=>
   obtain⟨a2,a0,K⟩:=aa.out;exact⟨_,ok,q,lo,hi,rfl,rfl,rfl,a9.2.1,fun _=>by omega,HR.out,a2.alloc _,Blk.aR _ _ _,K.alloc _,a0.alloc _⟩
  case round=>
   obtain⟨A,k,t,x,y,rfl,rfl,rfl,ht,hg,hm,B,ac,X,a7⟩:=hrel;have G:=Hd hm;have HG:=Hd hg;clear hm aa HR hn ab hg;cases k with
   |false=>
    have J:=(V7 G).symm.trans (U8 s gk A false t (by simp));rw[J]at HE;have a5:F=(Ja,false,t):=V7 HE;clear HE J G;subst a5;go_wp2_with(refine Gu rfl (.tmp 2) (.tmp 55) rfl w.heap.size rfl rfl X Dd ?_);exact bodyPost_ret (G3 Tryz.results149 _ _ w.heap.size 228 _ (0,0) _ rfl (X.setRow _) Tryz.underlying228 rfl (by rw[Z2];exact Tryz.cW)) rfl ⟨rfl,B.aP (by omega) _,a7.setRow (by omega) _⟩
   |true=>
    by_cases U:F0 s t=93
    ·have J:=(V7 G).symm.trans (U8 s gk A true t (by simp[U]));rw[J]at HE;have a5:F=(Px A,true,t+1):=V7 HE;clear HE J G;subst a5;go_wp2_with fail;refine(I3 s t f gb _ B hs (by omega)).mono ?_;rintro e w6 ⟨rfl,n6,rfl⟩;rw[U];have c5:=B.c1;have f5:=B.f1;have M:=(ac.drewN n6).aG (p:=⟨f,1,none⟩) (by simp;omega) (.int .i64 ((t:Int)+1));have a3:=(X.drewN n6).aG (p:=⟨f,1,none⟩) (by simp;omega) (.int .i64 ((t:Int)+1));go_wp2_with(refine Sn rfl (.tmp 8) rfl D.heap.size rfl M ?_);refine(Dx A _).mono ?_;rintro e w8 ⟨rfl,af⟩;have ai:=M.aA af;have am:=ai.setRow (Z1 (Px A));have aj:=(a3.aA af).aP (g:=D.heap.size) (by omega) (Z1 (Px A));go_wp2_with(first|refine Ka rfl (.tmp 8) (.tmp 65) rfl D.heap.size rfl rfl ai (Z2 _) ?_|refine Sn rfl (.tmp 8) rfl D.heap.size rfl am ?_|refine Ka rfl (.tmp 2) (.tmp 66) rfl w.heap.size rfl rfl aj Dd ?_);exact bodyPost_ret (G3 Tryz.results149 _ _ w.heap.size 228 _ (0,0) _ rfl (aj.setRow _) Tryz.underlying228 rfl (by rw[Z2];exact Tryz.cW)) rfl ⟨rfl,((((B.drewN n6).set1).aA af).aP (by omega) _).aP (by omega) _,((((a7.drewN n6).setCell (fun _=>rfl) _).aA af).setRow (by omega) _).setRow (by omega) _⟩
    ·have ak:(F0 s t !=93)=true:=by simp[U]
     go_wp2_with fail;refine(I3 s t f gb _ B hs (by omega)).mono ?_;rintro e w6 ⟨rfl,n6,rfl⟩;go_wp2_with fail;refine(Ik s t f gb _ (B.drewN n6) hs (by omega)).mono ?_;rintro e w6 ⟨rfl,ah,a8⟩;have M:=(ac.drewN n6).kept a8 (by omega);have a3:=(X.drewN n6).kept a8 (by omega);go_wp2_with(refine Sn rfl (.tmp 8) rfl D.heap.size rfl M ?_);refine(Zi A _ _ _).mono ?_;rintro e w7 ⟨rfl,Z⟩;have ad:=M.aA Z;go_wp2_with(refine Ka rfl (.tmp 8) (.tmp 52) rfl D.heap.size rfl rfl ad (Z2 _) ?_);have an:=(V7 HG) (by trivial);have a4:=R7 s t ht;have ag:gk=(gk-1)+1:=by omega
     have a1:=V7 G;rw[ag]at a1;unfold C4 at a1;rw[if_pos ⟨rfl,U⟩]at a1
     go_roundg (gk-1)
     case measure=>omega
     case rel=>
      refine⟨_,_,_,_,_,rfl,rfl,rfl,a4.2.1,fun e=>?_,a1,(ah.aA Z).aP (by omega) _,ad.setRow _,(a3.aA Z).aP (by omega) _,(((a7.drewN n6).trans' a8).aA Z).setRow (by omega) _⟩;have:=a4.2.2 e;omega
theorem Qk{B:Func}{p q:Tmp}(h:B.results=#[.cell p 228,.tmp q]){A:Nat->Bool}(f:Array Value){w:World}{g:Nat}
  (G:f.getD p undef=.pointer (some ⟨g,0,none⟩)) (D:Blk w g (Z1 A) 228):(results B f).run Tryz.prog w=.ok (.tuple #[.agg (Z1 A),f.getD q undef]) w:=
 G3 h f w g 228 _ (0,0) _ G D Tryz.underlying228 rfl (by rw[Z2];exact Tryz.cW)
theorem WT(s:ByteArray)(p B gb:Nat)(w:World)(K:Rd w B s p gb)(Y:s.size<=120)(hp:p<=s.size):
  Calls Tryz.prog 146 #[.pointer (some ⟨B,0,none⟩)] w fun e w'=>
   e=.returned (.tuple #[.agg (Z1 (W6 s p).1),.bool (W6 s p).2.1])/\Rd w' B s (W6 s p).2.2 gb/\C0 (·=B) w w':=by
 have hK:C0 (·=B) w w:=C0.refl _ _;have c1:=K.c1;have f1:=K.f1;have a5:=K.lt;generalize D:W6 s p=F;unfold W6 at D
 by_cases f:S7 (F0 s p)
 ·rw[if_pos f]at D;subst D;go_enter Tryz.func146,Tryz.ntmps146;go_wp2_with fail;refine(I3 s p B gb _ (K.alloc _) Y (by omega)).mono ?_;rintro e Z ⟨rfl,n,rfl⟩;have G:=(Blk.aR w Tryz.zeroCells228 228).drewN n;rcases f with f|f|f|f|f|f|f|f|f <;>rw[f] <;>go_wp2_with(refine Gu rfl (.tmp 2) (.tmp 18) rfl w.heap.size rfl rfl G Dd ?_)
  all_goals
   exact bodyPost_ret (Qk Tryz.results146 _ rfl (G.setRow _)) rfl ⟨rfl,((K.alloc _).drewN n).aP (by omega) _,((hK.alloc _).drewN n).setRow (by omega) _⟩
 rw[if_neg f]at D;have a3:p<s.size:=A1 (fun e=>f (Or.inl e));have e1:(F0 s p== -1)=false:=by simp;intro h;exact f (by simp[S7,h])
 have e2:(F0 s p==10)=false:=by simp;intro h;exact f (by simp[S7,h])
 have e3:(F0 s p==124)=false:=by simp;intro h;exact f (by simp[S7,h])
 have e4:(F0 s p==42)=false:=by simp;intro h;exact f (by simp[S7,h])
 have e5:(F0 s p==43)=false:=by simp;intro h;exact f (by simp[S7,h])
 have e6:(F0 s p==63)=false:=by simp;intro h;exact f (by simp[S7,h])
 have e7:(F0 s p==40)=false:=by simp;intro h;exact f (by simp[S7,h])
 have e8:(F0 s p==41)=false:=by simp;intro h;exact f (by simp[S7,h])
 have e9:(F0 s p==93)=false:=by simp;intro h;exact f (by simp[S7,h])
 clear f
 by_cases h2:F0 s p=46
 ·rw[if_pos h2]at D;subst D;clear e1 e2 e3 e4 e5 e6 e7 e8 e9;go_enter Tryz.func146,Tryz.ntmps146;go_wp2_with fail;refine(I3 s p B gb _ (K.alloc _) Y (by omega)).mono ?_;rintro e Z ⟨rfl,n,rfl⟩;rw[h2];go_wp2_with fail;refine(UH _).mono ?_;rintro e Z ⟨rfl,V⟩;have G:=(((Blk.aR w Tryz.zeroCells228 228).drewN n).aG (p:=⟨B,1,none⟩) (by simp;omega) (.int .i64 ((p:Int)+1))).aA V;go_wp2_with(refine Ka rfl (.tmp 2) (.tmp 29) rfl w.heap.size rfl rfl G Dd ?_);exact bodyPost_ret (Qk Tryz.results146 _ rfl (G.setRow _)) rfl ⟨rfl,((((K.alloc _).drewN n).set1).aA V).aP (by omega) _,((((hK.alloc _).drewN n).setCell (fun _=>rfl) _).aA V).setRow (by omega) _⟩
 rw[if_neg h2]at D;have a2:(F0 s p==46)=false:=by simp[h2]
 clear h2
 by_cases h3:F0 s p=91
 ·rw[if_pos h3]at D;clear e1 e2 e3 e4 e5 e6 e7 e8 e9 a2;have U:∀W,Rd W B s p gb->_:=fun W h=>KF s p B gb W h Y a3
  rw[D]at U;have a0:=Hd U;clear U D;go_enter Tryz.func146,Tryz.ntmps146;go_wp2_with fail;refine(I3 s p B gb _ (K.alloc _) Y (by omega)).mono ?_;rintro e Z ⟨rfl,n,rfl⟩;rw[h3];go_wp2_with fail;refine((V7 a0) _ ((K.alloc _).drewN n)).mono ?_;rintro e Z ⟨rfl,X,J⟩;have G:=((Blk.aR w Tryz.zeroCells228 228).drewN n).kept J (by omega);go_wp2_with(refine Ka rfl (.tmp 2) (.tmp 34) rfl w.heap.size rfl rfl G Dd ?_);exact bodyPost_ret (Qk Tryz.results146 _ rfl (G.setRow _)) rfl ⟨rfl,X.aP (by omega) _,(((hK.alloc _).drewN n).trans' J).setRow (by omega) _⟩
 rw[if_neg h3]at D;have a4:(F0 s p==91)=false:=by simp[h3]
 clear h3;subst D;have M:∀W,Rd W B s p gb->_:=fun W h=>AA s p B gb W h Y (by omega)
 rcases hS:O5 s p with⟨b,ok,q⟩;rw[hS]at M;simp only at M⊢;have a1:=Hd M;clear M hS;go_enter Tryz.func146,Tryz.ntmps146;go_wp2_with fail;refine(I3 s p B gb _ (K.alloc _) Y (by omega)).mono ?_;rintro e Z ⟨rfl,n,rfl⟩;go_wp2_with fail;refine((V7 a1) _ ((K.alloc _).drewN n)).mono ?_;rintro e Z ⟨rfl,X,J⟩;go_wp2_with fail;refine(Uh b b _).mono ?_;rintro e w3 ⟨rfl,V⟩;have G:=(((Blk.aR w Tryz.zeroCells228 228).drewN n).kept J (by omega)).aA V;go_wp2_with(refine Ka rfl (.tmp 2) (.tmp 44) rfl w.heap.size rfl rfl G Dd ?_);exact bodyPost_ret (Qk Tryz.results146 _ rfl (G.setRow _)) rfl ⟨rfl,(X.aA V).aP (by omega) _,((((hK.alloc _).drewN n).trans' J).aA V).setRow (by omega) _⟩
end Go.Proofs.YtcckhngbdoiikabGreat
