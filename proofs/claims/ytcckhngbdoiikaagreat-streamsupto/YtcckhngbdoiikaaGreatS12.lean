import Derived.Test.YtcckhngbdoiikaaGreatS11
set_option maxRecDepth 20000
set_option maxHeartbeats 12800000
set_option linter.unusedVariables false
namespace Go.Proofs.YtcckhngbdoiikaaGreat
open Go.RowKit Go.Deep
theorem CA(s:I0)(l:List I0)(k:Nat)(h:k<l.length):Ac s k (l.drop k)=if s.cK l[k]then(k:Int)else Ac s (k+1) (l.drop (k+1)):=by
 rw[zY h];rfl
theorem SV(R:E0)(gb:Nat)(O:Nat->Prop)(fv lv:Value)(s:I0)(w:World)(h:C1 w gb O R fv lv)(hl:R.last.length<=1000):
  Calls Tryz.prog 87 #[.pointer (some ⟨gb,0,none⟩),Jg s] w fun e w'=>
   e=.returned (.int .i64 (R.aB s))/\Bw w w':=by
 obtain⟨_,ad,Y,rfl,W⟩:=L0 h.iE;have cg:w.cell? ⟨gb,515,none⟩=some (.slice ad R.last.length Y):=by rw[h.aO.cell];exact Sy _ _ _ _
 have a1:=h.aO.lt;have a0:gb<w.heap.size+1:=by omega
 generalize hF:R.aB s=F;have X:Hid (Ac s 0 R.last=F):=hF;clear hF;go_enter Tryz.func87,Tryz.ntmps87;go_wp2_with fail
 go_loopg[12] R.last.length (fun g i wr=>∃k:Nat,k<=R.last.length/\g=R.last.length-k/\i=.int .i64 k/\
  Bw w wr/\Blk wr w.heap.size (E5 s) 109/\Ac s k (R.last.drop k)=F)
 case atStart=>
  exact⟨0,by omega,rfl,rfl,P0 _ _,Blk.aQ w _ _,X.out⟩
 case round=>
  obtain⟨k,hk,rfl,rfl,M,G,f⟩:=hrel
  by_cases U:k<R.last.length
  ·have e0:decide ((k:Int)<(R.last.length:Int))=true:=by simp;omega
   rcases W with⟨rfl,h0⟩|⟨fb,cur,rfl,_⟩
   ·omega
   have J:=h.aA M;have r0:wr.cell? ⟨fb,k*2,none⟩=some (.int .u64 (R.last[k].lo.toNat:Int)):=by rw[Y0 J.iE _ (by omega),Dc _ k U]
   have r1:wr.cell? ⟨fb,k*2+1,none⟩=some (.int .u64 (R.last[k].hi.toNat:Int)):=by rw[Y0 J.iE _ (by omega),Ec _ k U]
   have i0:(0:Int)<=(k:Int):=by omega
   have i1:(k:Int)<(R.last.length:Int):=by omega
   have s0:wr.cell? ⟨w.heap.size,0,none⟩=some (.int .u64 (s.lo.toNat:Int)):=G.cell 0;have s1:wr.cell? ⟨w.heap.size,1,none⟩=some (.int .u64 (s.hi.toNat:Int)):=G.cell 1;have a2:w.heap.size<wr.heap.size:=G.lt;have V:Hid (Bw w wr/\Blk wr w.heap.size (E5 s) 109/\Ac s k (R.last.drop k)=F):=⟨M,G,f⟩;clear M G J h cg f X;go_wp2_with fail;refine(VB s R.last[k] _).mono ?_;rintro e w1 ⟨rfl,B⟩;obtain⟨M,G,f⟩:=V.out;have K:=(G.alloc (.cells (E5 R.last[k]) 109)).aA B;have D:=(M.alloc (by omega) (.cells (E5 R.last[k]) 109)).trans (B.mono (by simp;omega));rw[CA s _ k U]at f;clear M G V;cases hh:s.cK R.last[k]with
   |false=>
    rw[hh,if_neg (by simp)]at f;have V:Hid (Bw w w1/\Blk w1 w.heap.size (E5 s) 109/\Ac s (k+1) (R.last.drop (k+1))=F):=⟨D,K,f⟩;clear D K f B hh;go_wp2_with fail
    go_roundg (R.last.length- (k+1))
    case measure=>omega
    case rel=>
     obtain⟨q1,q2,q3⟩:=V.out;exact⟨k+1,by omega,rfl,by go_num,q1,q2,q3⟩
   |true=>
    rw[hh,if_pos rfl]at f;subst f;have V:Hid (Bw w w1):=D;clear D K B hh;go_wp2_with fail;go_ret;exact⟨rfl,V.out⟩
  ·have e0:decide ((k:Int)<(R.last.length:Int))=false:=by simp;omega
   rw[xF (by omega)]at f;have Z:F= -1:=f.symm;subst Z;clear f X;go_wp2_with fail;go_ret;exact⟨rfl,M⟩
theorem TN{O:Nat->Prop}{W h:World}{n:Nat}(B:C0 O W h)(D:∀k,O k->k<n):
  (∀b o,n<=b->b<W.heap.size->h.cell? ⟨b,o,none⟩=W.cell? ⟨b,o,none⟩)/\(∀b o,n<=b->b<W.heap.size->h.frozen? ⟨b,o,none⟩=W.frozen? ⟨b,o,none⟩):=
 ⟨fun b o G f=>B.cell (p:=⟨b,o,none⟩) f (fun e=>by have:=D b e;omega),fun b o G f=>B.frozen (p:=⟨b,o,none⟩) f (fun e=>by have:=D b e;omega)⟩
theorem BU(R:E0)(gb:Nat)(O:Nat->Prop)(U V:Value)(W al f Y:I0)(w:World)(h:C1 w gb O R U V)(hl:R.aC.length<=1000):
  Calls Tryz.prog 143 #[.pointer (some ⟨gb,0,none⟩),O9 ⟨W,al,false⟩,O9 ⟨f,Y,false⟩] w fun e w'=>
   e=.returned (O9 (F4 ⟨W,al,false⟩ ⟨f,Y,false⟩))/\C1 w' gb O (R.link al f) U V/\C0 O w w':=by
 have hK:C0 O w w:=C0.refl _ _;go_enter Tryz.func143,Tryz.ntmps143;go_wp2_with fail;refine(Bj R gb O U V al f _ ((((h.alloc _).alloc _).alloc _)) hl).mono ?_;rintro e M ⟨rfl,B,G⟩;obtain⟨a2,a3⟩:=TN G h.olt;have a4:w.heap.size+2<M.heap.size:=by have:=G.size;simp at this;omega
 have y0:w.heap.size<M.heap.size:=by omega
 have y1:w.heap.size+1<M.heap.size:=by omega
 have y2:w.heap.size+1+1<M.heap.size:=by omega
 have l0:w.heap.size<=w.heap.size+1:=by omega
 have l1:w.heap.size<=w.heap.size+1+1:=by omega
 have a1:¬O (w.heap.size+1+1):=fun e=>by have:=h.olt _ e;omega
 have D:Blk M (w.heap.size+1+1) P1 206:=by
  have h9:Blk (((w.alloc (.cells (K2 ⟨W,al,false⟩) 206)).alloc (.cells (K2 ⟨f,Y,false⟩) 206)).alloc (.cells P1 206)) (w.heap.size+1+1) P1 206:=by
   have:=Blk.aQ ((w.alloc (.cells (K2 ⟨W,al,false⟩) 206)).alloc (.cells (K2 ⟨f,Y,false⟩) 206)) P1 206;simpa using this
  exact h9.kept G a1
 have J:C0 O w M:=(((hK.alloc _).alloc _).alloc _).trans' G;have HH:Hid (C1 M gb O (R.link al f) U V/\C0 O w M/\Blk M (w.heap.size+1+1) P1 206):=⟨B,J,D⟩;have K:∀k,O k->k<w.heap.size:=h.olt;have a0:=Hd K;clear B J D K;go_wp2_with fail;obtain⟨B,J,D⟩:=HH.out;have K:=a0.out;have Z:∀{X:World} {v:Value} {j:Nat},C1 X gb O (R.link al f) U V->C1 (X.setCell ⟨w.heap.size+1+1,j,none⟩ v) gb O (R.link al f) U V:=fun{X v j} hX=>
  hX.kept (ex:=fun k=>k=w.heap.size+1+1) (C0.setCell (ex:=fun k=>k=w.heap.size+1+1) (C0.refl _ _) (fun _=>rfl) _) (fun b hb e=>by have:=K b hb;omega)
 exact bodyPost_ret (Md (q:=F4 ⟨W,al,false⟩ ⟨f,Y,false⟩) Tryz.results143 _ rfl ((((((D.set 0 _).set 1 _).set 2 _).set 3 _).set 4 _).alloc _)) rfl
  ⟨rfl,(Z (Z (Z (Z (Z B))))).alloc _,(((((J.setCell (by simp;omega) _).setCell (by simp;omega) _).setCell (by simp;omega) _).setCell (by simp;omega) _).setCell (by simp;omega) _).alloc _⟩
theorem CU(R:E0)(gb:Nat)(O:Nat->Prop)(Y Z:Value)(af al D W:I0)(w:World)(h:C1 w gb O R Y Z)(hl:R.aC.length<=1000):
  Calls Tryz.prog 143 #[.pointer (some ⟨gb,0,none⟩),O9 ⟨af,al,false⟩,O9 ⟨D,W,true⟩] w fun e w'=>
   e=.returned (O9 (F4 ⟨af,al,false⟩ ⟨D,W,true⟩))/\C1 w' gb O (R.link al D) Y Z/\C0 O w w':=by
 have hK:C0 O w w:=C0.refl _ _;go_enter Tryz.func143,Tryz.ntmps143;go_wp2_with fail;refine(Bj R gb O Y Z al D _ ((((h.alloc _).alloc _).alloc _)) hl).mono ?_;rintro e f ⟨rfl,G,K⟩;obtain⟨a5,a7⟩:=TN K h.olt;have a9:w.heap.size+2<f.heap.size:=by have:=K.size;simp at this;omega
 have y0:w.heap.size<f.heap.size:=by omega
 have y1:w.heap.size+1<f.heap.size:=by omega
 have y2:w.heap.size+1+1<f.heap.size:=by omega
 have l0:w.heap.size<=w.heap.size+1:=by omega
 have l1:w.heap.size<=w.heap.size+1+1:=by omega
 have a4:¬O (w.heap.size+1+1):=fun e=>by have:=h.olt _ e;omega
 have J:Blk f (w.heap.size+1+1) P1 206:=by
  have h9:Blk (((w.alloc (.cells (K2 ⟨af,al,false⟩) 206)).alloc (.cells (K2 ⟨D,W,true⟩) 206)).alloc (.cells P1 206)) (w.heap.size+1+1) P1 206:=by
   have:=Blk.aQ ((w.alloc (.cells (K2 ⟨af,al,false⟩) 206)).alloc (.cells (K2 ⟨D,W,true⟩) 206)) P1 206;simpa using this
  exact h9.kept K a4
 have M:C0 O w f:=(((hK.alloc _).alloc _).alloc _).trans' K;have HH:Hid (C1 f gb O (R.link al D) Y Z/\C0 O w f/\Blk f (w.heap.size+1+1) P1 206):=⟨G,M,J⟩;have U:∀k,O k->k<w.heap.size:=h.olt;have a0:=Hd U;clear G M J U;go_wp2_with fail;refine(Ci W al _).mono ?_;rintro e w2 ⟨rfl,B⟩;obtain⟨a6,a8⟩:=Ow B;have aa:f.heap.size<w2.heap.size:=by have:=B.size;simp at this;omega
 have ab:w.heap.size<w2.heap.size:=by omega
 have ac:w.heap.size+1<w2.heap.size:=by omega
 have ad:w.heap.size+1+1<w2.heap.size:=by omega
 go_wp2_with fail;obtain⟨G,M,J⟩:=HH.out;have U:=a0.out;have V:∀{X:World} {v:Value} {j i:Nat},w.heap.size<=i->C1 X gb O (R.link al D) Y Z->C1 (X.setCell ⟨i,j,none⟩ v) gb O (R.link al D) Y Z:=fun{X v j i} hi hX=>
  hX.kept (ex:=fun k=>k=i) (C0.setCell (ex:=fun k=>k=i) (C0.refl _ _) (fun _=>rfl) _) (fun b hb e=>by have:=U b hb;omega)
 have a1:=(G.alloc _).aA B;have a2:=(J.alloc _).aA B;have a3:=(M.alloc _).aA B;exact bodyPost_ret (Md (q:=F4 ⟨af,al,false⟩ ⟨D,W,true⟩) Tryz.results143 _ rfl ((((((((a2.aG (p:=⟨f.heap.size,2,none⟩) (by simp;omega) _).aG (p:=⟨f.heap.size,3,none⟩) (by simp;omega) _).set 0 _).set 1 _).set 2 _).set 3 _).set 4 _))) rfl
  ⟨rfl,V (by omega) (V (by omega) (V (by omega) (V (by omega) (V (by omega) (V (by omega) (V (by omega) a1)))))),(((((((a3.setCell (by simp;omega) _).setCell (by simp;omega) _).setCell (by simp;omega) _).setCell (by simp;omega) _).setCell (by simp;omega) _).setCell (by simp;omega) _).setCell (by simp;omega) _)⟩
theorem DU(R:E0)(gb:Nat)(O:Nat->Prop)(Y Z:Value)(W al B bl:I0)(w:World)(h:C1 w gb O R Y Z)(hl:R.aC.length<=1000):
  Calls Tryz.prog 143 #[.pointer (some ⟨gb,0,none⟩),O9 ⟨W,al,true⟩,O9 ⟨B,bl,false⟩] w fun e w'=>
   e=.returned (O9 (F4 ⟨W,al,true⟩ ⟨B,bl,false⟩))/\C1 w' gb O (R.link al B) Y Z/\C0 O w w':=by
 have hK:C0 O w w:=C0.refl _ _;go_enter Tryz.func143,Tryz.ntmps143;go_wp2_with fail;refine(Bj R gb O Y Z al B _ ((((h.alloc _).alloc _).alloc _)) hl).mono ?_;rintro e f ⟨rfl,G,K⟩;obtain⟨a5,a7⟩:=TN K h.olt;have a9:w.heap.size+2<f.heap.size:=by have:=K.size;simp at this;omega
 have y0:w.heap.size<f.heap.size:=by omega
 have y1:w.heap.size+1<f.heap.size:=by omega
 have y2:w.heap.size+1+1<f.heap.size:=by omega
 have l0:w.heap.size<=w.heap.size+1:=by omega
 have l1:w.heap.size<=w.heap.size+1+1:=by omega
 have a4:¬O (w.heap.size+1+1):=fun e=>by have:=h.olt _ e;omega
 have J:Blk f (w.heap.size+1+1) P1 206:=by
  have h9:Blk (((w.alloc (.cells (K2 ⟨W,al,true⟩) 206)).alloc (.cells (K2 ⟨B,bl,false⟩) 206)).alloc (.cells P1 206)) (w.heap.size+1+1) P1 206:=by
   have:=Blk.aQ ((w.alloc (.cells (K2 ⟨W,al,true⟩) 206)).alloc (.cells (K2 ⟨B,bl,false⟩) 206)) P1 206;simpa using this
  exact h9.kept K a4
 have M:C0 O w f:=(((hK.alloc _).alloc _).alloc _).trans' K;have HH:Hid (C1 f gb O (R.link al B) Y Z/\C0 O w f/\Blk f (w.heap.size+1+1) P1 206):=⟨G,M,J⟩;have U:∀k,O k->k<w.heap.size:=h.olt;have a0:=Hd U;clear G M J U;go_wp2_with fail;refine(Ci W B _).mono ?_;rintro e w2 ⟨rfl,D⟩;obtain⟨a6,a8⟩:=Ow D;have aa:f.heap.size<w2.heap.size:=by have:=D.size;simp at this;omega
 have ab:w.heap.size<w2.heap.size:=by omega
 have ac:w.heap.size+1<w2.heap.size:=by omega
 have ad:w.heap.size+1+1<w2.heap.size:=by omega
 go_wp2_with fail;obtain⟨G,M,J⟩:=HH.out;have U:=a0.out;have V:∀{X:World} {v:Value} {j i:Nat},w.heap.size<=i->C1 X gb O (R.link al B) Y Z->C1 (X.setCell ⟨i,j,none⟩ v) gb O (R.link al B) Y Z:=fun{X v j i} hi hX=>
  hX.kept (ex:=fun k=>k=i) (C0.setCell (ex:=fun k=>k=i) (C0.refl _ _) (fun _=>rfl) _) (fun b hb e=>by have:=U b hb;omega)
 have a1:=(G.alloc _).aA D;have a2:=(J.alloc _).aA D;have a3:=(M.alloc _).aA D;exact bodyPost_ret (Md (q:=F4 ⟨W,al,true⟩ ⟨B,bl,false⟩) Tryz.results143 _ rfl ((((((((a2.aG (p:=⟨f.heap.size,0,none⟩) (by simp;omega) _).aG (p:=⟨f.heap.size,1,none⟩) (by simp;omega) _).set 0 _).set 1 _).set 2 _).set 3 _).set 4 _))) rfl
  ⟨rfl,V (by omega) (V (by omega) (V (by omega) (V (by omega) (V (by omega) (V (by omega) (V (by omega) a1)))))),(((((((a3.setCell (by simp;omega) _).setCell (by simp;omega) _).setCell (by simp;omega) _).setCell (by simp;omega) _).setCell (by simp;omega) _).setCell (by simp;omega) _).setCell (by simp;omega) _)⟩
theorem EU(R:E0)(gb:Nat)(O:Nat->Prop)(fv lv:Value)(D al B Z:I0)(w:World)(h:C1 w gb O R fv lv)(hl:R.aC.length<=1000):
  Calls Tryz.prog 143 #[.pointer (some ⟨gb,0,none⟩),O9 ⟨D,al,true⟩,O9 ⟨B,Z,true⟩] w fun e w'=>
   e=.returned (O9 (F4 ⟨D,al,true⟩ ⟨B,Z,true⟩))/\C1 w' gb O (R.link al B) fv lv/\C0 O w w':=by
 have hK:C0 O w w:=C0.refl _ _;go_enter Tryz.func143,Tryz.ntmps143;go_wp2_with fail;refine(Bj R gb O fv lv al B _ ((((h.alloc _).alloc _).alloc _)) hl).mono ?_;rintro e f ⟨rfl,K,U⟩;obtain⟨a5,a8⟩:=TN U h.olt;have ab:w.heap.size+2<f.heap.size:=by have:=U.size;simp at this;omega
 have y0:w.heap.size<f.heap.size:=by omega
 have y1:w.heap.size+1<f.heap.size:=by omega
 have y2:w.heap.size+1+1<f.heap.size:=by omega
 have l0:w.heap.size<=w.heap.size+1:=by omega
 have l1:w.heap.size<=w.heap.size+1+1:=by omega
 have a4:¬O (w.heap.size+1+1):=fun e=>by have:=h.olt _ e;omega
 have M:Blk f (w.heap.size+1+1) P1 206:=by
  have h9:Blk (((w.alloc (.cells (K2 ⟨D,al,true⟩) 206)).alloc (.cells (K2 ⟨B,Z,true⟩) 206)).alloc (.cells P1 206)) (w.heap.size+1+1) P1 206:=by
   have:=Blk.aQ ((w.alloc (.cells (K2 ⟨D,al,true⟩) 206)).alloc (.cells (K2 ⟨B,Z,true⟩) 206)) P1 206;simpa using this
  exact h9.kept U a4
 have V:C0 O w f:=(((hK.alloc _).alloc _).alloc _).trans' U;have HH:Hid (C1 f gb O (R.link al B) fv lv/\C0 O w f/\Blk f (w.heap.size+1+1) P1 206):=⟨K,V,M⟩;have W:∀k,O k->k<w.heap.size:=h.olt;have a0:=Hd W;clear K V M W;go_wp2_with fail;refine(Ci D B _).mono ?_;rintro e w2 ⟨rfl,G⟩;obtain⟨a6,a9⟩:=Ow G;have ac:f.heap.size<w2.heap.size:=by have:=G.size;simp at this;omega
 have ae:w.heap.size<w2.heap.size:=by omega
 have ag:w.heap.size+1<w2.heap.size:=by omega
 have ah:w.heap.size+1+1<w2.heap.size:=by omega
 go_wp2_with fail;refine(Ci Z al _).mono ?_;rintro e w3 ⟨rfl,J⟩;obtain⟨a7,aa⟩:=Ow J;have ad:f.heap.size<w3.heap.size:=by have:=J.size;simp at this;omega
 have ai:w.heap.size<w3.heap.size:=by omega
 have aj:w.heap.size+1<w3.heap.size:=by omega
 have ak:w.heap.size+1+1<w3.heap.size:=by omega
 go_wp2_with fail;obtain⟨K,V,M⟩:=HH.out;have W:=a0.out;have Y:∀{X:World} {v:Value} {j i:Nat},w.heap.size<=i->C1 X gb O (R.link al B) fv lv->C1 (X.setCell ⟨i,j,none⟩ v) gb O (R.link al B) fv lv:=fun{X v j i} hi hX=>
  hX.kept (ex:=fun k=>k=i) (C0.setCell (ex:=fun k=>k=i) (C0.refl _ _) (fun _=>rfl) _) (fun b hb e=>by have:=W b hb;omega)
 have a1:=((Y (i:=f.heap.size) (j:=1) (v:=.int .u64 ((D.or B).hi.toNat:Int)) (by omega) (Y (i:=f.heap.size) (j:=0) (v:=.int .u64 ((D.or B).lo.toNat:Int)) (by omega) ((K.alloc _).aA G))).aA J);have a2:=((((M.alloc _).aA G).aG (p:=⟨f.heap.size,0,none⟩) (by simp;omega) (.int .u64 ((D.or B).lo.toNat:Int))).aG (p:=⟨f.heap.size,1,none⟩) (by simp;omega) (.int .u64 ((D.or B).hi.toNat:Int))).aA J;have a3:=((((V.alloc _).aA G).setCell (p:=⟨f.heap.size,0,none⟩) (by simp;omega) (.int .u64 ((D.or B).lo.toNat:Int))).setCell (p:=⟨f.heap.size,1,none⟩) (by simp;omega) (.int .u64 ((D.or B).hi.toNat:Int))).aA J;exact bodyPost_ret (Md (q:=F4 ⟨D,al,true⟩ ⟨B,Z,true⟩) Tryz.results143 _ rfl ((((((((a2.aG (p:=⟨f.heap.size,2,none⟩) (by simp;omega) _).aG (p:=⟨f.heap.size,3,none⟩) (by simp;omega) _).set 0 _).set 1 _).set 2 _).set 3 _).set 4 _))) rfl
  ⟨rfl,Y (by omega) (Y (by omega) (Y (by omega) (Y (by omega) (Y (by omega) (Y (by omega) (Y (by omega) a1)))))),(((((((a3.setCell (by simp;omega) _).setCell (by simp;omega) _).setCell (by simp;omega) _).setCell (by simp;omega) _).setCell (by simp;omega) _).setCell (by simp;omega) _).setCell (by simp;omega) _)⟩
theorem UP(R:E0)(gb:Nat)(O:Nat->Prop)(f B:Value)(a b:V6)(w:World)(h:C1 w gb O R f B)(K:R.aC.length<=1000):
  Calls Tryz.prog 143 #[.pointer (some ⟨gb,0,none⟩),O9 a,O9 b] w fun e w'=>
   e=.returned (O9 (F4 a b))/\C1 w' gb O (R.chain a b) f B/\C0 O w w':=by
 obtain⟨D,al,M⟩:=a;obtain⟨G,J,U⟩:=b;cases M <;>cases U
 ·exact BU R gb O f B D al G J w h K
 ·exact CU R gb O f B D al G J w h K
 ·exact DU R gb O f B D al G J w h K
 ·exact EU R gb O f B D al G J w h K
end Go.Proofs.YtcckhngbdoiikaaGreat
