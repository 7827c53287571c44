import Derived.Test.YtcckhngbdoiikabGreatA10
set_option maxRecDepth 20000
set_option maxHeartbeats 12800000
set_option linter.unusedVariables false
namespace Go.Proofs.YtcckhngbdoiikabGreat
open Go.RowKit Go.Deep
theorem XP{O:Nat->Prop}{W h:World}{n:Nat}(B:C0 O W h)(D:∀k,O k->k<n):
  (∀b o,n<=b->b<W.heap.size->h.cell? ⟨b,o,none⟩=W.cell? ⟨b,o,none⟩)/\(∀b o,n<=b->b<W.heap.size->h.frozen? ⟨b,o,none⟩=W.frozen? ⟨b,o,none⟩):=
 ⟨fun b o G f=>B.cell (p:=⟨b,o,none⟩) f (fun e=>by have:=D b e;omega),fun b o G f=>B.frozen (p:=⟨b,o,none⟩) f (fun e=>by have:=D b e;omega)⟩
theorem AW(R:E0)(gb:Nat)(O:Nat->Prop)(U V:Value)(W al f Y:I0)(w:World)(h:C1 w gb O R U V)(hl:R.aC.length<=1000):
  Calls Tryz.prog 142 #[.pointer (some ⟨gb,0,none⟩),X9 ⟨W,al,false⟩,X9 ⟨f,Y,false⟩] w fun e w'=>
   e=.returned (X9 (J4 ⟨W,al,false⟩ ⟨f,Y,false⟩))/\C1 w' gb O (R.link al f) U V/\C0 O w w':=by
 have hK:C0 O w w:=C0.refl _ _;go_enter Tryz.func142,Tryz.ntmps142;go_wp2_with fail;refine(Jj R gb O U V al f _ ((((h.alloc _).alloc _).alloc _)) hl).mono ?_;rintro e M ⟨rfl,B,G⟩;obtain⟨a2,a3⟩:=XP G h.olt;have a4:w.heap.size+2<M.heap.size:=by have:=G.size;simp at this;omega
 have y0:w.heap.size<M.heap.size:=by omega
 have y1:w.heap.size+1<M.heap.size:=by omega
 have y2:w.heap.size+1+1<M.heap.size:=by omega
 have l0:w.heap.size<=w.heap.size+1:=by omega
 have l1:w.heap.size<=w.heap.size+1+1:=by omega
 have a1:¬O (w.heap.size+1+1):=fun e=>by have:=h.olt _ e;omega
 have D:Blk M (w.heap.size+1+1) X1 196:=by
  have h9:Blk (((w.alloc (.cells (M2 ⟨W,al,false⟩) 196)).alloc (.cells (M2 ⟨f,Y,false⟩) 196)).alloc (.cells X1 196)) (w.heap.size+1+1) X1 196:=by
   have:=Blk.aR ((w.alloc (.cells (M2 ⟨W,al,false⟩) 196)).alloc (.cells (M2 ⟨f,Y,false⟩) 196)) X1 196;simpa using this
  exact h9.kept G a1
 have J:C0 O w M:=(((hK.alloc _).alloc _).alloc _).trans' G;have HH:Hid (C1 M gb O (R.link al f) U V/\C0 O w M/\Blk M (w.heap.size+1+1) X1 196):=⟨B,J,D⟩;have K:∀k,O k->k<w.heap.size:=h.olt;have a0:=Hd K;clear B J D K;go_wp2_with fail;obtain⟨B,J,D⟩:=HH.out;have K:=a0.out;have Z:∀{X:World} {v:Value} {j:Nat},C1 X gb O (R.link al f) U V->C1 (X.setCell ⟨w.heap.size+1+1,j,none⟩ v) gb O (R.link al f) U V:=fun{X v j} hX=>
  hX.kept (ex:=fun k=>k=w.heap.size+1+1) (C0.setCell (ex:=fun k=>k=w.heap.size+1+1) (C0.refl _ _) (fun _=>rfl) _) (fun b hb e=>by have:=K b hb;omega)
 exact bodyPost_ret (Ud (q:=J4 ⟨W,al,false⟩ ⟨f,Y,false⟩) Tryz.results142 _ rfl ((((((D.set 0 _).set 1 _).set 2 _).set 3 _).set 4 _).alloc _)) rfl
  ⟨rfl,(Z (Z (Z (Z (Z B))))).alloc _,(((((J.setCell (by simp;omega) _).setCell (by simp;omega) _).setCell (by simp;omega) _).setCell (by simp;omega) _).setCell (by simp;omega) _).alloc _⟩
theorem BW(R:E0)(gb:Nat)(O:Nat->Prop)(Y Z:Value)(af al D W:I0)(w:World)(h:C1 w gb O R Y Z)(hl:R.aC.length<=1000):
  Calls Tryz.prog 142 #[.pointer (some ⟨gb,0,none⟩),X9 ⟨af,al,false⟩,X9 ⟨D,W,true⟩] w fun e w'=>
   e=.returned (X9 (J4 ⟨af,al,false⟩ ⟨D,W,true⟩))/\C1 w' gb O (R.link al D) Y Z/\C0 O w w':=by
 have hK:C0 O w w:=C0.refl _ _;go_enter Tryz.func142,Tryz.ntmps142;go_wp2_with fail;refine(Jj R gb O Y Z al D _ ((((h.alloc _).alloc _).alloc _)) hl).mono ?_;rintro e f ⟨rfl,G,K⟩;obtain⟨a5,a7⟩:=XP K h.olt;have a9:w.heap.size+2<f.heap.size:=by have:=K.size;simp at this;omega
 have y0:w.heap.size<f.heap.size:=by omega
 have y1:w.heap.size+1<f.heap.size:=by omega
 have y2:w.heap.size+1+1<f.heap.size:=by omega
 have l0:w.heap.size<=w.heap.size+1:=by omega
 have l1:w.heap.size<=w.heap.size+1+1:=by omega
 have a4:¬O (w.heap.size+1+1):=fun e=>by have:=h.olt _ e;omega
 have J:Blk f (w.heap.size+1+1) X1 196:=by
  have h9:Blk (((w.alloc (.cells (M2 ⟨af,al,false⟩) 196)).alloc (.cells (M2 ⟨D,W,true⟩) 196)).alloc (.cells X1 196)) (w.heap.size+1+1) X1 196:=by
   have:=Blk.aR ((w.alloc (.cells (M2 ⟨af,al,false⟩) 196)).alloc (.cells (M2 ⟨D,W,true⟩) 196)) X1 196;simpa using this
  exact h9.kept K a4
 have M:C0 O w f:=(((hK.alloc _).alloc _).alloc _).trans' K;have HH:Hid (C1 f gb O (R.link al D) Y Z/\C0 O w f/\Blk f (w.heap.size+1+1) X1 196):=⟨G,M,J⟩;have U:∀k,O k->k<w.heap.size:=h.olt;have a0:=Hd U;clear G M J U;go_wp2_with fail;refine(Ni W al _).mono ?_;rintro e w2 ⟨rfl,B⟩;obtain⟨a6,a8⟩:=Mx B;have aa:f.heap.size<w2.heap.size:=by have:=B.size;simp at this;omega
 have ab:w.heap.size<w2.heap.size:=by omega
 have ac:w.heap.size+1<w2.heap.size:=by omega
 have ad:w.heap.size+1+1<w2.heap.size:=by omega
 go_wp2_with fail;obtain⟨G,M,J⟩:=HH.out;have U:=a0.out;have V:∀{X:World} {v:Value} {j i:Nat},w.heap.size<=i->C1 X gb O (R.link al D) Y Z->C1 (X.setCell ⟨i,j,none⟩ v) gb O (R.link al D) Y Z:=fun{X v j i} hi hX=>
  hX.kept (ex:=fun k=>k=i) (C0.setCell (ex:=fun k=>k=i) (C0.refl _ _) (fun _=>rfl) _) (fun b hb e=>by have:=U b hb;omega)
 have a1:=(G.alloc _).aA B;have a2:=(J.alloc _).aA B;have a3:=(M.alloc _).aA B;exact bodyPost_ret (Ud (q:=J4 ⟨af,al,false⟩ ⟨D,W,true⟩) Tryz.results142 _ rfl ((((((((a2.aG (p:=⟨f.heap.size,2,none⟩) (by simp;omega) _).aG (p:=⟨f.heap.size,3,none⟩) (by simp;omega) _).set 0 _).set 1 _).set 2 _).set 3 _).set 4 _))) rfl
  ⟨rfl,V (by omega) (V (by omega) (V (by omega) (V (by omega) (V (by omega) (V (by omega) (V (by omega) a1)))))),(((((((a3.setCell (by simp;omega) _).setCell (by simp;omega) _).setCell (by simp;omega) _).setCell (by simp;omega) _).setCell (by simp;omega) _).setCell (by simp;omega) _).setCell (by simp;omega) _)⟩
theorem DW(R:E0)(gb:Nat)(O:Nat->Prop)(Y Z:Value)(W al B bl:I0)(w:World)(h:C1 w gb O R Y Z)(hl:R.aC.length<=1000):
  Calls Tryz.prog 142 #[.pointer (some ⟨gb,0,none⟩),X9 ⟨W,al,true⟩,X9 ⟨B,bl,false⟩] w fun e w'=>
   e=.returned (X9 (J4 ⟨W,al,true⟩ ⟨B,bl,false⟩))/\C1 w' gb O (R.link al B) Y Z/\C0 O w w':=by
 have hK:C0 O w w:=C0.refl _ _;go_enter Tryz.func142,Tryz.ntmps142;go_wp2_with fail;refine(Jj R gb O Y Z al B _ ((((h.alloc _).alloc _).alloc _)) hl).mono ?_;rintro e f ⟨rfl,G,K⟩;obtain⟨a5,a7⟩:=XP K h.olt;have a9:w.heap.size+2<f.heap.size:=by have:=K.size;simp at this;omega
 have y0:w.heap.size<f.heap.size:=by omega
 have y1:w.heap.size+1<f.heap.size:=by omega
 have y2:w.heap.size+1+1<f.heap.size:=by omega
 have l0:w.heap.size<=w.heap.size+1:=by omega
 have l1:w.heap.size<=w.heap.size+1+1:=by omega
 have a4:¬O (w.heap.size+1+1):=fun e=>by have:=h.olt _ e;omega
 have J:Blk f (w.heap.size+1+1) X1 196:=by
  have h9:Blk (((w.alloc (.cells (M2 ⟨W,al,true⟩) 196)).alloc (.cells (M2 ⟨B,bl,false⟩) 196)).alloc (.cells X1 196)) (w.heap.size+1+1) X1 196:=by
   have:=Blk.aR ((w.alloc (.cells (M2 ⟨W,al,true⟩) 196)).alloc (.cells (M2 ⟨B,bl,false⟩) 196)) X1 196;simpa using this
  exact h9.kept K a4
 have M:C0 O w f:=(((hK.alloc _).alloc _).alloc _).trans' K;have HH:Hid (C1 f gb O (R.link al B) Y Z/\C0 O w f/\Blk f (w.heap.size+1+1) X1 196):=⟨G,M,J⟩;have U:∀k,O k->k<w.heap.size:=h.olt;have a0:=Hd U;clear G M J U;go_wp2_with fail;refine(Ni W B _).mono ?_;rintro e w2 ⟨rfl,D⟩;obtain⟨a6,a8⟩:=Mx D;have aa:f.heap.size<w2.heap.size:=by have:=D.size;simp at this;omega
 have ab:w.heap.size<w2.heap.size:=by omega
 have ac:w.heap.size+1<w2.heap.size:=by omega
 have ad:w.heap.size+1+1<w2.heap.size:=by omega
 go_wp2_with fail;obtain⟨G,M,J⟩:=HH.out;have U:=a0.out;have V:∀{X:World} {v:Value} {j i:Nat},w.heap.size<=i->C1 X gb O (R.link al B) Y Z->C1 (X.setCell ⟨i,j,none⟩ v) gb O (R.link al B) Y Z:=fun{X v j i} hi hX=>
  hX.kept (ex:=fun k=>k=i) (C0.setCell (ex:=fun k=>k=i) (C0.refl _ _) (fun _=>rfl) _) (fun b hb e=>by have:=U b hb;omega)
 have a1:=(G.alloc _).aA D;have a2:=(J.alloc _).aA D;have a3:=(M.alloc _).aA D;exact bodyPost_ret (Ud (q:=J4 ⟨W,al,true⟩ ⟨B,bl,false⟩) Tryz.results142 _ rfl ((((((((a2.aG (p:=⟨f.heap.size,0,none⟩) (by simp;omega) _).aG (p:=⟨f.heap.size,1,none⟩) (by simp;omega) _).set 0 _).set 1 _).set 2 _).set 3 _).set 4 _))) rfl
  ⟨rfl,V (by omega) (V (by omega) (V (by omega) (V (by omega) (V (by omega) (V (by omega) (V (by omega) a1)))))),(((((((a3.setCell (by simp;omega) _).setCell (by simp;omega) _).setCell (by simp;omega) _).setCell (by simp;omega) _).setCell (by simp;omega) _).setCell (by simp;omega) _).setCell (by simp;omega) _)⟩
theorem EW(R:E0)(gb:Nat)(O:Nat->Prop)(fv lv:Value)(D al B Z:I0)(w:World)(h:C1 w gb O R fv lv)(hl:R.aC.length<=1000):
  Calls Tryz.prog 142 #[.pointer (some ⟨gb,0,none⟩),X9 ⟨D,al,true⟩,X9 ⟨B,Z,true⟩] w fun e w'=>
   e=.returned (X9 (J4 ⟨D,al,true⟩ ⟨B,Z,true⟩))/\C1 w' gb O (R.link al B) fv lv/\C0 O w w':=by
 have hK:C0 O w w:=C0.refl _ _;go_enter Tryz.func142,Tryz.ntmps142;go_wp2_with fail;refine(Jj R gb O fv lv al B _ ((((h.alloc _).alloc _).alloc _)) hl).mono ?_;rintro e f ⟨rfl,K,U⟩;obtain⟨a5,a8⟩:=XP U h.olt;have ab:w.heap.size+2<f.heap.size:=by have:=U.size;simp at this;omega
 have y0:w.heap.size<f.heap.size:=by omega
 have y1:w.heap.size+1<f.heap.size:=by omega
 have y2:w.heap.size+1+1<f.heap.size:=by omega
 have l0:w.heap.size<=w.heap.size+1:=by omega
 have l1:w.heap.size<=w.heap.size+1+1:=by omega
 have a4:¬O (w.heap.size+1+1):=fun e=>by have:=h.olt _ e;omega
 have M:Blk f (w.heap.size+1+1) X1 196:=by
  have h9:Blk (((w.alloc (.cells (M2 ⟨D,al,true⟩) 196)).alloc (.cells (M2 ⟨B,Z,true⟩) 196)).alloc (.cells X1 196)) (w.heap.size+1+1) X1 196:=by
   have:=Blk.aR ((w.alloc (.cells (M2 ⟨D,al,true⟩) 196)).alloc (.cells (M2 ⟨B,Z,true⟩) 196)) X1 196;simpa using this
  exact h9.kept U a4
 have V:C0 O w f:=(((hK.alloc _).alloc _).alloc _).trans' U;have HH:Hid (C1 f gb O (R.link al B) fv lv/\C0 O w f/\Blk f (w.heap.size+1+1) X1 196):=⟨K,V,M⟩;have W:∀k,O k->k<w.heap.size:=h.olt;have a0:=Hd W;clear K V M W;go_wp2_with fail;refine(Ni D B _).mono ?_;rintro e w2 ⟨rfl,G⟩;obtain⟨a6,a9⟩:=Mx G;have ac:f.heap.size<w2.heap.size:=by have:=G.size;simp at this;omega
 have ae:w.heap.size<w2.heap.size:=by omega
 have ag:w.heap.size+1<w2.heap.size:=by omega
 have ah:w.heap.size+1+1<w2.heap.size:=by omega
 go_wp2_with fail;refine(Ni Z al _).mono ?_;rintro e w3 ⟨rfl,J⟩;obtain⟨a7,aa⟩:=Mx J;have ad:f.heap.size<w3.heap.size:=by have:=J.size;simp at this;omega
 have ai:w.heap.size<w3.heap.size:=by omega
 have aj:w.heap.size+1<w3.heap.size:=by omega
 have ak:w.heap.size+1+1<w3.heap.size:=by omega
 go_wp2_with fail;obtain⟨K,V,M⟩:=HH.out;have W:=a0.out;have Y:∀{X:World} {v:Value} {j i:Nat},w.heap.size<=i->C1 X gb O (R.link al B) fv lv->C1 (X.setCell ⟨i,j,none⟩ v) gb O (R.link al B) fv lv:=fun{X v j i} hi hX=>
  hX.kept (ex:=fun k=>k=i) (C0.setCell (ex:=fun k=>k=i) (C0.refl _ _) (fun _=>rfl) _) (fun b hb e=>by have:=W b hb;omega)
 have a1:=((Y (i:=f.heap.size) (j:=1) (v:=.int .u64 ((D.or B).hi.toNat:Int)) (by omega) (Y (i:=f.heap.size) (j:=0) (v:=.int .u64 ((D.or B).lo.toNat:Int)) (by omega) ((K.alloc _).aA G))).aA J);have a2:=((((M.alloc _).aA G).aG (p:=⟨f.heap.size,0,none⟩) (by simp;omega) (.int .u64 ((D.or B).lo.toNat:Int))).aG (p:=⟨f.heap.size,1,none⟩) (by simp;omega) (.int .u64 ((D.or B).hi.toNat:Int))).aA J;have a3:=((((V.alloc _).aA G).setCell (p:=⟨f.heap.size,0,none⟩) (by simp;omega) (.int .u64 ((D.or B).lo.toNat:Int))).setCell (p:=⟨f.heap.size,1,none⟩) (by simp;omega) (.int .u64 ((D.or B).hi.toNat:Int))).aA J;exact bodyPost_ret (Ud (q:=J4 ⟨D,al,true⟩ ⟨B,Z,true⟩) Tryz.results142 _ rfl ((((((((a2.aG (p:=⟨f.heap.size,2,none⟩) (by simp;omega) _).aG (p:=⟨f.heap.size,3,none⟩) (by simp;omega) _).set 0 _).set 1 _).set 2 _).set 3 _).set 4 _))) rfl
  ⟨rfl,Y (by omega) (Y (by omega) (Y (by omega) (Y (by omega) (Y (by omega) (Y (by omega) (Y (by omega) a1)))))),(((((((a3.setCell (by simp;omega) _).setCell (by simp;omega) _).setCell (by simp;omega) _).setCell (by simp;omega) _).setCell (by simp;omega) _).setCell (by simp;omega) _).setCell (by simp;omega) _)⟩
theorem SR(R:E0)(gb:Nat)(O:Nat->Prop)(f B:Value)(a b:Z6)(w:World)(h:C1 w gb O R f B)(K:R.aC.length<=1000):
  Calls Tryz.prog 142 #[.pointer (some ⟨gb,0,none⟩),X9 a,X9 b] w fun e w'=>
   e=.returned (X9 (J4 a b))/\C1 w' gb O (R.chain a b) f B/\C0 O w w':=by
 obtain⟨D,al,M⟩:=a;obtain⟨G,J,U⟩:=b;cases M <;>cases U
 ·exact AW R gb O f B D al G J w h K
 ·exact BW R gb O f B D al G J w h K
 ·exact DW R gb O f B D al G J w h K
 ·exact EW R gb O f B D al G J w h K
end Go.Proofs.YtcckhngbdoiikabGreat
