import Derived.Test.YtcckhngbdoiikabGreatA16
set_option maxRecDepth 20000
set_option maxHeartbeats 12800000
set_option linter.unusedVariables false
namespace Go.Proofs.YtcckhngbdoiikabGreat
open Go.RowKit Go.Deep
theorem Yx(s:ByteArray)(X gb f:Nat)(hP:Ww 136 s X gb f (O2 s (S5 s f)))(hs:s.size<=120):Ww 115 s X gb f (Od s (S5 s f)):=by
 intro w p R O h hp hR hf;have bq:=h.lt;have hK:C0 (fun k=>k=X\/O k) w w:=C0.refl _ _;have nO:∀k,O k->k<w.heap.size:=h.olt;have bh:¬O w.heap.size:=fun e=>by have:=nO _ e;omega
 have a2:=Ya s f;have hg:=X7 a2 p R hp hR;have V:=fun W O h1=>hP W p R O h1 hp hR hf
 unfold Od;generalize bj:O2 s (S5 s f) p R=r0 at hg V⊢;generalize aq:X4 s (S5 s f) (s.size+1) r0=F;have HF:=Hd aq;have HA:=Hd V;have HS:=Hd h;have ao:=Hd nO;have HP:=Hd hP;have an:=Hd a2;have HG:=Hd hg;clear V hP h nO aq bj hg a2;go_enter Tryz.func115,Tryz.ntmps115;go_wp2_with fail;refine(HA.out _ O (HS.out.alloc _)).mono ?_;rintro e G ⟨rfl,O1,a9,ak,b4⟩;have nO:=ao.out;have aj:Blk G w.heap.size X1 196:=(Blk.aR w X1 196).kept ak (fun e=>by rcases e with e|e;omega;exact bh e);have bk:=aj.lt;have a4:C0 (fun k=>k=X\/O k) w G:=(hK.alloc _).trans' ak;have ai:∀k,O1 k->O k\/w.heap.size<k:=by
  intro k hk;rcases b4 k hk with e|e
  ·exact .inl e
  ·exact .inr (by simp at e;omega)
 have b3:¬O1 w.heap.size:=fun e=>by rcases ai _ e with e|e;have:=nO _ e;omega;omega
 have am:¬O1 G.heap.size:=fun e=>by have:=a9.olt _ e;omega
 have ah:=Blk.aR G X1 196;have bf:=a9.lt;have ay:=(a9.alloc (.cells X1 196)).setRow (g:=G.heap.size) (by omega) am (M2 r0.part);have b1:=(a4.alloc (.cells X1 196)).setRow (g:=G.heap.size) (by omega) (M2 r0.part);have az:=(aj.alloc (.cells X1 196)).aP (g:=G.heap.size) (by omega) (M2 r0.part);have ar:=ah.setRow (M2 r0.part);have ax:∀k,O1 k->O k\/w.heap.size<=k:=fun k hk=>(ai k hk).imp id (fun e=>by omega)
 have a6:Hid (RS ((G.alloc (.cells X1 196)).setRow G.heap.size (M2 r0.part)) X gb s r0.bD r0.aD O1/\C0 (fun k=>k=X\/O k) w ((G.alloc (.cells X1 196)).setRow G.heap.size (M2 r0.part))/\
  Blk ((G.alloc (.cells X1 196)).setRow G.heap.size (M2 r0.part)) w.heap.size X1 196/\Blk ((G.alloc (.cells X1 196)).setRow G.heap.size (M2 r0.part)) G.heap.size (M2 r0.part) 196/\¬O1 w.heap.size/\¬O1 G.heap.size/\∀k,O1 k->O k\/w.heap.size<=k):=⟨ay,b1,az,ar,b3,am,ax⟩
 clear a9 ak b4 a4 ai nO aj ax ao HS HA ay b1 az ar b3 am;go_wp2_with(first|refine U7 rfl (.tmp 4) (.tmp 11) rfl G.heap.size rfl rfl ah rfl ?_);clear ah;generalize((G.alloc (.cells X1 196)).setRow G.heap.size (M2 r0.part))=w2 at a6⊢;generalize G.heap.size=m at a6 bk bf⊢
 go_loopg[5] (s.size+1) (fun g c wr=>∃(r:Cg) (O1:Nat->Prop),c=.bool r.ok/\Xn s p R r/\(r.ok=true->s.size<g+r.bD)/\X4 s (S5 s f) g r=F/\
  RS wr X gb s r.bD r.aD O1/\C0 (fun k=>k=X\/O k) w wr/\Blk wr w.heap.size X1 196/\Blk wr m (M2 r.part) 196/\¬O1 w.heap.size/\¬O1 m/\∀k,O1 k->O k\/w.heap.size<=k)
 case atStart=>
  obtain⟨q1,q2,q3,q4,q5,q6,q7⟩:=a6.out;exact⟨r0,O1,rfl,HG.out,fun _=>by omega,HF.out,q1,q2,q3,q4,q5,q6,q7⟩
 case round=>
  obtain⟨r,O3,rfl,Y,a5,B,D,Z,M,K,ae,b7,U⟩:=hrel;clear a6 HF HG;have b5:=Y.cV;have b0:=Y.bU;have bg:=Y.le;obtain⟨q,ok,p1,R1⟩:=r;simp only at b5 b0 bg a5 D K⊢;cases ok with
  |false=>
   have ag:F=⟨q,false,p1,R1⟩:=by rw[<-B];exact Dm _ _ _ _ (by simp)
   subst ag;clear B Y a5;go_wp2_with(first|refine Jm rfl (.tmp 4) rfl m rfl K ?_|refine U7 rfl (.tmp 2) (.tmp 35) rfl w.heap.size rfl rfl M rfl ?_);exact bodyPost_ret (W3 Tryz.results115 _ rfl (M.setRow _)) rfl ⟨rfl,O3,D.setRow (by omega) ae _,Z.setRow (by omega) _,U⟩
  |true=>
   by_cases J:F0 s p1=124
   ·have bo:=a5 rfl;have bi:gk=(gk-1)+1:=by omega
    rw[bi]at B;unfold X4 at B;rw[if_pos ⟨rfl,J⟩]at B;have bn:p1<s.size:=A1 (by rw[J];decide);have a1:=Li an.out Y rfl J;have ac:=X7 an.out (p1+1) R1 (by omega) (by omega);have V:=fun W O h1=>HP.out W (p1+1) R1 O h1 (by omega) (by omega) (by omega)
    simp only at B a1;generalize O2 s (S5 s f) (p1+1) R1=r2 at B a1 ac V;obtain⟨q2,bv,p2,R2⟩:=r2;simp only at B a1 ac V;have b2:=ac.le;simp only at b2;have b8:=Hd B;have b9:=Hd a1;have ap:=Hd V;have bt:=K.lt;have bu:=M.lt;have c1:=D.rd.c1;have f1:=D.rd.f1;have a7:Hid (RS wr X gb s p1 R1 O3/\C0 (fun k=>k=X\/O k) w wr/\Blk wr w.heap.size X1 196/\Blk wr m (M2 q) 196/\∀k,O3 k->O k\/w.heap.size<=k):=⟨D,Z,M,K,U⟩;clear B a1 ac V Y a5 D Z M K U;go_wp2_with fail;refine(I3 s p1 X gb _ a7.out.1.rd hs (by omega)).mono ?_;rintro e w4 ⟨rfl,n,rfl⟩;rw[J];go_wp2_with fail;refine(ap.out _ O3 ((a7.out.1.drewN n).set1)).mono ?_;rintro e w4 ⟨rfl,O4,aa,a3,ad⟩;obtain⟨D,Z,M,K,U⟩:=a7.out;have bs:wr.heap.size<=w4.heap.size:=by have:=a3.size;simpa using this
    have a8:=((K.drewN n).aG (p:=⟨X,1,none⟩) (by simp;omega) (.int .i64 ((p1:Int)+1))).kept a3 (fun e=>by rcases e with e|e;omega;exact b7 e);have a0:=((M.drewN n).aG (p:=⟨X,1,none⟩) (by simp;omega) (.int .i64 ((p1:Int)+1))).kept a3 (fun e=>by rcases e with e|e;omega;exact ae e);have a4:C0 (fun k=>k=X\/O k) w w4:=((Z.drewN n).setCell (p:=⟨X,1,none⟩) (fun _=>.inl rfl) (.int .i64 ((p1:Int)+1))).trans a3 (fun i hi e=>by rcases e with e|e;exact .inl e;exact .inr (by rcases U i e with e|e;exact e;omega));have b6:¬O4 w.heap.size:=fun e=>by rcases ad _ e with e|e;exact ae e;simp at e;omega
    have af:¬O4 m:=fun e=>by rcases ad _ e with e|e;exact b7 e;simp at e;omega
    have ba:∀k,O4 k->O k\/w.heap.size<=k:=fun k hk=>by rcases ad k hk with e|e;exact U k e;exact .inr (by simp at e;omega)
    have bl:¬O4 w4.heap.size:=fun e=>by have:=aa.olt _ e;omega
    have aw:=Blk.aR w4 X1 196;have bp:=aa.lt;have bb:=(aa.alloc (.cells X1 196)).setRow (g:=w4.heap.size) (by omega) bl (M2 q2);have be:=(a4.alloc (.cells X1 196)).setRow (g:=w4.heap.size) (by omega) (M2 q2);have bd:=(a0.alloc (.cells X1 196)).aP (g:=w4.heap.size) (by omega) (M2 q2);have au:=(a8.alloc (.cells X1 196)).aP (g:=w4.heap.size) (by omega) (M2 q2);have bc:=aw.setRow (M2 q2);have br:w4.heap.size≠m:=by omega
    clear D Z M K U a7 aa a3 ad a4 a0 a8 ap c1 f1;go_wp2_with(first|refine U7 rfl (.tmp 6) (.tmp 29) rfl w4.heap.size rfl rfl aw rfl ?_|refine Jm rfl (.tmp 4) rfl m rfl au ?_|refine Jm rfl (.tmp 6) rfl w4.heap.size rfl bc ?_);refine(UM q q2 _).mono ?_;rintro e w6 ⟨rfl,ab⟩;have av:=au.aA ab;go_wp2_with(first|refine U7 rfl (.tmp 4) (.tmp 33) rfl m rfl rfl av rfl ?_)
    go_roundg (gk-1)
    case measure=>omega
    case rel=>
     refine⟨_,O4,rfl,b9.out,fun e=>?_,b8.out,(bb.aA ab).setRow (by omega) af _,(be.aA ab).setRow (by omega) _,(bd.aA ab).aP (by omega) _,av.setRow _,b6,af,ba⟩;show s.size<gk-1+p2;omega
   ·have bm:(F0 s p1==124)=false:=by simp[J]
    have ag:F=⟨q,true,p1,R1⟩:=by rw[<-B];exact Dm _ _ _ _ (by simp[J])
    subst ag;clear B Y a5;go_wp2_with fail;refine(I3 s p1 X gb _ D.rd hs (by omega)).mono ?_;rintro e w4 ⟨rfl,n,rfl⟩;have a8:=K.drewN n;have a0:=M.drewN n;go_wp2_with(first|refine Jm rfl (.tmp 4) rfl m rfl a8 ?_|refine U7 rfl (.tmp 2) (.tmp 35) rfl w.heap.size rfl rfl a0 rfl ?_);exact bodyPost_ret (W3 Tryz.results115 _ rfl (a0.setRow _)) rfl ⟨rfl,O3,(D.drewN n).setRow (by omega) ae _,(Z.drewN n).setRow (by omega) _,U⟩
theorem NC(s:ByteArray)(B gb:Nat)(D:s.size<=120):∀f,NP s B gb f
 |0=>fun w p R O h K G J=>absurd J (by omega)
 |f+1=>fun w p R O h K G J=>
  Yx s B gb f (Cw s B gb f (VT s B gb f (VY s B gb f (NC s B gb D f) D) D) D) D w p R O h K G (by omega)
structure OV(s:ByteArray)(p:Nat)(r:Bool×Nat×E0):Prop where
 le:p<=r.2.1
 cV:r.2.1<=s.size
 ok:r.1=true->p<r.2.1
 bU:r.2.2.aC.length<=r.2.1
 last:r.2.2.last.length<=r.2.1
theorem Sk(s:ByteArray)(p:Nat)(R:E0)(B:p<=s.size)(h:R.aC.length<=p)(D:R.last.length<=p):OV s p (D6 s p R):=by
 have g:=Ya s (s.size+1) p R B h;unfold D6;split
 ·rename_i f;have:=g.ok f;exact⟨g.le,g.cV,fun _=>this,g.bU,by simp[E0.endRule,g.last];omega⟩
 ·exact⟨g.le,g.cV,by simp,g.bU,by simp[g.last];have:=g.le;omega⟩
theorem TD(s:ByteArray)(X gb:Nat)(hs:s.size<=120)(w:World)(p:Nat)(R:E0)(O:Nat->Prop)(h:RS w X gb s p R O)(hp:p<=s.size)(hR:R.aC.length<=p)(hL:R.last.length<=p):
  Calls Tryz.prog 87 #[.pointer (some ⟨X,0,none⟩)] w fun e w'=>
   e=.returned (.bool (D6 s p R).1)/\VB w w' X gb s O (D6 s p R).2.1 (D6 s p R).2.2:=by
 have a5:=h.lt;have nO:∀k,O k->k<w.heap.size:=h.olt;have hE:=NC s X gb hs (s.size+1) w p R O h hp hR (by omega);have hg:=Ya s (s.size+1) p R hp hR;unfold D6;generalize S5 s (s.size+1) p R=r at hE hg⊢;obtain⟨q,ok,p1,R1⟩:=r;simp only at hE⊢;have a0:R1.last.length<=1000:=by have:=hg.last;simp only at this;rw[this];omega
 have HE:=Hd hE;clear hE hg;cases ok with
 |false=>
  rw[if_neg (by simp)];go_enter Tryz.func87,Tryz.ntmps87;go_wp2_with fail;refine HE.out.mono ?_;rintro e U ⟨rfl,Y,G,K,W⟩;have V:=Blk.aR U X1 196;have D:¬Y U.heap.size:=fun e=>by have:=G.olt _ e;omega
  have a1:=G.lt;have hz:=K.size;go_wp2_with(first|refine U7 rfl (.tmp 3) (.tmp 8) rfl U.heap.size rfl rfl V rfl ?_);go_ret;exact⟨rfl,Y,(G.alloc _).setRow (by omega) D _,(K.alloc _).setRow (by omega) _,W⟩
 |true=>
  rw[if_pos rfl];go_enter Tryz.func87,Tryz.ntmps87;go_wp2_with fail;refine HE.out.mono ?_;rintro e U ⟨rfl,Y,G,K,W⟩;have V:=Blk.aR U X1 196;have D:¬Y U.heap.size:=fun e=>by have:=G.olt _ e;omega
  have a1:=G.lt;have hz:=K.size;have B:=(G.alloc (.cells X1 196)).setRow (g:=U.heap.size) (by omega) D (M2 q);have M:=(K.alloc (.cells X1 196)).setRow (g:=U.heap.size) (by omega) (M2 q);have f:=V.setRow (M2 q);have HO:=Hd W;clear G K W HE;go_wp2_with(first|refine U7 rfl (.tmp 3) (.tmp 8) rfl U.heap.size rfl rfl V rfl ?_);clear V;generalize((U.alloc (.cells X1 196)).setRow U.heap.size (M2 q))=w2 at B M f⊢;generalize U.heap.size=m at f a1 hz D⊢;obtain⟨fv,lv,Z⟩:=B.ru;have c2:=B.rd.c2;have i0:w2.cell? ⟨m,0,none⟩=some (.int .u64 (q.first.lo.toNat:Int)):=f.cell 0;have i1:w2.cell? ⟨m,1,none⟩=some (.int .u64 (q.first.hi.toNat:Int)):=f.cell 1;have i2:w2.cell? ⟨m,2,none⟩=some (.int .u64 (q.last.lo.toNat:Int)):=f.cell 2;have i3:w2.cell? ⟨m,3,none⟩=some (.int .u64 (q.last.hi.toNat:Int)):=f.cell 3;have i4:w2.cell? ⟨m,4,none⟩=some (.bool q.empty):=f.cell 4;have zr:=B.lt;have zm:=f.lt;have a4:=B.no;have HH:Hid (RS w2 X gb s p1 R1 Y/\C0 (fun k=>k=X\/O k) w w2/\Blk w2 m (M2 q) 196/\C1 w2 gb Y R1 fv lv):=⟨B,M,f,Z⟩;clear B M f Z;go_wp2_with fail
  go_region_held3 (fun w'=>w'.cell? ⟨X,2,none⟩=some (.pointer (some ⟨gb,0,none⟩))/\w'.cell? ⟨m,0,none⟩=some (.int .u64 (q.first.lo.toNat:Int))/\w'.cell? ⟨m,1,none⟩=some (.int .u64 (q.first.hi.toNat:Int))/\w'.cell? ⟨m,2,none⟩=some (.int .u64 (q.last.lo.toNat:Int))/\w'.cell? ⟨m,3,none⟩=some (.int .u64 (q.last.hi.toNat:Int))/\w'.cell? ⟨m,4,none⟩=some (.bool q.empty))
   (first|exact⟨j0,j1,j2,j3,j4,j5⟩|exact⟨c2,i0,i1,i2,i3,i4⟩)
   (first|(go_at_call 116;refine(KI R1 gb Y fv lv q _ HH.out.2.2.2.drew a0).mono ?_;rintro e w4 ⟨rfl,O4,a7,a3,J,a2⟩;have j0:=(J.cell (p:=⟨X,2,none⟩) zr a4).trans c2;have j1:=(J.cell (p:=⟨m,0,none⟩) zm D).trans i0;have j2:=(J.cell (p:=⟨m,1,none⟩) zm D).trans i1;have j3:=(J.cell (p:=⟨m,2,none⟩) zm D).trans i2;have j4:=(J.cell (p:=⟨m,3,none⟩) zm D).trans i3;have j5:=(J.cell (p:=⟨m,4,none⟩) zm D).trans i4))
  go_wp2_with fail;go_ret;obtain⟨B,M,f,Z⟩:=HH.out;have a6:w.heap.size<=w2.heap.size:=M.size;refine⟨rfl,O4,B.drew.gI a3 J a2,M.drew.trans J (fun i hi e=>.inr (by rcases HO.out i e with e|e;exact e;omega)),?_⟩;intro k hk;rcases a2 k hk with e|e
  ·exact HO.out k e
  ·exact .inr (by simp at e;omega)
theorem CF(s:ByteArray)(M gb:Nat)(hs:s.size<=120)(w:World)(O:Nat->Prop)(h:RS w M gb s 0 E0.aR O):
  Calls Tryz.prog 54 #[.pointer (some ⟨M,0,none⟩)] w fun e w'=>
   e=.returned (.bool (Va s).1)/\VB w w' M gb s O (Va s).2.1 (Va s).2.2:=by
 have av:=h.lt;have a4:=TD s M gb hs w 0 E0.aR O h (by omega) (by simp[E0.aR]) (by simp[E0.aR]);have a5:=Sk s 0 E0.aR (by omega) (by simp[E0.aR]) (by simp[E0.aR]);generalize a1:Va s=F;unfold Va at a1;generalize D6 s 0 E0.aR=r0 at a4 a5 a1;have HF:=Hd a1;have HR:=Hd a4;have HG:=Hd a5;clear a1 a4 a5;go_enter Tryz.func54,Tryz.ntmps54;go_wp2_with fail;refine HR.out.mono ?_;rintro e w1 ⟨rfl,O1,a7,ab,af⟩;have a6:Hid (RS w1 M gb s r0.2.1 r0.2.2 O1/\C0 (fun k=>k=M\/O k) w w1/\∀k,O1 k->O k\/w.heap.size<=k):=⟨a7,ab,af⟩;clear a7 ab af;go_wp2_with fail
 go_loopg[3] (s.size+1) (fun g c wr=>∃(r:Bool×Nat×E0) (O1:Nat->Prop),c=.bool r.1/\OV s 0 r/\(r.1=true->s.size<g+r.2.1)/\M3 s g r=M3 s (s.size+1) r0/\
  RS wr M gb s r.2.1 r.2.2 O1/\C0 (fun k=>k=M\/O k) w wr/\∀k,O1 k->O k\/w.heap.size<=k)
 case atStart=>
  obtain⟨q1,q2,q3⟩:=a6.out;exact⟨r0,O1,rfl,HG.out,fun _=>by omega,rfl,q1,q2,q3⟩
 case round=>
  obtain⟨r,O3,rfl,V,Y,f,B,K,G⟩:=hrel;clear a6 HG;have ah:=V.cV;have a9:=V.bU;have ad:=V.last;obtain⟨ok,D,Z⟩:=r;simp only at ah a9 ad Y B⊢;cases ok with
  |false=>
   have hl:M3 s gk (false,D,Z)=(false,D,Z):=Io _ _ _ (by simp);rw[hl]at f;have a3:F=(false,D,Z):=by have:=HF.out;simp only[<-f]at this;rw[<-this];rfl
   subst a3;clear f V Y hl;go_wp2_with fail;go_ret;exact⟨rfl,O3,B,K,G⟩
  |true=>
   by_cases U:F0 s D=10
   ·have au:=Y rfl;have ao:gk=(gk-1)+1:=by omega
    rw[ao]at f;unfold M3 at f;rw[if_pos ⟨rfl,U⟩]at f;have aq:D<s.size:=A1 (by rw[U];decide);have J:=Sk s (D+1) Z (by omega) (by omega) (by omega);have a2:=fun W O h1=>TD s M gb hs W (D+1) Z O h1 (by omega) (by omega) (by omega)
    simp only at f;generalize D6 s (D+1) Z=r2 at f J a2;obtain⟨ap,p2,R2⟩:=r2;simp only at a2;have ae:=J.le;have X:=J.ok;simp only at ae X;have aa:OV s 0 (ap,p2,R2):=⟨yC _,J.cV,fun e=>by have:=J.ok e;omega,J.bU,J.last⟩;have c1:=B.rd.c1;have f1:=B.rd.f1;have ai:=Hd f;have aj:=Hd aa;have an:=Hd a2;have am:=Hd X;have a0:Hid (RS wr M gb s D Z O3/\C0 (fun k=>k=M\/O k) w wr/\∀k,O3 k->O k\/w.heap.size<=k):=⟨B,K,G⟩;clear f aa J a2 V Y B K G X HF;go_wp2_with fail;refine(I3 s D M gb _ a0.out.1.rd hs (by omega)).mono ?_;rintro e w4 ⟨rfl,n,rfl⟩;rw[U];go_wp2_with fail;refine(an.out _ O3 ((a0.out.1.drewN n).set1)).mono ?_;rintro e w4 ⟨rfl,O4,a8,ac,ag⟩;obtain⟨B,K,G⟩:=a0.out;have aw:w.heap.size<=wr.heap.size:=K.size;have ak:Hid (RS w4 M gb s p2 R2 O4/\C0 (fun k=>k=M\/O k) w w4/\∀k,O4 k->O k\/w.heap.size<=k):=⟨a8,((K.drewN n).setCell (p:=⟨M,1,none⟩) (fun _=>.inl rfl) (.int .i64 ((D:Int)+1))).trans ac (fun i hi e=>by rcases e with e|e;exact .inl e;exact .inr (by rcases G i e with e|e;exact e;omega)),fun k hk=>by rcases ag k hk with e|e;exact G k e;exact .inr (by simp at e;omega)⟩;clear B K G a8 ac ag a0 c1 f1;go_wp2_with fail
    go_roundg (gk-1)
    case measure=>omega
    case rel=>
     obtain⟨q1,q2,q3⟩:=ak.out;refine⟨_,O4,rfl,aj.out,fun e=>?_,ai.out,q1,q2,q3⟩;have:=am.out e;show s.size<gk-1+p2;omega
   ·have ar:(F0 s D==10)=false:=by simp[U]
    have hl:M3 s gk (true,D,Z)=(true,D,Z):=Io _ _ _ (by simp[U]);rw[hl]at f;have a3:F=(decide (F0 s D= -1),D,Z):=by have:=HF.out;simp only[<-f]at this;rw[<-this];rfl
    subst a3;clear f V Y hl HF U;have e1:(F0 s D== -1)=decide (F0 s D= -1):=by cases h:(F0 s D== -1) <;>simp_all
    go_wp2_with fail;refine(I3 s D M gb _ B.rd hs (by omega)).mono ?_;rintro e w4 ⟨rfl,n,rfl⟩;go_wp2_with fail;refine(I3 s D M gb _ (B.rd.drewN n) hs (by omega)).mono ?_;rintro e w4 ⟨rfl,n2,rfl⟩;go_wp2_with fail;go_ret;exact⟨rfl,O3,B.drewN (n+n2),K.drewN (n+n2),G⟩
theorem BU(s:ByteArray)(B:120<s.size)(f:s.size<=maxLen)(w:World):
  Calls Tryz.prog 24 #[.string s] w fun e w'=>e=.returned (.tuple #[.pointer none,.int .i64 1,.int .i64 0])/\w'=w:=by
 unfold maxLen at f;have h:decide ((120:Int)<(s.size:Int))=true:=by simp;omega
 go_enter Tryz.func24,Tryz.ntmps24;go_wp2_with fail
 go_ret3
 exact⟨rfl,rfl⟩
def TV(w w':World)(gb:Nat)(R:E0):Prop:=∃O f h,C1 w' gb O R f h/\∀k,O k->w.heap.size<=k
theorem QX(s:ByteArray)(hs:s.size<=120)(w:World):
    Calls Tryz.prog 24 #[.string s] w fun e w'=>Bw w w'/\
      ((Va s).1=false/\e=.returned (.tuple #[.pointer none,.int .i64 2,.int .i64 ((Va s).2.1:Int)])\/
       (Va s).1=true/\∃gb,e=.returned (.tuple #[.pointer (some ⟨gb,0,none⟩),.int .i64 0,.int .i64 0])/\TV w w' gb (Va s).2.2):=by
  have e1:decide ((120:Int)<(s.size:Int))=false:=by simp;omega
  generalize X:Va s=F;have HF:=Hd X;clear X;go_enter Tryz.func24,Tryz.ntmps24;go_wp2_with fail;have G:Blk (w.alloc (.cells Tryz.zeroCells126 126)) w.heap.size (D5 E0.aR.aJ E0.aR.first (.slice none 0 0) (.slice none 0 0)) 126:=by
    have:=Blk.aR w Tryz.zeroCells126 126;rw[FV]at this⊢;exact this
  have B:C1 ((w.alloc (.cells Tryz.zeroCells126 126)).alloc (.cells #[.string s,.int .i64 0,.pointer (some ⟨w.heap.size,0,none⟩)] 128)) w.heap.size (fun k=>k=w.heap.size) E0.aR (.slice none 0 0) (.slice none 0 0):=
    ⟨G.alloc _,World.ownsRow_nil _ _ _ _,World.ownsRow_nil _ _ _ _,rfl,fun k e=>by simp[Value.ownBlock]at e,fun k e=>by simp[Value.ownBlock]at e,fun k e=>by simp[Value.ownBlock]at e,fun k e=>by simp;omega⟩
  have J:RS ((w.alloc (.cells Tryz.zeroCells126 126)).alloc (.cells #[.string s,.int .i64 0,.pointer (some ⟨w.heap.size,0,none⟩)] 128)) (w.heap.size+1) w.heap.size s 0 E0.aR (fun k=>k=w.heap.size):=
    ⟨Blk.dX w _ _ _,⟨_,_,B⟩,by simp⟩
  refine(CF s (w.heap.size+1) w.heap.size hs _ _ J).mono ?_;rw[HF.out];rintro e V ⟨rfl,U,h,f,M⟩;have K:Bw w V:=by
    have h2:=F6 w (.cells Tryz.zeroCells126 126) (.cells #[.string s,.int .i64 0,.pointer (some ⟨w.heap.size,0,none⟩)] 128);refine h2.trans ⟨f.os,f.tape,f.output,f.size,fun k Z=>f.block k (by simp;omega) (fun e=>by rcases e with e|e <;>omega)⟩
  have Y:∀k,U k->w.heap.size<=k:=fun k Z=>by rcases M k Z with e|e;omega;simp at e;omega
  have c1:=h.rd.c1;have c2:=h.rd.c2;obtain⟨ok,p,R⟩:=F;have W:Hid (Bw w V/\RS V (w.heap.size+1) w.heap.size s p R U/\∀k,U k->w.heap.size<=k):=⟨K,h,Y⟩;clear K Y h f M J B G;simp only at c1 c2⊢;cases ok with
  |false=>
    go_wp2_with fail;go_quiet(fail);go_wp2_with fail
    go_ret3
    obtain⟨D,q2,q3⟩:=W.out;exact⟨⟨D.os,D.tape,D.output,D.size,D.block⟩,rfl⟩
  |true=>
    go_wp2_with fail
    go_ret3
    obtain⟨D,q2,q3⟩:=W.out;obtain⟨fv,lv,hr⟩:=q2.ru;exact⟨D,_,rfl,U,fv,lv,hr,q3⟩
end Go.Proofs.YtcckhngbdoiikabGreat
