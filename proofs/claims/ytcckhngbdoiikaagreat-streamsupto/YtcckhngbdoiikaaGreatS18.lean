import Derived.Test.YtcckhngbdoiikaaGreatS17
set_option maxRecDepth 20000
set_option maxHeartbeats 12800000
set_option linter.unusedVariables false
namespace Go.Proofs.YtcckhngbdoiikaaGreat
open Go.RowKit Go.Deep
theorem IR(s:ByteArray)(X gb f:Nat)(hA:Yv 144 s X gb f (Wd s (N5 s f)))(hs:s.size<=120):Yv 141 s X gb f (A8 s (N5 s f)):=by
 intro w p R O h hp hR hf;have b8:=h.lt;have hK:C0 (fun k=>k=X\/O k) w w:=C0.refl _ _;have nO:∀k,O k->k<w.heap.size:=h.olt;have b3:¬O w.heap.size:=fun e=>by have:=nO _ e;omega
 have hg:=Nw (Sa s f) p R hp hR;have ae:=fun W O h1=>hA W p R O h1 hp hR hf
 unfold A8;generalize Wd s (N5 s f) p R=r at hg ae⊢;obtain⟨q,ok,Y,R1⟩:=r;simp only at ae;have b1:=hg.cT;have ax:=hg.bV;simp only at b1 ax;generalize au:Pe s ⟨q,ok,Y,R1⟩=F;have HF:=Hd au;have HA:=Hd ae;have HS:=Hd h;have aq:=Hd nO;clear ae hA h nO hg au;go_enter Tryz.func141,Tryz.ntmps141;go_wp2_with fail;refine(HA.out _ O (HS.out.alloc _)).mono ?_;rintro e w1 ⟨rfl,O1,ag,an,az⟩;have nO:=aq.out;have am:Blk w1 w.heap.size P1 206:=(Blk.aQ w P1 206).kept an (fun e=>by rcases e with e|e;omega;exact b3 e);have b5:=am.lt;have ay:C0 (fun k=>k=X\/O k) w w1:=(hK.alloc _).trans' an;have ak:∀k,O1 k->O k\/w.heap.size<k:=by
  intro k hk;rcases az k hk with e|e
  ·exact .inl e
  ·exact .inr (by simp at e;omega)
 have a6:¬O1 w.heap.size:=fun e=>by rcases ak _ e with e|e;have:=nO _ e;omega;omega
 have V:¬O1 w1.heap.size:=fun e=>by have:=ag.olt _ e;omega
 have af:=Blk.aQ w1 P1 206;have b7:=ag.lt;have ah:=(ag.alloc (.cells P1 206)).setRow (g:=w1.heap.size) (by omega) V (K2 q);have ao:=(ay.alloc (.cells P1 206)).setRow (g:=w1.heap.size) (by omega) (K2 q);have ai:=(am.alloc (.cells P1 206)).aP (g:=w1.heap.size) (by omega) (K2 q);have av:=af.setRow (K2 q);have b4:w1.heap.size≠w.heap.size:=by omega
 have ad:w1.heap.size≠X:=by omega
 have a4:w.heap.size≠X:=by omega
 have aw:∀k,O1 k->O k\/w.heap.size<=k:=fun k hk=>(ak k hk).imp id (fun e=>by omega)
 have HO:=Hd aw;clear ag an az ay ak nO am aw aq HS HA;cases ok with
 |false=>
  have a1:F=⟨V6.aQ,false,Y,R1⟩:=by rw[<-HF.out];rfl
  subst a1;clear HF;go_wp2_with(first|refine N7 rfl (.tmp 4) (.tmp 9) rfl w1.heap.size rfl rfl af rfl ?_|refine N7 (q:=V6.aQ) rfl (.tmp 2) (.tmp 13) rfl w.heap.size rfl rfl ai rfl ?_);exact bodyPost_ret (R3 Tryz.results141 _ rfl (ai.setRow _)) rfl ⟨rfl,O1,ah.setRow a4 a6 _,ao.setRow (by omega) _,HO.out⟩
 |true=>
  have b0:=ah.rd;go_wp2_with(first|refine N7 rfl (.tmp 4) (.tmp 9) rfl w1.heap.size rfl rfl af rfl ?_);refine(E3 s Y X gb _ b0 hs (by omega)).mono ?_;rintro e w3 ⟨rfl,n,rfl⟩;have B:=ah.drewN n;have U:=ao.drewN n;have M:=ai.drewN n;have D:=av.drewN n;clear ah ao ai av b0 af;generalize((w1.alloc (.cells P1 206)).setRow w1.heap.size (K2 q)).drewN n=w2 at B U M D⊢;generalize w1.heap.size=m at B U M D b4 ad V b5⊢
  by_cases a7:F0 s Y=42
  ·have a1:F=⟨{ q with empty:=true },true,Y+1,R1.link q.last q.first⟩:=by rw[<-HF.out];simp[Pe,a7]
   subst a1;clear HF;rw[a7];obtain⟨fv,lv,a2⟩:=B.ru;have c2:=B.rd.c2;have c1:=B.rd.c1;have f1:=B.rd.f1;have i0:w2.cell? ⟨m,0,none⟩=some (.int .u64 (q.first.lo.toNat:Int)):=D.cell 0;have i1:w2.cell? ⟨m,1,none⟩=some (.int .u64 (q.first.hi.toNat:Int)):=D.cell 1;have i2:w2.cell? ⟨m,2,none⟩=some (.int .u64 (q.last.lo.toNat:Int)):=D.cell 2;have i3:w2.cell? ⟨m,3,none⟩=some (.int .u64 (q.last.hi.toNat:Int)):=D.cell 3;have zr:=B.lt;have zm:=D.lt;have ap:=B.no;have HH:Hid (RS w2 X gb s Y R1 O1/\C0 (fun k=>k=X\/O k) w w2/\Blk w2 w.heap.size P1 206/\Blk w2 m (K2 q) 206/\C1 w2 gb O1 R1 fv lv):=⟨B,U,M,D,a2⟩;clear B U M D a2;go_wp2_with fail
   go_region_held3 (fun w'=>w'.cell? ⟨X,2,none⟩=some (.pointer (some ⟨gb,0,none⟩))/\w'.cell? ⟨m,0,none⟩=some (.int .u64 (q.first.lo.toNat:Int))/\w'.cell? ⟨m,1,none⟩=some (.int .u64 (q.first.hi.toNat:Int))/\w'.cell? ⟨m,2,none⟩=some (.int .u64 (q.last.lo.toNat:Int))/\w'.cell? ⟨m,3,none⟩=some (.int .u64 (q.last.hi.toNat:Int)))
    (first|exact⟨c2,i0,i1,i2,i3⟩|exact⟨j0,j1,j2,j3,j4⟩)
    (first|(go_at_call 145;refine(Bj R1 gb O1 fv lv q.last q.first _ HH.out.2.2.2.2.drew (by omega)).mono ?_;rintro e w4 ⟨rfl,aa,G⟩;have j0:=(G.cell (p:=⟨X,2,none⟩) zr ap).trans c2;have j1:=(G.cell (p:=⟨m,0,none⟩) zm V).trans i0;have j2:=(G.cell (p:=⟨m,1,none⟩) zm V).trans i1;have j3:=(G.cell (p:=⟨m,2,none⟩) zm V).trans i2;have j4:=(G.cell (p:=⟨m,3,none⟩) zm V).trans i3))
   obtain⟨B,U,M,D,a2⟩:=HH.out;have K:=B.drew.fN aa G;have a0:C0 (fun k=>k=X\/O k) w w4:=U.drew.trans G (fun i hi e=>.inr (by rcases HO.out i e with e|e;exact e;omega));have Z:=M.drew.kept G a6;have J:=D.drew.kept G V;clear B U M D a2 HH j0 j1 j2 j3 j4 c2 c1 f1 i0 i1 i2 i3 aa G;have c1:=K.rd.c1;have f1:=K.rd.f1;have e4:w4.cell? ⟨m,4,none⟩=some (.bool q.empty):=J.cell 4;have f4:=J.frozen 4;have a5:=(J.set 4 (.bool true)).aG (p:=⟨X,1,none⟩) (by simp;omega) (.int .i64 ((Y:Int)+1));have a3:=(Z.aG (p:=⟨m,4,none⟩) (by simp;omega) (.bool true)).aG (p:=⟨X,1,none⟩) (by simp;omega) (.int .i64 ((Y:Int)+1));have ab:=(K.aG (a:=⟨m,4,none⟩) ad V (.bool true)).set1;have ac:=(a0.setCell (p:=⟨m,4,none⟩) (by simp;omega) (.bool true)).setCell (p:=⟨X,1,none⟩) (fun _=>.inl rfl) (.int .i64 ((Y:Int)+1));have aj:Blk _ m (K2 { q with empty:=true }) 206:=a5;clear K a0 Z J a5;go_wp2_with(first|refine Rl rfl (.tmp 4) rfl m rfl aj ?_|refine N7 rfl (.tmp 2) (.tmp 50) rfl w.heap.size rfl rfl a3 rfl ?_);exact bodyPost_ret (R3 Tryz.results141 _ rfl (a3.setRow _)) rfl ⟨rfl,O1,ab.setRow a4 a6 _,ac.setRow (by omega) _,HO.out⟩
  have ar:(F0 s Y==42)=false:=by simp[a7]
  by_cases a8:F0 s Y=43
  ·have a1:F=⟨q,true,Y+1,R1.link q.last q.first⟩:=by rw[<-HF.out];simp[Pe,a8]
   subst a1;clear HF;rw[a8]at ar⊢;obtain⟨fv,lv,a2⟩:=B.ru;have c2:=B.rd.c2;have c1:=B.rd.c1;have f1:=B.rd.f1;have i0:w2.cell? ⟨m,0,none⟩=some (.int .u64 (q.first.lo.toNat:Int)):=D.cell 0;have i1:w2.cell? ⟨m,1,none⟩=some (.int .u64 (q.first.hi.toNat:Int)):=D.cell 1;have i2:w2.cell? ⟨m,2,none⟩=some (.int .u64 (q.last.lo.toNat:Int)):=D.cell 2;have i3:w2.cell? ⟨m,3,none⟩=some (.int .u64 (q.last.hi.toNat:Int)):=D.cell 3;have zr:=B.lt;have zm:=D.lt;have ap:=B.no;have HH:Hid (RS w2 X gb s Y R1 O1/\C0 (fun k=>k=X\/O k) w w2/\Blk w2 w.heap.size P1 206/\Blk w2 m (K2 q) 206/\C1 w2 gb O1 R1 fv lv):=⟨B,U,M,D,a2⟩;clear B U M D a2;go_wp2_with fail
   go_region_held3 (fun w'=>w'.cell? ⟨X,2,none⟩=some (.pointer (some ⟨gb,0,none⟩))/\w'.cell? ⟨m,0,none⟩=some (.int .u64 (q.first.lo.toNat:Int))/\w'.cell? ⟨m,1,none⟩=some (.int .u64 (q.first.hi.toNat:Int))/\w'.cell? ⟨m,2,none⟩=some (.int .u64 (q.last.lo.toNat:Int))/\w'.cell? ⟨m,3,none⟩=some (.int .u64 (q.last.hi.toNat:Int)))
    (first|exact⟨c2,i0,i1,i2,i3⟩|exact⟨j0,j1,j2,j3,j4⟩)
    (first|(go_at_call 145;refine(Bj R1 gb O1 fv lv q.last q.first _ HH.out.2.2.2.2.drew (by omega)).mono ?_;rintro e w4 ⟨rfl,aa,G⟩;have j0:=(G.cell (p:=⟨X,2,none⟩) zr ap).trans c2;have j1:=(G.cell (p:=⟨m,0,none⟩) zm V).trans i0;have j2:=(G.cell (p:=⟨m,1,none⟩) zm V).trans i1;have j3:=(G.cell (p:=⟨m,2,none⟩) zm V).trans i2;have j4:=(G.cell (p:=⟨m,3,none⟩) zm V).trans i3))
   obtain⟨B,U,M,D,a2⟩:=HH.out;have K:=B.drew.fN aa G;have a0:C0 (fun k=>k=X\/O k) w w4:=U.drew.trans G (fun i hi e=>.inr (by rcases HO.out i e with e|e;exact e;omega));have Z:=M.drew.kept G a6;have J:=D.drew.kept G V;clear B U M D a2 HH j0 j1 j2 j3 j4 c2 c1 f1 i0 i1 i2 i3 aa G;have c1:=K.rd.c1;have f1:=K.rd.f1;have a5:=J.aG (p:=⟨X,1,none⟩) (by simp;omega) (.int .i64 ((Y:Int)+1));have a3:=Z.aG (p:=⟨X,1,none⟩) (by simp;omega) (.int .i64 ((Y:Int)+1));have ab:=K.set1;have ac:=a0.setCell (p:=⟨X,1,none⟩) (fun _=>.inl rfl) (.int .i64 ((Y:Int)+1));clear K a0 Z J;go_wp2_with(first|refine Rl rfl (.tmp 4) rfl m rfl a5 ?_|refine N7 rfl (.tmp 2) (.tmp 50) rfl w.heap.size rfl rfl a3 rfl ?_);exact bodyPost_ret (R3 Tryz.results141 _ rfl (a3.setRow _)) rfl ⟨rfl,O1,ab.setRow a4 a6 _,ac.setRow (by omega) _,HO.out⟩
  have b2:(F0 s Y==43)=false:=by simp[a8]
  have K:=B;have a0:=U;have Z:=M;have J:=D;have c1:=B.rd.c1;have f1:=B.rd.f1;clear B U M D;generalize w2=w4 at K a0 Z J c1 f1⊢
  by_cases a9:F0 s Y=63
  ·have a1:F=⟨{ q with empty:=true },true,Y+1,R1⟩:=by rw[<-HF.out];simp[Pe,a9]
   subst a1;clear HF;rw[a9]at ar b2⊢;have e4:w4.cell? ⟨m,4,none⟩=some (.bool q.empty):=J.cell 4;have f4:=J.frozen 4;have a5:=(J.set 4 (.bool true)).aG (p:=⟨X,1,none⟩) (by simp;omega) (.int .i64 ((Y:Int)+1));have a3:=(Z.aG (p:=⟨m,4,none⟩) (by simp;omega) (.bool true)).aG (p:=⟨X,1,none⟩) (by simp;omega) (.int .i64 ((Y:Int)+1));have ab:=(K.aG (a:=⟨m,4,none⟩) ad V (.bool true)).set1;have ac:=(a0.setCell (p:=⟨m,4,none⟩) (by simp;omega) (.bool true)).setCell (p:=⟨X,1,none⟩) (fun _=>.inl rfl) (.int .i64 ((Y:Int)+1));have aj:Blk _ m (K2 { q with empty:=true }) 206:=a5;clear K a0 Z J a5;go_wp2_with(first|refine Rl rfl (.tmp 4) rfl m rfl aj ?_|refine N7 rfl (.tmp 2) (.tmp 50) rfl w.heap.size rfl rfl a3 rfl ?_);exact bodyPost_ret (R3 Tryz.results141 _ rfl (a3.setRow _)) rfl ⟨rfl,O1,ab.setRow a4 a6 _,ac.setRow (by omega) _,HO.out⟩
  ·have b6:(F0 s Y==63)=false:=by simp[a9]
   have a1:F=⟨q,true,Y,R1⟩:=by rw[<-HF.out];simp[Pe,a7,a8,a9]
   subst a1;clear HF a7 a8 a9;go_wp2_with(first|refine Rl rfl (.tmp 4) rfl m rfl J ?_|refine N7 rfl (.tmp 2) (.tmp 16) rfl w.heap.size rfl rfl Z rfl ?_);exact bodyPost_ret (R3 Tryz.results141 _ rfl (Z.setRow _)) rfl ⟨rfl,O1,K.setRow a4 a6 _,a0.setRow (by omega) _,HO.out⟩
theorem Gv(s:ByteArray)(Z gb f:Nat)(hP:Yv 141 s Z gb f (A8 s (N5 s f)))(hs:s.size<=120):Yv 137 s Z gb f (M2 s (N5 s f)):=by
 intro w p R O h hp hR hf;have ca:=h.lt;have hK:C0 (fun k=>k=Z\/O k) w w:=C0.refl _ _;have nO:∀k,O k->k<w.heap.size:=h.olt;have c1:¬O w.heap.size:=fun e=>by have:=nO _ e;omega
 have ae:=Sa s f;have hg:=Ld ae p R hp hR;have V:=fun W O h1=>hP W p R O h1 hp hR hf
 unfold M2;generalize c4:A8 s (N5 s f) p R=r0 at hg V⊢;generalize bg:C6 s (N5 s f) (s.size+1) r0=F;have HF:=Hd bg;have HA:=Hd V;have HS:=Hd h;have be:=Hd nO;have HP:=Hd hP;have bd:=Hd ae;have HG:=Hd hg;clear V hP h nO bg c4 hg ae;go_enter Tryz.func137,Tryz.ntmps137;go_wp2_with fail;refine(HA.out _ O (HS.out.alloc _)).mono ?_;rintro e J ⟨rfl,O1,ap,ba,bn⟩;have nO:=be.out;have b8:Blk J w.heap.size P1 206:=(Blk.aQ w P1 206).kept ba (fun e=>by rcases e with e|e;omega;exact c1 e);have c6:=b8.lt;have ah:C0 (fun k=>k=Z\/O k) w J:=(hK.alloc _).trans' ba;have b6:∀k,O1 k->O k\/w.heap.size<k:=by
  intro k hk;rcases bn k hk with e|e
  ·exact .inl e
  ·exact .inr (by simp at e;omega)
 have bm:¬O1 w.heap.size:=fun e=>by rcases b6 _ e with e|e;have:=nO _ e;omega;omega
 have bb:¬O1 J.heap.size:=fun e=>by have:=ap.olt _ e;omega
 have az:=Blk.aQ J P1 206;have bx:=ap.lt;have bj:=(ap.alloc (.cells P1 206)).setRow (g:=J.heap.size) (by omega) bb (K2 r0.part);have bl:=(ah.alloc (.cells P1 206)).setRow (g:=J.heap.size) (by omega) (K2 r0.part);have bk:=(b8.alloc (.cells P1 206)).aP (g:=J.heap.size) (by omega) (K2 r0.part);have bh:=az.setRow (K2 r0.part);have bi:∀k,O1 k->O k\/w.heap.size<=k:=fun k hk=>(b6 k hk).imp id (fun e=>by omega)
 have am:Hid (RS ((J.alloc (.cells P1 206)).setRow J.heap.size (K2 r0.part)) Z gb s r0.bC r0.aD O1/\C0 (fun k=>k=Z\/O k) w ((J.alloc (.cells P1 206)).setRow J.heap.size (K2 r0.part))/\
  Blk ((J.alloc (.cells P1 206)).setRow J.heap.size (K2 r0.part)) w.heap.size P1 206/\Blk ((J.alloc (.cells P1 206)).setRow J.heap.size (K2 r0.part)) J.heap.size (K2 r0.part) 206/\¬O1 w.heap.size/\¬O1 J.heap.size/\∀k,O1 k->O k\/w.heap.size<=k):=⟨bj,bl,bk,bh,bm,bb,bi⟩
 clear ap ba bn ah b6 nO b8 bi be HS HA bj bl bk bh bm bb;go_wp2_with(first|refine N7 rfl (.tmp 4) (.tmp 11) rfl J.heap.size rfl rfl az rfl ?_);clear az;generalize((J.alloc (.cells P1 206)).setRow J.heap.size (K2 r0.part))=w2 at am⊢;generalize J.heap.size=m at am c6 bx⊢
 go_loopg[5] (s.size+1) (fun g c wr=>∃(r:Vf) (O1:Nat->Prop),c=.bool r.ok/\Cn s p R r/\(r.ok=true->s.size<g+r.bC)/\C6 s (N5 s f) g r=F/\
  RS wr Z gb s r.bC r.aD O1/\C0 (fun k=>k=Z\/O k) w wr/\Blk wr w.heap.size P1 206/\Blk wr m (K2 r.part) 206/\¬O1 w.heap.size/\¬O1 m/\∀k,O1 k->O k\/w.heap.size<=k)
 case atStart=>
  obtain⟨q1,q2,q3,q4,q5,q6,q7⟩:=am.out;exact⟨r0,O1,rfl,HG.out,fun _=>by omega,HF.out,q1,q2,q3,q4,q5,q6,q7⟩
 case round=>
  obtain⟨r,O3,rfl,a6,aj,B,X,a7,M,K,av,bp,U⟩:=hrel;clear am HF HG;have ak:=a6.cT;have ac:=a6.bV;have c0:=a6.le;obtain⟨q,ok,p1,R1⟩:=r;simp only at ak ac c0 aj X K⊢;cases ok with
  |false=>
   have ay:F=⟨q,false,p1,R1⟩:=by rw[<-B];exact Qn _ _ _ _ (by simp)
   subst ay;clear B a6 aj;go_wp2_with(first|refine Rl rfl (.tmp 4) rfl m rfl K ?_|refine N7 rfl (.tmp 2) (.tmp 32) rfl w.heap.size rfl rfl M rfl ?_);exact bodyPost_ret (R3 Tryz.results137 _ rfl (M.setRow _)) rfl ⟨rfl,O3,X.setRow (by omega) av _,a7.setRow (by omega) _,U⟩
  |true=>
   cases hend:Qb (F0 s p1)with
   |true=>
    have ay:F=⟨q,true,p1,R1⟩:=by rw[<-B];exact Qn _ _ _ _ (by simp[hend])
    subst ay;clear B a6 aj;go_wp2_with fail;refine(Dg s p1 Z gb _ X.rd hs (by omega)).mono ?_;rintro e w4 ⟨rfl,n,rfl⟩;rw[hend];have ao:=K.drewN n;have aa:=M.drewN n;go_wp2_with(first|refine Rl rfl (.tmp 4) rfl m rfl ao ?_|refine N7 rfl (.tmp 2) (.tmp 32) rfl w.heap.size rfl rfl aa rfl ?_);exact bodyPost_ret (R3 Tryz.results137 _ rfl (aa.setRow _)) rfl ⟨rfl,O3,(X.drewN n).setRow (by omega) av _,(a7.drewN n).setRow (by omega) _,U⟩
   |false=>
    have c9:=aj rfl;have c3:gk=(gk-1)+1:=by omega
    rw[c3]at B;unfold C6 at B;rw[if_pos ⟨rfl,hend⟩]at B;have ad:=Oj bd.out a6 rfl;have a8:=Ld bd.out p1 R1 ak ac;have V:=fun W O h1=>HP.out W p1 R1 O h1 ak ac (by omega)
    simp only at B ad;generalize A8 s (N5 s f) p1 R1=r2 at B ad a8 V;obtain⟨q2,cn,p2,R2⟩:=r2;simp only at B ad a8 V;have ai:=a8.ok;have b9:=a8.bV;have bc:=a8.cT;simp only at ai b9 bc;have bq:=Hd B;have br:=Hd ad;have bf:=Hd V;have bs:=Hd ai;have cb:=K.lt;have cc:=M.lt;have an:Hid (RS wr Z gb s p1 R1 O3/\C0 (fun k=>k=Z\/O k) w wr/\Blk wr w.heap.size P1 206/\Blk wr m (K2 q) 206/\∀k,O3 k->O k\/w.heap.size<=k):=⟨X,a7,M,K,U⟩;clear B ad a8 V a6 aj ai X a7 M K U;go_wp2_with fail;refine(Dg s p1 Z gb _ an.out.1.rd hs (by omega)).mono ?_;rintro e w4 ⟨rfl,n,rfl⟩;rw[hend];go_wp2_with fail;refine(bf.out _ O3 (an.out.1.drewN n)).mono ?_;rintro e w4 ⟨rfl,O4,aq,af,au⟩;obtain⟨X,a7,M,K,U⟩:=an.out;have c7:wr.heap.size<=w4.heap.size:=af.size;have ao:=(K.drewN n).kept af (fun e=>by rcases e with e|e;omega;exact bp e);have aa:=(M.drewN n).kept af (fun e=>by rcases e with e|e;omega;exact av e);have ah:C0 (fun k=>k=Z\/O k) w w4:=(a7.drewN n).trans af (fun i hi e=>by rcases e with e|e;exact .inl e;exact .inr (by rcases U i e with e|e;exact e;omega));have aw:¬O4 w.heap.size:=fun e=>by rcases au _ e with e|e;exact av e;simp at e;omega
    have D:¬O4 m:=fun e=>by rcases au _ e with e|e;exact bp e;simp at e;omega
    have a9:∀k,O4 k->O k\/w.heap.size<=k:=fun k hk=>by rcases au k hk with e|e;exact U k e;exact .inr (by simp at e;omega)
    have bo:¬O4 w4.heap.size:=fun e=>by have:=aq.olt _ e;omega
    have b5:=Blk.aQ w4 P1 206;have bz:=aq.lt;have a5:=(aq.alloc (.cells P1 206)).setRow (g:=w4.heap.size) (by omega) bo (K2 q2);have ag:=(ah.alloc (.cells P1 206)).setRow (g:=w4.heap.size) (by omega) (K2 q2);have ab:=(aa.alloc (.cells P1 206)).aP (g:=w4.heap.size) (by omega) (K2 q2);have G:=(ao.alloc (.cells P1 206)).aP (g:=w4.heap.size) (by omega) (K2 q2);have Y:=b5.setRow (K2 q2);have c5:w4.heap.size≠m:=by omega
    clear X a7 M K U an aq af au ah aa ao bf hend;go_wp2_with(first|refine N7 rfl (.tmp 6) (.tmp 22) rfl w4.heap.size rfl rfl b5 rfl ?_);clear b5;generalize((w4.alloc (.cells P1 206)).setRow w4.heap.size (K2 q2))=w5 at a5 ag ab G Y⊢;generalize w4.heap.size=x at Y c5 bz c7 bo⊢;obtain⟨fv,lv,b7⟩:=a5.ru;have c2:=a5.rd.c2;have a0:w5.cell? ⟨m,0,none⟩=some (.int .u64 (q.first.lo.toNat:Int)):=G.cell 0;have a1:w5.cell? ⟨m,1,none⟩=some (.int .u64 (q.first.hi.toNat:Int)):=G.cell 1;have a2:w5.cell? ⟨m,2,none⟩=some (.int .u64 (q.last.lo.toNat:Int)):=G.cell 2;have a3:w5.cell? ⟨m,3,none⟩=some (.int .u64 (q.last.hi.toNat:Int)):=G.cell 3;have a4:w5.cell? ⟨m,4,none⟩=some (.bool q.empty):=G.cell 4;have b0:w5.cell? ⟨x,0,none⟩=some (.int .u64 (q2.first.lo.toNat:Int)):=Y.cell 0;have b1:w5.cell? ⟨x,1,none⟩=some (.int .u64 (q2.first.hi.toNat:Int)):=Y.cell 1;have b2:w5.cell? ⟨x,2,none⟩=some (.int .u64 (q2.last.lo.toNat:Int)):=Y.cell 2;have b3:w5.cell? ⟨x,3,none⟩=some (.int .u64 (q2.last.hi.toNat:Int)):=Y.cell 3;have b4:w5.cell? ⟨x,4,none⟩=some (.bool q2.empty):=Y.cell 4;have ax:Hid (RS w5 Z gb s p2 R2 O4/\C0 (fun k=>k=Z\/O k) w w5/\Blk w5 w.heap.size P1 206/\Blk w5 m (K2 q) 206/\C1 w5 gb O4 R2 fv lv/\∀k,O4 k->O k\/w.heap.size<=k):=⟨a5,ag,ab,G,b7,a9⟩;have c8:=G.lt;clear a5 ag ab G Y b7 a9;go_wp2_with fail
    go_region_with (go_at_call 143;refine(UP R2 gb O4 fv lv q q2 _ ax.out.2.2.2.2.1.drew (by omega)).mono ?_;rintro e w6 ⟨rfl,bt,ar⟩;have k3:=ax.out.2.2.2.1.drew.kept ar D;have cd:=k3.cell 0;have ce:=k3.cell 1;have cf:=k3.cell 2;have cg:=k3.cell 3;have ch:=k3.cell 4;have ci:=k3.frozen 0;have cj:=k3.frozen 1;have ck:=k3.frozen 2;have cl:=k3.frozen 3;have cm:=k3.frozen 4)
    all_goals
     go_wp2_with fail
     go_roundg (gk-1)
     case measure=>omega
     case rel=>
      obtain⟨a5,ag,ab,G,b7,a9⟩:=ax.out;have bu:=a5.drew.fN bt ar;have bw:C0 (fun k=>k=Z\/O k) w w6:=ag.drew.trans ar (fun i hi e=>.inr (by rcases a9 i e with e|e;exact e;omega));have bv:=ab.drew.kept ar aw;refine⟨_,O4,rfl,br.out,fun e=>?_,bq.out,((((bu.aG (by simp;omega) D _).aG (by simp;omega) D _).aG (by simp;omega) D _).aG (by simp;omega) D _).aG (by simp;omega) D _,?_,?_,?_,aw,D,a9⟩
      ·have:=bs.out e;show s.size<gk-1+p2;omega
      ·exact((((bw.setCell (by simp;omega) _).setCell (by simp;omega) _).setCell (by simp;omega) _).setCell (by simp;omega) _).setCell (by simp;omega) _
      ·exact((((bv.aG (by simp;omega) _).aG (by simp;omega) _).aG (by simp;omega) _).aG (by simp;omega) _).aG (by simp;omega) _
      ·exact((((k3.set 0 _).set 1 _).set 2 _).set 3 _).set 4 _
theorem Bx(s:ByteArray)(X gb f:Nat)(hP:Yv 137 s X gb f (M2 s (N5 s f)))(hs:s.size<=120):Yv 117 s X gb f (Gd s (N5 s f)):=by
 intro w p R O h hp hR hf;have bq:=h.lt;have hK:C0 (fun k=>k=X\/O k) w w:=C0.refl _ _;have nO:∀k,O k->k<w.heap.size:=h.olt;have bh:¬O w.heap.size:=fun e=>by have:=nO _ e;omega
 have a2:=Sa s f;have hg:=R7 a2 p R hp hR;have V:=fun W O h1=>hP W p R O h1 hp hR hf
 unfold Gd;generalize bj:M2 s (N5 s f) p R=r0 at hg V⊢;generalize aq:T4 s (N5 s f) (s.size+1) r0=F;have HF:=Hd aq;have HA:=Hd V;have HS:=Hd h;have ao:=Hd nO;have HP:=Hd hP;have an:=Hd a2;have HG:=Hd hg;clear V hP h nO aq bj hg a2;go_enter Tryz.func117,Tryz.ntmps117;go_wp2_with fail;refine(HA.out _ O (HS.out.alloc _)).mono ?_;rintro e G ⟨rfl,O1,a9,ak,b4⟩;have nO:=ao.out;have aj:Blk G w.heap.size P1 206:=(Blk.aQ w P1 206).kept ak (fun e=>by rcases e with e|e;omega;exact bh e);have bk:=aj.lt;have a4:C0 (fun k=>k=X\/O k) w G:=(hK.alloc _).trans' ak;have ai:∀k,O1 k->O k\/w.heap.size<k:=by
  intro k hk;rcases b4 k hk with e|e
  ·exact .inl e
  ·exact .inr (by simp at e;omega)
 have b3:¬O1 w.heap.size:=fun e=>by rcases ai _ e with e|e;have:=nO _ e;omega;omega
 have am:¬O1 G.heap.size:=fun e=>by have:=a9.olt _ e;omega
 have ah:=Blk.aQ G P1 206;have bf:=a9.lt;have ay:=(a9.alloc (.cells P1 206)).setRow (g:=G.heap.size) (by omega) am (K2 r0.part);have b1:=(a4.alloc (.cells P1 206)).setRow (g:=G.heap.size) (by omega) (K2 r0.part);have az:=(aj.alloc (.cells P1 206)).aP (g:=G.heap.size) (by omega) (K2 r0.part);have ar:=ah.setRow (K2 r0.part);have ax:∀k,O1 k->O k\/w.heap.size<=k:=fun k hk=>(ai k hk).imp id (fun e=>by omega)
 have a6:Hid (RS ((G.alloc (.cells P1 206)).setRow G.heap.size (K2 r0.part)) X gb s r0.bC r0.aD O1/\C0 (fun k=>k=X\/O k) w ((G.alloc (.cells P1 206)).setRow G.heap.size (K2 r0.part))/\
  Blk ((G.alloc (.cells P1 206)).setRow G.heap.size (K2 r0.part)) w.heap.size P1 206/\Blk ((G.alloc (.cells P1 206)).setRow G.heap.size (K2 r0.part)) G.heap.size (K2 r0.part) 206/\¬O1 w.heap.size/\¬O1 G.heap.size/\∀k,O1 k->O k\/w.heap.size<=k):=⟨ay,b1,az,ar,b3,am,ax⟩
 clear a9 ak b4 a4 ai nO aj ax ao HS HA ay b1 az ar b3 am;go_wp2_with(first|refine N7 rfl (.tmp 4) (.tmp 11) rfl G.heap.size rfl rfl ah rfl ?_);clear ah;generalize((G.alloc (.cells P1 206)).setRow G.heap.size (K2 r0.part))=w2 at a6⊢;generalize G.heap.size=m at a6 bk bf⊢
 go_loopg[5] (s.size+1) (fun g c wr=>∃(r:Vf) (O1:Nat->Prop),c=.bool r.ok/\Cn s p R r/\(r.ok=true->s.size<g+r.bC)/\T4 s (N5 s f) g r=F/\
  RS wr X gb s r.bC r.aD O1/\C0 (fun k=>k=X\/O k) w wr/\Blk wr w.heap.size P1 206/\Blk wr m (K2 r.part) 206/\¬O1 w.heap.size/\¬O1 m/\∀k,O1 k->O k\/w.heap.size<=k)
 case atStart=>
  obtain⟨q1,q2,q3,q4,q5,q6,q7⟩:=a6.out;exact⟨r0,O1,rfl,HG.out,fun _=>by omega,HF.out,q1,q2,q3,q4,q5,q6,q7⟩
 case round=>
  obtain⟨r,O3,rfl,Y,a5,B,D,Z,M,K,ae,b7,U⟩:=hrel;clear a6 HF HG;have b5:=Y.cT;have b0:=Y.bV;have bg:=Y.le;obtain⟨q,ok,p1,R1⟩:=r;simp only at b5 b0 bg a5 D K⊢;cases ok with
  |false=>
   have ag:F=⟨q,false,p1,R1⟩:=by rw[<-B];exact Ml _ _ _ _ (by simp)
   subst ag;clear B Y a5;go_wp2_with(first|refine Rl rfl (.tmp 4) rfl m rfl K ?_|refine N7 rfl (.tmp 2) (.tmp 35) rfl w.heap.size rfl rfl M rfl ?_);exact bodyPost_ret (R3 Tryz.results117 _ rfl (M.setRow _)) rfl ⟨rfl,O3,D.setRow (by omega) ae _,Z.setRow (by omega) _,U⟩
  |true=>
   by_cases J:F0 s p1=124
   ·have bo:=a5 rfl;have bi:gk=(gk-1)+1:=by omega
    rw[bi]at B;unfold T4 at B;rw[if_pos ⟨rfl,J⟩]at B;have bn:p1<s.size:=A1 (by rw[J];decide);have a1:=Ai an.out Y rfl J;have ac:=R7 an.out (p1+1) R1 (by omega) (by omega);have V:=fun W O h1=>HP.out W (p1+1) R1 O h1 (by omega) (by omega) (by omega)
    simp only at B a1;generalize M2 s (N5 s f) (p1+1) R1=r2 at B a1 ac V;obtain⟨q2,bv,p2,R2⟩:=r2;simp only at B a1 ac V;have b2:=ac.le;simp only at b2;have b8:=Hd B;have b9:=Hd a1;have ap:=Hd V;have bt:=K.lt;have bu:=M.lt;have c1:=D.rd.c1;have f1:=D.rd.f1;have a7:Hid (RS wr X gb s p1 R1 O3/\C0 (fun k=>k=X\/O k) w wr/\Blk wr w.heap.size P1 206/\Blk wr m (K2 q) 206/\∀k,O3 k->O k\/w.heap.size<=k):=⟨D,Z,M,K,U⟩;clear B a1 ac V Y a5 D Z M K U;go_wp2_with fail;refine(E3 s p1 X gb _ a7.out.1.rd hs (by omega)).mono ?_;rintro e w4 ⟨rfl,n,rfl⟩;rw[J];go_wp2_with fail;refine(ap.out _ O3 ((a7.out.1.drewN n).set1)).mono ?_;rintro e w4 ⟨rfl,O4,aa,a3,ad⟩;obtain⟨D,Z,M,K,U⟩:=a7.out;have bs:wr.heap.size<=w4.heap.size:=by have:=a3.size;simpa using this
    have a8:=((K.drewN n).aG (p:=⟨X,1,none⟩) (by simp;omega) (.int .i64 ((p1:Int)+1))).kept a3 (fun e=>by rcases e with e|e;omega;exact b7 e);have a0:=((M.drewN n).aG (p:=⟨X,1,none⟩) (by simp;omega) (.int .i64 ((p1:Int)+1))).kept a3 (fun e=>by rcases e with e|e;omega;exact ae e);have a4:C0 (fun k=>k=X\/O k) w w4:=((Z.drewN n).setCell (p:=⟨X,1,none⟩) (fun _=>.inl rfl) (.int .i64 ((p1:Int)+1))).trans a3 (fun i hi e=>by rcases e with e|e;exact .inl e;exact .inr (by rcases U i e with e|e;exact e;omega));have b6:¬O4 w.heap.size:=fun e=>by rcases ad _ e with e|e;exact ae e;simp at e;omega
    have af:¬O4 m:=fun e=>by rcases ad _ e with e|e;exact b7 e;simp at e;omega
    have ba:∀k,O4 k->O k\/w.heap.size<=k:=fun k hk=>by rcases ad k hk with e|e;exact U k e;exact .inr (by simp at e;omega)
    have bl:¬O4 w4.heap.size:=fun e=>by have:=aa.olt _ e;omega
    have aw:=Blk.aQ w4 P1 206;have bp:=aa.lt;have bb:=(aa.alloc (.cells P1 206)).setRow (g:=w4.heap.size) (by omega) bl (K2 q2);have be:=(a4.alloc (.cells P1 206)).setRow (g:=w4.heap.size) (by omega) (K2 q2);have bd:=(a0.alloc (.cells P1 206)).aP (g:=w4.heap.size) (by omega) (K2 q2);have au:=(a8.alloc (.cells P1 206)).aP (g:=w4.heap.size) (by omega) (K2 q2);have bc:=aw.setRow (K2 q2);have br:w4.heap.size≠m:=by omega
    clear D Z M K U a7 aa a3 ad a4 a0 a8 ap c1 f1;go_wp2_with(first|refine N7 rfl (.tmp 6) (.tmp 29) rfl w4.heap.size rfl rfl aw rfl ?_|refine Rl rfl (.tmp 4) rfl m rfl au ?_|refine Rl rfl (.tmp 6) rfl w4.heap.size rfl bc ?_);refine(VK q q2 _).mono ?_;rintro e w6 ⟨rfl,ab⟩;have av:=au.aA ab;go_wp2_with(first|refine N7 rfl (.tmp 4) (.tmp 33) rfl m rfl rfl av rfl ?_)
    go_roundg (gk-1)
    case measure=>omega
    case rel=>
     refine⟨_,O4,rfl,b9.out,fun e=>?_,b8.out,(bb.aA ab).setRow (by omega) af _,(be.aA ab).setRow (by omega) _,(bd.aA ab).aP (by omega) _,av.setRow _,b6,af,ba⟩;show s.size<gk-1+p2;omega
   ·have bm:(F0 s p1==124)=false:=by simp[J]
    have ag:F=⟨q,true,p1,R1⟩:=by rw[<-B];exact Ml _ _ _ _ (by simp[J])
    subst ag;clear B Y a5;go_wp2_with fail;refine(E3 s p1 X gb _ D.rd hs (by omega)).mono ?_;rintro e w4 ⟨rfl,n,rfl⟩;have a8:=K.drewN n;have a0:=M.drewN n;go_wp2_with(first|refine Rl rfl (.tmp 4) rfl m rfl a8 ?_|refine N7 rfl (.tmp 2) (.tmp 35) rfl w.heap.size rfl rfl a0 rfl ?_);exact bodyPost_ret (R3 Tryz.results117 _ rfl (a0.setRow _)) rfl ⟨rfl,O3,(D.drewN n).setRow (by omega) ae _,(Z.drewN n).setRow (by omega) _,U⟩
theorem EB(s:ByteArray)(B gb:Nat)(D:s.size<=120):∀f,JN s B gb f
 |0=>fun w p R O h K G J=>absurd J (by omega)
 |f+1=>fun w p R O h K G J=>
  Bx s B gb f (Gv s B gb f (IR s B gb f (CX s B gb f (EB s B gb D f) D) D) D) D w p R O h K G (by omega)
structure JT(s:ByteArray)(p:Nat)(r:Bool×Nat×E0):Prop where
 le:p<=r.2.1
 cT:r.2.1<=s.size
 ok:r.1=true->p<r.2.1
 bV:r.2.2.aC.length<=r.2.1
 last:r.2.2.last.length<=r.2.1
theorem Gk(s:ByteArray)(p:Nat)(R:E0)(B:p<=s.size)(h:R.aC.length<=p)(D:R.last.length<=p):JT s p (X5 s p R):=by
 have g:=Sa s (s.size+1) p R B h;unfold X5;split
 ·rename_i f;have:=g.ok f;exact⟨g.le,g.cT,fun _=>this,g.bV,by simp[E0.endRule,g.last];omega⟩
 ·exact⟨g.le,g.cT,by simp,g.bV,by simp[g.last];have:=g.le;omega⟩
theorem MC(s:ByteArray)(X gb:Nat)(hs:s.size<=120)(w:World)(p:Nat)(R:E0)(O:Nat->Prop)(h:RS w X gb s p R O)(hp:p<=s.size)(hR:R.aC.length<=p)(hL:R.last.length<=p):
  Calls Tryz.prog 82 #[.pointer (some ⟨X,0,none⟩)] w fun e w'=>
   e=.returned (.bool (X5 s p R).1)/\NA w w' X gb s O (X5 s p R).2.1 (X5 s p R).2.2:=by
 have a5:=h.lt;have nO:∀k,O k->k<w.heap.size:=h.olt;have hE:=EB s X gb hs (s.size+1) w p R O h hp hR (by omega);have hg:=Sa s (s.size+1) p R hp hR;unfold X5;generalize N5 s (s.size+1) p R=r at hE hg⊢;obtain⟨q,ok,p1,R1⟩:=r;simp only at hE⊢;have a0:R1.last.length<=1000:=by have:=hg.last;simp only at this;rw[this];omega
 have HE:=Hd hE;clear hE hg;cases ok with
 |false=>
  rw[if_neg (by simp)];go_enter Tryz.func82,Tryz.ntmps82;go_wp2_with fail;refine HE.out.mono ?_;rintro e U ⟨rfl,Y,G,K,W⟩;have V:=Blk.aQ U P1 206;have D:¬Y U.heap.size:=fun e=>by have:=G.olt _ e;omega
  have a1:=G.lt;have hz:=K.size;go_wp2_with(first|refine N7 rfl (.tmp 3) (.tmp 8) rfl U.heap.size rfl rfl V rfl ?_);go_ret;exact⟨rfl,Y,(G.alloc _).setRow (by omega) D _,(K.alloc _).setRow (by omega) _,W⟩
 |true=>
  rw[if_pos rfl];go_enter Tryz.func82,Tryz.ntmps82;go_wp2_with fail;refine HE.out.mono ?_;rintro e U ⟨rfl,Y,G,K,W⟩;have V:=Blk.aQ U P1 206;have D:¬Y U.heap.size:=fun e=>by have:=G.olt _ e;omega
  have a1:=G.lt;have hz:=K.size;have B:=(G.alloc (.cells P1 206)).setRow (g:=U.heap.size) (by omega) D (K2 q);have M:=(K.alloc (.cells P1 206)).setRow (g:=U.heap.size) (by omega) (K2 q);have f:=V.setRow (K2 q);have HO:=Hd W;clear G K W HE;go_wp2_with(first|refine N7 rfl (.tmp 3) (.tmp 8) rfl U.heap.size rfl rfl V rfl ?_);clear V;generalize((U.alloc (.cells P1 206)).setRow U.heap.size (K2 q))=w2 at B M f⊢;generalize U.heap.size=m at f a1 hz D⊢;obtain⟨fv,lv,Z⟩:=B.ru;have c2:=B.rd.c2;have i0:w2.cell? ⟨m,0,none⟩=some (.int .u64 (q.first.lo.toNat:Int)):=f.cell 0;have i1:w2.cell? ⟨m,1,none⟩=some (.int .u64 (q.first.hi.toNat:Int)):=f.cell 1;have i2:w2.cell? ⟨m,2,none⟩=some (.int .u64 (q.last.lo.toNat:Int)):=f.cell 2;have i3:w2.cell? ⟨m,3,none⟩=some (.int .u64 (q.last.hi.toNat:Int)):=f.cell 3;have i4:w2.cell? ⟨m,4,none⟩=some (.bool q.empty):=f.cell 4;have zr:=B.lt;have zm:=f.lt;have a4:=B.no;have HH:Hid (RS w2 X gb s p1 R1 Y/\C0 (fun k=>k=X\/O k) w w2/\Blk w2 m (K2 q) 206/\C1 w2 gb Y R1 fv lv):=⟨B,M,f,Z⟩;clear B M f Z;go_wp2_with fail
  go_region_held3 (fun w'=>w'.cell? ⟨X,2,none⟩=some (.pointer (some ⟨gb,0,none⟩))/\w'.cell? ⟨m,0,none⟩=some (.int .u64 (q.first.lo.toNat:Int))/\w'.cell? ⟨m,1,none⟩=some (.int .u64 (q.first.hi.toNat:Int))/\w'.cell? ⟨m,2,none⟩=some (.int .u64 (q.last.lo.toNat:Int))/\w'.cell? ⟨m,3,none⟩=some (.int .u64 (q.last.hi.toNat:Int))/\w'.cell? ⟨m,4,none⟩=some (.bool q.empty))
   (first|exact⟨j0,j1,j2,j3,j4,j5⟩|exact⟨c2,i0,i1,i2,i3,i4⟩)
   (first|(go_at_call 118;refine(PG R1 gb Y fv lv q _ HH.out.2.2.2.drew a0).mono ?_;rintro e w4 ⟨rfl,O4,a7,a3,J,a2⟩;have j0:=(J.cell (p:=⟨X,2,none⟩) zr a4).trans c2;have j1:=(J.cell (p:=⟨m,0,none⟩) zm D).trans i0;have j2:=(J.cell (p:=⟨m,1,none⟩) zm D).trans i1;have j3:=(J.cell (p:=⟨m,2,none⟩) zm D).trans i2;have j4:=(J.cell (p:=⟨m,3,none⟩) zm D).trans i3;have j5:=(J.cell (p:=⟨m,4,none⟩) zm D).trans i4))
  go_wp2_with fail;go_ret;obtain⟨B,M,f,Z⟩:=HH.out;have a6:w.heap.size<=w2.heap.size:=M.size;refine⟨rfl,O4,B.drew.gB a3 J a2,M.drew.trans J (fun i hi e=>.inr (by rcases HO.out i e with e|e;exact e;omega)),?_⟩;intro k hk;rcases a2 k hk with e|e
  ·exact HO.out k e
  ·exact .inr (by simp at e;omega)
theorem AX(s:ByteArray)(M gb:Nat)(hs:s.size<=120)(w:World)(O:Nat->Prop)(h:RS w M gb s 0 E0.aQ O):
  Calls Tryz.prog 43 #[.pointer (some ⟨M,0,none⟩)] w fun e w'=>
   e=.returned (.bool (Pa s).1)/\NA w w' M gb s O (Pa s).2.1 (Pa s).2.2:=by
 have av:=h.lt;have a4:=MC s M gb hs w 0 E0.aQ O h (by omega) (by simp[E0.aQ]) (by simp[E0.aQ]);have a5:=Gk s 0 E0.aQ (by omega) (by simp[E0.aQ]) (by simp[E0.aQ]);generalize a1:Pa s=F;unfold Pa at a1;generalize X5 s 0 E0.aQ=r0 at a4 a5 a1;have HF:=Hd a1;have HR:=Hd a4;have HG:=Hd a5;clear a1 a4 a5;go_enter Tryz.func43,Tryz.ntmps43;go_wp2_with fail;refine HR.out.mono ?_;rintro e w1 ⟨rfl,O1,a7,ab,af⟩;have a6:Hid (RS w1 M gb s r0.2.1 r0.2.2 O1/\C0 (fun k=>k=M\/O k) w w1/\∀k,O1 k->O k\/w.heap.size<=k):=⟨a7,ab,af⟩;clear a7 ab af;go_wp2_with fail
 go_loopg[3] (s.size+1) (fun g c wr=>∃(r:Bool×Nat×E0) (O1:Nat->Prop),c=.bool r.1/\JT s 0 r/\(r.1=true->s.size<g+r.2.1)/\J3 s g r=J3 s (s.size+1) r0/\
  RS wr M gb s r.2.1 r.2.2 O1/\C0 (fun k=>k=M\/O k) w wr/\∀k,O1 k->O k\/w.heap.size<=k)
 case atStart=>
  obtain⟨q1,q2,q3⟩:=a6.out;exact⟨r0,O1,rfl,HG.out,fun _=>by omega,rfl,q1,q2,q3⟩
 case round=>
  obtain⟨r,O3,rfl,V,Y,f,B,K,G⟩:=hrel;clear a6 HG;have ah:=V.cT;have a9:=V.bV;have ad:=V.last;obtain⟨ok,D,Z⟩:=r;simp only at ah a9 ad Y B⊢;cases ok with
  |false=>
   have hl:J3 s gk (false,D,Z)=(false,D,Z):=Nn _ _ _ (by simp);rw[hl]at f;have a3:F=(false,D,Z):=by have:=HF.out;simp only[<-f]at this;rw[<-this];rfl
   subst a3;clear f V Y hl;go_wp2_with fail;go_ret;exact⟨rfl,O3,B,K,G⟩
  |true=>
   by_cases U:F0 s D=10
   ·have au:=Y rfl;have ao:gk=(gk-1)+1:=by omega
    rw[ao]at f;unfold J3 at f;rw[if_pos ⟨rfl,U⟩]at f;have aq:D<s.size:=A1 (by rw[U];decide);have J:=Gk s (D+1) Z (by omega) (by omega) (by omega);have a2:=fun W O h1=>MC s M gb hs W (D+1) Z O h1 (by omega) (by omega) (by omega)
    simp only at f;generalize X5 s (D+1) Z=r2 at f J a2;obtain⟨ap,p2,R2⟩:=r2;simp only at a2;have ae:=J.le;have X:=J.ok;simp only at ae X;have aa:JT s 0 (ap,p2,R2):=⟨yC _,J.cT,fun e=>by have:=J.ok e;omega,J.bV,J.last⟩;have c1:=B.rd.c1;have f1:=B.rd.f1;have ai:=Hd f;have aj:=Hd aa;have an:=Hd a2;have am:=Hd X;have a0:Hid (RS wr M gb s D Z O3/\C0 (fun k=>k=M\/O k) w wr/\∀k,O3 k->O k\/w.heap.size<=k):=⟨B,K,G⟩;clear f aa J a2 V Y B K G X HF;go_wp2_with fail;refine(E3 s D M gb _ a0.out.1.rd hs (by omega)).mono ?_;rintro e w4 ⟨rfl,n,rfl⟩;rw[U];go_wp2_with fail;refine(an.out _ O3 ((a0.out.1.drewN n).set1)).mono ?_;rintro e w4 ⟨rfl,O4,a8,ac,ag⟩;obtain⟨B,K,G⟩:=a0.out;have aw:w.heap.size<=wr.heap.size:=K.size;have ak:Hid (RS w4 M gb s p2 R2 O4/\C0 (fun k=>k=M\/O k) w w4/\∀k,O4 k->O k\/w.heap.size<=k):=⟨a8,((K.drewN n).setCell (p:=⟨M,1,none⟩) (fun _=>.inl rfl) (.int .i64 ((D:Int)+1))).trans ac (fun i hi e=>by rcases e with e|e;exact .inl e;exact .inr (by rcases G i e with e|e;exact e;omega)),fun k hk=>by rcases ag k hk with e|e;exact G k e;exact .inr (by simp at e;omega)⟩;clear B K G a8 ac ag a0 c1 f1;go_wp2_with fail
    go_roundg (gk-1)
    case measure=>omega
    case rel=>
     obtain⟨q1,q2,q3⟩:=ak.out;refine⟨_,O4,rfl,aj.out,fun e=>?_,ai.out,q1,q2,q3⟩;have:=am.out e;show s.size<gk-1+p2;omega
   ·have ar:(F0 s D==10)=false:=by simp[U]
    have hl:J3 s gk (true,D,Z)=(true,D,Z):=Nn _ _ _ (by simp[U]);rw[hl]at f;have a3:F=(decide (F0 s D= -1),D,Z):=by have:=HF.out;simp only[<-f]at this;rw[<-this];rfl
    subst a3;clear f V Y hl HF U;have e1:(F0 s D== -1)=decide (F0 s D= -1):=by cases h:(F0 s D== -1) <;>simp_all
    go_wp2_with fail;refine(E3 s D M gb _ B.rd hs (by omega)).mono ?_;rintro e w4 ⟨rfl,n,rfl⟩;go_wp2_with fail;refine(E3 s D M gb _ (B.rd.drewN n) hs (by omega)).mono ?_;rintro e w4 ⟨rfl,n2,rfl⟩;go_wp2_with fail;go_ret;exact⟨rfl,O3,B.drewN (n+n2),K.drewN (n+n2),G⟩
theorem OR(s:ByteArray)(B:120<s.size)(f:s.size<=maxLen)(w:World):
  Calls Tryz.prog 21 #[.string s] w fun e w'=>e=.returned (.tuple #[.pointer none,.int .i64 1,.int .i64 0])/\w'=w:=by
 unfold maxLen at f;have h:decide ((120:Int)<(s.size:Int))=true:=by simp;omega
 go_enter Tryz.func21,Tryz.ntmps21;go_wp2_with fail
 go_ret3
 exact⟨rfl,rfl⟩
def UT(w w':World)(gb:Nat)(R:E0):Prop:=∃O f h,C1 w' gb O R f h/\∀k,O k->w.heap.size<=k
theorem OV(s:ByteArray)(hs:s.size<=120)(w:World):
    Calls Tryz.prog 21 #[.string s] w fun e w'=>Bw w w'/\
      ((Pa s).1=false/\e=.returned (.tuple #[.pointer none,.int .i64 2,.int .i64 ((Pa s).2.1:Int)])\/
       (Pa s).1=true/\∃gb,e=.returned (.tuple #[.pointer (some ⟨gb,0,none⟩),.int .i64 0,.int .i64 0])/\UT w w' gb (Pa s).2.2):=by
  have e1:decide ((120:Int)<(s.size:Int))=false:=by simp;omega
  generalize X:Pa s=F;have HF:=Hd X;clear X;go_enter Tryz.func21,Tryz.ntmps21;go_wp2_with fail;have G:Blk (w.alloc (.cells Tryz.zeroCells113 113)) w.heap.size (X4 E0.aQ.aJ E0.aQ.first (.slice none 0 0) (.slice none 0 0)) 113:=by
    have:=Blk.aQ w Tryz.zeroCells113 113;rw[YS]at this⊢;exact this
  have B:C1 ((w.alloc (.cells Tryz.zeroCells113 113)).alloc (.cells #[.string s,.int .i64 0,.pointer (some ⟨w.heap.size,0,none⟩)] 115)) w.heap.size (fun k=>k=w.heap.size) E0.aQ (.slice none 0 0) (.slice none 0 0):=
    ⟨G.alloc _,World.ownsRow_nil _ _ _ _,World.ownsRow_nil _ _ _ _,rfl,fun k e=>by simp[Value.ownBlock]at e,fun k e=>by simp[Value.ownBlock]at e,fun k e=>by simp[Value.ownBlock]at e,fun k e=>by simp;omega⟩
  have J:RS ((w.alloc (.cells Tryz.zeroCells113 113)).alloc (.cells #[.string s,.int .i64 0,.pointer (some ⟨w.heap.size,0,none⟩)] 115)) (w.heap.size+1) w.heap.size s 0 E0.aQ (fun k=>k=w.heap.size):=
    ⟨Blk.dX w _ _ _,⟨_,_,B⟩,by simp⟩
  refine(AX s (w.heap.size+1) w.heap.size hs _ _ J).mono ?_;rw[HF.out];rintro e V ⟨rfl,U,h,f,M⟩;have K:Bw w V:=by
    have h2:=Z5 w (.cells Tryz.zeroCells113 113) (.cells #[.string s,.int .i64 0,.pointer (some ⟨w.heap.size,0,none⟩)] 115);refine h2.trans ⟨f.os,f.tape,f.output,f.size,fun k Z=>f.block k (by simp;omega) (fun e=>by rcases e with e|e <;>omega)⟩
  have Y:∀k,U k->w.heap.size<=k:=fun k Z=>by rcases M k Z with e|e;omega;simp at e;omega
  have c1:=h.rd.c1;have c2:=h.rd.c2;obtain⟨ok,p,R⟩:=F;have W:Hid (Bw w V/\RS V (w.heap.size+1) w.heap.size s p R U/\∀k,U k->w.heap.size<=k):=⟨K,h,Y⟩;clear K Y h f M J B G;simp only at c1 c2⊢;cases ok with
  |false=>
    go_wp2_with fail;go_quiet(fail);go_wp2_with fail
    go_ret3
    obtain⟨D,q2,q3⟩:=W.out;exact⟨⟨D.os,D.tape,D.output,D.size,D.block⟩,rfl⟩
  |true=>
    go_wp2_with fail
    go_ret3
    obtain⟨D,q2,q3⟩:=W.out;obtain⟨fv,lv,hr⟩:=q2.ru;exact⟨D,_,rfl,U,fv,lv,hr,q3⟩
end Go.Proofs.YtcckhngbdoiikaaGreat
