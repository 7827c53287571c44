import Derived.Test.YtcckhngbdoiikabGreatA39
import Derived.Test.YtcckhngbdoiikabGreatA32
set_option maxRecDepth 20000
set_option maxHeartbeats 12800000
set_option linter.unusedVariables false
namespace Go.Proofs.YtcckhngbdoiikabGreat
open Go.RowKit Go.Deep
structure K8(kd:Nat->Nat)(g:B0):Prop where
 ok:N7 kd g
 cK:Da kd g
 bU:g.aB.length<=61
 bE:0<g.aB.length
abbrev BH(h:Nat)(x:F3)(f:Bool):Array Value:=#[.pointer (some ⟨h,0,none⟩),.int .i64 (x.bC:Int),.int .i64 (x.en:Int),.int .i64 x.aB,.int .i64 x.aQ,.string x.tail,.bool f]
def I4(w:World)(B h:Nat)(x:F3)(f:Bool):Prop:=Blk w B (BH h x f) 155
theorem AZ(G:Nat)(kd:Nat->Nat)(g:B0)(w:World)(h:W7 w G kd g)(D:K8 kd g):
  Calls Tryz.prog 49 #[.pointer (some ⟨G,0,none⟩)] w fun e w'=>e=.returned (XM (V1 kd g))/\Bw w w':=by
 have J:=Hd (fun(W:World) (M:Bw w W)=>Em G kd g W (h.aA M) D.ok D.cK (by have:=D.bU;omega) D.bE);clear h D;generalize V1 kd g=X at J;go_enter Tryz.func49,Tryz.ntmps49;go_wp2_with fail;refine(J.out _ (N0 _ _)).mono ?_;rintro e K ⟨rfl,B⟩;have f:Hid (Bw w K/\Blk K w.heap.size Gy 113):=⟨(N0 _ _).trans (B.mono (by simp)),(Blk.aR _ _ _).aA B⟩;clear B;go_wp2_with(first|refine Ym (x:=X) rfl (.tmp 2) (.tmp 6) rfl w.heap.size rfl rfl f.out.2 rfl ?_);exact bodyPost_ret (results_cell_row Tryz.results49 _ _ w.heap.size 113 (ES X) (0,0) _ rfl (f.out.2.setRow _) Tryz.underlying113 rfl Tryz.dC) rfl ⟨rfl,I2 f.out.1 (zD _) _⟩
theorem KX(M:Nat)(kd:Nat->Nat)(g:B0)(w:World)(h:W7 w M kd g)(hf:K8 kd g):
  Calls Tryz.prog 40 #[.pointer (some ⟨M,0,none⟩)] w fun e w'=>Bw w w'/\
   (((V1 kd g).aT=false/\e=.returned (.tuple #[.pointer none,.int .i64 4]))\/((V1 kd g).aT=true/\∃tb,e=.returned (.tuple #[.pointer (some ⟨tb,0,none⟩),.int .i64 0])/\I4 w' tb M (X6 0) false/\w.heap.size<=tb)):=by
 have HF:=Hd (fun(W:World) (hb:Bw w W)=>Em M kd g W (h.aA hb) hf.ok hf.cK (by have:=hf.bU;omega) hf.bE);have SA:=Hd (fun W=>Fu 0 W);clear h hf;generalize V1 kd g=X at HF;obtain⟨xb,xk,x1,x2,x3,x4,x5⟩:=X;go_enter Tryz.func40,Tryz.ntmps40;go_wp2_with fail;refine(HF.out _ (Below.refl _ _)).mono ?_;rintro e w1 ⟨rfl,V⟩;have f:=Hd V;clear V;cases xb with
 |false=>
  go_wp2_with fail
  go_ret2
  first|exact⟨f.out.alloc f.out.size _,.inl ⟨rfl,rfl⟩⟩|exact⟨f.out.alloc f.out.size _,rfl⟩
 |true=>
  go_wp2_with fail;refine(SA.out _).mono ?_;rintro e w2 ⟨rfl,Y⟩;have U:Hid (Bw w w2):=(f.out.alloc f.out.size _).trans (Y.mono (by have:=f.out.size;simp;omega));clear Y;go_wp2_with fail;obtain⟨G,D⟩:∃G:World,w2.alloc (.cells (Pg (X6 0)) 27)=G:=⟨_,rfl⟩;have B:Blk G w2.heap.size (Pg (X6 0)) 27:=by rw[<-D];exact Blk.aR _ _ _
  have Z:Bw w G:=by rw[<-D];exact U.out.alloc U.out.size _
  change Code.wp _ _ _ _ (w2.alloc (.cells (Pg (X6 0)) 27))
  rw[D];have c0:=B.cell 0;have c1:=B.cell 1;have c2:=B.cell 2;have c3:=B.cell 3;have c4:=B.cell 4;have K:=Hd Z;clear D B Z;go_region;clear c0 c1 c2 c3 c4;go_wp2_with fail
  go_ret2
  have J:Bw w (G.alloc (.cells (BH M (X6 0) false) 155)).drew/\I4 (G.alloc (.cells (BH M (X6 0) false) 155)).drew G.heap.size M (X6 0) false/\w.heap.size<=G.heap.size:=⟨Q6 (K.out.alloc K.out.size _),Blk.drew (Blk.aR _ _ _),K.out.size⟩;exact⟨J.1,G.heap.size,rfl,J.2⟩
theorem SF(f B:Nat)(x:F3)(s:ByteArray)(w:World)(h:I4 w f B x true):
  Calls Tryz.prog 34 #[.pointer (some ⟨f,0,none⟩),.string s] w fun e w'=>e=.returned (.tuple #[.slice none 0 0,.int .i64 6])/\w'=w:=by
 have D:w.cell? ⟨f,6,none⟩=some (.bool true):=h.cell 6;clear h;go_enter Tryz.func34,Tryz.ntmps34;go_wp2_with fail
 go_ret2
 exact⟨rfl,rfl⟩
theorem RA(f B:Nat)(x:F3)(w:World)(h:I4 w f B x true):
  Calls Tryz.prog 36 #[.pointer (some ⟨f,0,none⟩)] w fun e w'=>e=.returned (.tuple #[.slice none 0 0,.int .i64 6])/\w'=w:=by
 have D:w.cell? ⟨f,6,none⟩=some (.bool true):=h.cell 6;clear h;go_enter Tryz.func36,Tryz.ntmps36;go_wp2_with fail
 go_ret2
 exact⟨rfl,rfl⟩
theorem LW(B pb:Nat)(kd:Nat->Nat)(g:B0)(x:F3)(s:ByteArray)(w:World)(h:I4 w B pb x false)(hL:W7 w pb kd g)(ho:N7 kd g)(h1:x.tail.size+s.size<=4000000)(h3:x.en+x.tail.size+s.size<=1099511627776)(h2:x.bC<=x.en):
  Calls Tryz.prog 34 #[.pointer (some ⟨B,0,none⟩),.string s] w fun e w'=>∃v,e=.returned (.tuple #[v,.int .i64 0])/\P1 w' v (onF kd g x s false).1/\(∀b,v.ownBlock=some b->w.heap.size<=b)/\I4 w' B pb (onF kd g x s false).2 false/\C0 (fun b=>b=B) w w':=by
 have ab:=Hd (fun(W:World) (hb:Bw w W)=>ZN pb kd g x s false W (hL.aA hb) ho h1 (by omega) h2);generalize onF kd g x s false=X at ab;obtain⟨Y,ya,ye,yr,ys,yt⟩:=X;obtain⟨xa,xe,xr,xs,xt⟩:=x;simp only at h1 h2 h3;have c0:w.cell? ⟨B,0,none⟩=some (.pointer (some ⟨pb,0,none⟩)):=h.cell 0;have c1:w.cell? ⟨B,1,none⟩=some (.int .i64 xa):=h.cell 1;have c2:w.cell? ⟨B,2,none⟩=some (.int .i64 xe):=h.cell 2;have c3:w.cell? ⟨B,3,none⟩=some (.int .i64 xr):=h.cell 3;have c4:w.cell? ⟨B,4,none⟩=some (.int .i64 xs):=h.cell 4;have c5:w.cell? ⟨B,5,none⟩=some (.string xt):=h.cell 5;have c6:w.cell? ⟨B,6,none⟩=some (.bool false):=h.cell 6;have zt:=h.lt;have HS:=Hd h;obtain⟨f,hf⟩:∃f:Nat,(xe:Int)+(xt.size:Int)=(f:Int):=⟨xe+xt.size,by omega⟩;have e1:decide ((1099511627776:Int)- (f:Int)<(s.size:Int))=false:=by simp;omega
 have ag:f<=1099511627776:=by omega
 have b1:IntKind.i64.wrap ((xe:Int)+(xt.size:Int))=(f:Int):=(Go.IntWalk.i64_left _).trans (by rw[hf];unfold wrap64;omega);clear h hL ho hf;go_enter Tryz.func34,Tryz.ntmps34;go_wp2_with fail;go_quiet(fail);clear b1;obtain⟨G,ac⟩:∃G:World,w.drewN nq=G:=⟨_,rfl⟩;rw[ac];have J:Bw w G:=by rw[<-ac];exact C2 (Below.refl _ _) _
 have k0:=(J.cell (p:=⟨B,0,none⟩) zt).trans c0;have k1:=(J.cell (p:=⟨B,1,none⟩) zt).trans c1;have k2:=(J.cell (p:=⟨B,2,none⟩) zt).trans c2;have k3:=(J.cell (p:=⟨B,3,none⟩) zt).trans c3;have k4:=(J.cell (p:=⟨B,4,none⟩) zt).trans c4;have k5:=(J.cell (p:=⟨B,5,none⟩) zt).trans c5;have M:Hid (I4 G B pb ⟨xa,xe,xr,xs,xt⟩ false/\Bw w G):=⟨Blk.aA HS.out J,J⟩;have aj:B<G.heap.size:=M.out.1.lt;clear ac J c0 c1 c2 c3 c4 c5 c6 HS zt;go_upto_region 6 with fail;have a7:Bw w G.drew:=Q6 M.out.2;have ae:Bw w (G.drew.alloc (.cells Tb 27)):=a7.alloc a7.size _;have a4:=Hd a7;have a5:=Hd ae;clear a7 ae
 go_cut[7,8] (fun tv bv wx=>∃sb,bv=.pointer (some ⟨sb,0,none⟩)/\Blk wx sb (Pg ⟨ya,ye,yr,ys,yt⟩) 27/\P1 wx tv Y/\(∀b,tv.ownBlock=some b->w.heap.size<=b)/\I4 wx B pb ⟨xa,xe,xr,xs,xt⟩ false/\Bw w wx/\w.heap.size<=sb)
 case first=>
  go_region_with (go_at_call 47;refine(ab.out _ (by first|exact a4.out|exact a5.out)).mono ?_;rintro e V ⟨v,rfl,a6,a8,U⟩;try(have hq:Blk V G.heap.size Tb 27:=(Blk.aR G.drew Tb 27).aA U;have q0:=hq.cell 0;have q1:=hq.cell 1;have q2:=hq.cell 2;have q3:=hq.cell 3;have q4:=hq.cell 4;have f0:=hq.frozen 0;have f1:=hq.frozen 1;have f2:=hq.frozen 2;have f3:=hq.frozen 3;have f4:=hq.frozen 4))
  all_goals
   first
   |(have a0:Bw w V:=a4.out.trans (U.mono a4.out.size);have a2:I4 V B pb ⟨xa,xe,xr,xs,xt⟩ false:=Blk.aA (Blk.drew M.out.1) U;have a3:∀b,v.ownBlock=some b->w.heap.size<=b:=fun b hb=>yI M.out.2.size (a8 b hb);have Z:Hid (Bw w V/\I4 V B pb ⟨xa,xe,xr,xs,xt⟩ false/\(∀b,v.ownBlock=some b->w.heap.size<=b)/\P1 V v Y):=⟨a0,a2,a3,a6⟩;clear a0 a2 a3 U a8 a6 k0 k1 k2 k3 k4 k5;go_wp2_with fail;go_meet;exact⟨V.heap.size,rfl,Blk.aR _ _ _,Z.out.2.2.2.aA (N0 _ _),Z.out.2.2.1,Blk.alloc Z.out.2.1 _,Z.out.1.alloc Z.out.1.size _,Z.out.1.size⟩)
   |(have a0:Bw w V:=a5.out.trans (U.mono a5.out.size);have a2:I4 V B pb ⟨xa,xe,xr,xs,xt⟩ false:=Blk.aA (Blk.alloc (Blk.drew M.out.1) _) U;have hz:w.heap.size<=G.heap.size:=M.out.2.size;have a3:∀b,v.ownBlock=some b->G.heap.size<b:=fun b hb=>Nat.lt_of_succ_le (by have:=a8 b hb;simpa using this);have Z:Hid (Bw w V/\I4 V B pb ⟨xa,xe,xr,xs,xt⟩ false/\(∀b,v.ownBlock=some b->G.heap.size<b)/\P1 V v Y/\Blk V G.heap.size Tb 27):=⟨a0,a2,a3,a6,hq⟩;clear a0 a2 a3 U a8 a6 k0 k1 k2 k3 k4 k5 q0 q1 q2 q3 q4 f0 f1 f2 f3 f4 hq;go_wp2_with fail;go_meet;have a1:C0 (fun b=>b=G.heap.size) V (((((V.setCell ⟨G.heap.size,0,none⟩ (.int .i64 ya)).setCell ⟨G.heap.size,1,none⟩ (.int .i64 ye)).setCell ⟨G.heap.size,2,none⟩ (.int .i64 yr)).setCell ⟨G.heap.size,3,none⟩ (.int .i64 ys)).setCell ⟨G.heap.size,4,none⟩ (.string yt)):=((((C0.setCell (ex:=fun b=>b=G.heap.size) (p:=⟨G.heap.size,0,none⟩) (C0.refl _ _) (fun _=>rfl) _).setCell (p:=⟨G.heap.size,1,none⟩) (fun _=>rfl) _).setCell (p:=⟨G.heap.size,2,none⟩) (fun _=>rfl) _).setCell (p:=⟨G.heap.size,3,none⟩) (fun _=>rfl) _).setCell (p:=⟨G.heap.size,4,none⟩) (fun _=>rfl) _;exact⟨G.heap.size,rfl,((((Z.out.2.2.2.2.set 0 _).set 1 _).set 2 _).set 3 _).set 4 _,Z.out.2.2.2.1.kept a1 (fun b hb e=>by have:=Z.out.2.2.1 b hb;omega),fun b hb=>by have:=Z.out.2.2.1 b hb;omega,Blk.kept Z.out.2.1 a1 (by omega),((((Z.out.1.setCell (p:=⟨G.heap.size,0,none⟩) hz _).setCell (p:=⟨G.heap.size,1,none⟩) hz _).setCell (p:=⟨G.heap.size,2,none⟩) hz _).setCell (p:=⟨G.heap.size,3,none⟩) hz _).setCell (p:=⟨G.heap.size,4,none⟩) hz _,hz⟩)
 case rest=>
  obtain⟨sb,rfl,K,aa,ad,D,a9,ah⟩:=hcut;clear k0 k1 k2 k3 k4 k5 ab a4 a5 M;have s0:=K.cell 0;have s1:=K.cell 1;have s2:=K.cell 2;have s3:=K.cell 3;have s4:=K.cell 4;have t1:wc.cell? ⟨B,1,none⟩=some (.int .i64 xa):=D.cell 1;have t2:wc.cell? ⟨B,2,none⟩=some (.int .i64 xe):=D.cell 2;have t3:wc.cell? ⟨B,3,none⟩=some (.int .i64 xr):=D.cell 3;have t4:wc.cell? ⟨B,4,none⟩=some (.int .i64 xs):=D.cell 4;have t5:wc.cell? ⟨B,5,none⟩=some (.string xt):=D.cell 5;have g1:=D.frozen 1;have g2:=D.frozen 2;have g3:=D.frozen 3;have g4:=D.frozen 4;have g5:=D.frozen 5;have af:B≠sb:=fun e=>by
   subst e;have:=(K.bX D).2
   revert this
   decide
  have ak:B<wc.heap.size:=D.lt;have ai:=K.lt;have HC:Hid (P1 wc u7 Y/\(∀b,u7.ownBlock=some b->w.heap.size<=b)/\I4 wc B pb ⟨xa,xe,xr,xs,xt⟩ false/\Bw w wc):=⟨aa,ad,D,a9⟩;clear K aa ad D a9;go_wp2_with fail
  go_ret2
  obtain⟨r1,r2,r3,r4⟩:=HC.out;have a1:C0 (fun b=>b=B) wc (((((wc.setCell ⟨B,1,none⟩ (.int .i64 ya)).setCell ⟨B,2,none⟩ (.int .i64 ye)).setCell ⟨B,3,none⟩ (.int .i64 yr)).setCell ⟨B,4,none⟩ (.int .i64 ys)).setCell ⟨B,5,none⟩ (.string yt)):=((((C0.setCell (ex:=fun b=>b=B) (p:=⟨B,1,none⟩) (C0.refl _ _) (fun _=>rfl) _).setCell (p:=⟨B,2,none⟩) (fun _=>rfl) _).setCell (p:=⟨B,3,none⟩) (fun _=>rfl) _).setCell (p:=⟨B,4,none⟩) (fun _=>rfl) _).setCell (p:=⟨B,5,none⟩) (fun _=>rfl) _;refine⟨u7,rfl,r1.kept a1 (fun b hb e=>by subst e;exact L0 r1 r3 (by decide) hb),r2,((((Blk.set r3 1 _).set 2 _).set 3 _).set 4 _).set 5 _,(C0.aM (ex:=fun b=>b=B) r4).trans a1 (fun i _ e=>e)⟩
theorem TR(B Y:Nat)(kd:Nat->Nat)(g:B0)(x:F3)(w:World)(h:I4 w B Y x false)(hL:W7 w Y kd g)(ho:N7 kd g)(h1:x.tail.size+0<=4000000)(h3:x.en<=1099511627776)(h2:x.bC<=x.en):
  Calls Tryz.prog 36 #[.pointer (some ⟨B,0,none⟩)] w fun e w'=>∃v,e=.returned (.tuple #[v,.int .i64 0])/\P1 w' v (onF kd g x ⟨#[]⟩ true).1/\(∀b,v.ownBlock=some b->w.heap.size<=b)/\I4 w' B Y (onF kd g x ⟨#[]⟩ true).2 true/\C0 (fun b=>b=B) w w':=by
 have ab:=Hd (fun(W:World) (Z:Bw w W)=>ZN Y kd g x ⟨#[]⟩ true W (hL.aA Z) ho h1 h3 h2);generalize onF kd g x ⟨#[]⟩ true=X at ab;obtain⟨K,ya,ye,yr,ys,yt⟩:=X;obtain⟨xa,xe,xr,xs,xt⟩:=x;simp only at h1 h2;have c0:w.cell? ⟨B,0,none⟩=some (.pointer (some ⟨Y,0,none⟩)):=h.cell 0;have c1:w.cell? ⟨B,1,none⟩=some (.int .i64 xa):=h.cell 1;have c2:w.cell? ⟨B,2,none⟩=some (.int .i64 xe):=h.cell 2;have c3:w.cell? ⟨B,3,none⟩=some (.int .i64 xr):=h.cell 3;have c4:w.cell? ⟨B,4,none⟩=some (.int .i64 xs):=h.cell 4;have c5:w.cell? ⟨B,5,none⟩=some (.string xt):=h.cell 5;have c6:w.cell? ⟨B,6,none⟩=some (.bool false):=h.cell 6;have zt:=h.lt;have HS:=Hd h;clear h hL ho;go_enter Tryz.func36,Tryz.ntmps36;have k0:=c0;have k1:=c1;have k2:=c2;have k3:=c3;have k4:=c4;have k5:=c5;have U:Hid (I4 w B Y ⟨xa,xe,xr,xs,xt⟩ false/\Bw w w):=⟨HS.out,Below.refl _ _⟩;go_upto_region 3 with fail;clear c0 c1 c2 c3 c4 c5 c6 HS;have a7:Bw w w.drew:=Q6 U.out.2;have ad:Bw w (w.drew.alloc (.cells Tb 27)):=a7.alloc a7.size _;have a4:=Hd a7;have a5:=Hd ad;clear a7 ad
 go_cut[4,5] (fun tv bv wx=>∃sb,bv=.pointer (some ⟨sb,0,none⟩)/\Blk wx sb (Pg ⟨ya,ye,yr,ys,yt⟩) 27/\P1 wx tv K/\(∀b,tv.ownBlock=some b->w.heap.size<=b)/\I4 wx B Y ⟨xa,xe,xr,xs,xt⟩ false/\Bw w wx/\w.heap.size<=sb)
 case first=>
  go_region_with (go_at_call 47;refine(ab.out _ (by first|exact a4.out|exact a5.out)).mono ?_;rintro e J ⟨v,rfl,a6,a8,G⟩;try(have V:Blk J w.heap.size Tb 27:=(Blk.aR w.drew Tb 27).aA G;have q0:=V.cell 0;have q1:=V.cell 1;have q2:=V.cell 2;have q3:=V.cell 3;have q4:=V.cell 4;have f0:=V.frozen 0;have f1:=V.frozen 1;have f2:=V.frozen 2;have f3:=V.frozen 3;have f4:=V.frozen 4))
  all_goals
   first
   |(have a0:Bw w J:=a4.out.trans (G.mono a4.out.size);have a2:I4 J B Y ⟨xa,xe,xr,xs,xt⟩ false:=Blk.aA (Blk.drew U.out.1) G;have a3:∀b,v.ownBlock=some b->w.heap.size<=b:=fun b Z=>yI U.out.2.size (a8 b Z);have M:Hid (Bw w J/\I4 J B Y ⟨xa,xe,xr,xs,xt⟩ false/\(∀b,v.ownBlock=some b->w.heap.size<=b)/\P1 J v K):=⟨a0,a2,a3,a6⟩;clear a0 a2 a3 G a8 a6 k0 k1 k2 k3 k4 k5;go_wp2_with fail;go_meet;exact⟨J.heap.size,rfl,Blk.aR _ _ _,M.out.2.2.2.aA (N0 _ _),M.out.2.2.1,Blk.alloc M.out.2.1 _,M.out.1.alloc M.out.1.size _,M.out.1.size⟩)
   |(have a0:Bw w J:=a5.out.trans (G.mono a5.out.size);have a2:I4 J B Y ⟨xa,xe,xr,xs,xt⟩ false:=Blk.aA (Blk.alloc (Blk.drew U.out.1) _) G;have hz:w.heap.size<=w.heap.size:=U.out.2.size;have a3:∀b,v.ownBlock=some b->w.heap.size<b:=fun b Z=>Nat.lt_of_succ_le (by have:=a8 b Z;simpa using this);have M:Hid (Bw w J/\I4 J B Y ⟨xa,xe,xr,xs,xt⟩ false/\(∀b,v.ownBlock=some b->w.heap.size<b)/\P1 J v K/\Blk J w.heap.size Tb 27):=⟨a0,a2,a3,a6,V⟩;clear a0 a2 a3 G a8 a6 k0 k1 k2 k3 k4 k5 q0 q1 q2 q3 q4 f0 f1 f2 f3 f4 V;go_wp2_with fail;go_meet;have a1:C0 (fun b=>b=w.heap.size) J (((((J.setCell ⟨w.heap.size,0,none⟩ (.int .i64 ya)).setCell ⟨w.heap.size,1,none⟩ (.int .i64 ye)).setCell ⟨w.heap.size,2,none⟩ (.int .i64 yr)).setCell ⟨w.heap.size,3,none⟩ (.int .i64 ys)).setCell ⟨w.heap.size,4,none⟩ (.string yt)):=((((C0.setCell (ex:=fun b=>b=w.heap.size) (p:=⟨w.heap.size,0,none⟩) (C0.refl _ _) (fun _=>rfl) _).setCell (p:=⟨w.heap.size,1,none⟩) (fun _=>rfl) _).setCell (p:=⟨w.heap.size,2,none⟩) (fun _=>rfl) _).setCell (p:=⟨w.heap.size,3,none⟩) (fun _=>rfl) _).setCell (p:=⟨w.heap.size,4,none⟩) (fun _=>rfl) _;exact⟨w.heap.size,rfl,((((M.out.2.2.2.2.set 0 _).set 1 _).set 2 _).set 3 _).set 4 _,M.out.2.2.2.1.kept a1 (fun b Z e=>by have:=M.out.2.2.1 b Z;omega),fun b Z=>by have:=M.out.2.2.1 b Z;omega,Blk.kept M.out.2.1 a1 (by omega),((((M.out.1.setCell (p:=⟨w.heap.size,0,none⟩) hz _).setCell (p:=⟨w.heap.size,1,none⟩) hz _).setCell (p:=⟨w.heap.size,2,none⟩) hz _).setCell (p:=⟨w.heap.size,3,none⟩) hz _).setCell (p:=⟨w.heap.size,4,none⟩) hz _,hz⟩)
 case rest=>
  obtain⟨sb,rfl,D,aa,ac,f,a9,af⟩:=hcut;clear k0 k1 k2 k3 k4 k5 ab a4 a5 U;have s0:=D.cell 0;have s1:=D.cell 1;have s2:=D.cell 2;have s3:=D.cell 3;have s4:=D.cell 4;have t1:wc.cell? ⟨B,1,none⟩=some (.int .i64 xa):=f.cell 1;have t2:wc.cell? ⟨B,2,none⟩=some (.int .i64 xe):=f.cell 2;have t3:wc.cell? ⟨B,3,none⟩=some (.int .i64 xr):=f.cell 3;have t4:wc.cell? ⟨B,4,none⟩=some (.int .i64 xs):=f.cell 4;have t5:wc.cell? ⟨B,5,none⟩=some (.string xt):=f.cell 5;have g1:=f.frozen 1;have g2:=f.frozen 2;have g3:=f.frozen 3;have g4:=f.frozen 4;have g5:=f.frozen 5;have t6:wc.cell? ⟨B,6,none⟩=some (.bool false):=f.cell 6;have g6:=f.frozen 6;have ae:B≠sb:=fun e=>by
   subst e;have:=(D.bX f).2
   revert this
   decide
  have ah:B<wc.heap.size:=f.lt;have ag:=D.lt;have HC:Hid (P1 wc u4 K/\(∀b,u4.ownBlock=some b->w.heap.size<=b)/\I4 wc B Y ⟨xa,xe,xr,xs,xt⟩ false/\Bw w wc):=⟨aa,ac,f,a9⟩;clear D aa ac f a9;go_wp2_with fail
  go_ret2
  obtain⟨r1,r2,r3,r4⟩:=HC.out;have a1:C0 (fun b=>b=B) wc ((((((wc.setCell ⟨B,1,none⟩ (.int .i64 ya)).setCell ⟨B,2,none⟩ (.int .i64 ye)).setCell ⟨B,3,none⟩ (.int .i64 yr)).setCell ⟨B,4,none⟩ (.int .i64 ys)).setCell ⟨B,5,none⟩ (.string yt)).setCell ⟨B,6,none⟩ (.bool true)):=(((((C0.setCell (ex:=fun b=>b=B) (p:=⟨B,1,none⟩) (C0.refl _ _) (fun _=>rfl) _).setCell (p:=⟨B,2,none⟩) (fun _=>rfl) _).setCell (p:=⟨B,3,none⟩) (fun _=>rfl) _).setCell (p:=⟨B,4,none⟩) (fun _=>rfl) _).setCell (p:=⟨B,5,none⟩) (fun _=>rfl) _).setCell (p:=⟨B,6,none⟩) (fun _=>rfl) _;refine⟨u4,rfl,r1.kept a1 (fun b Z e=>by subst e;exact L0 r1 r3 (by decide) Z),r2,(((((Blk.set r3 1 _).set 2 _).set 3 _).set 4 _).set 5 _).set 6 _,(C0.aM (ex:=fun b=>b=B) r4).trans a1 (fun i _ e=>e)⟩
end Go.Proofs.YtcckhngbdoiikabGreat
