import Derived.Test.YtcckhngbdoiikaaGreatS52
set_option maxRecDepth 20000
set_option maxHeartbeats 12800000
set_option linter.unusedVariables false
namespace Go.Proofs.YtcckhngbdoiikaaGreat
open Go.RowKit Go.Deep
theorem Tryz.iS:(Tryz.prog.info? 49).map (fun i=>(i.zero,i.size,i.bytes))=some (some (.agg #[.int .i64 0,.int .i64 0,.int .i64 0,.int .i64 0,.string ⟨#[]⟩]),5,48):=by kernel_rfl
theorem VV(wb a b:Nat)(x1 x2 x3 x4:Int)(x5:ByteArray)(J:Int)(Y:J≠0)(ol ot oa oe Z a0:Int)(os ov:ByteArray)(w:World)
   (V:Hid (∀W,Bw w W->Calls Tryz.prog 70 #[.pointer (some ⟨a,0,none⟩)] W fun e w'=>e=.returned (.tuple #[Nh x1 x2 x3 x4 x5,.int .i64 J])/\Bw W w'))
   (X:Hid (∀W,Bw w W->Calls Tryz.prog 71 #[.pointer (some ⟨b,0,none⟩)] W fun e w'=>e=.returned (.tuple #[Nh x1 x2 x3 x4 x5,.int .i64 J])/\Bw W w')):
    Calls Tryz.prog 35 #[.pointer (some ⟨wb,0,none⟩),.agg #[.pointer (some ⟨a,0,none⟩),.pointer (some ⟨b,0,none⟩)],scV ⟨4,ol,ot,os,oa,oe,Z,a0,ov⟩] w fun e w'=>e=.returned (.bool true)/\Bw w w':=by
  have e9:(J==0)=false:=by simpa using Y
  go_enter Tryz.func35,Tryz.ntmps35;go_wp2_with fail;refine(V.out _ (Z5 _ _ _)).mono ?_;rintro e U ⟨rfl,h⟩;have D:Blk U w.heap.size #[.pointer (some ⟨a,0,none⟩),.pointer (some ⟨b,0,none⟩)] 95:=Blk.aA (Blk.alloc (Blk.aQ _ _ _) _) h;have c1:U.cell? ⟨w.heap.size,1,none⟩=some (.pointer (some ⟨b,0,none⟩)):=D.cell 1;have zz:=D.lt;have M:Bw w U:=(Z5 _ _ _).trans (h.mono (by simp;omega));have f:=Hd M;clear h D M;go_wp2_with fail;refine(X.out _ (f.out.alloc f.out.size _)).mono ?_;rintro e w2 ⟨rfl,B⟩;have G:Blk w2 U.heap.size (Ga x1 x2 x3 x4 x5) 49:=(Blk.aQ _ _ _).aA B;have q0:=G.cell 0;have q1:=G.cell 1;have q2:=G.cell 2;have q3:=G.cell 3;have q4:=G.cell 4;have zq:=G.lt;have K:=Hd ((f.out.alloc f.out.size _).trans (B.mono (f.out.alloc f.out.size _).size));clear G B f c1 zz;go_wp2_with fail;refine(Jc J _).mono ?_;rintro e1 w5 ⟨rfl,rfl⟩;go_wp2_with fail;refine(Jc J _).mono ?_;rintro e1 w6 ⟨rfl,rfl⟩;go_wp2_with fail;go_ret;exact⟨rfl,K.out.alloc K.out.size _⟩
theorem ZR(w:World)(U V X Y:Int)(Z:ByteArray)(wb a b B f:Nat)(vd:Option Addr)(xs:List Value)(y0 y1 y2 y4 y5:Value)(bf:B<=1000000)(Q:World->Prop)(ai:∀W,Bw w W->Blk W wb #[y0,y1,y2,.slice vd B f,y4,y5] 57/\W.ownsRow 0 49 5 (.slice vd B f) B xs)(hQ:∀W w8 gg h,Bw w W->w8.ownsRow 0 49 5 (.slice (some ⟨gg,0,none⟩) (B+1) h) (B+1) (xs++ [.int .i64 U,.int .i64 V,.int .i64 X,.int .i64 Y,.string Z])->C0 (fun i=>(Value.slice vd B f).ownBlock=some i) W w8->((Value.slice vd B f).ownBlock=some gg\/W.heap.size<=gg)->Q (w8.setCell ⟨wb,3,none⟩ (.slice (some ⟨gg,0,none⟩) (B+1) h)))(ol ot oa oe ba bb:Int)(os ov:ByteArray)
   (b0:Hid (∀W,Bw w W->Calls Tryz.prog 70 #[.pointer (some ⟨a,0,none⟩)] W fun e w'=>e=.returned (.tuple #[Nh U V X Y Z,.int .i64 0])/\Bw W w'))
   (b1:Hid (∀W,Bw w W->Calls Tryz.prog 71 #[.pointer (some ⟨b,0,none⟩)] W fun e w'=>e=.returned (.tuple #[Nh U V X Y Z,.int .i64 0])/\Bw W w')):
    Calls Tryz.prog 35 #[.pointer (some ⟨wb,0,none⟩),.agg #[.pointer (some ⟨a,0,none⟩),.pointer (some ⟨b,0,none⟩)],scV ⟨4,ol,ot,os,oa,oe,ba,bb,ov⟩] w fun e w'=>e=.returned (.bool true)/\Q w':=by
  obtain⟨ii,b3,b7,b8,b9⟩:=info_parts Tryz.iS;obtain⟨ae,ad⟩:=ai w (Below.refl _ _);have a1:Hid (Blk w wb #[y0,y1,y2,.slice vd B f,y4,y5] 57/\∀i,(Value.slice vd B f).ownBlock=some i->i<w.heap.size):=Hd ⟨ae,fun i e=>by
    obtain⟨_,_,_,e1,⟨rfl,_⟩|⟨g,cur,rfl,h2,_⟩⟩:=L0 ad
    · cases e1;cases e
    · cases e1
      cases(zE e:g=i);exact h2.lt⟩
  clear ae ad;have ah:=Hd ai;have HQ:=Hd hQ;clear ai hQ;go_enter Tryz.func35,Tryz.ntmps35;go_wp2_with fail;refine(b0.out _ (Z5 _ _ _)).mono ?_;rintro e w1 ⟨rfl,aj⟩;have am:Blk w1 w.heap.size #[.pointer (some ⟨a,0,none⟩),.pointer (some ⟨b,0,none⟩)] 95:=Blk.aA (Blk.alloc (Blk.aQ _ _ _) _) aj;have c1:w1.cell? ⟨w.heap.size,1,none⟩=some (.pointer (some ⟨b,0,none⟩)):=am.cell 1;have zz:=am.lt;have av:Bw w w1:=(Z5 _ _ _).trans (aj.mono (by simp;omega));have G:=Hd av;clear aj am av;go_wp2_with fail;refine(b1.out _ (G.out.alloc G.out.size _)).mono ?_;rintro e w2 ⟨rfl,ak⟩;have hq:Blk w2 w1.heap.size (Ga U V X Y Z) 49:=(Blk.aQ _ _ _).aA ak;have q0:=hq.cell 0;have q1:=hq.cell 1;have q2:=hq.cell 2;have q3:=hq.cell 3;have q4:=hq.cell 4;have zq:=hq.lt;have a9:Bw w w2:=(G.out.alloc G.out.size _).trans (ak.mono (G.out.alloc G.out.size _).size);have ab:Hid (w.heap.size<=w1.heap.size/\w.heap.size<=w2.heap.size):=Hd ⟨G.out.size,a9.size⟩;have ar:=Hd hq;clear q0 q1 q2 q3 q4 zq hq ak G c1 zz;obtain⟨M,a6⟩:∃M:World,w2.alloc (.cells (Ga U V X Y Z) 49)=M:=⟨_,rfl⟩;have a0:Bw w M:=by rw[<-a6];exact a9.alloc a9.size _
  have ay:Blk M w1.heap.size (Ga U V X Y Z) 49:=by rw[<-a6];exact ar.out.alloc _
  have K:Blk M w2.heap.size (Ga U V X Y Z) 49:=by rw[<-a6];exact Blk.aQ _ _ _
  obtain⟨aa,b4⟩:=ah.out M a0;have k3:M.cell? ⟨wb,3,none⟩=some (.slice vd B f):=aa.cell 3;have kf:=aa.frozen 3;have zx:=aa.lt;have u0:=K.cell 0;have u1:=K.cell 1;have u2:=K.cell 2;have u3:=K.cell 3;have u4:=K.cell 4;have zu:=K.lt;obtain⟨W2,a2⟩:∃W2:World,(M.alloc (.cells (Ga U V X Y Z) 49)).drew=W2:=⟨_,rfl⟩;have a4:Bw M W2:=by rw[<-a2];exact Y1 (P0 _ _)
  obtain⟨a3,an⟩:=ah.out W2 (a0.trans (a4.mono a0.size));have ax:some wb≠(Value.slice vd B f).ownBlock:=fun e=>K0 an a3 (by decide) e.symm
  have ag:Hid (W2.ownsRow 0 49 5 (.slice vd B f) B xs):=Hd an;have CW:Hid (W2.cell? ⟨wb,3,none⟩=some (.slice vd B f)):=Hd (a3.cell 3);have FW:=Hd (a3.frozen 3);have af:Hid (W2.heap[M.heap.size]?=some (.cells (Ga U V X Y Z) 49 (0,0))):=Hd (by rw[<-a2];exact heap_alloc_new M (.cells (Ga U V X Y Z) 49));have a8:Hid (wb<W2.heap.size):=Hd a3.lt;have a7:Hid (W2.heap.size=M.heap.size+1):=Hd (by rw[<-a2];simp);have ap:Hid (B+1<=maxLen):=Hd (by unfold maxLen;omega);have aq:Hid ((B+1)*48<=140737488355328):=Hd (by omega);have J:=Hd3 (a0.trans (a4.mono a0.size)) (ay.aA a4) (K.aA a4);rw[<-a2]at ag CW FW af a8 a7 J;have au:=Hd a6;clear a2 a4 a3 an aa b4 ay K a0 a9 a6 ar ah;go_upto_region 17 with fail;rw[au.out];clear au
  go_cut[] (fun wx=>∃w8 gg h W,Bw w W/\w8.ownsRow 0 49 5 (.slice (some ⟨gg,0,none⟩) (B+1) h) (B+1) (xs++ [.int .i64 U,.int .i64 V,.int .i64 X,.int .i64 Y,.string Z])/\C0 (fun i=>(Value.slice vd B f).ownBlock=some i) W w8/\((Value.slice vd B f).ownBlock=some gg\/W.heap.size<=gg)/\wx=w8.setCell ⟨wb,3,none⟩ (.slice (some ⟨gg,0,none⟩) (B+1) h)/\Blk wx w1.heap.size (Ga U V X Y Z) 49/\Blk wx w2.heap.size (Ga U V X Y Z) 49)
  case first=>
    go_region_law ((refine step_append_lies _ (by rfl) _ _ _ (by rfl) 0 49 ii _ 5 48 Tryz.underlying54 b3 b7 b8 b9 rfl (by omega) (.slice vd B f) B xs (by rfl) ag.out ⟨M.heap.size,0,none⟩ 1 1 [.int .i64 U,.int .i64 V,.int .i64 X,.int .i64 Y,.string Z] (by rfl) (by rfl) (World.news_of_block (cs:=Ga U V X Y Z) (t:=49) (fr:=(0,0)) af.out) (by simp[Value.oneCell']) (Nat.one_pos) ap.out aq.out (yC _) (M.heap.size+1) a7.out ?_;intro gg h w8 a5 D ac bc;have bd:=(D.cell_far ⟨wb,3,none⟩ a8.out ax).trans CW.out;have be:=(D.frozen_far ⟨wb,3,none⟩ a8.out ax).trans FW.out))
    all_goals
      have az:=Hd3 a5 (W7 (O:=fun b=>(Value.slice vd B f).ownBlock=some b) D (fun k e=>e)) ac;clear a5 D ac;go_wp2_with fail;go_meet;obtain⟨g1,g2,g3⟩:=az.out;have aw:=a1.out.1.kept (ex:=fun _=>False) (C0.aM J.out.1) (fun e=>e);have b5:=J.out.2.1.kept g2 (fun e=>by have:=a1.out.2 _ e;have:=ab.out;omega);have b6:=J.out.2.2.kept g2 (fun e=>by have:=a1.out.2 _ e;have:=ab.out;omega);refine⟨w8,gg,h,_,J.out.1,g1,g2,?_,rfl,b5.aG (fun e=>?_) _,b6.aG (fun e=>?_) _⟩
      · rcases g3 with e|e
        · exact .inl e
        · exact .inr (by have:=a7.out;omega)
      · exact J.out.2.1.ne aw (by decide) e
      · exact J.out.2.2.ne aw (by decide) e
  case rest=>
    obtain⟨w8,gg,h,W,y1,y2,y3,y4,rfl,y5,y6⟩:=hcut;have HY:=Hd4 y1 y2 y3 y4;clear J aq ap a7 a8 af FW CW ag y1 y2 y3 y4 u0 u1 u2 u3 u4 zu k3 kf zx;obtain⟨wx,ao⟩:∃wx,w8.setCell ⟨wb,3,none⟩ (.slice (some ⟨gg,0,none⟩) (B+1) h)=wx:=⟨_,rfl⟩;rw[ao]at y5 y6⊢;have q0:=y5.cell 0;have q1:=y5.cell 1;have q2:=y5.cell 2;have q3:=y5.cell 3;have q4:=y5.cell 4;have u0:=y6.cell 0;have u1:=y6.cell 1;have u2:=y6.cell 2;have u3:=y6.cell 3;have u4:=y6.cell 4;have b2:=Hd ao;clear y5 y6 ao;go_wp2_with fail;refine(Jc 0 _).mono ?_;rintro e1 w5 ⟨rfl,rfl⟩;go_wp2_with fail;refine(Jc 0 _).mono ?_;rintro e1 w6 ⟨rfl,rfl⟩;go_wp2_with fail;go_ret;obtain⟨y1,y2,y3,y4⟩:=HY.out;rw[<-b2.out];exact⟨rfl,HQ.out W w8 gg h y1 y2 y3 y4⟩
theorem DE{N:Nat}(wb n M c k:Nat)(pv qv sv vv kv:Value)(J:List (Nat×Nat))(VS:List D3)(KS:List (Value×Nat))(o:ScT)(w:World)(h:WI N w wb pv qv sv vv n kv J VS KS M c)(hk:k<J.length)(hc:c<=900000)(ho:o.bD=4)(a3:M+o.size<=3000000):
  Calls Tryz.prog 35 #[.pointer (some ⟨wb,0,none⟩),.agg #[.pointer (some ⟨J[k].1,0,none⟩),.pointer (some ⟨J[k].2,0,none⟩)],scV o] w fun e w'=>e=.returned (.bool true)/\KN N w w'/\∃n' vv' U K G,WI N w' wb pv qv sv vv' n' U J K G (M+o.size) (c+1):=by
 obtain⟨⟨a,b⟩,a1⟩:∃p,J[k]=p:=⟨_,rfl⟩;have Z:=h.aV _ (zG hk);rw[a1]at Z⊢;obtain⟨xb,yb,kd,g,TX,x,r,W,aK,aS,f⟩:=Z;simp only at f;obtain⟨ok,ol,ot,os,oa,oe,V,X,ov⟩:=o;simp only at ho;subst ho;obtain⟨R,hR⟩:=f.lx.R;have a6:=h.n3;have a7:=f.sz;have a4:=h.lo.b;have a5:=h.aO.lt;cases aS with
 |true=>
  refine(VV wb a b 0 0 0 0 ⟨#[]⟩ 6 (by decide) ol ot oa oe V X os ov w (Hd fun B q=>CF a xb x B (Blk.aA f.bA q)) (Hd fun B q=>Iv b yb r W aK B (Blk.aA f.gA q))).mono ?_;rintro e w' ⟨rfl,hb⟩;exact⟨rfl,KN.aA hb,_,_,_,_,_,(h.aA hb).mono (by omega) (by omega)⟩
 |false=>
  have D:=(f.kD rfl).dI hR f.lx.gO f.bd;obtain⟨_,vd,a0,a2,_⟩:=L0 h.vs;subst a2;refine(ZR w x.bA x.en x.aB x.aZ x.tail wb a b VS.length a0 vd (Jj VS) pv qv sv (.int .i64 n) kv (by omega) (fun w'=>KN N w w'/\∃n' vv' U K G,WI N w' wb pv qv sv vv' n' U J K G (M+ScT.size ⟨4,ol,ot,os,oa,oe,V,X,ov⟩) (c+1)) (fun B q=>⟨(h.aA q).aO,(h.aA q).vs⟩) ?_ ol ot oa oe V X os ov
   (Hd fun B q=>YR a xb x B (Blk.aA f.bA q)) (Hd fun B q=>UI b yb kd g TX r W aK x B (Blk.aA f.gA q) (f.lx.iV.bH (Kt.aA q)) (O6 hR) (by omega) f.e f.l (f.kD rfl)))
  intro B w8 gg Y y1 y2 y3 y4;obtain⟨q1,q2⟩:=(h.aA y1).iL D (vv':=.slice (some ⟨gg,0,none⟩) (VS.length+1) Y) (w8:=w8) (by unfold CK;rw[Kr,zL];exact y2) y3 (fun i hi=>by
   cases(zE hi:gg=i);rcases y4 with e|e
   ·exact h.lo.v _ e
   ·have:=y1.size;omega)
  exact⟨(KN.aA y1).trans q1,_,_,_,_,_,q2.mono (by omega) (zD _)⟩
def RsA(xb:Nat)(kd:Nat->Nat)(g:B0)(a e r s:Int)(t:ByteArray)(N:Nat)(w':World)(va h:Value):Prop:=
 ((V3 kd g).aW=false/\va=.pointer none/\h=.int .i64 4)\/
 ((V3 kd g).aW=true/\¬SvP kd g a e r s t/\va=.pointer none/\h=.int .i64 7)\/
 ((V3 kd g).aW=true/\SvP kd g a e r s t/\∃f,va=.pointer (some ⟨f,0,none⟩)/\h=.int .i64 0/\Blk w' f (NJ xb a e r s t) 197/\N<=f)
def RsB(J:Nat)(kd:Nat->Nat)(g:B0)(f:List ByteArray)(a e r s:Int)(t:ByteArray)(N:Nat)(w':World)(va B:Value):Prop:=
 ((V3 kd g).aW=false/\va=.pointer none/\B=.int .i64 4)\/
 ((V3 kd g).aW=true/\¬SvP kd g a e r s t/\va=.pointer none/\B=.int .i64 7)\/
 ((V3 kd g).aW=true/\SvP kd g a e r s t/\∃(h D G st:Nat) (K:st<f.length),a=(D:Int)/\e=(G:Int)/\s=(st:Int)/\va=.pointer (some ⟨h,0,none⟩)/\B=.int .i64 0/\I7 w' h J ⟨D,G,f[st].size⟩ (f[st]++t) 0 false/\N<=h)
theorem RT.a{J:Nat}{kd:Nat->Nat}{g:B0}{a e r s:Int}{t:ByteArray}{w w':World}{z:Ending}(h:RT J kd g a e r s t w z w'):∃va K,z=.returned (.tuple #[va,K])/\RsA J kd g a e r s t w.heap.size w' va K/\Bw w w':=by
 obtain⟨G,⟨f,B⟩|⟨f,B,D⟩|⟨f,B,V,D,M,U⟩⟩:=h
 ·exact⟨_,_,B,.inl ⟨f,rfl,rfl⟩,G⟩
 ·exact⟨_,_,D,.inr (.inl ⟨f,B,rfl,rfl⟩),G⟩
 ·exact⟨_,_,D,.inr (.inr ⟨f,B,V,rfl,rfl,M,U⟩),G⟩
theorem UF.b{M:Nat}{kd:Nat->Nat}{g:B0}{J:List ByteArray}{a e r s:Int}{t:ByteArray}{w w':World}{z:Ending}(h:UF M kd g J a e r s t w z w'):∃va K,z=.returned (.tuple #[va,K])/\RsB M kd g J a e r s t w.heap.size w' va K/\Bw w w':=by
 obtain⟨G,⟨f,B⟩|⟨f,B,D⟩|⟨f,B,tb,xa,xe,st,Z,D,U,V,W,X,Y⟩⟩:=h
 ·exact⟨_,_,B,.inl ⟨f,rfl,rfl⟩,G⟩
 ·exact⟨_,_,D,.inr (.inl ⟨f,B,rfl,rfl⟩),G⟩
 ·exact⟨_,_,W,.inr (.inr ⟨f,B,tb,xa,xe,st,Z,D,U,V,rfl,rfl,X,Y⟩),G⟩
theorem P8{w:World}{b:Nat}{h B D G J:Value}{p:Addr}(f:p.block≠b):(((((w.setCell ⟨b,0,none⟩ h).setCell ⟨b,1,none⟩ B).setCell ⟨b,2,none⟩ D).setCell ⟨b,3,none⟩ G).setCell ⟨b,4,none⟩ J).cell? p=w.cell? p:=by
 refine World.cell?_of_block ?_;rw[Below.heap_setCell _ _ _ _ f,Below.heap_setCell _ _ _ _ f,Below.heap_setCell _ _ _ _ f,Below.heap_setCell _ _ _ _ f,Below.heap_setCell _ _ _ _ f]
theorem Js{N:Nat}(wb pb xb yb n M c:Nat)(kd:Nat->Nat)(g:B0)(TX:List ByteArray)(pv qv sv vv kv:Value)(SS:List (Nat×Nat))(X:List D3)(KS:List (Value×Nat))(o:ScT)(w:World)(h:WI N w wb pv qv sv vv n kv SS X KS M c)(hp:Blk w pb #[.pointer (some ⟨xb,0,none⟩),.pointer (some ⟨yb,0,none⟩)] 33)(hx:LxP w xb yb kd g TX)(hc:c<=1000000)(hk:o.bD=5\/o.bD=6)(ho:o.ok)(hM:122<=M)(b9:M+o.size<=3000000):
  Calls Tryz.prog 37 #[.pointer (some ⟨wb,0,none⟩),.pointer (some ⟨pb,0,none⟩),scV o] w fun e w'=>e=.returned (.bool true)/\KN N w w'/\∃sv' ay,WI N w' wb pv qv sv' vv n kv ay X KS (M+o.size) (c+1):=by
 obtain⟨R,hR⟩:=hx.R;have au:Hid (∀W a e r s t,Bw w W->I64 a->I64 e->t.size<=4000000->Calls Tryz.prog 76 #[.pointer (some ⟨xb,0,none⟩),Nh a e r s t] W fun z w'=>∃va ve,z=.returned (.tuple #[va,ve])/\RsA xb kd g a e r s t W.heap.size w' va ve/\Bw W w'):=Hd fun W a e r s t k h1 h2 h3=>(VI xb kd g a e r s t W (hx.gH.aA k) hx.gO h1 h2 h3).mono fun _ _=>RT.a
 have ar:Hid (∀W a e r s t,Bw w W->I64 a->I64 e->t.size<=4000000->Calls Tryz.prog 77 #[.pointer (some ⟨yb,0,none⟩),Nh a e r s t] W fun z w'=>∃va ve,z=.returned (.tuple #[va,ve])/\RsB yb kd g TX a e r s t W.heap.size w' va ve/\Bw W w'):=Hd fun W a e r s t k h1 h2 h3=>(Wz yb kd g TX a e r s t W (hx.iV.aA k) hR hx.gO (O6 hR) hx.txt.dH h1 h2 h3).mono fun _ _=>UF.b
 have HW:=Hd4 h hp hx hR;obtain⟨_,vd,a1,bn,a6⟩:=L0 h.vs;subst bn;have c3:w.cell? ⟨wb,3,none⟩=some (.slice vd X.length a1):=h.aO.cell 3;have zb:=h.aO.lt;have bq:=h.n3;have aw:Hid (∀k,k<X.length->∃(f:Nat) (x:D3),vd=some ⟨f,0,none⟩/\x.tail.size<=61/\w.cell? ⟨f,k*5,none⟩=some (.int .i64 (x.bA:Int))/\w.cell? ⟨f,k*5+1,none⟩=some (.int .i64 (x.en:Int))/\w.cell? ⟨f,k*5+2,none⟩=some (.int .i64 x.aB)/\w.cell? ⟨f,k*5+3,none⟩=some (.int .i64 x.aZ)/\w.cell? ⟨f,k*5+4,none⟩=some (.string x.tail)/\f<w.heap.size):=Hd fun k hk=>by
  rcases a6 with⟨_,h0⟩|⟨f,cur,rfl,hB,_⟩
  ·omega
  ·obtain⟨g0,g1,g2,g3,g4⟩:=PC X k hk;exact⟨f,X[k],rfl,h.dI _ (zG hk),(Y0 h.vs (k*5) (by omega)).trans g0,(Y0 h.vs (k*5+1) (by omega)).trans g1,(Y0 h.vs (k*5+2) (by omega)).trans g2,(Y0 h.vs (k*5+3) (by omega)).trans g3,(Y0 h.vs (k*5+4) (by omega)).trans g4,hB.lt⟩
 have zp:=hp.lt;clear h hx hR a6 hp;have am:=ho.t;have a8:=Hd2 ho.a ho.e;obtain⟨ok,ol,ot,os,oa,oe,K,U,Y⟩:=o;simp only at hk am a8;have bp:M+(os.size+Y.size)<=3000000:=b9;have bg:ScT.size ⟨ok,ol,ot,os,oa,oe,K,U,Y⟩=os.size+Y.size:=rfl;rw[bg];have af:Hid (∀W,0<X.length->Calls Tryz.prog 36 #[.int .i64 ot,.int .i64 (X.length:Int)] W fun z w'=>z=.returned (.int .i64 (Vq ot X.length:Int))/\w'=W):=Hd fun W h0=>II ot X.length W am h0 (by omega)
 have av:Hid (∀W (x:D3),x.tail.size<=61->Calls Tryz.prog 75 #[Jr x,Nh oa oe K U Y,.string os] W fun z w'=>Bw W w'/\∃a' e' r' s',I64 a'/\I64 e'/\z=.returned (Nh a' e' r' s' (x.tail++Y++os))):=Hd fun W x hx=>EN x oa oe K U Y os W (by omega)
 clear ho am b9 bg;have k1:(ok==1)=false:=by rcases hk with rfl|rfl <;>rfl
 go_enter Tryz.func37,Tryz.ntmps37;go_upto_if 45 with fail;clear k1
 go_cut[11] (fun vp wx=>∃vb a e r s t,vp=.pointer (some ⟨vb,0,none⟩)/\Blk wx vb (Ga a e r s t) 49/\I64 a/\I64 e/\t.size<=61+(os.size+Y.size)/\Bw w wx)
 case first=>
  rcases hk with rfl|rfl
  ·by_cases h0:X.length=0
   ·have e0:((X.length:Int)==0)=true:=by rw[beq_iff_eq];omega
    go_wp2_with fail;go_ret;exact⟨rfl,KN.aA (Z5 _ _ _),_,_,(HW.out.1.aA (Z5 _ _ _)).mono (by omega) (by omega)⟩
   ·have e0:((X.length:Int)==0)=false:=by rw[beq_eq_false_iff_ne];omega
    have ad:0<X.length:=by omega
    obtain⟨J,ak⟩:∃J,Vq ot X.length=J:=⟨_,rfl⟩;have bl:J<X.length:=by rw[<-ak];exact OO _ ad
    rw[ak]at af;clear ak;obtain⟨f,x,rfl,ae,v0,v1,v2,v3,v4,a4⟩:=aw.out J bl;obtain⟨xa,xe,xr,xs,xt⟩:=x;simp only at ae v0 v1 v2 v3 v4;have i0:(0:Int)<=(J:Int):=by omega
    have i1:(J:Int)<(X.length:Int):=by omega
    obtain⟨G,an⟩:∃G:World,(w.alloc (.cells (scC ⟨5,ol,ot,os,oa,oe,K,U,Y⟩) 51)).alloc (.cells (Ga oa oe K U Y) 49)=G:=⟨_,rfl⟩;have B:Hid (Blk G (w.heap.size+1) (Ga oa oe K U Y) 49/\Bw w G/\Blk G w.heap.size (scC ⟨5,ol,ot,os,oa,oe,K,U,Y⟩) 51):=by
     rw[<-an];exact Hd ⟨Blk.dX _ _ _ _,Z5 _ _ _,Blk.alloc (Blk.aQ _ _ _) _⟩
    have ax:=Hd an;clear an;go_upto_region 9 with fail;rw[ax.out];clear ax;have g3:G.cell? ⟨wb,3,none⟩=some (.slice (some ⟨f,0,none⟩) X.length a1):=(B.out.2.1.cell (p:=⟨wb,3,none⟩) zb).trans c3;have g4:G.cell? ⟨f,J*5,none⟩=some (.int .i64 xa):=(B.out.2.1.cell (p:=⟨f,J*5,none⟩) a4).trans v0;have g5:G.cell? ⟨f,J*5+1,none⟩=some (.int .i64 xe):=(B.out.2.1.cell (p:=⟨f,J*5+1,none⟩) a4).trans v1;have g6:G.cell? ⟨f,J*5+2,none⟩=some (.int .i64 xr):=(B.out.2.1.cell (p:=⟨f,J*5+2,none⟩) a4).trans v2;have g7:G.cell? ⟨f,J*5+3,none⟩=some (.int .i64 xs):=(B.out.2.1.cell (p:=⟨f,J*5+3,none⟩) a4).trans v3;have g8:G.cell? ⟨f,J*5+4,none⟩=some (.string xt):=(B.out.2.1.cell (p:=⟨f,J*5+4,none⟩) a4).trans v4;have V:G.cell? ⟨w.heap.size,2,none⟩=some (.int .i64 ot):=B.out.2.2.cell 2;have b3:G.cell? ⟨w.heap.size,3,none⟩=some (.string os):=B.out.2.2.cell 3;have b4:G.cell? ⟨w.heap.size,4,none⟩=some (.int .i64 oa):=B.out.2.2.cell 4;have b5:G.cell? ⟨w.heap.size,5,none⟩=some (.int .i64 oe):=B.out.2.2.cell 5;have b6:G.cell? ⟨w.heap.size,6,none⟩=some (.int .i64 K):=B.out.2.2.cell 6;have b7:G.cell? ⟨w.heap.size,7,none⟩=some (.int .i64 U):=B.out.2.2.cell 7;have b8:G.cell? ⟨w.heap.size,8,none⟩=some (.string Y):=B.out.2.2.cell 8;clear c3 v0 v1 v2 v3 v4;have n1:wb≠w.heap.size+1:=by omega
    have n2:f≠w.heap.size+1:=by omega
    have n3:w.heap.size≠w.heap.size+1:=by omega
    have S0:G.drew.cell? ⟨wb,3,none⟩=some (.slice (some ⟨f,0,none⟩) X.length a1)/\G.drew.cell? ⟨f,J*5,none⟩=some (.int .i64 xa)/\G.drew.cell? ⟨f,J*5+1,none⟩=some (.int .i64 xe)/\G.drew.cell? ⟨f,J*5+2,none⟩=some (.int .i64 xr)/\G.drew.cell? ⟨f,J*5+3,none⟩=some (.int .i64 xs)/\G.drew.cell? ⟨f,J*5+4,none⟩=some (.string xt)/\
     G.drew.cell? ⟨w.heap.size,2,none⟩=some (.int .i64 ot)/\G.drew.cell? ⟨w.heap.size,3,none⟩=some (.string os)/\G.drew.cell? ⟨w.heap.size,4,none⟩=some (.int .i64 oa)/\G.drew.cell? ⟨w.heap.size,5,none⟩=some (.int .i64 oe)/\G.drew.cell? ⟨w.heap.size,6,none⟩=some (.int .i64 K)/\G.drew.cell? ⟨w.heap.size,7,none⟩=some (.int .i64 U)/\G.drew.cell? ⟨w.heap.size,8,none⟩=some (.string Y):=⟨g3,g4,g5,g6,g7,g8,V,b3,b4,b5,b6,b7,b8⟩
    have bj:Hid (∀Z,Below G.drew.heap.size G.drew Z->Z.cell? ⟨wb,3,none⟩=some (.slice (some ⟨f,0,none⟩) X.length a1)/\Z.cell? ⟨f,J*5,none⟩=some (.int .i64 xa)/\Z.cell? ⟨f,J*5+1,none⟩=some (.int .i64 xe)/\Z.cell? ⟨f,J*5+2,none⟩=some (.int .i64 xr)/\Z.cell? ⟨f,J*5+3,none⟩=some (.int .i64 xs)/\Z.cell? ⟨f,J*5+4,none⟩=some (.string xt)/\Z.cell? ⟨w.heap.size,2,none⟩=some (.int .i64 ot)/\Z.cell? ⟨w.heap.size,3,none⟩=some (.string os)/\Z.cell? ⟨w.heap.size,4,none⟩=some (.int .i64 oa)/\Z.cell? ⟨w.heap.size,5,none⟩=some (.int .i64 oe)/\Z.cell? ⟨w.heap.size,6,none⟩=some (.int .i64 K)/\Z.cell? ⟨w.heap.size,7,none⟩=some (.int .i64 U)/\Z.cell? ⟨w.heap.size,8,none⟩=some (.string Y)):=Hd fun Z D=>by
     have zw:wb<G.drew.heap.size:=yG zb (Y1 B.out.2.1).size;have zv:f<G.drew.heap.size:=yG a4 (Y1 B.out.2.1).size;have zx:w.heap.size<G.drew.heap.size:=(Blk.drew B.out.2.2).lt;exact⟨(D.cell zw).trans g3,(D.cell zv).trans g4,(D.cell zv).trans g5,(D.cell zv).trans g6,(D.cell zv).trans g7,(D.cell zv).trans g8,(D.cell zx).trans V,(D.cell zx).trans b3,(D.cell zx).trans b4,(D.cell zx).trans b5,(D.cell zx).trans b6,(D.cell zx).trans b7,(D.cell zx).trans b8⟩
    go_region_held3 (fun W=>W.cell? ⟨wb,3,none⟩=some (.slice (some ⟨f,0,none⟩) X.length a1)/\W.cell? ⟨f,J*5,none⟩=some (.int .i64 xa)/\W.cell? ⟨f,J*5+1,none⟩=some (.int .i64 xe)/\W.cell? ⟨f,J*5+2,none⟩=some (.int .i64 xr)/\W.cell? ⟨f,J*5+3,none⟩=some (.int .i64 xs)/\W.cell? ⟨f,J*5+4,none⟩=some (.string xt)/\
     W.cell? ⟨w.heap.size,2,none⟩=some (.int .i64 ot)/\W.cell? ⟨w.heap.size,3,none⟩=some (.string os)/\W.cell? ⟨w.heap.size,4,none⟩=some (.int .i64 oa)/\W.cell? ⟨w.heap.size,5,none⟩=some (.int .i64 oe)/\W.cell? ⟨w.heap.size,6,none⟩=some (.int .i64 K)/\W.cell? ⟨w.heap.size,7,none⟩=some (.int .i64 U)/\W.cell? ⟨w.heap.size,8,none⟩=some (.string Y))
     (first|with_reducible exact S0|with_reducible exact S1|(exact⟨(P8 n1).trans S1.1,(P8 n2).trans S1.2.1,(P8 n2).trans S1.2.2.1,(P8 n2).trans S1.2.2.2.1,(P8 n2).trans S1.2.2.2.2.1,(P8 n2).trans S1.2.2.2.2.2.1,(P8 n3).trans S1.2.2.2.2.2.2.1,(P8 n3).trans S1.2.2.2.2.2.2.2.1,(P8 n3).trans S1.2.2.2.2.2.2.2.2.1,(P8 n3).trans S1.2.2.2.2.2.2.2.2.2.1,(P8 n3).trans S1.2.2.2.2.2.2.2.2.2.2.1,(P8 n3).trans S1.2.2.2.2.2.2.2.2.2.2.2.1,(P8 n3).trans S1.2.2.2.2.2.2.2.2.2.2.2.2⟩))
     (first
      |(go_at_call 36;with_reducible refine(af.out _ ad).mono ?_;rintro z w5 ⟨rfl,rfl⟩)
      |(go_at_call 75;with_reducible refine(av.out _ ⟨xa,xe,xr,xs,xt⟩ ae).mono ?_;rintro z Z ⟨D,a',e',r',s',a9,aa,rfl⟩;have hq:Blk Z (w.heap.size+1) (Ga oa oe K U Y) 49:=Blk.aA (Blk.drew B.out.1) D;have ab:Bw w Z:=(Y1 B.out.2.1).trans (D.mono (Y1 B.out.2.1).size);have q0:=hq.cell 0;have q1:=hq.cell 1;have q2:=hq.cell 2;have q3:=hq.cell 3;have q4:=hq.cell 4;have f0:=hq.frozen 0;have f1:=hq.frozen 1;have f2:=hq.frozen 2;have f3:=hq.frozen 3;have f4:=hq.frozen 4;have zq:=hq.lt;have S1:=bj.out Z D;have bi:=Hd4 hq ab a9 aa;clear hq ab D a9 aa))
    all_goals
     clear S0 S1 g3 g4 g5 g6 g7 g8 V b3 b4 b5 b6 b7 b8;go_wp2_with fail;go_meet;obtain⟨hq,ab,a9,aa⟩:=bi.out;refine⟨w.heap.size+1,a',e',r',s',xt++Y++os,rfl,?_,a9,aa,by rw[zR,zR];omega,((((ab.setCell (by simp) _).setCell (by simp) _).setCell (by simp) _).setCell (by simp) _).setCell (by simp) _⟩;have:=((((hq.set 0 (.int .i64 a')).set 1 (.int .i64 e')).set 2 (.int .i64 r')).set 3 (.int .i64 s')).set 4 (.string (xt++Y++os));simpa using this
  ·go_wp2_with fail;go_meet;exact⟨w.heap.size+1,oa,oe,K,U,Y,rfl,Blk.dX _ _ _ _,a8.out.1,a8.out.2,by omega,Z5 _ _ _⟩
 case rest=>
  obtain⟨wx,rfl⟩:∃wx,wx=wc:=⟨_,rfl⟩;obtain⟨vb,a,e,r,s,t,rfl,hB,az,b0,ht,hb⟩:=hcut;clear hk af av aw c3 a8;have HB:=Hd5 hB az b0 ht hb;have p0:wx.cell? ⟨pb,0,none⟩=some (.pointer (some ⟨xb,0,none⟩)):=(HW.out.2.1.aA hb).cell 0;have ap:=(HW.out.2.1.aA hb).lt;have m0:=hB.cell 0;have m1:=hB.cell 1;have m2:=hB.cell 2;have m3:=hB.cell 3;have m4:=hB.cell 4;have zv:=hB.lt;clear hB az b0 ht hb;go_upto_region 10 with fail
  go_cut[12,13] (fun va ve wy=>RsA xb kd g a e r s t wx.heap.size wy va ve/\Bw wx wy)
  case first=>
   have ag:=Hd (au.out wx.drew a e r s t (Y1 HB.out.2.2.2.2) HB.out.2.1 HB.out.2.2.1 (by have:=HB.out.2.2.2.1;omega))
   go_region_with (go_at_call 76;with_reducible refine ag.out.mono ?_;rintro z w7 ⟨va,ve,rfl,a7,a5⟩;have H7:=Hd2 a7 a5;clear a7 a5)
   all_goals
    go_wp2_with fail;go_meet;exact⟨H7.out.1,(Y1 (Below.refl _ _)).trans H7.out.2⟩
  case rest=>
   obtain⟨wy,rfl⟩:∃wy,wy=wc:=⟨_,rfl⟩;obtain⟨hA,ac⟩:=hcut;have a2:=HB.out.1.aA ac;have a3:Bw w wy:=HB.out.2.2.2.2.trans (ac.mono HB.out.2.2.2.2.size);have HA:=Hd3 hA a3 ac;clear p0 ap m0 m1 m2 m3 m4 zv au;have p1:wy.cell? ⟨pb,1,none⟩=some (.pointer (some ⟨yb,0,none⟩)):=(HW.out.2.1.aA a3).cell 1;have ap:=(HW.out.2.1.aA a3).lt;have m0:=a2.cell 0;have m1:=a2.cell 1;have m2:=a2.cell 2;have m3:=a2.cell 3;have m4:=a2.cell 4;have zv:=a2.lt;clear hA ac a2 a3;go_upto_region 11 with fail
   go_cut[14,15] (fun vb ve wz=>RsB yb kd g TX a e r s t wy.heap.size wz vb ve/\Bw wy wz)
   case first=>
    have ag:=Hd (ar.out wy.drew a e r s t (Y1 HA.out.2.1) HB.out.2.1 HB.out.2.2.1 (by have:=HB.out.2.2.2.1;omega))
    go_region_with (go_at_call 77;with_reducible refine ag.out.mono ?_;rintro z w7 ⟨va,ve,rfl,a7,a5⟩;have H7:=Hd2 a7 a5;clear a7 a5)
    all_goals
     go_wp2_with fail;go_meet;exact⟨H7.out.1,(Y1 (Below.refl _ _)).trans H7.out.2⟩
   case rest=>
    obtain⟨wz,rfl⟩:∃wz,wz=wc:=⟨_,rfl⟩;obtain⟨ah,ai⟩:=hcut;clear p1 ap m0 m1 m2 m3 m4 zv ar;have a3:Bw w wz:=HA.out.2.1.trans (ai.mono HA.out.2.1.size);have a0:=Hd2 a3 ai;have bk:=HA.out.1;clear a3 ai;rcases bk with⟨b1,rfl,rfl⟩|⟨b1,n1,rfl,rfl⟩|⟨b1,v1,tb,rfl,rfl,hS,bm⟩
    ·rcases ah with⟨V,rfl,rfl⟩|⟨V,_⟩|⟨V,_⟩
     ·clear b1 V;go_wp2_with fail;refine(Hl wb 4 wz).mono ?_;rintro z w3 ⟨rfl,rfl⟩;go_wp2_with fail;go_ret;exact⟨rfl,KN.aA a0.out.1,_,_,(HW.out.1.aA a0.out.1).mono (by omega) (by omega)⟩
     ·rw[b1]at V;cases V
     ·rw[b1]at V;cases V
    ·rcases ah with⟨V,_⟩|⟨V,n2,rfl,rfl⟩|⟨V,v2,_⟩
     ·rw[b1]at V;cases V
     ·clear b1 V n1 n2;go_wp2_with fail;refine(Hl wb 7 wz).mono ?_;rintro z w3 ⟨rfl,rfl⟩;go_wp2_with fail;go_ret;exact⟨rfl,KN.aA a0.out.1,_,_,(HW.out.1.aA a0.out.1).mono (by omega) (by omega)⟩
     ·exact absurd v2 n1
    ·rcases ah with⟨V,_⟩|⟨V,n2,_⟩|⟨V,v2,ao,xa,xe,st,hs,rfl,rfl,rfl,rfl,rfl,ba,bh⟩
     ·rw[b1]at V;cases V
     ·exact absurd v1 n2
     ·have hw:=HW.out.1;have hx:=HW.out.2.2.1;have be:=hx.txt.dH st hs;have ht:=HB.out.2.2.2.1;have bd:=v1.iX;unfold Bl at bd;have bo:(TX[st]++t).size=TX[st].size+t.size:=zR;have bf:Kh wz tb ao (M+(os.size+Y.size)):=⟨xb,yb,kd,g,TX,⟨xa,xe,r,(st:Int),t⟩,⟨xa,xe,TX[st].size⟩,TX[st]++t,0,false,Blk.aA hS a0.out.2,ba,hx.bH (Kt.aA a0.out.1),fun _=>SvP.jP HW.out.2.2.2 hx.gO hx.txt v1 hs,b1,by omega,by show xe<=_;omega,be,by show xe+((TX[st]++t).size-TX[st].size)<=_;omega⟩;have aj:=hw.fresh;have z1:=HB.out.2.2.2.2.size;have z2:=HA.out.2.1.size;have z3:=hw.lo.b;have z4:=hw.aO.lt;have aq:=Hd (NG wb n (M+(os.size+Y.size)) c tb ao pv qv sv _ kv SS X KS wz ((hw.aA a0.out.1).mono (by omega) (zD _)) bf (aj.1 tb (by omega)) (aj.2 ao (by omega)) hc (by omega) (by omega));clear bf aj z1 z2 z3 z4 hw hx be ht bd bo b1 V v1 v2 hS ba bm bh HA HB;go_wp2_with fail;refine aq.out.mono ?_;rintro z w3 ⟨rfl,bc,sv',ay,bb⟩;have H3:=Hd2 bc bb;clear bc bb aq;go_wp2_with fail;go_ret;exact⟨rfl,(KN.aA a0.out.1).trans H3.out.1,_,_,H3.out.2⟩
def LN(N wb:Nat)(J K:Value)(M c:Nat)(w:World)(e:Ending)(w':World):Prop:=
 e=.returned (.bool true)/\KN N w w'/\∃sv' vv' G D h B f,WI N w' wb J K sv' vv' G D h B f M (c+1)
theorem RU{N:Nat}(wb n M c k:Nat)(X Y sv vv kv:Value)(f:List (Nat×Nat))(VS:List D3)(Z:List (Value×Nat))(o:ScT)(w:World)(h:WI N w wb X Y sv vv n kv f VS Z M c)(hk:k<f.length)(hc:c<=900000)(D:o.bD=2\/o.bD=3\/o.bD=4)(B:M+o.size<=3000000):
  Calls Tryz.prog 35 #[.pointer (some ⟨wb,0,none⟩),.agg #[.pointer (some ⟨f[k].1,0,none⟩),.pointer (some ⟨f[k].2,0,none⟩)],scV o] w (LN N wb X Y (M+o.size) c w):=by
 rcases D with D|D|D
 ·exact(CE wb n M c k X Y sv vv kv f VS Z o w h hk hc D B).mono fun e w' ⟨K,U,n',vv',W,J,G,V⟩=>⟨K,U,_,_,_,_,_,_,_,V⟩
 ·exact(Rz wb n M c k X Y sv vv kv f VS Z o w h hk hc D B).mono fun e w' ⟨K,U,n',vv',W,J,G,V⟩=>⟨K,U,_,_,_,_,_,_,_,V⟩
 ·exact(DE wb n M c k X Y sv vv kv f VS Z o w h hk hc D B).mono fun e w' ⟨K,U,n',vv',W,J,G,V⟩=>⟨K,U,_,_,_,_,_,_,_,V⟩
theorem RK{N:Nat}(wb B xb J n M c:Nat)(kd:Nat->Nat)(g:B0)(W:List ByteArray)(D G sv vv kv:Value)(U:List (Nat×Nat))(X:List D3)(K:List (Value×Nat))(o:ScT)(w:World)(h:WI N w wb D G sv vv n kv U X K M c)(hp:Blk w B #[.pointer (some ⟨xb,0,none⟩),.pointer (some ⟨J,0,none⟩)] 33)(hx:LxP w xb J kd g W)(hc:c<=900000)(f:o.bD=1\/o.bD=5\/o.bD=6)(ho:o.ok)(hM:122<=M)(a0:M+o.size<=3000000):
  Calls Tryz.prog 37 #[.pointer (some ⟨wb,0,none⟩),.pointer (some ⟨B,0,none⟩),scV o] w (LN N wb D G (M+o.size) c w):=by
 rcases f with f|f
 ·exact(Pw wb B xb J n M c kd g W D G sv vv kv U X K o w h hp hx (by omega) f).mono fun e w' ⟨Y,Z,sv',V,h3⟩=>⟨Y,Z,_,_,_,_,_,_,_,h3.mono (by omega) (zD _)⟩
 ·exact(Js wb B xb J n M c kd g W D G sv vv kv U X K o w h hp hx (by omega) f ho hM a0).mono fun e w' ⟨Y,Z,sv',V,h3⟩=>⟨Y,Z,_,_,_,_,_,_,_,h3⟩
def OA(J:Int):Prop:=∀(N wb n M c:Nat) (f h U V K:Value) (D:List (Nat×Nat)) (G:List D3) (B:List (Value×Nat)) (o:ScT) (w:World),WI N w wb f h U V n K D G B M c->c<=900000->o.ok->1<=o.bD->o.bD<=J->122<=M->M+o.size<=3000000->
  Calls Tryz.prog 18 #[.pointer (some ⟨wb,0,none⟩),scV o] w (LN N wb f h (M+o.size) c w)
theorem SB(s:ByteArray)(J:s.size<=maxLen)(w:World):Calls Tryz.prog 6 #[.string s] w fun e w'=>Bw w w'/\∃v:Option Addr,e=.returned (.tuple #[.pointer v,.bool true])/\Kp w' (.pointer v):=
 (YU s J w).mono fun e w' ⟨D,f⟩=>by
  refine⟨D,?_⟩;cases hX:newF s with
  |bad c a=>rw[hX]at f;exact⟨_,f,.inl rfl⟩
  |lexer kd g=>
   rw[hX]at f;obtain⟨K,xb,M,B,G,h⟩:=f;exact⟨_,G,.inr ⟨K,xb,M,kd,g,B,rfl,h.aO,h.gH,h.iV,h.txt,DV hX,Cy hX⟩⟩
theorem WI.start{w:World}{wb:Nat}{h B:Value}{N:Nat}(G:Blk w wb (Gp h B (.slice none 0 0) (.slice none 0 0) 0 (.slice none 0 0)) 57)(J:Kp w h)(K:Kp w B)(D:N<=wb)(M:Nat):WI N w wb h B (.slice none 0 0) (.slice none 0 0) 0 (.slice none 0 0) [] [] [] M 0:=
 ⟨G,J,K,World.ownsRow_nil _ _ _ _,fun s f=>by simp at f,by simp,by simp,World.ownsRow_nil _ _ _ _,fun s f=>by simp at f,World.ownsRow_nil _ _ _ _,fun s f=>by simp at f,by simp,by simp,by simp,by simp,D,fun b e=>(by cases e),fun b e=>(by cases e),fun b e=>(by cases e),fun s f=>by simp at f⟩
theorem C0.toBelow{w w':World}(h:C0 (fun i=>w.heap.size<=i) w w'):Bw w w':=⟨h.os,h.tape,h.output,h.size,fun k f=>h.block k f (by omega)⟩
theorem FC(hi:Int)(hs:OA hi)(f:List ScT)(v:Value)(s0 s1:ByteArray)(w:World)(h:Ot w v f)(m0:s0.size<=maxLen)(m1:s1.size<=maxLen):
  Calls Tryz.prog 9 #[.string s0,.string s1,v,.int .i64 1,.int .i64 hi] w fun e w'=>e=.returned (.bool true)/\Bw w w':=by
 obtain⟨⟨ad,b4,rfl,an⟩,ak,b1,aq⟩:=h;have a9:=Hd (fun W=>SB s0 m0 W);have aa:=Hd (fun W=>SB s1 m1 W);clear m0 m1;have HS:=Hd hs;have ab:=Hd2 ak aq;clear hs ak aq;go_enter Tryz.func9,Tryz.ntmps9;go_wp2_with fail;refine(a9.out _).mono ?_;rintro e w1 ⟨a0,pa,rfl,hp⟩;have ae:Bw w w1:=(P0 _ _).trans (a0.mono (by simp));have bw:Blk w1 w.heap.size (Gp (.pointer none) (.pointer none) (.slice none 0 0) (.slice none 0 0) 0 (.slice none 0 0)) 57:=(Blk.aQ _ _ _).aA a0;have H1:=Hd3 ae bw hp;clear a0 ae bw hp a9;go_wp2_with fail;refine(aa.out _).mono ?_;rintro e w2 ⟨V,qa,rfl,hq⟩;have af:Bw w w2:=H1.out.1.trans (V.mono H1.out.1.size);have B:=H1.out.2.1.aA V;have am:=H1.out.2.2.bH (Kt.aA V);have c0:=B.cell 0;have c1:=B.cell 1;have f0:=B.frozen 0;have f1:=B.frozen 1;have zw:=B.lt;have ai:C0 (fun i=>w.heap.size<=i) w ((w2.setCell ⟨w.heap.size,0,none⟩ (.pointer pa)).setCell ⟨w.heap.size,1,none⟩ (.pointer qa)):=C0.setCell (ex:=fun i=>w.heap.size<=i) (p:=⟨w.heap.size,1,none⟩) (C0.setCell (p:=⟨w.heap.size,0,none⟩) (C0.aM af) (fun e=>zD _) _) (fun e=>zD _) _;have a5:Cg w2 ((w2.setCell ⟨w.heap.size,0,none⟩ (.pointer pa)).setCell ⟨w.heap.size,1,none⟩ (.pointer qa)):=Kt.of (C0.setCell (ex:=fun i=>i=w.heap.size) (p:=⟨w.heap.size,1,none⟩) (C0.setCell (ex:=fun i=>i=w.heap.size) (p:=⟨w.heap.size,0,none⟩) (C0.refl _ _) (fun _=>rfl) _) (fun _=>rfl) _) (fun i _ e=>by subst e;exact⟨_,_,B,by decide⟩);have ag:WI w.heap.size ((w2.setCell ⟨w.heap.size,0,none⟩ (.pointer pa)).setCell ⟨w.heap.size,1,none⟩ (.pointer qa)) w.heap.size (.pointer pa) (.pointer qa) (.slice none 0 0) (.slice none 0 0) 0 (.slice none 0 0) [] [] [] 122 0:=WI.start ((B.set 0 (.pointer pa)).set 1 (.pointer qa)) (am.bH a5) (hq.bH a5) (zD _) 122;have H3:=Hd2 ai ag;clear V af B am hq ai a5 ag H1 aa;go_wp2_with fail
 go_loopg[13,15] f.length (fun G ay iv wr=>∃i:Nat,ay=.bool true/\iv=.int .i64 i/\i<=f.length/\G=f.length-i/\C0 (fun i=>w.heap.size<=i) w wr/\∃sv vv n kv SS VS KS,WI w.heap.size wr w.heap.size (.pointer pa) (.pointer qa) sv vv n kv SS VS KS (122+Lc (f.take i)) i)
 case atStart=>exact⟨0,rfl,rfl,yC _,rfl,H3.out.1,_,_,_,_,_,_,_,H3.out.2⟩
 case round=>
  obtain⟨i,rfl,rfl,b5,rfl,Y,sv,vv,n,kv,SS,VS,KS,K⟩:=hrel
  by_cases a2:i<f.length
  ·have e1:decide ((i:Int)<(f.length:Int))=true:=by simp;omega
   rcases an with h9|⟨xb,ax,rfl,ar,a1⟩
   ·omega
   have i0:(0:Int)<=(i:Int):=by omega
   have i1:(i:Int)<(f.length:Int):=by omega
   have J:WT wr xb (ax+i*9) f[i]:=(a1 i a2).kept (fun p hp=>Y.cell (by rw[hp];exact ar) (by rw[hp];omega));obtain⟨o,U⟩:∃o,f[i]=o:=⟨_,rfl⟩;rw[U]at J;have a4:=VM a2;rw[U]at a4;have ap:=DA f (i+1);have a3:o.ok:=by rw[<-U];exact ab.out.1 _ (zG a2)
   have ao:=ab.out.2;have d0:=J.c0;have d1:=J.c1;have d2:=J.c2;have d3:=J.c3;have d4:=J.c4;have d5:=J.c5;have d6:=J.c6;have d7:=J.c7;have d8:=J.c8;have b6:xb<wr.heap.size:=yG ar Y.size;have au:Hid (122+Lc (f.take (i+1))=122+Lc (f.take i)+o.size):=Hd (by omega);have a7:Hid (122+Lc (f.take i)<=122+Lc (f.take (i+1))):=Hd (by omega)
   by_cases M:1<=o.bD/\o.bD<=hi
   ·have e2:decide (o.bD<1)=false:=by simp;omega
    have e3:decide (hi<o.bD)=false:=by simp;omega
    have ac:=Hd (HS.out w.heap.size w.heap.size n (122+Lc (f.take i)) i (.pointer pa) (.pointer qa) sv vv kv SS VS KS o wr K (by omega) a3 M.1 M.2 (by omega) (by omega));have X:=Hd Y;clear Y K a4 ap ao M a3 J U;go_wp2_with fail;refine ac.out.mono ?_;rintro e w5 ⟨rfl,aj,az,b0,n5,aw,b2,b3,av,D⟩;have a8:=Hd (FN w.heap.size n5 (.pointer pa) (.pointer qa) az b0 aw av w5 D.aO D.ks D.cH (by have:=D.n4;omega));have H5:=Hd2 aj D;clear aj D ac d0 d1 d2 d3 d4 d5 d6 d7 d8;go_wp2_with fail;refine a8.out.mono ?_;rintro e w6 ⟨rfl,ah⟩;have a6:=Hd ah;clear ah a8;go_wp2_with fail
    go_roundg (f.length- (i+1))
    case measure=>omega
    case rel=>
     have h9:=H5.out.2.aA a6.out;rw[<-au.out]at h9;exact⟨i+1,rfl,by go_num,by omega,rfl,(X.out.trans' H5.out.1.n).aA a6.out,_,_,_,_,_,_,_,h9⟩
   ·have X:=Hd2 Y K;clear Y K a4 ap ao a3 J U HS
    by_cases Z:o.bD<1
    ·have e2:decide (o.bD<1)=true:=by simp;omega
     clear M Z;go_wp2_with fail
     go_roundg (f.length- (i+1))
     case measure=>omega
     case rel=>exact⟨i+1,rfl,by go_num,by omega,rfl,X.out.1,_,_,_,_,_,_,_,X.out.2.mono a7.out (by omega)⟩
    ·have e2:decide (o.bD<1)=false:=by simp;omega
     have e3:decide (hi<o.bD)=true:=by simp;omega
     clear M Z;go_wp2_with fail
     go_roundg (f.length- (i+1))
     case measure=>omega
     case rel=>exact⟨i+1,rfl,by go_num,by omega,rfl,X.out.1,_,_,_,_,_,_,_,X.out.2.mono a7.out (by omega)⟩
  ·have e1:decide ((i:Int)<(f.length:Int))=false:=by simp;omega
   have X:=Hd Y;clear K Y H3;go_wp2_with fail;go_ret;exact⟨rfl,X.out.toBelow⟩
theorem OA.le{a b:Int}(h:OA b)(U:a<=b):OA a:=fun N wb n M c Y Z sv vv X D G B o w q V W J h6 K f=>h N wb n M c Y Z sv vv X D G B o w q V W J (by omega) K f
def opS(k l t:Int)(s:ByteArray):ScT:=⟨k,l,t,s,0,0,0,0,⟨#[]⟩⟩
def LO:List ScT:=[opS 1 0 0 ⟨#[]⟩,opS 1 1 0 ⟨#[]⟩,opS 2 0 0 ⟨#[97,98]⟩,opS 4 0 0 ⟨#[]⟩,opS 2 0 0 ⟨#[97]⟩,opS 5 0 0 ⟨#[]⟩,opS 3 0 0 ⟨#[]⟩,opS 3 0 1 ⟨#[]⟩]
abbrev KY:Array Value:=#[.int .i64 1,.int .i64 0,.int .i64 0,.string ⟨#[]⟩,.int .i64 0,.int .i64 0,.int .i64 0,.int .i64 0,.string ⟨#[]⟩,.int .i64 1,.int .i64 1,.int .i64 0,.string ⟨#[]⟩,.int .i64 0,.int .i64 0,.int .i64 0,.int .i64 0,.string ⟨#[]⟩,.int .i64 2,.int .i64 0,.int .i64 0,.string ⟨#[97,98]⟩,.int .i64 0,.int .i64 0,.int .i64 0,.int .i64 0,.string ⟨#[]⟩,.int .i64 4,.int .i64 0,.int .i64 0,.string ⟨#[]⟩,.int .i64 0,.int .i64 0,.int .i64 0,.int .i64 0,.string ⟨#[]⟩,.int .i64 2,.int .i64 0,.int .i64 0,.string ⟨#[97]⟩,.int .i64 0,.int .i64 0,.int .i64 0,.int .i64 0,.string ⟨#[]⟩,.int .i64 5,.int .i64 0,.int .i64 0,.string ⟨#[]⟩,.int .i64 0,.int .i64 0,.int .i64 0,.int .i64 0,.string ⟨#[]⟩,.int .i64 3,.int .i64 0,.int .i64 0,.string ⟨#[]⟩,.int .i64 0,.int .i64 0,.int .i64 0,.int .i64 0,.string ⟨#[]⟩,.int .i64 3,.int .i64 0,.int .i64 1,.string ⟨#[]⟩,.int .i64 0,.int .i64 0,.int .i64 0,.int .i64 0,.string ⟨#[]⟩]
theorem PX{W:World}{b:Nat}(h:Blk W b KY 51):Ot W (.slice (some ⟨b,0,none⟩) 8 8) LO:=by
 refine⟨⟨some ⟨b,0,none⟩,8,rfl,.inr ⟨b,0,rfl,h.lt,fun j B=>?_⟩⟩,fun o f=>?_,by decide,by decide⟩
 ·have D:j<8:=B;obtain rfl|rfl|rfl|rfl|rfl|rfl|rfl|rfl:j=0\/j=1\/j=2\/j=3\/j=4\/j=5\/j=6\/j=7:=by omega
  all_goals exact⟨h.cell _,h.cell _,h.cell _,h.cell _,h.cell _,h.cell _,h.cell _,h.cell _,h.cell _⟩
 ·unfold LO at f;simp only[zU,List.not_mem_nil,or_false]at f;rcases f with rfl|rfl|rfl|rfl|rfl|rfl|rfl|rfl
  all_goals exact⟨⟨by decide,by decide⟩,⟨by decide,by decide⟩,⟨by decide,by decide⟩,⟨by decide,by decide⟩⟩
theorem FR(U:OA 5)(w:World):Calls Tryz.prog 8 #[] w fun e w'=>e=.returned (.bool true)/\Bw w w':=by
 have K:=Hd (NQ w);have M:=Hd (fun(W:World) (v:Value) (h:Ot W v LO)=>FC 5 U LO v ⟨#[97,124,97,98,99]⟩ ⟨#[97,124,97,42,98]⟩ W h (by decide) (by decide));clear U;go_enter Tryz.func8,Tryz.ntmps8
 go_wp2_with fail;refine K.out.mono ?_;rintro e V ⟨rfl,D⟩;have f:=Hd D;clear D K;have B:=Hd (M.out (V.alloc (.cells KY 51)) _ (PX (Blk.aQ _ _ _)));clear M;go_wp2_with fail;refine B.out.mono ?_;rintro e X ⟨rfl,G⟩;have J:=Hd ((f.out.alloc f.out.size _).trans (G.mono (f.out.alloc f.out.size _).size));clear G B;go_wp2_with fail;go_ret;exact⟨rfl,J.out⟩
theorem BZ(Q:World->Prop)(wb M U:Nat)(sd:Option Addr)(pv qv y3 y4 y5:Value)(o:ScT)(w:World)(hn:M<=1000000)
   (hb:Blk w wb #[pv,qv,.slice sd M U,y3,y4,y5] 57)
   (hk:1<=o.bD) (aa:o.bD<=6)
   (K:∀W,0<M->∃Y,Y<M/\∃Z a b,sd=some ⟨Z,0,none⟩/\Z<w.heap.size/\w.cell? ⟨Z,Y*2,none⟩=some (.pointer (some ⟨a,0,none⟩))/\w.cell? ⟨Z,Y*2+1,none⟩=some (.pointer (some ⟨b,0,none⟩))/\(Calls Tryz.prog 36 #[.int .i64 o.t,.int .i64 (M:Int)] W fun z w'=>z=.returned (.int .i64 (Y:Int))/\w'=W)/\
     (o.bD=2\/o.bD=3\/o.bD=4->Bw w W->Calls Tryz.prog 35 #[.pointer (some ⟨wb,0,none⟩),.agg #[.pointer (some ⟨a,0,none⟩),.pointer (some ⟨b,0,none⟩)],scV o] W fun e w'=>e=.returned (.bool true)/\Q w'))
   (a2:∀W,Bw w W->Q W)
   (a0:∀p W,p=pv\/p=qv->o.bD=1\/o.bD=5\/o.bD=6->Bw w W->p=.pointer none\/((∃pb,p=.pointer (some ⟨pb,0,none⟩))/\Calls Tryz.prog 37 #[.pointer (some ⟨wb,0,none⟩),p,scV o] W fun e w'=>e=.returned (.bool true)/\Q w')):
    Calls Tryz.prog 18 #[.pointer (some ⟨wb,0,none⟩),scV o] w fun e w'=>e=.returned (.bool true)/\Q w':=by
  have c0:w.cell? ⟨wb,0,none⟩=some pv:=hb.cell 0;have c1:w.cell? ⟨wb,1,none⟩=some qv:=hb.cell 1;have zb:=hb.lt;have HH:=Hd4 hb K a2 a0;clear hb K a2 a0;go_enter Tryz.func18,Tryz.ntmps18;go_upto_if 20 with fail;generalize hB:(bits BinOp.and IntKind.i64 o.l 1==1)=B;clear hB
  go_cut[5] (fun v5 wx=>(v5=pv\/v5=qv)/\wx=w.alloc (.cells (scC o) 51))
  case first=>
    cases B with
    |true=>
      go_wp2_with fail;go_meet;exact⟨.inr rfl,rfl⟩
    |false=>
      go_wp2_with fail;go_meet;exact⟨.inl rfl,rfl⟩
  case rest=>
    obtain⟨h5,rfl⟩:=hcut;have kA:(o.bD==10)=false:=by rw[beq_eq_false_iff_ne];omega
    have H5:=Hd h5;clear h5 c0 c1
    by_cases f:o.bD=2\/o.bD=3\/o.bD=4
    · have k2:w.cell? ⟨wb,2,none⟩=some (.slice sd M U):=HH.out.1.cell 2
      go_upto_if 36 with fail
      go_cut[36] (fun v wx=>v=.bool true/\wx=w.alloc (.cells (scC o) 51))
      case first=>
        rcases f with f|f|f
        · have j2:(o.bD==2)=true:=by rw[f];rfl
          clear f;go_wp2_with fail;go_meet;exact⟨by simp[*],rfl⟩
        · have j2:(o.bD==2)=false:=by rw[f];rfl
          have j3:(o.bD==3)=true:=by rw[f];rfl
          clear f;go_wp2_with fail;go_meet;exact⟨by simp[*],rfl⟩
        · have j2:(o.bD==2)=false:=by rw[f];rfl
          have j3:(o.bD==3)=false:=by rw[f];rfl
          have j4:(o.bD==4)=true:=by rw[f];rfl
          clear f;go_wp2_with fail;go_meet;exact⟨by simp[*],rfl⟩
      case rest=>
        obtain⟨rfl,rfl⟩:=hcut
        by_cases h0:M=0
        · have e0:((M:Int)==0)=true:=by rw[beq_iff_eq];omega
          clear f;go_wp2_with fail;go_ret;exact⟨rfl,HH.out.2.2.1 _ (P0 _ _)⟩
        · have e0:((M:Int)==0)=false:=by rw[beq_eq_false_iff_ne];omega
          obtain⟨w9,X⟩:∃w9:World,w.alloc (.cells (scC o) 51)=w9:=⟨_,rfl⟩;have G:Bw w w9:=by rw[<-X];exact P0 _ _
          have V:Blk w9 w.heap.size (scC o) 51:=by rw[<-X];exact Blk.aQ _ _ _
          obtain⟨Y,a9,Z,a,b,rfl,a3,s0,s1,K,a1⟩:=HH.out.2.1 w9.drew (by omega);have a5:=Hd K;have a4:=Hd (a1 f (Y1 G));have g2:w9.cell? ⟨wb,2,none⟩=some (.slice (some ⟨Z,0,none⟩) M U):=(G.cell zb).trans k2;have g3:w9.cell? ⟨Z,Y*2,none⟩=some (.pointer (some ⟨a,0,none⟩)):=(G.cell a3).trans s0;have g4:w9.cell? ⟨Z,Y*2+1,none⟩=some (.pointer (some ⟨b,0,none⟩)):=(G.cell a3).trans s1;have b0:=V.cell 0;have b1:=V.cell 1;have b2:=V.cell 2;have b3:=V.cell 3;have b4:=V.cell 4;have b5:=V.cell 5;have b6:=V.cell 6;have b7:=V.cell 7;have b8:=V.cell 8;have a6:=Hd X;clear X G V;have i0:(0:Int)<=(Y:Int):=by omega
          have i1:(Y:Int)<(M:Int):=by omega
          clear K a1 f h0;go_upto_region 13 with fail;rw[a6.out];clear k2 s0 s1;refine Ny 16 Tryz.iG (by kernel_rfl) ?_;intro a8;simp only[List.take_succ_cons,List.take_zero,List.drop_succ_cons,List.drop_zero]
          iterate 12 still_step
          still_call a5.out
          iterate 3 still_step
          refine wpStill_nil ?_;go_wp2_with fail;refine a4.out.mono ?_;rintro e w3 ⟨rfl,D⟩;have HQ:=Hd D;clear D;go_wp2_with fail;go_ret;exact⟨rfl,HQ.out⟩
    · have h:o.bD=1\/o.bD=5\/o.bD=6:=by omega
      have k2:(o.bD==2)=false:=by rw[beq_eq_false_iff_ne];omega
      have k3:(o.bD==3)=false:=by rw[beq_eq_false_iff_ne];omega
      have k4:(o.bD==4)=false:=by rw[beq_eq_false_iff_ne];omega
      have a7:=HH.out.2.2.2 u5 _ H5.out h (P0 w (.cells (scC o) 51));rcases a7 with rfl|⟨⟨pb,rfl⟩,J⟩
      · clear h f
        go_wp2_with fail;go_ret;exact⟨rfl,HH.out.2.2.1 _ (P0 _ _)⟩
      · have HC:=Hd J
        clear J f;rcases h with h|h|h
        · have j1:(o.bD==1)=true:=by rw[h];rfl
          clear h;go_wp2_with fail;refine HC.out.mono ?_;rintro e w3 ⟨rfl,D⟩;have HQ:=Hd D;clear D;go_wp2_with fail;go_ret;exact⟨rfl,HQ.out⟩
        · have j1:(o.bD==1)=false:=by rw[h];rfl
          have j5:(o.bD==5)=true:=by rw[h];rfl
          clear h;go_wp2_with fail;refine HC.out.mono ?_;rintro e w3 ⟨rfl,D⟩;have HQ:=Hd D;clear D;go_wp2_with fail;go_ret;exact⟨rfl,HQ.out⟩
        · have j1:(o.bD==1)=false:=by rw[h];rfl
          have j5:(o.bD==5)=false:=by rw[h];rfl
          have j6:(o.bD==6)=true:=by rw[h];rfl
          clear h;go_wp2_with fail;refine HC.out.mono ?_;rintro e w3 ⟨rfl,D⟩;have HQ:=Hd D;clear D;go_wp2_with fail;go_ret;exact⟨rfl,HQ.out⟩
theorem DW{N:Nat}(wb n M c:Nat)(G J sv vv Z:Value)(f:List (Nat×Nat))(VS:List D3)(KS:List (Value×Nat))(o:ScT)(w:World)(h:WI N w wb G J sv vv n Z f VS KS M c)(hc:c<=900000)(ho:o.ok)(a3:1<=o.bD)(a4:o.bD<=6)(hM:122<=M)(V:M+o.size<=3000000):
  Calls Tryz.prog 18 #[.pointer (some ⟨wb,0,none⟩),scV o] w (LN N wb G J (M+o.size) c w):=by
 obtain⟨_,sd,Y,a6,X⟩:=L0 h.ss;subst a6;have a8:=h.n2;refine(BZ (fun w'=>KN N w w'/\∃sv' vv' n' a7 a1 a2 a0,WI N w' wb G J sv' vv' n' a7 a1 a2 a0 (M+o.size) (c+1)) wb f.length Y sd G J vv (.int .i64 n) Z o w (by omega) h.aO a3 a4 (fun W h0=>?_) (fun W q=>⟨KN.aA q,_,_,_,_,_,_,_,(h.aA q).mono (by omega) (by omega)⟩) (fun p W hp hk q=>?_)).mono fun e w' ⟨K,B⟩=>⟨K,B⟩
 ·have D:=OO o.t h0;rcases X with⟨_,e9⟩|⟨sg,cur,rfl,hB,_⟩
  ·omega
  ·obtain⟨g0,g1⟩:=YC f (Vq o.t f.length) D;refine⟨Vq o.t f.length,D,sg,f[Vq o.t f.length].1,f[Vq o.t f.length].2,rfl,hB.lt,(Y0 h.ss (Vq o.t f.length*2) (by omega)).trans g0,(Y0 h.ss (Vq o.t f.length*2+1) (by omega)).trans g1,II o.t f.length W ho.t h0 (by omega),fun hk q=>?_⟩;exact(RU wb n M c (Vq o.t f.length) G J _ vv Z f VS KS o W (h.aA q) D hc hk V).mono fun e w' ⟨K,B,U⟩=>⟨K,(KN.aA q).trans B,U⟩
 ·have a5:Kp W p:=by
   rcases hp with rfl|rfl
   ·exact(h.aA q).p
   ·exact(h.aA q).q
  rcases a5 with rfl|⟨pb,xb,yb,kd,g,TX,rfl,B,U⟩
  ·exact .inl rfl
  ·exact .inr ⟨⟨pb,rfl⟩,(RK wb pb xb yb n M c kd g TX G J _ vv Z f VS KS o W (h.aA q) B U hc hk ho hM V).mono fun e w' ⟨K,B,U⟩=>⟨K,(KN.aA q).trans B,U⟩⟩
theorem BW:OA 6:=fun N wb n M c Y Z sv vv X D G B o w h V W J K U f=>DW wb n M c Y Z sv vv X D G B o w h V W J K U f
theorem LJ(J:List ScT)(v:Value)(M U:ByteArray)(w:World)(h:Ot w v J)(Y:M.size<=maxLen)(Z:U.size<=maxLen):
  Calls Tryz.prog 4 #[.string M,.string U,v] w fun e w'=>e=.returned (.bool true)/\Bw w w':=by
 have V:=Hd (FR (BW.le (by omega)) w);have X:=Hd (fun(W:World) (k:Bw w W)=>FC 6 BW J v M U W (h.aA k) Y Z);clear h;go_enter Tryz.func4,Tryz.ntmps4;go_wp2_with fail;refine V.out.mono ?_;rintro e w1 ⟨rfl,f⟩;have B:=Hd f;have D:=Hd (X.out w1 f);clear f V X;go_wp2_with fail;refine D.out.mono ?_;rintro e w2 ⟨rfl,G⟩;have K:=Hd G;clear G D;go_wp2_with fail;go_ret;exact⟨rfl,B.out.trans (K.out.mono B.out.size)⟩
end Go.Proofs.YtcckhngbdoiikaaGreat
