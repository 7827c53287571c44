import Derived.Test.YtcckhngbdoiikaaGreatS13
import Derived.Test.YtcckhngbdoiikaaGreatS15
import Derived.Test.YtcckhngbdoiikaaGreatS12
import Derived.Test.YtcckhngbdoiikaaGreatS16
set_option maxRecDepth 20000
set_option maxHeartbeats 12800000
set_option linter.unusedVariables false
namespace Go.Proofs.YtcckhngbdoiikaaGreat
open Go.RowKit Go.Deep
def Ej(aE f:List Int)(h:List Int)(k:Nat):List Int:=Z1 aE f (h.take k)++List.replicate (h.length-k) 0
theorem BR(aE B f:List Int)(k:Nat)(h:k<=f.length):(Ej aE B f k).length=f.length:=by simp[Ej,Z1];omega
theorem VL(aE B f:List Int)(k:Nat)(h:k<f.length):Ej aE B f (k+1)=(Ej aE B f k).set k (if f[k] != -1 then B.getD (aE.getD f[k].toNat 0).toNat 0 else -1):=by
 unfold Ej;have D:(Z1 aE B (f.take k)).length=k:=by simp[Z1];omega
 rw[List.set_append_right _ _ (by omega),D,yQ,show f.length-k=(f.length- (k+1))+1 by omega,List.replicate_succ,List.set_cons_zero,yN h];unfold Z1;rw[yB,yF];rfl
theorem AR(aE f h:List Int):Ej aE f h h.length=Z1 aE f h:=by simp[Ej]
theorem ZL{h wr M:World}{O:Nat->Prop}{pv:Value}{ud:Option Addr}{D wb G B n:Nat}{J:List Int}{uy:Int}{aN:List (List Int)}{a4:List Int}
  (h1:Bw h wr) (h2:Blk wr h.heap.size #[.slice ud J.length D,pv] 63) (h3:U4 wr O pv aN) (h4:O2 wr (.slice (some ⟨wb,0,none⟩) n n) a4)
  (h5:∀k,O k->h.heap.size<k) (W:∀b,(Value.slice ud J.length D).ownBlock=some b->h.heap.size<b/\b<wb/\¬O b) (zw:h.heap.size<wr.heap.size) (zz:wb<wr.heap.size) (ac:¬O wb) (a9:¬O h.heap.size) (ad:h.heap.size<wb)
  (a3:M.ownsRow 0 3 1 (.slice (some ⟨G,0,none⟩) (J.length+1) B) (J.length+1) (J.map (Value.int .i64)++ [.int .i64 uy]))
  (f:(wr.alloc (.cells #[.int .i64 uy] 3)).drew.grownBy M (Value.slice ud J.length D).ownBlock)
  (X:(Value.slice ud J.length D).ownBlock=some G\/G=wr.heap.size+1) (ab:G<M.heap.size):
  ∀V,V=M.setCell ⟨h.heap.size,0,none⟩ (.slice (some ⟨G,0,none⟩) (J.length+1) B)->Bw h V/\Blk V h.heap.size #[.slice (some ⟨G,0,none⟩) (J.length+1) B,pv] 63/\U4 V O pv aN/\O2 V (.slice (some ⟨wb,0,none⟩) n n) a4/\
   O2 V (.slice (some ⟨G,0,none⟩) (J.length+1) B) (J++ [uy])/\h.heap.size<G/\G≠wb/\¬O G/\wb<V.heap.size:=by
 rintro V rfl;have K:C0 (fun k=>(Value.slice ud J.length D).ownBlock=some k) (wr.alloc (.cells #[.int .i64 uy] 3)).drew M:=⟨f.os,f.tape,f.output,f.size,fun k K he=>f.block k K (fun e=>he e.symm)⟩;have Z:C0 (fun _=>False) wr (wr.alloc (.cells #[.int .i64 uy] 3)).drew:=((C0.refl (fun _=>False) wr).alloc _).drew;have a2:C0 (fun k=>k=h.heap.size) M (M.setCell ⟨h.heap.size,0,none⟩ (.slice (some ⟨G,0,none⟩) (J.length+1) B)):=C0.setCell (ex:=fun k=>k=h.heap.size) (p:=⟨h.heap.size,0,none⟩) (C0.refl _ _) (fun _=>rfl) _;have a7:¬O G:=by
  intro e;rcases X with U|U
  ·exact(W _ U).2.2 e
  ·have:=h3.olt _ e;omega
 have a8:h.heap.size<G:=by
  rcases X with U|U
  ·exact(W _ U).1
  ·omega
 have a0:G≠wb:=by
  rcases X with U|U
  ·have:=(W _ U).2.1;omega
  ·omega
 have aa:=K.size;simp at aa;refine⟨?_,?_,?_,?_,?_,a8,a0,a7,by simp;omega⟩
 ·have a5:Bw h (wr.alloc (.cells #[.int .i64 uy] 3)).drew:=⟨h1.os,h1.tape,h1.output,yK h1.size Z.size,fun k a1=>(Z.block k (by omega) (fun e=>e)).trans (h1.block k a1)⟩;have a6:Bw h M:=a5.trans ⟨K.os,K.tape,K.output,K.size,fun k a1=>K.block k (by simp;omega) (fun e=>by have:=(W _ e).1;omega)⟩;exact a6.setCell (zD _) _
 ·exact(((h2.alloc _).drew).kept K (fun e=>by have:=(W _ e).1;omega)).set 0 _
 ·exact(((h3.alloc _).drew).kept K (fun b Y e=>(W _ e).2.2 Y)).setCell a9 _
 ·exact((h4.kept Z (fun _ _ e=>e)).kept K (fun b Y e=>by cases(zE Y:wb=b);have:=(W _ e).2.1;omega)).kept a2 (fun b Y e=>by cases(zE Y:wb=b);omega)
 ·exact(Ps (w:=M) (v:=.slice none 0 0) a3).kept a2 (fun b Y e=>by cases(zE Y:G=b);omega)
theorem YL(rv nv cv:Value)(g:B0)(K:Nat)(aE:List Int)(w:World)(hg:U6 w rv nv g)(ho:GOk g K)(hc:O2 w cv aE)(au:aE.length=g.aB.length)(ah:∀x∈aE,0<=x/\x<(g.aB.length:Int))(d9:0<g.aB.length)(hn:g.aB.length<=1000)(hK:K<=1000):
  Calls Tryz.prog 48 #[.agg #[rv,nv],cv] w fun e w'=>∃dk di,e=.returned (.agg #[dk,di])/\U6 w' dk di (E1 g aE)/\Bw w w':=by
 have hV:=fun(W:World) (M:Bw w W)=>US rv nv cv g K aE W (hg.aA M) ho (hc.aA M) au ah d9 hn hK
 obtain⟨vs,hN,b5,dd⟩:=hg.next;have ay:=hg.aB;obtain⟨rd,ad,rfl,c2⟩:=hg.aB.aT;obtain⟨nd,a7,rfl,bz⟩:=hN.aT;obtain⟨cd,ec,rfl,bp⟩:=hc.aT;have ac:=ho.len;rcases bp with h0|⟨cg,rfl⟩
 ·omega
 rcases bz with h0|⟨ng,rfl⟩
 ·omega
 rcases c2 with h0|⟨rg,rfl⟩
 ·omega
 have du:=Hd dd;have HN:=Hd hN;have bh:=Hd ay;have HO:=Hd ho;have HC:=Hd hc;have dl:=Hd ah;have dm:=Hd au;have ae:=Hd b5;have a1:=Hd ac;have dt:=Hd hV;have f4:vs.length<=1000:=by omega
 have ef:aE.length<=1000:=by omega
 clear dd hN ay ho hg ac b5 hc ah au hV;generalize dc:V1 g aE=V;have cf:=Hd dc;clear dc;go_enter Tryz.func48,Tryz.ntmps48;go_wp2_with fail;refine(dt.out _ (Z5 _ _ _)).mono ?_;rw[cf.out];rintro e B ⟨fv,mv,rfl,bj,bk,c5,b3⟩;obtain⟨fd,ee,rfl,br⟩:=bj.aT;obtain⟨md,em,rfl,bw⟩:=bk.aT;have cn:=((Blk.aQ w #[.slice (some ⟨rg,0,none⟩) g.aB.length ad,.slice (some ⟨ng,0,none⟩) vs.length a7] 63).alloc (.cells #[.slice none 0 0,.slice none 0 0] 63)).aA b3;have bn:=(Blk.dX w (.cells #[.slice (some ⟨rg,0,none⟩) g.aB.length ad,.slice (some ⟨ng,0,none⟩) vs.length a7] 63) #[.slice none 0 0,.slice none 0 0] 63).aA b3;have cx:Bw w B:=(Z5 w _ _).trans (b3.mono (by simp;omega));have z1:w.heap.size+1<B.heap.size:=bn.lt;have z0:w.heap.size<B.heap.size:=by omega
 have c6:=c5.sum;have el:V.1.length<=1000:=by omega
 have dn:=Hd bj;have cb:=Hd bk;have ch:=Hd c5;have aj:Hid (Bw w B/\Blk B w.heap.size #[.slice (some ⟨rg,0,none⟩) g.aB.length ad,.slice (some ⟨ng,0,none⟩) vs.length a7] 63/\Blk B (w.heap.size+1) #[.slice none 0 0,.slice none 0 0] 63):=⟨cx,cn,bn⟩;clear cx cn bn b3 bj bk c5 c6;go_wp2_with fail
 go_loopg[22] V.1.length (fun G i wr=>∃(n:Nat) (O:Nat->Prop) (uv pv:Value),n<=V.1.length/\G=V.1.length-n/\i=.int .i64 n/\Bw B wr/\
  Blk wr B.heap.size #[uv,pv] 63/\U4 wr O pv ((V.1.take n).map (fun m=>Z1 aE V.2 (g.next.getD m.toNat [])))/\O2 wr uv ((V.1.take n).map (fun m=>g.aB.getD m.toNat 0))/\(∀k,O k->B.heap.size<k)/\∀b,uv.ownBlock=some b->B.heap.size<b/\¬O b)
 case atStart=>
  refine⟨0,fun _=>False,.slice none 0 0,.slice none 0 0,by omega,rfl,rfl,P0 _ _,Blk.aQ _ _ _,by simpa using U4.nil _,?_,fun k h=>h.elim,fun b h=>by simp[Value.ownBlock]at h⟩;exact World.ownsRow_nil _ _ _ _
 case round=>
  obtain⟨n,O,uv,pv,ev,rfl,rfl,M,hP,hR,hU,hO,b2⟩:=hrel
  by_cases bv:n<V.1.length
  ·have e0:decide ((n:Int)<(V.1.length:Int))=true:=by simp;omega
   rcases br with h0|⟨fg,rfl⟩
   ·omega
   have b4:Bw w wr:=aj.out.1.trans (M.mono (by omega));have b5:=ae.out;have ac:=a1.out;have f0:=(dn.out.aA M).cell n bv;have hx:=ch.out.ok V.1[n] (zG bv);have bs:V.1[n]?=some V.1[n]:=zF bv;generalize V.1[n]=x at f0 hx bs;obtain⟨x,rfl⟩:∃j:Nat,x=(j:Int):=⟨x.toNat,by omega⟩;have e6:x<vs.length:=by omega
   have n0:=(HN.out.aA b4).cell x e6;have u0:=(bh.out.aA b4).cell x (by omega);have a8:g.aB.getD x 0=g.aB[x]'(by omega):=by simp[show x<g.aB.length by omega]
   generalize e4:g.aB[x]'(by omega)=ux at u0 a8;have a6:=du.out x vs[x] (zF _);have d7:=HO.out.row x (by omega);generalize vs[x]=vn at n0 a6;generalize db:g.next.getD x []=f at a6 d7;obtain⟨ed,cl,rfl,bq⟩:=a6.aT;have g1:wr.cell? ⟨w.heap.size,1,none⟩=some (.slice (some ⟨ng,0,none⟩) vs.length a7):=(aj.out.2.1.aA M).cell 1;have i0:(0:Int)<=(n:Int):=by omega
   have i1:(n:Int)<(V.1.length:Int):=by omega
   have i2:(0:Int)<=(x:Int):=by omega
   have i3:(x:Int)<(vs.length:Int):=by omega
   have zr:B.heap.size<wr.heap.size:=hP.lt;have f2:f.length<=1000:=by omega
   have et:=Fe f.length (by omega);obtain⟨d8,bb⟩:=d7;have dr:=Hd bb;have ce:=Hd a6;have c9:=Hd bs;have en:=Hd a8;have ds:=Hd db;have HH:Hid (Bw B wr/\Blk wr B.heap.size #[uv,pv] 63/\U4 wr O pv ((V.1.take n).map (fun m=>Z1 aE V.2 (g.next.getD m.toNat [])))/\O2 wr uv ((V.1.take n).map (fun m=>g.aB.getD m.toNat 0))/\(∀k,O k->B.heap.size<k)/\∀b,uv.ownBlock=some b->B.heap.size<b/\¬O b):=⟨M,hP,hR,hU,hO,b2⟩;have ai:=Hd b4;clear M hP hR hU hO b2 b5 ac d8 bb a6 db b4 e4 hx bs a8 u0;obtain⟨J,rfl⟩:∃J:World,J=wr:=⟨_,rfl⟩;have cm:∀X:World,Bw J X->X.cell? ⟨w.heap.size,1,none⟩=some (.slice (some ⟨ng,0,none⟩) vs.length a7):=fun X hX=>((aj.out.2.1.aA HH.out.1).aA hX).cell 1
   have dh:∀X:World,Bw J X->X.cell? ⟨ng,x,none⟩=some (.slice ed f.length cl):=fun X hX=>by rw[hX.cell (p:=⟨ng,x,none⟩) (show ng<J.heap.size by have:=M1 HN.out ng rfl;have:=ai.out.size;omega)];exact n0
   have dx:=cm (J.alloc (.cells (N3 (List.replicate f.length 0)) 3)) (P0 _ _);have eb:=dh (J.alloc (.cells (N3 (List.replicate f.length 0)) 3)) (P0 _ _);have f8:ng<J.heap.size:=by have:=M1 HN.out ng rfl;have:=ai.out.size;omega
   have zn:w.heap.size<J.heap.size:=by omega
   clear cm dh;go_wp2_with fail
   go_loopg[39] f.length (fun G i wr=>∃(k:Nat),k<=f.length/\G=f.length-k/\i=.int .i64 k/\Bw J wr/\Blk wr J.heap.size (N3 (Ej aE V.2 f k)) 3)
   case atStart=>
    refine⟨0,by omega,rfl,rfl,P0 _ _,?_⟩;have e1:Ej aE V.2 f 0=List.replicate f.length 0:=by simp[Ej,Z1]
    rw[e1];exact Blk.aQ _ _ _
   case round=>
    obtain⟨k,hk,rfl,rfl,M,hI⟩:=hrel;have bt:=BR aE V.2 f k hk;clear g1 dx n0 eb f0
    by_cases bu:k<f.length
    ·have e1:decide ((k:Int)<(f.length:Int))=true:=by simp;omega
     rcases bq with h0|⟨eg,rfl⟩
     ·omega
     have Y:Bw w wr:=ai.out.trans (M.mono (by omega));have ar:Bw B wr:=HH.out.1.trans (M.mono (by omega));have r0:=(ce.out.aA Y).cell k bu;have c3:=dr.out f[k] (zG bu);have a0:=VL aE V.2 f k bu;have c0:=U9 hI k (by omega);generalize(Ej aE V.2 f k)[k]'(by omega)=old at c0;have eo:=hI.frozen k;have i4:(0:Int)<=(k:Int):=by omega
     have i5:(k:Int)<(f.length:Int):=by omega
     generalize f[k]=to at r0 c3 a0
     by_cases bx:to= -1
     ·subst bx;have bi:=Hd a0;have be:Hid (Bw J wr/\Blk wr J.heap.size (N3 (Ej aE V.2 f k)) 3):=⟨M,hI⟩;clear a0 M hI Y ar c3 bt;go_wp2_with fail
      go_roundg (f.length- (k+1))
      case measure=>omega
      case rel=>
       obtain⟨q1,q2⟩:=be.out;refine⟨k+1,by omega,rfl,by go_num,q1.setCell (zD _) _,?_⟩;have hs:=bi.out;simp only[bne_self_eq_false,zV,if_false]at hs;rw[hs,<-U3];exact q2.set k _
     ·have e2:(to != -1)=true:=by simp[bx]
      obtain⟨j,rfl⟩:∃j:Nat,to=(j:Int):=⟨to.toNat,by omega⟩;have au:=dm.out;have hj:j<aE.length:=by omega
      have cj:=(HC.out.aA Y).cell j hj;have ah:=dl.out aE[j] (zG hj);have d0:aE.getD j 0=aE[j]:=by simp[hj]
      rw[zH,d0,e2,if_pos rfl]at a0;generalize aE[j]=ci at cj ah a0;obtain⟨ci,rfl⟩:∃i:Nat,ci=(i:Int):=⟨ci.toNat,by omega⟩;rw[zH]at a0;have e3:=ch.out.len;have b8:ci<V.2.length:=by omega
      rcases bw with h0|⟨mg,rfl⟩
      ·omega
      have mc:=(cb.out.aA ar).cell ci b8;have d2:V.2.getD ci 0=V.2[ci]:=by simp[b8]
      rw[d2]at a0;generalize V.2[ci]=old2 at mc a0;have f5:cg<J.heap.size:=by have:=M1 HC.out cg rfl;have:=ai.out.size;omega
      have f6:mg<J.heap.size:=by have:=M1 cb.out mg rfl;omega
      have eu:cg≠J.heap.size:=by omega
      have ew:mg≠J.heap.size:=by omega
      have j0:(0:Int)<=(j:Int):=by omega
      have j1:(j:Int)<(aE.length:Int):=by omega
      have k0:(0:Int)<=(ci:Int):=by omega
      have k1:(ci:Int)<(V.2.length:Int):=by omega
      have bi:=Hd a0;have be:Hid (Bw J wr/\Blk wr J.heap.size (N3 (Ej aE V.2 f k)) 3):=⟨M,hI⟩;clear a0 M hI Y ar c3 bt d0 d2 ah au e3 bx;go_wp2_with fail
      go_roundg (f.length- (k+1))
      case measure=>omega
      case rel=>
       obtain⟨q1,q2⟩:=be.out;refine⟨k+1,by omega,rfl,by go_num,(q1.setCell (zD _) _).setCell (zD _) _,?_⟩;have q3:=(q2.set k (.int .i64 (-1))).set k (.int .i64 old2);rw[U3,U3,List.set_set]at q3;rw[bi.out];exact q3
    ·have e1:decide ((k:Int)<(f.length:Int))=false:=by simp;omega
     obtain rfl:k=f.length:=by omega
     rw[AR]at hI;obtain⟨bo,cp,bm,a2,bl,aq⟩:=HH.out;have Y:Bw w wr:=ai.out.trans (M.mono (by omega));have an:=cp.aA M;have cq:=bm.aA M;have b1:=a2.aA M;have co:=((aj.out.2.1.aA bo).aA M);have u0:=(bh.out.aA Y).cell x (by have:=ae.out;have:=a1.out;omega);have bc:((V.1.take n).map (fun m=>g.aB.getD m.toNat 0)).length=n:=by simp;omega
     have a8:g.aB.getD x 0=g.aB[x]'(by have:=ae.out;have:=a1.out;omega):=by simp[show x<g.aB.length by have:=ae.out;have:=a1.out;omega]
     generalize g.aB[x]'(by have:=ae.out;have:=a1.out;omega)=uy at u0 a8;generalize ap:(V.1.take n).map (fun m=>g.aB.getD m.toNat 0)=ul at b1 bc a2;obtain⟨ud,D,rfl,_⟩:=b1.aT;have ek:ul.length<=1000:=by omega
     clear bc;have p0:wr.cell? ⟨B.heap.size,0,none⟩=some (.slice ud ul.length D):=an.cell 0;have dj:=an.frozen 0;have g0:wr.cell? ⟨w.heap.size,0,none⟩=some (.slice (some ⟨rg,0,none⟩) g.aB.length ad):=co.cell 0;have i6:(x:Int)<(g.aB.length:Int):=by have:=ae.out;have:=a1.out;omega
     have da:(Z1 aE V.2 f).length=f.length:=by simp[Z1]
     have a9:=O2.cC hI (by omega);rw[da]at a9;obtain⟨ii,hi,de,df,dg⟩:=info_parts Tryz.cG;have zw:B.heap.size<wr.heap.size:=an.lt;have zz:J.heap.size<wr.heap.size:=hI.lt;have f9:rg<wr.heap.size:=M1 (bh.out.aA Y) rg rfl;have fa:w.heap.size<wr.heap.size:=by omega
     have c4:∀b,(Value.slice ud ul.length D).ownBlock=some b->B.heap.size<b/\b<J.heap.size/\¬O b:=fun b e=>⟨(aq b e).1,M1 a2 b e,(aq b e).2⟩
     have bd:(Value.slice ud ul.length D).ownBlock≠some B.heap.size:=fun e=>by have:=(c4 _ e).1;omega
     have d3:C0 (fun _=>False) wr (wr.alloc (.cells #[.int .i64 uy] 3)).drew:=((C0.refl (fun _=>False) wr).alloc _).drew;have av:O2 (wr.alloc (.cells #[.int .i64 uy] 3)).drew (.slice ud ul.length D) ul:=b1.kept d3 (fun _ _ e=>e);have b7:Bw B wr:=bo.trans (M.mono (by omega));have d5:¬O J.heap.size:=fun e=>by have:=bm.olt _ e;omega
     have d6:¬O B.heap.size:=fun e=>by have:=bl _ e;omega
     have cc:=Hd av;have am:=Hd bd;have a3:Hid (Bw B wr/\Blk wr B.heap.size #[.slice ud ul.length D,pv] 63/\U4 wr O pv ((V.1.take n).map (fun m=>Z1 aE V.2 (g.next.getD m.toNat [])))/\O2 wr (.slice (some ⟨J.heap.size,0,none⟩) f.length f.length) (Z1 aE V.2 f)/\(∀k,O k->B.heap.size<k)/\(∀b,(Value.slice ud ul.length D).ownBlock=some b->B.heap.size<b/\b<J.heap.size/\¬O b)):=⟨b7,an,cq,a9,bl,c4⟩;have c8:=Hd a8;have ak:=Hd ap;clear M hI bo cp bm a2 b1 bl aq an cq co a9 av bd c4 d3 b7 Y da bt a8 ap HH;go_wp2_with fail
     go_region_law ((refine step_append_lies _ (by rfl) _ _ _ (by rfl) 0 3 ii _ 1 8 Tryz.underlying60 hi de df dg rfl (by omega) (.slice ud ul.length D) ul.length (ul.map (Value.int .i64)) (by rfl) cc.out ⟨wr.heap.size,0,none⟩ 1 1 [.int .i64 uy] (by rfl) (by rfl) (World.news_of_block (cs:=#[.int .i64 uy]) (t:=3) (fr:=(0,0)) (heap_alloc_new wr _)) (by simp[Value.oneCell']) (by omega) (by unfold maxLen;omega) (by omega) (by simp) (wr.heap.size+1) (by simp) ?_;intro gf a4 w5 aw Z b6 b9;have dv:=(Z.cell_far ⟨B.heap.size,0,none⟩ (by simp;omega) (Ne.symm am.out)).trans (((World.cell?_alloc_past _ _ _ zw)).trans p0);have dw:=(Z.frozen_far ⟨B.heap.size,0,none⟩ (by simp;omega) (Ne.symm am.out)).trans (((World.frozen?_alloc_past _ _ _ zw)).trans dj)))
     all_goals
      have ba:=ZL a3.out.1 a3.out.2.1 a3.out.2.2.1 a3.out.2.2.2.1 a3.out.2.2.2.2.1 a3.out.2.2.2.2.2 zw zz d5 d6 zr aw Z b6 b9 _ rfl;generalize w5.setCell ⟨B.heap.size,0,none⟩ (.slice (some ⟨gf,0,none⟩) (ul.length+1) a4)=w7 at ba⊢;obtain⟨m1,m2,m3,m4,m5,m6,m7,m8,m9⟩:=ba;obtain⟨us,af,ao,a2⟩:=m3.ex;obtain⟨pd,U,rfl,_⟩:=af.aT;have c1:w7.cell? ⟨B.heap.size,1,none⟩=some (.slice pd us.length U):=m2.cell 1;have f1:=m2.frozen 1;have f3:us.length<=1000:=by rw[ao];simp;omega
      obtain⟨ij,hj,e7,e8,ea⟩:=info_parts Tryz.dP;have av:=af.aA (P0 w7 (.cells #[.slice (some ⟨J.heap.size,0,none⟩) f.length f.length] 60));have z7:B.heap.size<w7.heap.size:=m2.lt;have cr:=m3.alloc (.cells #[.slice (some ⟨J.heap.size,0,none⟩) f.length f.length] 60);have bg:=Hd av;have HU:=Hd2 ao a2;have ca:Hid (Bw B w7/\Blk w7 B.heap.size #[.slice (some ⟨gf,0,none⟩) (ul.length+1) a4,.slice pd us.length U] 63/\O2 w7 (.slice (some ⟨J.heap.size,0,none⟩) f.length f.length) (Z1 aE V.2 f)/\O2 w7 (.slice (some ⟨gf,0,none⟩) (ul.length+1) a4) (ul++ [uy])/\(∀k,O k->B.heap.size<k)):=⟨m1,m2,m4,m5,a3.out.2.2.2.2.1⟩;have az:=Hd cr;have bf:=Hd m8;clear m1 m2 m3 m4 m5 m8 af ao a2 av cr a3 cc aw Z b6 b9 p0 dj g0 u0 am dv dw hi de df dg;go_wp2_with(at_builtin;(refine wpList_append_lies _ (by rfl) _ _ _ (by rfl) 0 60 ij _ 1 24 Tryz.underlying61 hj e7 e8 ea rfl (by omega) (.slice pd us.length U) us.length us (by rfl) bg.out ⟨w7.heap.size,0,none⟩ 1 1 [.slice (some ⟨J.heap.size,0,none⟩) f.length f.length] (by rfl) (by rfl) (World.news_of_block (cs:=#[.slice (some ⟨J.heap.size,0,none⟩) f.length f.length]) (t:=60) (fr:=(0,0)) (heap_alloc_new w7 _)) (by simp[Value.oneCell']) (by omega) (by unfold maxLen;omega) (by omega) (by simp) (w7.heap.size+1) (by simp) ?_));intro gg ck w6 ax ab aa d4;obtain⟨q1,q2,q3,q5,q4⟩:=ca.out;obtain⟨ct,a5⟩:=U4.push az.out bg.out HU.out.1 (fun i v hv=>⟨((HU.out.2 i v hv).1).aA (P0 _ _),(HU.out.2 i v hv).2⟩) (q3.aA (P0 _ _)) d5 ax ab (by simpa using aa) d4;have b0:=(q2.alloc (.cells #[.slice (some ⟨J.heap.size,0,none⟩) f.length f.length] 60)).kept a5 d6;have cu:=(q5.aA (P0 w7 (.cells #[.slice (some ⟨J.heap.size,0,none⟩) f.length f.length] 60))).kept a5 (fun b M=>by cases(zE M:gf=b);exact bf.out);have c7:w6.cell? ⟨B.heap.size,1,none⟩=some (.slice pd us.length U):=b0.cell 1;have f7:=b0.frozen 1;have eh:gf<w7.heap.size:=M1 q5 gf rfl;have es:B.heap.size<gg:=by
       rcases aa with e|e
       ·exact q4 _ (az.out.ob _ e)
       ·omega
      have d1:gf≠gg:=by
       intro e;subst e;rcases aa with e|e
       ·exact bf.out (az.out.ob _ e)
       ·omega
      have cz:Bw B w6:=(q1.alloc (by omega) _).trans ⟨a5.os,a5.tape,a5.output,a5.size,fun k hk=>a5.block k (by simp;omega) (fun e=>by have:=q4 _ e;omega)⟩;have dq:Hid (U4 w6 (fun k=>O k\/k=gg\/k=J.heap.size) (.slice (some ⟨gg,0,none⟩) (us.length+1) ck) ((V.1.take n).map (fun m=>Z1 aE V.2 (g.next.getD m.toNat []))++ [Z1 aE V.2 f])/\Blk w6 B.heap.size #[.slice (some ⟨gf,0,none⟩) (ul.length+1) a4,.slice pd us.length U] 63/\Bw B w6/\O2 w6 (.slice (some ⟨gf,0,none⟩) (ul.length+1) a4) (ul++ [uy])/\∀k,O k->B.heap.size<k):=⟨ct,b0,cz,cu,q4⟩;clear ct a5 b0 cz q1 q2 q3 q4 q5 cu ax ab aa ca az HU bg c1 f1;go_wp2_with fail
      go_roundg (V.1.length- (n+1))
      case measure=>omega
      case rel=>
       obtain⟨q1,q2,q3,q5,q4⟩:=dq.out;refine⟨n+1,(fun k=>O k\/k=gg\/k=J.heap.size),_,_,by omega,rfl,by go_num,q3.setCell (zD _) _,q2.set 1 _,?_,?_,?_,?_⟩
       ·have e9:(V.1.take (n+1)).map (fun m=>Z1 aE V.2 (g.next.getD m.toNat []))=(V.1.take n).map (fun m=>Z1 aE V.2 (g.next.getD m.toNat []))++ [Z1 aE V.2 f]:=by
         rw[List.take_add_one,c9.out,yB,<-ds.out];simp
        rw[e9];exact q1.setCell (fun e=>by rcases e with e|e|e;exact absurd (q4 _ e) (by simp);simp at e;omega;simp at e;omega) _
       ·have e9:(V.1.take (n+1)).map (fun m=>g.aB.getD m.toNat 0)=ul++ [uy]:=by
         rw[List.take_add_one,c9.out,yB,ak.out,<-c8.out];simp
        rw[e9];exact q5.kept (C0.setCell (ex:=fun k=>k=B.heap.size) (p:=⟨B.heap.size,1,none⟩) (C0.refl _ _) (fun _=>rfl) _) (fun b M e=>by cases(zE M:gf=b);omega)
       ·intro k e;rcases e with e|e|e
        ·exact q4 k e
        ·omega
        ·omega
       ·intro b M;cases(zE M:gf=b);refine⟨by omega,fun e=>?_⟩;rcases e with e|e|e
        ·exact bf.out e
        ·exact d1 e
        ·exact m7 e
  ·have e0:decide ((n:Int)<(V.1.length:Int))=false:=by simp;omega
   obtain rfl:n=V.1.length:=by omega
   obtain⟨cy,dy,cw⟩:=aj.out;have ag:=cw.aA M;obtain⟨us,af,ao,a2⟩:=hR.ex;obtain⟨pd,U,rfl,_⟩:=af.aT;rw[List.take_length]at hU hR;generalize ap:V.1.map (fun m=>g.aB.getD m.toNat 0)=ul at hU;obtain⟨ud,D,rfl,_⟩:=hU.aT;have ei:wr.cell? ⟨B.heap.size,0,none⟩=some (.slice ud ul.length D):=hP.cell 0;have ej:wr.cell? ⟨B.heap.size,1,none⟩=some (.slice pd us.length U):=hP.cell 1;have ey:wr.cell? ⟨w.heap.size+1,0,none⟩=some (.slice none 0 0):=ag.cell 0;have ez:wr.cell? ⟨w.heap.size+1,1,none⟩=some (.slice none 0 0):=ag.cell 1;have ep:=ag.frozen 0;have er:=ag.frozen 1;have dp:Hid (Bw w B/\Bw B wr/\Blk wr (w.heap.size+1) #[.slice none 0 0,.slice none 0 0] 63/\U4 wr O (.slice pd us.length U) (V.1.map (fun m=>Z1 aE V.2 (g.next.getD m.toNat [])))/\(∀k,O k->B.heap.size<k)/\O2 wr (.slice ud ul.length D) ul/\∀b,(Value.slice ud ul.length D).ownBlock=some b->B.heap.size<b):=⟨cy,M,ag,hR,hO,hU,fun b e=>(b2 b e).1⟩;have ak:=Hd ap;clear cy dy cw M ag hR hO hP af ao a2 hU b2 ap;go_wp2_with fail;obtain⟨q1,q2,q3,q4,q5,qu,qv⟩:=dp.out;have q6:Bw w wr:=q1.trans (q2.mono (by omega));have q7:=q4.setCell (a:=⟨w.heap.size+1,0,none⟩) (fun e=>by have:=q5 _ e;simp at this;omega) (.slice ud ul.length D);have q8:=q7.setCell (a:=⟨w.heap.size+1,1,none⟩) (fun e=>by have:=q5 _ e;simp at this;omega) (.slice pd us.length U);have dz:=(q6.setCell (p:=⟨w.heap.size+1,0,none⟩) (by simp) (.slice ud ul.length D)).setCell (p:=⟨w.heap.size+1,1,none⟩) (by simp) (.slice pd us.length U);have qw:=(qu.kept (C0.setCell (ex:=fun k=>k=w.heap.size+1) (p:=⟨w.heap.size+1,0,none⟩) (C0.refl _ _) (fun _=>rfl) (.slice ud ul.length D)) (fun b M e=>by have:=qv b M;omega)).kept (C0.setCell (ex:=fun k=>k=w.heap.size+1) (p:=⟨w.heap.size+1,1,none⟩) (C0.refl _ _) (fun _=>rfl) (.slice pd us.length U)) (fun b M e=>by have:=qv b M;omega);refine bodyPost_ret (Cr Tryz.results48 _ rfl rfl ((q3.set 0 _).set 1 _)) rfl ⟨_,_,rfl,?_,dz⟩;have e5:E1 g aE=⟨ul,V.1.map (fun m=>Z1 aE V.2 (g.next.getD m.toNat []))⟩:=by unfold E1;rw[cf.out,<-ak.out]
   rw[e5];exact U4.fU (g:=⟨ul,V.1.map (fun m=>Z1 aE V.2 (g.next.getD m.toNat []))⟩) q8 qw
structure RS(w:World)(rb gb:Nat)(s:ByteArray)(p:Nat)(R:E0)(O:Nat->Prop):Prop where
 rd:Rd w rb s p gb
 ru:∃fv lv,C1 w gb O R fv lv
 no:¬O rb
def NA(w w':World)(rb gb:Nat)(s:ByteArray)(O:Nat->Prop)(p:Nat)(R:E0):Prop:=
 ∃f,RS w' rb gb s p R f/\C0 (fun k=>k=rb\/O k) w w'/\∀k,f k->O k\/w.heap.size<=k
section
variable{w w':World}{rb gb:Nat}{s:ByteArray}{p:Nat}{R:E0}{O:Nat->Prop}
theorem RS.olt(h:RS w rb gb s p R O):∀k,O k->k<w.heap.size:=by obtain⟨B,D,f⟩:=h.ru;exact f.olt
theorem RS.lt(h:RS w rb gb s p R O):rb<w.heap.size:=h.rd.lt
theorem RS.kept{ex:Nat->Prop}(h:RS w rb gb s p R O)(k:C0 ex w w')(B:¬ex rb)(D:∀b,O b->¬ex b):RS w' rb gb s p R O:=by
 obtain⟨f,J,G⟩:=h.ru;exact⟨Blk.kept h.rd k B,⟨f,J,G.kept k D⟩,h.no⟩
theorem RS.aA(h:RS w rb gb s p R O)(k:Bw w w'):RS w' rb gb s p R O:=h.kept (ex:=fun _=>False) (C0.aM k) (fun e=>e) (fun _ _ e=>e)
theorem RS.alloc(h:RS w rb gb s p R O)(o:Obj):RS (w.alloc o) rb gb s p R O:=h.aA (P0 _ _)
theorem RS.drew(h:RS w rb gb s p R O):RS w.drew rb gb s p R O:=h.kept (ex:=fun _=>False) (C0.refl _ _).drew (fun e=>e) (fun _ _ e=>e)
theorem RS.drewN(h:RS w rb gb s p R O)(n:Nat):RS (w.drewN n) rb gb s p R O:=h.kept (ex:=fun _=>False) ((C0.refl _ _).drewN n) (fun e=>e) (fun _ _ e=>e)
theorem RS.set1(h:RS w rb gb s p R O):RS (w.setCell ⟨rb,1,none⟩ (.int .i64 ((p:Int)+1))) rb gb s (p+1) R O:=by
 obtain⟨f,G,D⟩:=h.ru;exact⟨h.rd.set1,⟨f,G,D.kept (ex:=fun k=>k=rb) (C0.setCell (ex:=fun k=>k=rb) (C0.refl _ _) (fun _=>rfl) _) (fun b B e=>h.no (e ▸ B))⟩,h.no⟩
theorem RS.aG(h:RS w rb gb s p R O){a:Addr}(f:a.block≠rb)(B:¬O a.block)(v:Value):RS (w.setCell a v) rb gb s p R O:=
 h.kept (ex:=fun k=>k=a.block) (C0.setCell (ex:=fun k=>k=a.block) (C0.refl _ _) (fun _=>rfl) _) (fun e=>f e.symm) (fun b D e=>B (e ▸ D))
theorem RS.setRow(h:RS w rb gb s p R O){g:Nat}(f:g≠rb)(B:¬O g)(c:Array Value):RS (w.setRow g c) rb gb s p R O:=
 h.kept (ex:=fun k=>k=g) (C0.setRow (ex:=fun k=>k=g) (C0.refl _ _) (fun _=>rfl) _) (fun e=>f e.symm) (fun b D e=>B (e ▸ D))
theorem RS.jG{q:Nat}(h:RS w rb gb s p R O)(G:Rd w' rb s q gb)(k:C0 (·=rb) w w'):RS w' rb gb s q R O:=by
 obtain⟨B,J,f⟩:=h.ru;exact⟨G,⟨B,J,f.kept k (fun b D e=>h.no (e ▸ D))⟩,h.no⟩
theorem RS.fN{f:E0}(h:RS w rb gb s p R O){B D:Value}(G:C1 w' gb O f B D)(k:C0 O w w'):RS w' rb gb s p f O:=
 ⟨Blk.kept h.rd k h.no,⟨B,D,G⟩,h.no⟩
theorem RS.gB{B:E0}{f:Nat->Prop}(h:RS w rb gb s p R O){D G:Value}(K:C1 w' gb f B D G)(k:C0 O w w')(J:∀k,f k->O k\/w.heap.size<=k):RS w' rb gb s p B f:=
 ⟨Blk.kept h.rd k h.no,⟨D,G,K⟩,fun e=>by
  rcases J rb e with e|e
  ·exact h.no e
  ·have:=h.lt;omega⟩
end
theorem Rl{q:V6}{f:Array Oper}{rest:List Oper}{o:Oper}{a:Act}{w:World}{Q:Exit->Act->World->Prop}(B:o.guard=none)(x:Operand)(G:o.op=.load 206 x)
  (g:Nat) (J:a.eval x=.pointer (some ⟨g,0,none⟩)) (D:Blk w g (K2 q) 206)
  (h:wpList Tryz.prog f Q rest (a.put o.dst (O9 q)) w):wpList Tryz.prog f Q (o::rest) a w:=
 wpList_load_row B 206 x G g J 206 _ (0,0) _ D Tryz.underlying206 rfl Tryz.fV h
theorem GR(q:V6):(K2 q).all (·.oneCell')=true:=by simp[Value.oneCell']
theorem N7{q:V6}{D:Array Oper}{rest:List Oper}{o:Oper}{a:Act}{w:World}{Q:Exit->Act->World->Prop}(G:o.guard=none)(x y:Operand)(K:o.op=.store 206 x y)
  (g:Nat) (M:a.eval x=.pointer (some ⟨g,0,none⟩)) (U:a.eval y=O9 q) {B:Array Value} (J:Blk w g B 206) (f:B.size=5)
  (h:wpList Tryz.prog D Q rest (a.put o.dst undef) (w.setRow g (K2 q))):wpList Tryz.prog D Q (o::rest) a w:=
 wpList_store_row G 206 x y K g _ M U 206 _ J Tryz.fV f (GR q) h
theorem R3{B:Func}{p q:Tmp}(h:B.results=#[.cell p 206,.tmp q]){x:V6}(f:Array Value){w:World}{g:Nat}
  (G:f.getD p undef=.pointer (some ⟨g,0,none⟩)) (D:Blk w g (K2 x) 206):(results B f).run Tryz.prog w=.ok (.tuple #[O9 x,f.getD q undef]) w:=
 C3 h f w g 206 _ (0,0) _ G D Tryz.underlying206 rfl Tryz.fV
def JN(s:ByteArray)(rb gb f:Nat):Prop:=∀(w:World) (p:Nat) (R:E0) (O:Nat->Prop),RS w rb gb s p R O->p<=s.size->R.aC.length<=p->s.size-p<f->
 Calls Tryz.prog 117 #[.pointer (some ⟨rb,0,none⟩)] w fun e w'=>
  e=.returned (.tuple #[O9 (N5 s f p R).part,.bool (N5 s f p R).ok])/\NA w w' rb gb s O (N5 s f p R).bC (N5 s f p R).aD
theorem IQ(s:ByteArray)(M gb f:Nat)(hE:JN s M gb f)(hs:s.size<=120)(w:World)(p:Nat)(R:E0)(O:Nat->Prop)(h:RS w M gb s p R O)(hp:p<s.size)(hR:R.aC.length<=p)(hf:s.size-p<=f):
  Calls Tryz.prog 146 #[.pointer (some ⟨M,0,none⟩)] w fun e w'=>
   e=.returned (.tuple #[O9 (Ae s (N5 s f) p R).part,.bool (Ae s (N5 s f) p R).ok])/\NA w w' M gb s O (Ae s (N5 s f) p R).bC (Ae s (N5 s f) p R).aD:=by
 have c1:=h.rd.c1;have f1:=h.rd.f1;have ae:=h.lt;have hK:C0 (fun k=>k=M\/O k) w w:=C0.refl _ _;have X:∀k,O k->k<w.heap.size:=h.olt;have hg:=Sa s f (p+1) R (by omega) (by omega);have a7:=fun W O h1=>hE W (p+1) R O h1 (by omega) (by omega) (by omega)
 unfold Ae;generalize N5 s f (p+1) R=r at hg a7⊢;obtain⟨q,ok,p1,R1⟩:=r;simp only at a7⊢;have ac:=hg.cT;have HE:=Hd a7;have Y:=Hd X;have HS:=Hd h;clear hE a7 hg X h;cases ok with
 |false=>
  rw[if_neg (by simp)];go_enter Tryz.func146,Tryz.ntmps146;go_wp2_with fail;refine(HE.out _ O (HS.out.set1.alloc _)).mono ?_;rintro e D ⟨rfl,U,B,J,V⟩;have a8:w.heap.size<D.heap.size:=by have:=J.size;simp at this;omega
  have X:=Y.out;have a1:Blk D w.heap.size P1 206:=by
   have h9:=Blk.aQ (w.setCell ⟨M,1,none⟩ (.int .i64 ((p:Int)+1))) P1 206;rw[show(w.setCell ⟨M,1,none⟩ (.int .i64 ((p:Int)+1))).heap.size=w.heap.size by simp]at h9;exact h9.kept J (fun e=>by rcases e with e|e;omega;have:=X _ e;omega)
  have Z:=Blk.aQ D P1 206;have a0:=(a1.alloc (.cells P1 206)).aP (g:=D.heap.size) (by omega) (K2 q);have K:C0 (fun k=>k=M\/O k) w D:=((hK.setCell (fun _=>.inl rfl) _).alloc _).trans' J;have G:∀k,U k->O k\/w.heap.size<k:=by
   intro k hk;rcases V k hk with e|e
   ·exact .inl e
   ·exact .inr (by simp at e;omega)
  have HH:Hid (RS D M gb s p1 R1 U/\C0 (fun k=>k=M\/O k) w D/\(∀k,U k->O k\/w.heap.size<k)):=⟨B,K,G⟩;clear B J V K G X;go_wp2_with(first|refine N7 rfl (.tmp 4) (.tmp 16) rfl D.heap.size rfl rfl Z rfl ?_|refine N7 (q:=V6.aQ) rfl (.tmp 2) (.tmp 25) rfl w.heap.size rfl rfl a0 rfl ?_);obtain⟨B,K,G⟩:=HH.out;have X:=Y.out;have a3:¬U w.heap.size:=fun e=>by rcases G _ e with e|e;have:=X _ e;omega;omega
  have a4:¬U D.heap.size:=fun e=>by have:=B.olt _ e;omega
  refine bodyPost_ret (R3 Tryz.results146 _ rfl (a0.setRow _)) rfl ⟨rfl,U,(((B.alloc _).setRow (by omega) a4 _).setRow (by omega) a3 _),?_,?_⟩
  ·exact((K.alloc _).setRow (by omega) _).setRow (by omega) _
  ·exact fun k hk=>(G k hk).imp id (fun e=>by omega)
 |true=>
  by_cases a6:F0 s p1=41
  ·rw[if_pos ⟨rfl,a6⟩];go_enter Tryz.func146,Tryz.ntmps146;go_wp2_with fail;refine(HE.out _ O (HS.out.set1.alloc _)).mono ?_;rintro e D ⟨rfl,U,B,J,V⟩;have a8:w.heap.size<D.heap.size:=by have:=J.size;simp at this;omega
   have X:=Y.out;have a1:Blk D w.heap.size P1 206:=by
    have h9:=Blk.aQ (w.setCell ⟨M,1,none⟩ (.int .i64 ((p:Int)+1))) P1 206;rw[show(w.setCell ⟨M,1,none⟩ (.int .i64 ((p:Int)+1))).heap.size=w.heap.size by simp]at h9;exact h9.kept J (fun e=>by rcases e with e|e;omega;have:=X _ e;omega)
   have Z:=Blk.aQ D P1 206;have a0:=(a1.alloc (.cells P1 206)).aP (g:=D.heap.size) (by omega) (K2 q);have K:C0 (fun k=>k=M\/O k) w D:=((hK.setCell (fun _=>.inl rfl) _).alloc _).trans' J;have G:∀k,U k->O k\/w.heap.size<k:=by
    intro k hk;rcases V k hk with e|e
    ·exact .inl e
    ·exact .inr (by simp at e;omega)
   have HH:Hid (RS D M gb s p1 R1 U/\C0 (fun k=>k=M\/O k) w D/\(∀k,U k->O k\/w.heap.size<k)):=⟨B,K,G⟩;clear B J V K G X;have a5:Rd ((D.alloc (.cells P1 206)).setRow D.heap.size (K2 q)) M s p1 gb:=Blk.aP (Blk.alloc (HH.out.1.rd) _) (by have:=HH.out.1.lt;omega) _;have a9:Blk ((D.alloc (.cells P1 206)).setRow D.heap.size (K2 q)) D.heap.size (K2 q) 206:=Z.setRow _;have c2:=a5.c1;have f2:=a5.f1;go_wp2_with(first|refine N7 rfl (.tmp 4) (.tmp 16) rfl D.heap.size rfl rfl Z rfl ?_);refine(E3 s p1 M gb _ a5 hs (by omega)).mono ?_;rintro e w2 ⟨rfl,n,rfl⟩;rw[a6];have aa:=(a9.drewN n).aG (p:=⟨M,1,none⟩) (by simp;have:=HH.out.1.lt;omega) (.int .i64 ((p1:Int)+1));have a2:=(a0.drewN n).aG (p:=⟨M,1,none⟩) (by simp;omega) (.int .i64 ((p1:Int)+1));go_wp2_with(first|refine Rl rfl (.tmp 4) rfl D.heap.size rfl aa ?_|refine N7 rfl (.tmp 2) (.tmp 33) rfl w.heap.size rfl rfl a2 rfl ?_);obtain⟨B,K,G⟩:=HH.out;have X:=Y.out;have a3:¬U w.heap.size:=fun e=>by rcases G _ e with e|e;have:=X _ e;omega;omega
   have a4:¬U D.heap.size:=fun e=>by have:=B.olt _ e;omega
   have ab:=B.lt;refine bodyPost_ret (R3 Tryz.results146 _ rfl (a2.setRow _)) rfl ⟨rfl,U,((((B.alloc _).setRow (by omega) a4 _).drewN n).set1).setRow (by omega) a3 _,?_,?_⟩
   ·exact((((K.alloc _).setRow (by omega) _).drewN n).setCell (fun _=>.inl rfl) _).setRow (by omega) _
   ·exact fun k hk=>(G k hk).imp id (fun e=>by omega)
  ·rw[if_neg (by simp[a6])];have ad:(F0 s p1 !=41)=true:=by simp[a6]
   go_enter Tryz.func146,Tryz.ntmps146;go_wp2_with fail;refine(HE.out _ O (HS.out.set1.alloc _)).mono ?_;rintro e D ⟨rfl,U,B,J,V⟩;have a8:w.heap.size<D.heap.size:=by have:=J.size;simp at this;omega
   have X:=Y.out;have a1:Blk D w.heap.size P1 206:=by
    have h9:=Blk.aQ (w.setCell ⟨M,1,none⟩ (.int .i64 ((p:Int)+1))) P1 206;rw[show(w.setCell ⟨M,1,none⟩ (.int .i64 ((p:Int)+1))).heap.size=w.heap.size by simp]at h9;exact h9.kept J (fun e=>by rcases e with e|e;omega;have:=X _ e;omega)
   have Z:=Blk.aQ D P1 206;have a0:=(a1.alloc (.cells P1 206)).aP (g:=D.heap.size) (by omega) (K2 q);have K:C0 (fun k=>k=M\/O k) w D:=((hK.setCell (fun _=>.inl rfl) _).alloc _).trans' J;have G:∀k,U k->O k\/w.heap.size<k:=by
    intro k hk;rcases V k hk with e|e
    ·exact .inl e
    ·exact .inr (by simp at e;omega)
   have HH:Hid (RS D M gb s p1 R1 U/\C0 (fun k=>k=M\/O k) w D/\(∀k,U k->O k\/w.heap.size<k)):=⟨B,K,G⟩;clear B J V K G X;have a5:Rd ((D.alloc (.cells P1 206)).setRow D.heap.size (K2 q)) M s p1 gb:=Blk.aP (Blk.alloc (HH.out.1.rd) _) (by have:=HH.out.1.lt;omega) _;go_wp2_with(first|refine N7 rfl (.tmp 4) (.tmp 16) rfl D.heap.size rfl rfl Z rfl ?_);refine(E3 s p1 M gb _ a5 hs (by omega)).mono ?_;rintro e w2 ⟨rfl,n,rfl⟩;have a2:=a0.drewN n;go_wp2_with(first|refine N7 (q:=V6.aQ) rfl (.tmp 2) (.tmp 25) rfl w.heap.size rfl rfl a2 rfl ?_);obtain⟨B,K,G⟩:=HH.out;have X:=Y.out;have a3:¬U w.heap.size:=fun e=>by rcases G _ e with e|e;have:=X _ e;omega;omega
   have a4:¬U D.heap.size:=fun e=>by have:=B.olt _ e;omega
   have ab:=B.lt;refine bodyPost_ret (R3 Tryz.results146 _ rfl (a2.setRow _)) rfl ⟨rfl,U,(((B.alloc _).setRow (by omega) a4 _).drewN n).setRow (by omega) a3 _,?_,?_⟩
   ·exact(((K.alloc _).setRow (by omega) _).drewN n).setRow (by omega) _
   ·exact fun k hk=>(G k hk).imp id (fun e=>by omega)
end Go.Proofs.YtcckhngbdoiikaaGreat

namespace Go.Proofs.YtcckhngbdoiikaaGreat
open Go.RowKit Go.Deep
def Yv(B:Nat)(s:ByteArray)(h gb f:Nat)(F:PFn):Prop:=∀(w:World) (p:Nat) (R:E0) (O:Nat->Prop),RS w h gb s p R O->p<=s.size->R.aC.length<=p->s.size-p<=f->
 Calls Tryz.prog B #[.pointer (some ⟨h,0,none⟩)] w fun e w'=>
  e=.returned (.tuple #[O9 (F p R).part,.bool (F p R).ok])/\NA w w' h gb s O (F p R).bC (F p R).aD
end Go.Proofs.YtcckhngbdoiikaaGreat

namespace Go.Proofs.YtcckhngbdoiikaaGreat
open Go.RowKit Go.Deep
theorem Qf{w:World}{b o:Nat}{cs:List Value}(h:w.rangeAt b o cs){a:Addr}(f:a.block≠b)(v:Value):(w.setCell a v).rangeAt b o cs:=fun j u B=>by
 rw[World.cell?_setCell_far _ _ _ _ f];exact h j u B
theorem Ku{w:World}{b:Nat}{c:Array Value}{t:TypeId}(h:Blk w b c t):w.rangeAt b 0 c.toList:=fun j v f=>by
 rw[yU,h.cell];simpa using f
set_option maxRecDepth 4000 in
theorem ZT(s:ByteArray)(G gb f:Nat)(hE:JN s G gb f)(hs:s.size<=120)(w:World)(p:Nat)(R:E0)(O:Nat->Prop)(h:RS w G gb s p R O)(hp:p<=s.size)(hR:R.aC.length<=p)(hf:s.size-p<=f):
  Calls Tryz.prog 144 #[.pointer (some ⟨G,0,none⟩)] w fun e w'=>
   e=.returned (.tuple #[O9 (Wd s (N5 s f) p R).part,.bool (Wd s (N5 s f) p R).ok])/\NA w w' G gb s O (Wd s (N5 s f) p R).bC (Wd s (N5 s f) p R).aD:=by
 have az:=h.lt;have hK:C0 (fun k=>k=G\/O k) w w:=C0.refl _ _;have nO:∀k,O k->k<w.heap.size:=h.olt;have ac:¬O w.heap.size:=fun e=>by have:=nO _ e;omega
 unfold Wd
 by_cases Z:F0 s p=40
 ·rw[if_pos Z];have au:p<s.size:=A1 (by rw[Z];decide);have a9:=fun W O h1=>IQ s G gb f hE hs W p R O h1 au hR hf
  generalize Ae s (N5 s f) p R=r at a9⊢;obtain⟨q,ok,p1,R1⟩:=r;simp only at a9⊢;have HG:=Hd a9;have HS:=Hd h;have a8:=Hd nO;clear a9 hE h nO;go_enter Tryz.func144,Tryz.ntmps144;go_wp2_with fail;refine(E3 s p G gb _ (HS.out.rd.alloc _) hs (by omega)).mono ?_;rintro e B ⟨rfl,n,rfl⟩;rw[Z];go_wp2_with fail;refine(HG.out _ O ((HS.out.alloc _).drewN n)).mono ?_;rintro e B ⟨rfl,O1,J,D,ar⟩;have M:Blk B w.heap.size P1 206:=((Blk.aQ w P1 206).drewN n).kept D (fun e=>by rcases e with e|e;omega;exact ac e);go_wp2_with(refine N7 rfl (.tmp 2) (.tmp 11) rfl w.heap.size rfl rfl M rfl ?_);have nO:=a8.out;have ah:∀k,O1 k->O k\/w.heap.size<k:=by
   intro k hk;rcases ar k hk with e|e
   ·exact .inl e
   ·exact .inr (by simp at e;omega)
  have aq:¬O1 w.heap.size:=fun e=>by rcases ah _ e with e|e;have:=nO _ e;omega;omega
  refine bodyPost_ret (R3 Tryz.results144 _ rfl (M.setRow _)) rfl ⟨rfl,O1,J.setRow (by omega) aq _,?_,?_⟩
  ·exact(((hK.alloc _).drewN n).trans' D).setRow (by omega) _
  ·exact fun k hk=>(ah k hk).imp id (fun e=>by omega)
 rw[if_neg Z];have aw:(F0 s p==40)=false:=by simp[Z]
 have aa:=fun W h1=>JR s p G gb W h1 hs hp
 generalize T6 s p=r at aa⊢;obtain⟨A,ok,p1⟩:=r;simp only at aa⊢;have HP:=Hd aa;have HS:=Hd h;have a8:=Hd nO;clear aa hE h nO Z;cases ok with
 |false=>
  rw[if_neg (by simp)];go_enter Tryz.func144,Tryz.ntmps144;go_wp2_with fail;refine(E3 s p G gb _ (HS.out.rd.alloc _) hs (by omega)).mono ?_;rintro e B ⟨rfl,n,rfl⟩;go_wp2_with fail;refine(HP.out _ ((HS.out.rd.alloc _).drewN n)).mono ?_;rintro e B ⟨rfl,a7,D⟩;have J:=((HS.out.alloc _).drewN n).jG a7 D;have M:Blk B w.heap.size P1 206:=((Blk.aQ w P1 206).drewN n).kept D (by omega);have av:=M.lt;have a2:=Blk.aQ B Tryz.zeroCells228 228;have X:=(M.alloc (.cells Tryz.zeroCells228 228)).aP (g:=B.heap.size) (by omega) (U1 A);have U:C0 (fun k=>k=G\/O k) w B:=((hK.alloc _).drewN n).trans D (fun i _ e=>.inl e);have HH:Hid (RS B G gb s p1 R O/\C0 (fun k=>k=G\/O k) w B):=⟨J,U⟩;clear J a7 D U;go_wp2_with(first|refine Fa rfl (.tmp 4) (.tmp 16) rfl B.heap.size rfl rfl a2 Vc ?_|refine N7 (q:=V6.aQ) rfl (.tmp 2) (.tmp 20) rfl w.heap.size rfl rfl X rfl ?_);obtain⟨J,U⟩:=HH.out;have ab:¬O B.heap.size:=fun e=>by have:=a8.out _ e;omega
  refine bodyPost_ret (R3 Tryz.results144 _ rfl (X.setRow _)) rfl ⟨rfl,O,((J.alloc _).setRow (by omega) ab _).setRow (by omega) ac _,?_,fun k hk=>.inl hk⟩;exact((U.alloc _).setRow (by omega) _).setRow (by omega) _
 |true=>
  rw[if_pos rfl];go_enter Tryz.func144,Tryz.ntmps144;go_wp2_with fail;refine(E3 s p G gb _ (HS.out.rd.alloc _) hs (by omega)).mono ?_;rintro e B ⟨rfl,n,rfl⟩;go_wp2_with fail;refine(HP.out _ ((HS.out.rd.alloc _).drewN n)).mono ?_;rintro e B ⟨rfl,a7,D⟩;have J:=((HS.out.alloc _).drewN n).jG a7 D;have M:Blk B w.heap.size P1 206:=((Blk.aQ w P1 206).drewN n).kept D (by omega);have av:=M.lt;have a2:=Blk.aQ B Tryz.zeroCells228 228;have U:C0 (fun k=>k=G\/O k) w B:=((hK.alloc _).drewN n).trans D (fun i _ e=>.inl e);have ab:¬O B.heap.size:=fun e=>by have:=a8.out _ e;omega
  have ay:=J.lt;have V:=(J.alloc (.cells Tryz.zeroCells228 228)).setRow (g:=B.heap.size) (by omega) ab (U1 A);have a4:=(U.alloc (.cells Tryz.zeroCells228 228)).setRow (g:=B.heap.size) (by omega) (U1 A);have X:=(M.alloc (.cells Tryz.zeroCells228 228)).aP (g:=B.heap.size) (by omega) (U1 A);have a0:=a2.setRow (U1 A);clear J a7 D U M;go_wp2_with(first|refine Fa rfl (.tmp 4) (.tmp 16) rfl B.heap.size rfl rfl a2 Vc ?_);generalize(B.alloc (.cells Tryz.zeroCells228 228)).setRow B.heap.size (U1 A)=w2 at V a4 X a0⊢;obtain⟨fv,lv,ad⟩:=V.ru;have c2:w2.cell? ⟨G,2,none⟩=some (.pointer (some ⟨gb,0,none⟩)):=V.rd.c2;have aj:=Ku a0;have hu:=Tryz.underlying228;have hi:(Tryz.prog.info? 228).map (·.size)=some (U1 A).toList.length:=by rw[Array.length_toList,X2];exact Tryz.cV
  have ap:(U1 A).toList.length=256:=by rw[Array.length_toList,X2]
  have ai:∀v∈(U1 A).toList,v.oneCell'=true:=fun v hv=>(Array.all_eq_true_iff_forall_mem.1 (Qj A)) v (by simpa using hv)
  have zZ:w.heap.size<w2.heap.size:=X.lt;have zA:B.heap.size<w2.heap.size:=a0.lt;have zr:G<w2.heap.size:=V.lt;have a3:∀W,C1 W gb O R fv lv->Calls Tryz.prog 148 #[.pointer (some ⟨gb,0,none⟩),.agg (U1 A).toList.toArray] W fun e w'=>
   e=.returned (O9 R.addPart)/\∃O' am,C1 w' gb O' (R.add A) am lv/\C0 O W w'/\∀k,O' k->O k\/W.heap.size<=k:=by
   intro W hW;rw[Array.toArray_toList];exact ZW R gb O fv lv A W hW (by omega)
  have af:∀W,Blk W B.heap.size (U1 A) 228->W.rangeAt B.heap.size 0 (U1 A).toList:=fun W hW=>Ku hW
  generalize(U1 A).toList=cs at aj hi ap ai a3 af;have ag:=Hd a3;have ak:=Hd af;have a1:Hid (RS w2 G gb s p1 R O/\C0 (fun k=>k=G\/O k) w w2/\Blk w2 w.heap.size P1 206/\C1 w2 gb O R fv lv/\Blk w2 B.heap.size (U1 A) 228):=⟨V,a4,X,ad,a0⟩;clear V a4 X ad a0 a2 a3 af;have K:w.heap.size≠G:=by omega
  have Y:w.heap.size≠B.heap.size:=by omega
  go_region_held3 (fun w'=>w'.cell? ⟨G,2,none⟩=some (.pointer (some ⟨gb,0,none⟩))/\w'.rangeAt B.heap.size 0 cs)
   (first|with_reducible exact⟨k1,k2⟩|exact⟨by simp[k1,K,World.cell?_setCell_far],Qf (Qf (Qf (Qf (Qf k2 Y _) Y _) Y _) Y _) Y _⟩|exact⟨c2,aj⟩)
   (first|(go_at_call 148;refine(ag.out _ a1.out.2.2.2.1.drew).mono ?_;rintro e w3 ⟨rfl,O3,ax,an,a5,ae⟩;have k1:w3.cell? ⟨G,2,none⟩=some (.pointer (some ⟨gb,0,none⟩)):=(a5.cell (p:=⟨G,2,none⟩) zr a1.out.1.no).trans c2;have k2:w3.rangeAt B.heap.size 0 cs:=ak.out _ (a1.out.2.2.2.2.drew.kept a5 ab);have k3:=a1.out.2.2.1.drew.kept a5 ac;have b0:=k3.cell 0;have b1:=k3.cell 1;have b2:=k3.cell 2;have b3:=k3.cell 3;have b4:=k3.cell 4;have b5:=k3.frozen 0;have b6:=k3.frozen 1;have b7:=k3.frozen 2;have b8:=k3.frozen 3;have b9:=k3.frozen 4))
  obtain⟨V,a4,X,ad,a0⟩:=a1.out;have ao:=V.drew.gB an a5 ae;have a6:¬O3 w.heap.size:=fun e=>by rcases ae _ e with e|e;exact ac e;simp at e;omega
  have U:C0 (fun k=>k=G\/O k) w w3:=a4.drew.trans a5 (fun i _ e=>.inr e);go_wp2_with fail;refine bodyPost_ret (R3 (x:=R.addPart) Tryz.results144 _ rfl (((((k3.set 0 _).set 1 _).set 2 _).set 3 _).set 4 _)) rfl ⟨rfl,O3,((((ao.aG K a6 _).aG K a6 _).aG K a6 _).aG K a6 _).aG K a6 _,?_,?_⟩
  ·exact((((U.setCell (by simp) _).setCell (by simp) _).setCell (by simp) _).setCell (by simp) _).setCell (by simp) _
  ·intro k hk;rcases ae k hk with e|e
   ·exact .inl e
   ·exact .inr (by simp at e;omega)
theorem CX(s:ByteArray)(B gb f:Nat)(D:JN s B gb f)(M:s.size<=120):Yv 144 s B gb f (Wd s (N5 s f)):=
 fun w p R O h K G J=>ZT s B gb f D M w p R O h K G J
end Go.Proofs.YtcckhngbdoiikaaGreat
