import Derived.Test.YtcckhngbdoiikabGreatA12
import Derived.Test.YtcckhngbdoiikabGreatA14
import Derived.Test.YtcckhngbdoiikabGreatA11
import Derived.Test.YtcckhngbdoiikabGreatA15
set_option maxRecDepth 20000
set_option maxHeartbeats 12800000
set_option linter.unusedVariables false
namespace Go.Proofs.YtcckhngbdoiikabGreat
open Go.RowKit Go.Deep
def Mj(aE f:List Int)(h:List Int)(k:Nat):List Int:=J2 aE f (h.take k)++List.replicate (h.length-k) 0
theorem JT(aE B f:List Int)(k:Nat)(h:k<=f.length):(Mj aE B f k).length=f.length:=by simp[Mj,J2];omega
theorem UN(aE B f:List Int)(k:Nat)(h:k<f.length):Mj aE B f (k+1)=(Mj aE B f k).set k (if f[k] != -1 then B.getD (aE.getD f[k].toNat 0).toNat 0 else -1):=by
 unfold Mj;have D:(J2 aE B (f.take k)).length=k:=by simp[J2];omega
 rw[List.set_append_right _ _ (by omega),D,yS,show f.length-k=(f.length- (k+1))+1 by omega,List.replicate_succ,List.set_cons_zero,yO h];unfold J2;rw[zV,yF];rfl
theorem IT(aE f h:List Int):Mj aE f h h.length=J2 aE f h:=by simp[Mj]
theorem YN{h wr M:World}{O:Nat->Prop}{pv:Value}{ud:Option Addr}{D wb G B n:Nat}{J:List Int}{uy:Int}{aN:List (List Int)}{a4:List Int}
  (h1:Bw h wr) (h2:Blk wr h.heap.size #[.slice ud J.length D,pv] 71) (h3:Y4 wr O pv aN) (h4:Q2 wr (.slice (some ⟨wb,0,none⟩) n n) a4)
  (h5:∀k,O k->h.heap.size<k) (W:∀b,(Value.slice ud J.length D).ownBlock=some b->h.heap.size<b/\b<wb/\¬O b) (zw:h.heap.size<wr.heap.size) (zz:wb<wr.heap.size) (ac:¬O wb) (a9:¬O h.heap.size) (ad:h.heap.size<wb)
  (a3:M.ownsRow 0 3 1 (.slice (some ⟨G,0,none⟩) (J.length+1) B) (J.length+1) (J.map (Value.int .i64)++ [.int .i64 uy]))
  (f:(wr.alloc (.cells #[.int .i64 uy] 3)).drew.grownBy M (Value.slice ud J.length D).ownBlock)
  (X:(Value.slice ud J.length D).ownBlock=some G\/G=wr.heap.size+1) (ab:G<M.heap.size):
  ∀V,V=M.setCell ⟨h.heap.size,0,none⟩ (.slice (some ⟨G,0,none⟩) (J.length+1) B)->Bw h V/\Blk V h.heap.size #[.slice (some ⟨G,0,none⟩) (J.length+1) B,pv] 71/\Y4 V O pv aN/\Q2 V (.slice (some ⟨wb,0,none⟩) n n) a4/\
   Q2 V (.slice (some ⟨G,0,none⟩) (J.length+1) B) (J++ [uy])/\h.heap.size<G/\G≠wb/\¬O G/\wb<V.heap.size:=by
 rintro V rfl;have K:C0 (fun k=>(Value.slice ud J.length D).ownBlock=some k) (wr.alloc (.cells #[.int .i64 uy] 3)).drew M:=⟨f.os,f.tape,f.output,f.size,fun k K he=>f.block k K (fun e=>he e.symm)⟩;have Z:C0 (fun _=>False) wr (wr.alloc (.cells #[.int .i64 uy] 3)).drew:=((C0.refl (fun _=>False) wr).alloc _).drew;have a2:C0 (fun k=>k=h.heap.size) M (M.setCell ⟨h.heap.size,0,none⟩ (.slice (some ⟨G,0,none⟩) (J.length+1) B)):=C0.setCell (ex:=fun k=>k=h.heap.size) (p:=⟨h.heap.size,0,none⟩) (C0.refl _ _) (fun _=>rfl) _;have a7:¬O G:=by
  intro e;rcases X with U|U
  ·exact(W _ U).2.2 e
  ·have:=h3.olt _ e;omega
 have a8:h.heap.size<G:=by
  rcases X with U|U
  ·exact(W _ U).1
  ·omega
 have a0:G≠wb:=by
  rcases X with U|U
  ·have:=(W _ U).2.1;omega
  ·omega
 have aa:=K.size;simp at aa;refine⟨?_,?_,?_,?_,?_,a8,a0,a7,by simp;omega⟩
 ·have a5:Bw h (wr.alloc (.cells #[.int .i64 uy] 3)).drew:=⟨h1.os,h1.tape,h1.output,yI h1.size Z.size,fun k a1=>(Z.block k (by omega) (fun e=>e)).trans (h1.block k a1)⟩;have a6:Bw h M:=a5.trans ⟨K.os,K.tape,K.output,K.size,fun k a1=>K.block k (by simp;omega) (fun e=>by have:=(W _ e).1;omega)⟩;exact a6.setCell (zD _) _
 ·exact(((h2.alloc _).drew).kept K (fun e=>by have:=(W _ e).1;omega)).set 0 _
 ·exact(((h3.alloc _).drew).kept K (fun b Y e=>(W _ e).2.2 Y)).setCell a9 _
 ·exact((h4.kept Z (fun _ _ e=>e)).kept K (fun b Y e=>by cases(zE Y:wb=b);have:=(W _ e).2.1;omega)).kept a2 (fun b Y e=>by cases(zE Y:wb=b);omega)
 ·exact(Nt (w:=M) (v:=.slice none 0 0) a3).kept a2 (fun b Y e=>by cases(zE Y:G=b);omega)
theorem XN(rv nv cv:Value)(g:B0)(K:Nat)(aE:List Int)(w:World)(hg:Y6 w rv nv g)(ho:GOk g K)(hc:Q2 w cv aE)(au:aE.length=g.aB.length)(ah:∀x∈aE,0<=x/\x<(g.aB.length:Int))(d9:0<g.aB.length)(hn:g.aB.length<=1000)(hK:K<=1000):
  Calls Tryz.prog 59 #[.agg #[rv,nv],cv] w fun e w'=>∃dk di,e=.returned (.agg #[dk,di])/\Y6 w' dk di (E1 g aE)/\Bw w w':=by
 have hV:=fun(W:World) (M:Bw w W)=>CV rv nv cv g K aE W (hg.aA M) ho (hc.aA M) au ah d9 hn hK
 obtain⟨vs,hN,b5,dd⟩:=hg.next;have ay:=hg.aB;obtain⟨rd,ad,rfl,c2⟩:=hg.aB.aV;obtain⟨nd,a7,rfl,bz⟩:=hN.aV;obtain⟨cd,ec,rfl,bp⟩:=hc.aV;have ac:=ho.len;rcases bp with h0|⟨cg,rfl⟩
 ·omega
 rcases bz with h0|⟨ng,rfl⟩
 ·omega
 rcases c2 with h0|⟨rg,rfl⟩
 ·omega
 have du:=Hd dd;have HN:=Hd hN;have bh:=Hd ay;have HO:=Hd ho;have HC:=Hd hc;have dl:=Hd ah;have dm:=Hd au;have ae:=Hd b5;have a1:=Hd ac;have dt:=Hd hV;have f4:vs.length<=1000:=by omega
 have ef:aE.length<=1000:=by omega
 clear dd hN ay ho hg ac b5 hc ah au hV;generalize dc:A2 g aE=V;have cf:=Hd dc;clear dc;go_enter Tryz.func59,Tryz.ntmps59;go_wp2_with fail;refine(dt.out _ (F6 _ _ _)).mono ?_;rw[cf.out];rintro e B ⟨fv,mv,rfl,bj,bk,c5,b3⟩;obtain⟨fd,ee,rfl,br⟩:=bj.aV;obtain⟨md,em,rfl,bw⟩:=bk.aV;have cn:=((Blk.aR w #[.slice (some ⟨rg,0,none⟩) g.aB.length ad,.slice (some ⟨ng,0,none⟩) vs.length a7] 71).alloc (.cells #[.slice none 0 0,.slice none 0 0] 71)).aA b3;have bn:=(Blk.dX w (.cells #[.slice (some ⟨rg,0,none⟩) g.aB.length ad,.slice (some ⟨ng,0,none⟩) vs.length a7] 71) #[.slice none 0 0,.slice none 0 0] 71).aA b3;have cx:Bw w B:=(F6 w _ _).trans (b3.mono (by simp;omega));have z1:w.heap.size+1<B.heap.size:=bn.lt;have z0:w.heap.size<B.heap.size:=by omega
 have c6:=c5.sum;have el:V.1.length<=1000:=by omega
 have dn:=Hd bj;have cb:=Hd bk;have ch:=Hd c5;have aj:Hid (Bw w B/\Blk B w.heap.size #[.slice (some ⟨rg,0,none⟩) g.aB.length ad,.slice (some ⟨ng,0,none⟩) vs.length a7] 71/\Blk B (w.heap.size+1) #[.slice none 0 0,.slice none 0 0] 71):=⟨cx,cn,bn⟩;clear cx cn bn b3 bj bk c5 c6;go_wp2_with fail
 go_loopg[22] V.1.length (fun G i wr=>∃(n:Nat) (O:Nat->Prop) (uv pv:Value),n<=V.1.length/\G=V.1.length-n/\i=.int .i64 n/\Bw B wr/\
  Blk wr B.heap.size #[uv,pv] 71/\Y4 wr O pv ((V.1.take n).map (fun m=>J2 aE V.2 (g.next.getD m.toNat [])))/\Q2 wr uv ((V.1.take n).map (fun m=>g.aB.getD m.toNat 0))/\(∀k,O k->B.heap.size<k)/\∀b,uv.ownBlock=some b->B.heap.size<b/\¬O b)
 case atStart=>
  refine⟨0,fun _=>False,.slice none 0 0,.slice none 0 0,by omega,rfl,rfl,N0 _ _,Blk.aR _ _ _,by simpa using Y4.nil _,?_,fun k h=>h.elim,fun b h=>by simp[Value.ownBlock]at h⟩;exact World.ownsRow_nil _ _ _ _
 case round=>
  obtain⟨n,O,uv,pv,ev,rfl,rfl,M,hP,hR,hU,hO,b2⟩:=hrel
  by_cases bv:n<V.1.length
  ·have e0:decide ((n:Int)<(V.1.length:Int))=true:=by simp;omega
   rcases br with h0|⟨fg,rfl⟩
   ·omega
   have b4:Bw w wr:=aj.out.1.trans (M.mono (by omega));have b5:=ae.out;have ac:=a1.out;have f0:=(dn.out.aA M).cell n bv;have hx:=ch.out.ok V.1[n] (zG bv);have bs:V.1[n]?=some V.1[n]:=zF bv;generalize V.1[n]=x at f0 hx bs;obtain⟨x,rfl⟩:∃j:Nat,x=(j:Int):=⟨x.toNat,by omega⟩;have e6:x<vs.length:=by omega
   have n0:=(HN.out.aA b4).cell x e6;have u0:=(bh.out.aA b4).cell x (by omega);have a8:g.aB.getD x 0=g.aB[x]'(by omega):=by simp[show x<g.aB.length by omega]
   generalize e4:g.aB[x]'(by omega)=ux at u0 a8;have a6:=du.out x vs[x] (zF _);have d7:=HO.out.row x (by omega);generalize vs[x]=vn at n0 a6;generalize db:g.next.getD x []=f at a6 d7;obtain⟨ed,cl,rfl,bq⟩:=a6.aV;have g1:wr.cell? ⟨w.heap.size,1,none⟩=some (.slice (some ⟨ng,0,none⟩) vs.length a7):=(aj.out.2.1.aA M).cell 1;have i0:(0:Int)<=(n:Int):=by omega
   have i1:(n:Int)<(V.1.length:Int):=by omega
   have i2:(0:Int)<=(x:Int):=by omega
   have i3:(x:Int)<(vs.length:Int):=by omega
   have zr:B.heap.size<wr.heap.size:=hP.lt;have f2:f.length<=1000:=by omega
   have et:=Je f.length (by omega);obtain⟨d8,bb⟩:=d7;have dr:=Hd bb;have ce:=Hd a6;have c9:=Hd bs;have en:=Hd a8;have ds:=Hd db;have HH:Hid (Bw B wr/\Blk wr B.heap.size #[uv,pv] 71/\Y4 wr O pv ((V.1.take n).map (fun m=>J2 aE V.2 (g.next.getD m.toNat [])))/\Q2 wr uv ((V.1.take n).map (fun m=>g.aB.getD m.toNat 0))/\(∀k,O k->B.heap.size<k)/\∀b,uv.ownBlock=some b->B.heap.size<b/\¬O b):=⟨M,hP,hR,hU,hO,b2⟩;have ai:=Hd b4;clear M hP hR hU hO b2 b5 ac d8 bb a6 db b4 e4 hx bs a8 u0;obtain⟨J,rfl⟩:∃J:World,J=wr:=⟨_,rfl⟩;have cm:∀X:World,Bw J X->X.cell? ⟨w.heap.size,1,none⟩=some (.slice (some ⟨ng,0,none⟩) vs.length a7):=fun X hX=>((aj.out.2.1.aA HH.out.1).aA hX).cell 1
   have dh:∀X:World,Bw J X->X.cell? ⟨ng,x,none⟩=some (.slice ed f.length cl):=fun X hX=>by rw[hX.cell (p:=⟨ng,x,none⟩) (show ng<J.heap.size by have:=Q1 HN.out ng rfl;have:=ai.out.size;omega)];exact n0
   have dx:=cm (J.alloc (.cells (T3 (List.replicate f.length 0)) 3)) (N0 _ _);have eb:=dh (J.alloc (.cells (T3 (List.replicate f.length 0)) 3)) (N0 _ _);have f8:ng<J.heap.size:=by have:=Q1 HN.out ng rfl;have:=ai.out.size;omega
   have zn:w.heap.size<J.heap.size:=by omega
   clear cm dh;go_wp2_with fail
   go_loopg[39] f.length (fun G i wr=>∃(k:Nat),k<=f.length/\G=f.length-k/\i=.int .i64 k/\Bw J wr/\Blk wr J.heap.size (T3 (Mj aE V.2 f k)) 3)
   case atStart=>
    refine⟨0,by omega,rfl,rfl,N0 _ _,?_⟩;have e1:Mj aE V.2 f 0=List.replicate f.length 0:=by simp[Mj,J2]
    rw[e1];exact Blk.aR _ _ _
   case round=>
    obtain⟨k,hk,rfl,rfl,M,hI⟩:=hrel;have bt:=JT aE V.2 f k hk;clear g1 dx n0 eb f0
    by_cases bu:k<f.length
    ·have e1:decide ((k:Int)<(f.length:Int))=true:=by simp;omega
     rcases bq with h0|⟨eg,rfl⟩
     ·omega
     have Y:Bw w wr:=ai.out.trans (M.mono (by omega));have ar:Bw B wr:=HH.out.1.trans (M.mono (by omega));have r0:=(ce.out.aA Y).cell k bu;have c3:=dr.out f[k] (zG bu);have a0:=UN aE V.2 f k bu;have c0:=Aa hI k (by omega);generalize(Mj aE V.2 f k)[k]'(by omega)=old at c0;have eo:=hI.frozen k;have i4:(0:Int)<=(k:Int):=by omega
     have i5:(k:Int)<(f.length:Int):=by omega
     generalize f[k]=to at r0 c3 a0
     by_cases bx:to= -1
     ·subst bx;have bi:=Hd a0;have be:Hid (Bw J wr/\Blk wr J.heap.size (T3 (Mj aE V.2 f k)) 3):=⟨M,hI⟩;clear a0 M hI Y ar c3 bt;go_wp2_with fail
      go_roundg (f.length- (k+1))
      case measure=>omega
      case rel=>
       obtain⟨q1,q2⟩:=be.out;refine⟨k+1,by omega,rfl,by go_num,q1.setCell (zD _) _,?_⟩;have hs:=bi.out;simp only[bne_self_eq_false,zX,if_false]at hs;rw[hs,<-Z3];exact q2.set k _
     ·have e2:(to != -1)=true:=by simp[bx]
      obtain⟨j,rfl⟩:∃j:Nat,to=(j:Int):=⟨to.toNat,by omega⟩;have au:=dm.out;have hj:j<aE.length:=by omega
      have cj:=(HC.out.aA Y).cell j hj;have ah:=dl.out aE[j] (zG hj);have d0:aE.getD j 0=aE[j]:=by simp[hj]
      rw[zH,d0,e2,if_pos rfl]at a0;generalize aE[j]=ci at cj ah a0;obtain⟨ci,rfl⟩:∃i:Nat,ci=(i:Int):=⟨ci.toNat,by omega⟩;rw[zH]at a0;have e3:=ch.out.len;have b8:ci<V.2.length:=by omega
      rcases bw with h0|⟨mg,rfl⟩
      ·omega
      have mc:=(cb.out.aA ar).cell ci b8;have d2:V.2.getD ci 0=V.2[ci]:=by simp[b8]
      rw[d2]at a0;generalize V.2[ci]=old2 at mc a0;have f5:cg<J.heap.size:=by have:=Q1 HC.out cg rfl;have:=ai.out.size;omega
      have f6:mg<J.heap.size:=by have:=Q1 cb.out mg rfl;omega
      have eu:cg≠J.heap.size:=by omega
      have ew:mg≠J.heap.size:=by omega
      have j0:(0:Int)<=(j:Int):=by omega
      have j1:(j:Int)<(aE.length:Int):=by omega
      have k0:(0:Int)<=(ci:Int):=by omega
      have k1:(ci:Int)<(V.2.length:Int):=by omega
      have bi:=Hd a0;have be:Hid (Bw J wr/\Blk wr J.heap.size (T3 (Mj aE V.2 f k)) 3):=⟨M,hI⟩;clear a0 M hI Y ar c3 bt d0 d2 ah au e3 bx;go_wp2_with fail
      go_roundg (f.length- (k+1))
      case measure=>omega
      case rel=>
       obtain⟨q1,q2⟩:=be.out;refine⟨k+1,by omega,rfl,by go_num,(q1.setCell (zD _) _).setCell (zD _) _,?_⟩;have q3:=(q2.set k (.int .i64 (-1))).set k (.int .i64 old2);rw[Z3,Z3,List.set_set]at q3;rw[bi.out];exact q3
    ·have e1:decide ((k:Int)<(f.length:Int))=false:=by simp;omega
     obtain rfl:k=f.length:=by omega
     rw[IT]at hI;obtain⟨bo,cp,bm,a2,bl,aq⟩:=HH.out;have Y:Bw w wr:=ai.out.trans (M.mono (by omega));have an:=cp.aA M;have cq:=bm.aA M;have b1:=a2.aA M;have co:=((aj.out.2.1.aA bo).aA M);have u0:=(bh.out.aA Y).cell x (by have:=ae.out;have:=a1.out;omega);have bc:((V.1.take n).map (fun m=>g.aB.getD m.toNat 0)).length=n:=by simp;omega
     have a8:g.aB.getD x 0=g.aB[x]'(by have:=ae.out;have:=a1.out;omega):=by simp[show x<g.aB.length by have:=ae.out;have:=a1.out;omega]
     generalize g.aB[x]'(by have:=ae.out;have:=a1.out;omega)=uy at u0 a8;generalize ap:(V.1.take n).map (fun m=>g.aB.getD m.toNat 0)=ul at b1 bc a2;obtain⟨ud,D,rfl,_⟩:=b1.aV;have ek:ul.length<=1000:=by omega
     clear bc;have p0:wr.cell? ⟨B.heap.size,0,none⟩=some (.slice ud ul.length D):=an.cell 0;have dj:=an.frozen 0;have g0:wr.cell? ⟨w.heap.size,0,none⟩=some (.slice (some ⟨rg,0,none⟩) g.aB.length ad):=co.cell 0;have i6:(x:Int)<(g.aB.length:Int):=by have:=ae.out;have:=a1.out;omega
     have da:(J2 aE V.2 f).length=f.length:=by simp[J2]
     have a9:=Q2.cC hI (by omega);rw[da]at a9;obtain⟨ii,hi,de,df,dg⟩:=info_parts Tryz.cG;have zw:B.heap.size<wr.heap.size:=an.lt;have zz:J.heap.size<wr.heap.size:=hI.lt;have f9:rg<wr.heap.size:=Q1 (bh.out.aA Y) rg rfl;have fa:w.heap.size<wr.heap.size:=by omega
     have c4:∀b,(Value.slice ud ul.length D).ownBlock=some b->B.heap.size<b/\b<J.heap.size/\¬O b:=fun b e=>⟨(aq b e).1,Q1 a2 b e,(aq b e).2⟩
     have bd:(Value.slice ud ul.length D).ownBlock≠some B.heap.size:=fun e=>by have:=(c4 _ e).1;omega
     have d3:C0 (fun _=>False) wr (wr.alloc (.cells #[.int .i64 uy] 3)).drew:=((C0.refl (fun _=>False) wr).alloc _).drew;have av:Q2 (wr.alloc (.cells #[.int .i64 uy] 3)).drew (.slice ud ul.length D) ul:=b1.kept d3 (fun _ _ e=>e);have b7:Bw B wr:=bo.trans (M.mono (by omega));have d5:¬O J.heap.size:=fun e=>by have:=bm.olt _ e;omega
     have d6:¬O B.heap.size:=fun e=>by have:=bl _ e;omega
     have cc:=Hd av;have am:=Hd bd;have a3:Hid (Bw B wr/\Blk wr B.heap.size #[.slice ud ul.length D,pv] 71/\Y4 wr O pv ((V.1.take n).map (fun m=>J2 aE V.2 (g.next.getD m.toNat [])))/\Q2 wr (.slice (some ⟨J.heap.size,0,none⟩) f.length f.length) (J2 aE V.2 f)/\(∀k,O k->B.heap.size<k)/\(∀b,(Value.slice ud ul.length D).ownBlock=some b->B.heap.size<b/\b<J.heap.size/\¬O b)):=⟨b7,an,cq,a9,bl,c4⟩;have c8:=Hd a8;have ak:=Hd ap;clear M hI bo cp bm a2 b1 bl aq an cq co a9 av bd c4 d3 b7 Y da bt a8 ap HH;go_wp2_with fail
     go_region_law ((refine step_append_lies _ (by rfl) _ _ _ (by rfl) 0 3 ii _ 1 8 Tryz.underlying68 hi de df dg rfl (by omega) (.slice ud ul.length D) ul.length (ul.map (Value.int .i64)) (by rfl) cc.out ⟨wr.heap.size,0,none⟩ 1 1 [.int .i64 uy] (by rfl) (by rfl) (World.news_of_block (cs:=#[.int .i64 uy]) (t:=3) (fr:=(0,0)) (heap_alloc_new wr _)) (by simp[Value.oneCell']) (by omega) (by unfold maxLen;omega) (by omega) (by simp) (wr.heap.size+1) (by simp) ?_;intro gf a4 w5 aw Z b6 b9;have dv:=(Z.cell_far ⟨B.heap.size,0,none⟩ (by simp;omega) (Ne.symm am.out)).trans (((World.cell?_alloc_past _ _ _ zw)).trans p0);have dw:=(Z.frozen_far ⟨B.heap.size,0,none⟩ (by simp;omega) (Ne.symm am.out)).trans (((World.frozen?_alloc_past _ _ _ zw)).trans dj)))
     all_goals
      have ba:=YN a3.out.1 a3.out.2.1 a3.out.2.2.1 a3.out.2.2.2.1 a3.out.2.2.2.2.1 a3.out.2.2.2.2.2 zw zz d5 d6 zr aw Z b6 b9 _ rfl;generalize w5.setCell ⟨B.heap.size,0,none⟩ (.slice (some ⟨gf,0,none⟩) (ul.length+1) a4)=w7 at ba⊢;obtain⟨m1,m2,m3,m4,m5,m6,m7,m8,m9⟩:=ba;obtain⟨us,af,ao,a2⟩:=m3.ex;obtain⟨pd,U,rfl,_⟩:=af.aV;have c1:w7.cell? ⟨B.heap.size,1,none⟩=some (.slice pd us.length U):=m2.cell 1;have f1:=m2.frozen 1;have f3:us.length<=1000:=by rw[ao];simp;omega
      obtain⟨ij,hj,e7,e8,ea⟩:=info_parts Tryz.dP;have av:=af.aA (N0 w7 (.cells #[.slice (some ⟨J.heap.size,0,none⟩) f.length f.length] 68));have z7:B.heap.size<w7.heap.size:=m2.lt;have cr:=m3.alloc (.cells #[.slice (some ⟨J.heap.size,0,none⟩) f.length f.length] 68);have bg:=Hd av;have HU:=Hd2 ao a2;have ca:Hid (Bw B w7/\Blk w7 B.heap.size #[.slice (some ⟨gf,0,none⟩) (ul.length+1) a4,.slice pd us.length U] 71/\Q2 w7 (.slice (some ⟨J.heap.size,0,none⟩) f.length f.length) (J2 aE V.2 f)/\Q2 w7 (.slice (some ⟨gf,0,none⟩) (ul.length+1) a4) (ul++ [uy])/\(∀k,O k->B.heap.size<k)):=⟨m1,m2,m4,m5,a3.out.2.2.2.2.1⟩;have az:=Hd cr;have bf:=Hd m8;clear m1 m2 m3 m4 m5 m8 af ao a2 av cr a3 cc aw Z b6 b9 p0 dj g0 u0 am dv dw hi de df dg;go_wp2_with(at_builtin;(refine wpList_append_lies _ (by rfl) _ _ _ (by rfl) 0 68 ij _ 1 24 Tryz.underlying69 hj e7 e8 ea rfl (by omega) (.slice pd us.length U) us.length us (by rfl) bg.out ⟨w7.heap.size,0,none⟩ 1 1 [.slice (some ⟨J.heap.size,0,none⟩) f.length f.length] (by rfl) (by rfl) (World.news_of_block (cs:=#[.slice (some ⟨J.heap.size,0,none⟩) f.length f.length]) (t:=68) (fr:=(0,0)) (heap_alloc_new w7 _)) (by simp[Value.oneCell']) (by omega) (by unfold maxLen;omega) (by omega) (by simp) (w7.heap.size+1) (by simp) ?_));intro gg ck w6 ax ab aa d4;obtain⟨q1,q2,q3,q5,q4⟩:=ca.out;obtain⟨ct,a5⟩:=Y4.push az.out bg.out HU.out.1 (fun i v hv=>⟨((HU.out.2 i v hv).1).aA (N0 _ _),(HU.out.2 i v hv).2⟩) (q3.aA (N0 _ _)) d5 ax ab (by simpa using aa) d4;have b0:=(q2.alloc (.cells #[.slice (some ⟨J.heap.size,0,none⟩) f.length f.length] 68)).kept a5 d6;have cu:=(q5.aA (N0 w7 (.cells #[.slice (some ⟨J.heap.size,0,none⟩) f.length f.length] 68))).kept a5 (fun b M=>by cases(zE M:gf=b);exact bf.out);have c7:w6.cell? ⟨B.heap.size,1,none⟩=some (.slice pd us.length U):=b0.cell 1;have f7:=b0.frozen 1;have eh:gf<w7.heap.size:=Q1 q5 gf rfl;have es:B.heap.size<gg:=by
       rcases aa with e|e
       ·exact q4 _ (az.out.ob _ e)
       ·omega
      have d1:gf≠gg:=by
       intro e;subst e;rcases aa with e|e
       ·exact bf.out (az.out.ob _ e)
       ·omega
      have cz:Bw B w6:=(q1.alloc (by omega) _).trans ⟨a5.os,a5.tape,a5.output,a5.size,fun k hk=>a5.block k (by simp;omega) (fun e=>by have:=q4 _ e;omega)⟩;have dq:Hid (Y4 w6 (fun k=>O k\/k=gg\/k=J.heap.size) (.slice (some ⟨gg,0,none⟩) (us.length+1) ck) ((V.1.take n).map (fun m=>J2 aE V.2 (g.next.getD m.toNat []))++ [J2 aE V.2 f])/\Blk w6 B.heap.size #[.slice (some ⟨gf,0,none⟩) (ul.length+1) a4,.slice pd us.length U] 71/\Bw B w6/\Q2 w6 (.slice (some ⟨gf,0,none⟩) (ul.length+1) a4) (ul++ [uy])/\∀k,O k->B.heap.size<k):=⟨ct,b0,cz,cu,q4⟩;clear ct a5 b0 cz q1 q2 q3 q4 q5 cu ax ab aa ca az HU bg c1 f1;go_wp2_with fail
      go_roundg (V.1.length- (n+1))
      case measure=>omega
      case rel=>
       obtain⟨q1,q2,q3,q5,q4⟩:=dq.out;refine⟨n+1,(fun k=>O k\/k=gg\/k=J.heap.size),_,_,by omega,rfl,by go_num,q3.setCell (zD _) _,q2.set 1 _,?_,?_,?_,?_⟩
       ·have e9:(V.1.take (n+1)).map (fun m=>J2 aE V.2 (g.next.getD m.toNat []))=(V.1.take n).map (fun m=>J2 aE V.2 (g.next.getD m.toNat []))++ [J2 aE V.2 f]:=by
         rw[List.take_add_one,c9.out,zV,<-ds.out];simp
        rw[e9];exact q1.setCell (fun e=>by rcases e with e|e|e;exact absurd (q4 _ e) (by simp);simp at e;omega;simp at e;omega) _
       ·have e9:(V.1.take (n+1)).map (fun m=>g.aB.getD m.toNat 0)=ul++ [uy]:=by
         rw[List.take_add_one,c9.out,zV,ak.out,<-c8.out];simp
        rw[e9];exact q5.kept (C0.setCell (ex:=fun k=>k=B.heap.size) (p:=⟨B.heap.size,1,none⟩) (C0.refl _ _) (fun _=>rfl) _) (fun b M e=>by cases(zE M:gf=b);omega)
       ·intro k e;rcases e with e|e|e
        ·exact q4 k e
        ·omega
        ·omega
       ·intro b M;cases(zE M:gf=b);refine⟨by omega,fun e=>?_⟩;rcases e with e|e|e
        ·exact bf.out e
        ·exact d1 e
        ·exact m7 e
  ·have e0:decide ((n:Int)<(V.1.length:Int))=false:=by simp;omega
   obtain rfl:n=V.1.length:=by omega
   obtain⟨cy,dy,cw⟩:=aj.out;have ag:=cw.aA M;obtain⟨us,af,ao,a2⟩:=hR.ex;obtain⟨pd,U,rfl,_⟩:=af.aV;rw[List.take_length]at hU hR;generalize ap:V.1.map (fun m=>g.aB.getD m.toNat 0)=ul at hU;obtain⟨ud,D,rfl,_⟩:=hU.aV;have ei:wr.cell? ⟨B.heap.size,0,none⟩=some (.slice ud ul.length D):=hP.cell 0;have ej:wr.cell? ⟨B.heap.size,1,none⟩=some (.slice pd us.length U):=hP.cell 1;have ey:wr.cell? ⟨w.heap.size+1,0,none⟩=some (.slice none 0 0):=ag.cell 0;have ez:wr.cell? ⟨w.heap.size+1,1,none⟩=some (.slice none 0 0):=ag.cell 1;have ep:=ag.frozen 0;have er:=ag.frozen 1;have dp:Hid (Bw w B/\Bw B wr/\Blk wr (w.heap.size+1) #[.slice none 0 0,.slice none 0 0] 71/\Y4 wr O (.slice pd us.length U) (V.1.map (fun m=>J2 aE V.2 (g.next.getD m.toNat [])))/\(∀k,O k->B.heap.size<k)/\Q2 wr (.slice ud ul.length D) ul/\∀b,(Value.slice ud ul.length D).ownBlock=some b->B.heap.size<b):=⟨cy,M,ag,hR,hO,hU,fun b e=>(b2 b e).1⟩;have ak:=Hd ap;clear cy dy cw M ag hR hO hP af ao a2 hU b2 ap;go_wp2_with fail;obtain⟨q1,q2,q3,q4,q5,qu,qv⟩:=dp.out;have q6:Bw w wr:=q1.trans (q2.mono (by omega));have q7:=q4.setCell (a:=⟨w.heap.size+1,0,none⟩) (fun e=>by have:=q5 _ e;simp at this;omega) (.slice ud ul.length D);have q8:=q7.setCell (a:=⟨w.heap.size+1,1,none⟩) (fun e=>by have:=q5 _ e;simp at this;omega) (.slice pd us.length U);have dz:=(q6.setCell (p:=⟨w.heap.size+1,0,none⟩) (by simp) (.slice ud ul.length D)).setCell (p:=⟨w.heap.size+1,1,none⟩) (by simp) (.slice pd us.length U);have qw:=(qu.kept (C0.setCell (ex:=fun k=>k=w.heap.size+1) (p:=⟨w.heap.size+1,0,none⟩) (C0.refl _ _) (fun _=>rfl) (.slice ud ul.length D)) (fun b M e=>by have:=qv b M;omega)).kept (C0.setCell (ex:=fun k=>k=w.heap.size+1) (p:=⟨w.heap.size+1,1,none⟩) (C0.refl _ _) (fun _=>rfl) (.slice pd us.length U)) (fun b M e=>by have:=qv b M;omega);refine bodyPost_ret (Xr Tryz.results59 _ rfl rfl ((q3.set 0 _).set 1 _)) rfl ⟨_,_,rfl,?_,dz⟩;have e5:E1 g aE=⟨ul,V.1.map (fun m=>J2 aE V.2 (g.next.getD m.toNat []))⟩:=by unfold E1;rw[cf.out,<-ak.out]
   rw[e5];exact Y4.gB (g:=⟨ul,V.1.map (fun m=>J2 aE V.2 (g.next.getD m.toNat []))⟩) q8 qw
structure RS(w:World)(rb gb:Nat)(s:ByteArray)(p:Nat)(R:E0)(O:Nat->Prop):Prop where
 rd:Rd w rb s p gb
 ru:∃fv lv,C1 w gb O R fv lv
 no:¬O rb
def VB(w w':World)(rb gb:Nat)(s:ByteArray)(O:Nat->Prop)(p:Nat)(R:E0):Prop:=
 ∃f,RS w' rb gb s p R f/\C0 (fun k=>k=rb\/O k) w w'/\∀k,f k->O k\/w.heap.size<=k
section
variable{w w':World}{rb gb:Nat}{s:ByteArray}{p:Nat}{R:E0}{O:Nat->Prop}
theorem RS.olt(h:RS w rb gb s p R O):∀k,O k->k<w.heap.size:=by obtain⟨B,D,f⟩:=h.ru;exact f.olt
theorem RS.lt(h:RS w rb gb s p R O):rb<w.heap.size:=h.rd.lt
theorem RS.kept{ex:Nat->Prop}(h:RS w rb gb s p R O)(k:C0 ex w w')(B:¬ex rb)(D:∀b,O b->¬ex b):RS w' rb gb s p R O:=by
 obtain⟨f,J,G⟩:=h.ru;exact⟨Blk.kept h.rd k B,⟨f,J,G.kept k D⟩,h.no⟩
theorem RS.aA(h:RS w rb gb s p R O)(k:Bw w w'):RS w' rb gb s p R O:=h.kept (ex:=fun _=>False) (C0.aM k) (fun e=>e) (fun _ _ e=>e)
theorem RS.alloc(h:RS w rb gb s p R O)(o:Obj):RS (w.alloc o) rb gb s p R O:=h.aA (N0 _ _)
theorem RS.drew(h:RS w rb gb s p R O):RS w.drew rb gb s p R O:=h.kept (ex:=fun _=>False) (C0.refl _ _).drew (fun e=>e) (fun _ _ e=>e)
theorem RS.drewN(h:RS w rb gb s p R O)(n:Nat):RS (w.drewN n) rb gb s p R O:=h.kept (ex:=fun _=>False) ((C0.refl _ _).drewN n) (fun e=>e) (fun _ _ e=>e)
theorem RS.set1(h:RS w rb gb s p R O):RS (w.setCell ⟨rb,1,none⟩ (.int .i64 ((p:Int)+1))) rb gb s (p+1) R O:=by
 obtain⟨f,G,D⟩:=h.ru;exact⟨h.rd.set1,⟨f,G,D.kept (ex:=fun k=>k=rb) (C0.setCell (ex:=fun k=>k=rb) (C0.refl _ _) (fun _=>rfl) _) (fun b B e=>h.no (e ▸ B))⟩,h.no⟩
theorem RS.aG(h:RS w rb gb s p R O){a:Addr}(f:a.block≠rb)(B:¬O a.block)(v:Value):RS (w.setCell a v) rb gb s p R O:=
 h.kept (ex:=fun k=>k=a.block) (C0.setCell (ex:=fun k=>k=a.block) (C0.refl _ _) (fun _=>rfl) _) (fun e=>f e.symm) (fun b D e=>B (e ▸ D))
theorem RS.setRow(h:RS w rb gb s p R O){g:Nat}(f:g≠rb)(B:¬O g)(c:Array Value):RS (w.setRow g c) rb gb s p R O:=
 h.kept (ex:=fun k=>k=g) (C0.setRow (ex:=fun k=>k=g) (C0.refl _ _) (fun _=>rfl) _) (fun e=>f e.symm) (fun b D e=>B (e ▸ D))
theorem RS.jL{q:Nat}(h:RS w rb gb s p R O)(G:Rd w' rb s q gb)(k:C0 (·=rb) w w'):RS w' rb gb s q R O:=by
 obtain⟨B,J,f⟩:=h.ru;exact⟨G,⟨B,J,f.kept k (fun b D e=>h.no (e ▸ D))⟩,h.no⟩
theorem RS.fW{f:E0}(h:RS w rb gb s p R O){B D:Value}(G:C1 w' gb O f B D)(k:C0 O w w'):RS w' rb gb s p f O:=
 ⟨Blk.kept h.rd k h.no,⟨B,D,G⟩,h.no⟩
theorem RS.gI{B:E0}{f:Nat->Prop}(h:RS w rb gb s p R O){D G:Value}(K:C1 w' gb f B D G)(k:C0 O w w')(J:∀k,f k->O k\/w.heap.size<=k):RS w' rb gb s p B f:=
 ⟨Blk.kept h.rd k h.no,⟨D,G,K⟩,fun e=>by
  rcases J rb e with e|e
  ·exact h.no e
  ·have:=h.lt;omega⟩
end
theorem Jm{q:Z6}{f:Array Oper}{rest:List Oper}{o:Oper}{a:Act}{w:World}{Q:Exit->Act->World->Prop}(B:o.guard=none)(x:Operand)(G:o.op=.load 196 x)
  (g:Nat) (J:a.eval x=.pointer (some ⟨g,0,none⟩)) (D:Blk w g (M2 q) 196)
  (h:wpList Tryz.prog f Q rest (a.put o.dst (X9 q)) w):wpList Tryz.prog f Q (o::rest) a w:=
 wpList_load_row B 196 x G g J 196 _ (0,0) _ D Tryz.underlying196 rfl Tryz.gC h
theorem UT(q:Z6):(M2 q).all (·.oneCell')=true:=by simp[Value.oneCell']
theorem U7{q:Z6}{D:Array Oper}{rest:List Oper}{o:Oper}{a:Act}{w:World}{Q:Exit->Act->World->Prop}(G:o.guard=none)(x y:Operand)(K:o.op=.store 196 x y)
  (g:Nat) (M:a.eval x=.pointer (some ⟨g,0,none⟩)) (U:a.eval y=X9 q) {B:Array Value} (J:Blk w g B 196) (f:B.size=5)
  (h:wpList Tryz.prog D Q rest (a.put o.dst undef) (w.setRow g (M2 q))):wpList Tryz.prog D Q (o::rest) a w:=
 wpList_store_row G 196 x y K g _ M U 196 _ J Tryz.gC f (UT q) h
theorem W3{B:Func}{p q:Tmp}(h:B.results=#[.cell p 196,.tmp q]){x:Z6}(f:Array Value){w:World}{g:Nat}
  (G:f.getD p undef=.pointer (some ⟨g,0,none⟩)) (D:Blk w g (M2 x) 196):(results B f).run Tryz.prog w=.ok (.tuple #[X9 x,f.getD q undef]) w:=
 G3 h f w g 196 _ (0,0) _ G D Tryz.underlying196 rfl Tryz.gC
def NP(s:ByteArray)(rb gb f:Nat):Prop:=∀(w:World) (p:Nat) (R:E0) (O:Nat->Prop),RS w rb gb s p R O->p<=s.size->R.aC.length<=p->s.size-p<f->
 Calls Tryz.prog 115 #[.pointer (some ⟨rb,0,none⟩)] w fun e w'=>
  e=.returned (.tuple #[X9 (S5 s f p R).part,.bool (S5 s f p R).ok])/\VB w w' rb gb s O (S5 s f p R).bD (S5 s f p R).aD
theorem IS(s:ByteArray)(M gb f:Nat)(hE:NP s M gb f)(hs:s.size<=120)(w:World)(p:Nat)(R:E0)(O:Nat->Prop)(h:RS w M gb s p R O)(hp:p<s.size)(hR:R.aC.length<=p)(hf:s.size-p<=f):
  Calls Tryz.prog 145 #[.pointer (some ⟨M,0,none⟩)] w fun e w'=>
   e=.returned (.tuple #[X9 (Ee s (S5 s f) p R).part,.bool (Ee s (S5 s f) p R).ok])/\VB w w' M gb s O (Ee s (S5 s f) p R).bD (Ee s (S5 s f) p R).aD:=by
 have c1:=h.rd.c1;have f1:=h.rd.f1;have ae:=h.lt;have hK:C0 (fun k=>k=M\/O k) w w:=C0.refl _ _;have X:∀k,O k->k<w.heap.size:=h.olt;have hg:=Ya s f (p+1) R (by omega) (by omega);have a7:=fun W O h1=>hE W (p+1) R O h1 (by omega) (by omega) (by omega)
 unfold Ee;generalize S5 s f (p+1) R=r at hg a7⊢;obtain⟨q,ok,p1,R1⟩:=r;simp only at a7⊢;have ac:=hg.cV;have HE:=Hd a7;have Y:=Hd X;have HS:=Hd h;clear hE a7 hg X h;cases ok with
 |false=>
  rw[if_neg (by simp)];go_enter Tryz.func145,Tryz.ntmps145;go_wp2_with fail;refine(HE.out _ O (HS.out.set1.alloc _)).mono ?_;rintro e D ⟨rfl,U,B,J,V⟩;have a8:w.heap.size<D.heap.size:=by have:=J.size;simp at this;omega
  have X:=Y.out;have a1:Blk D w.heap.size X1 196:=by
   have h9:=Blk.aR (w.setCell ⟨M,1,none⟩ (.int .i64 ((p:Int)+1))) X1 196;rw[show(w.setCell ⟨M,1,none⟩ (.int .i64 ((p:Int)+1))).heap.size=w.heap.size by simp]at h9;exact h9.kept J (fun e=>by rcases e with e|e;omega;have:=X _ e;omega)
  have Z:=Blk.aR D X1 196;have a0:=(a1.alloc (.cells X1 196)).aP (g:=D.heap.size) (by omega) (M2 q);have K:C0 (fun k=>k=M\/O k) w D:=((hK.setCell (fun _=>.inl rfl) _).alloc _).trans' J;have G:∀k,U k->O k\/w.heap.size<k:=by
   intro k hk;rcases V k hk with e|e
   ·exact .inl e
   ·exact .inr (by simp at e;omega)
  have HH:Hid (RS D M gb s p1 R1 U/\C0 (fun k=>k=M\/O k) w D/\(∀k,U k->O k\/w.heap.size<k)):=⟨B,K,G⟩;clear B J V K G X;go_wp2_with(first|refine U7 rfl (.tmp 4) (.tmp 16) rfl D.heap.size rfl rfl Z rfl ?_|refine U7 (q:=Z6.aR) rfl (.tmp 2) (.tmp 25) rfl w.heap.size rfl rfl a0 rfl ?_);obtain⟨B,K,G⟩:=HH.out;have X:=Y.out;have a3:¬U w.heap.size:=fun e=>by rcases G _ e with e|e;have:=X _ e;omega;omega
  have a4:¬U D.heap.size:=fun e=>by have:=B.olt _ e;omega
  refine bodyPost_ret (W3 Tryz.results145 _ rfl (a0.setRow _)) rfl ⟨rfl,U,(((B.alloc _).setRow (by omega) a4 _).setRow (by omega) a3 _),?_,?_⟩
  ·exact((K.alloc _).setRow (by omega) _).setRow (by omega) _
  ·exact fun k hk=>(G k hk).imp id (fun e=>by omega)
 |true=>
  by_cases a6:F0 s p1=41
  ·rw[if_pos ⟨rfl,a6⟩];go_enter Tryz.func145,Tryz.ntmps145;go_wp2_with fail;refine(HE.out _ O (HS.out.set1.alloc _)).mono ?_;rintro e D ⟨rfl,U,B,J,V⟩;have a8:w.heap.size<D.heap.size:=by have:=J.size;simp at this;omega
   have X:=Y.out;have a1:Blk D w.heap.size X1 196:=by
    have h9:=Blk.aR (w.setCell ⟨M,1,none⟩ (.int .i64 ((p:Int)+1))) X1 196;rw[show(w.setCell ⟨M,1,none⟩ (.int .i64 ((p:Int)+1))).heap.size=w.heap.size by simp]at h9;exact h9.kept J (fun e=>by rcases e with e|e;omega;have:=X _ e;omega)
   have Z:=Blk.aR D X1 196;have a0:=(a1.alloc (.cells X1 196)).aP (g:=D.heap.size) (by omega) (M2 q);have K:C0 (fun k=>k=M\/O k) w D:=((hK.setCell (fun _=>.inl rfl) _).alloc _).trans' J;have G:∀k,U k->O k\/w.heap.size<k:=by
    intro k hk;rcases V k hk with e|e
    ·exact .inl e
    ·exact .inr (by simp at e;omega)
   have HH:Hid (RS D M gb s p1 R1 U/\C0 (fun k=>k=M\/O k) w D/\(∀k,U k->O k\/w.heap.size<k)):=⟨B,K,G⟩;clear B J V K G X;have a5:Rd ((D.alloc (.cells X1 196)).setRow D.heap.size (M2 q)) M s p1 gb:=Blk.aP (Blk.alloc (HH.out.1.rd) _) (by have:=HH.out.1.lt;omega) _;have a9:Blk ((D.alloc (.cells X1 196)).setRow D.heap.size (M2 q)) D.heap.size (M2 q) 196:=Z.setRow _;have c2:=a5.c1;have f2:=a5.f1;go_wp2_with(first|refine U7 rfl (.tmp 4) (.tmp 16) rfl D.heap.size rfl rfl Z rfl ?_);refine(I3 s p1 M gb _ a5 hs (by omega)).mono ?_;rintro e w2 ⟨rfl,n,rfl⟩;rw[a6];have aa:=(a9.drewN n).aG (p:=⟨M,1,none⟩) (by simp;have:=HH.out.1.lt;omega) (.int .i64 ((p1:Int)+1));have a2:=(a0.drewN n).aG (p:=⟨M,1,none⟩) (by simp;omega) (.int .i64 ((p1:Int)+1));go_wp2_with(first|refine Jm rfl (.tmp 4) rfl D.heap.size rfl aa ?_|refine U7 rfl (.tmp 2) (.tmp 33) rfl w.heap.size rfl rfl a2 rfl ?_);obtain⟨B,K,G⟩:=HH.out;have X:=Y.out;have a3:¬U w.heap.size:=fun e=>by rcases G _ e with e|e;have:=X _ e;omega;omega
   have a4:¬U D.heap.size:=fun e=>by have:=B.olt _ e;omega
   have ab:=B.lt;refine bodyPost_ret (W3 Tryz.results145 _ rfl (a2.setRow _)) rfl ⟨rfl,U,((((B.alloc _).setRow (by omega) a4 _).drewN n).set1).setRow (by omega) a3 _,?_,?_⟩
   ·exact((((K.alloc _).setRow (by omega) _).drewN n).setCell (fun _=>.inl rfl) _).setRow (by omega) _
   ·exact fun k hk=>(G k hk).imp id (fun e=>by omega)
  ·rw[if_neg (by simp[a6])];have ad:(F0 s p1 !=41)=true:=by simp[a6]
   go_enter Tryz.func145,Tryz.ntmps145;go_wp2_with fail;refine(HE.out _ O (HS.out.set1.alloc _)).mono ?_;rintro e D ⟨rfl,U,B,J,V⟩;have a8:w.heap.size<D.heap.size:=by have:=J.size;simp at this;omega
   have X:=Y.out;have a1:Blk D w.heap.size X1 196:=by
    have h9:=Blk.aR (w.setCell ⟨M,1,none⟩ (.int .i64 ((p:Int)+1))) X1 196;rw[show(w.setCell ⟨M,1,none⟩ (.int .i64 ((p:Int)+1))).heap.size=w.heap.size by simp]at h9;exact h9.kept J (fun e=>by rcases e with e|e;omega;have:=X _ e;omega)
   have Z:=Blk.aR D X1 196;have a0:=(a1.alloc (.cells X1 196)).aP (g:=D.heap.size) (by omega) (M2 q);have K:C0 (fun k=>k=M\/O k) w D:=((hK.setCell (fun _=>.inl rfl) _).alloc _).trans' J;have G:∀k,U k->O k\/w.heap.size<k:=by
    intro k hk;rcases V k hk with e|e
    ·exact .inl e
    ·exact .inr (by simp at e;omega)
   have HH:Hid (RS D M gb s p1 R1 U/\C0 (fun k=>k=M\/O k) w D/\(∀k,U k->O k\/w.heap.size<k)):=⟨B,K,G⟩;clear B J V K G X;have a5:Rd ((D.alloc (.cells X1 196)).setRow D.heap.size (M2 q)) M s p1 gb:=Blk.aP (Blk.alloc (HH.out.1.rd) _) (by have:=HH.out.1.lt;omega) _;go_wp2_with(first|refine U7 rfl (.tmp 4) (.tmp 16) rfl D.heap.size rfl rfl Z rfl ?_);refine(I3 s p1 M gb _ a5 hs (by omega)).mono ?_;rintro e w2 ⟨rfl,n,rfl⟩;have a2:=a0.drewN n;go_wp2_with(first|refine U7 (q:=Z6.aR) rfl (.tmp 2) (.tmp 25) rfl w.heap.size rfl rfl a2 rfl ?_);obtain⟨B,K,G⟩:=HH.out;have X:=Y.out;have a3:¬U w.heap.size:=fun e=>by rcases G _ e with e|e;have:=X _ e;omega;omega
   have a4:¬U D.heap.size:=fun e=>by have:=B.olt _ e;omega
   have ab:=B.lt;refine bodyPost_ret (W3 Tryz.results145 _ rfl (a2.setRow _)) rfl ⟨rfl,U,(((B.alloc _).setRow (by omega) a4 _).drewN n).setRow (by omega) a3 _,?_,?_⟩
   ·exact(((K.alloc _).setRow (by omega) _).drewN n).setRow (by omega) _
   ·exact fun k hk=>(G k hk).imp id (fun e=>by omega)
end Go.Proofs.YtcckhngbdoiikabGreat

namespace Go.Proofs.YtcckhngbdoiikabGreat
open Go.RowKit Go.Deep
def Ww(B:Nat)(s:ByteArray)(h gb f:Nat)(F:PFn):Prop:=∀(w:World) (p:Nat) (R:E0) (O:Nat->Prop),RS w h gb s p R O->p<=s.size->R.aC.length<=p->s.size-p<=f->
 Calls Tryz.prog B #[.pointer (some ⟨h,0,none⟩)] w fun e w'=>
  e=.returned (.tuple #[X9 (F p R).part,.bool (F p R).ok])/\VB w w' h gb s O (F p R).bD (F p R).aD
end Go.Proofs.YtcckhngbdoiikabGreat

namespace Go.Proofs.YtcckhngbdoiikabGreat
open Go.RowKit Go.Deep
theorem Xf{w:World}{b o:Nat}{cs:List Value}(h:w.rangeAt b o cs){a:Addr}(f:a.block≠b)(v:Value):(w.setCell a v).rangeAt b o cs:=fun j u B=>by
 rw[World.cell?_setCell_far _ _ _ _ f];exact h j u B
theorem Gv{w:World}{b:Nat}{c:Array Value}{t:TypeId}(h:Blk w b c t):w.rangeAt b 0 c.toList:=fun j v f=>by
 rw[yX,h.cell];simpa using f
set_option maxRecDepth 4000 in
theorem YV(s:ByteArray)(G gb f:Nat)(hE:NP s G gb f)(hs:s.size<=120)(w:World)(p:Nat)(R:E0)(O:Nat->Prop)(h:RS w G gb s p R O)(hp:p<=s.size)(hR:R.aC.length<=p)(hf:s.size-p<=f):
  Calls Tryz.prog 143 #[.pointer (some ⟨G,0,none⟩)] w fun e w'=>
   e=.returned (.tuple #[X9 (Ce s (S5 s f) p R).part,.bool (Ce s (S5 s f) p R).ok])/\VB w w' G gb s O (Ce s (S5 s f) p R).bD (Ce s (S5 s f) p R).aD:=by
 have az:=h.lt;have hK:C0 (fun k=>k=G\/O k) w w:=C0.refl _ _;have nO:∀k,O k->k<w.heap.size:=h.olt;have ac:¬O w.heap.size:=fun e=>by have:=nO _ e;omega
 unfold Ce
 by_cases Z:F0 s p=40
 ·rw[if_pos Z];have au:p<s.size:=A1 (by rw[Z];decide);have a9:=fun W O h1=>IS s G gb f hE hs W p R O h1 au hR hf
  generalize Ee s (S5 s f) p R=r at a9⊢;obtain⟨q,ok,p1,R1⟩:=r;simp only at a9⊢;have HG:=Hd a9;have HS:=Hd h;have a8:=Hd nO;clear a9 hE h nO;go_enter Tryz.func143,Tryz.ntmps143;go_wp2_with fail;refine(I3 s p G gb _ (HS.out.rd.alloc _) hs (by omega)).mono ?_;rintro e B ⟨rfl,n,rfl⟩;rw[Z];go_wp2_with fail;refine(HG.out _ O ((HS.out.alloc _).drewN n)).mono ?_;rintro e B ⟨rfl,O1,J,D,ar⟩;have M:Blk B w.heap.size X1 196:=((Blk.aR w X1 196).drewN n).kept D (fun e=>by rcases e with e|e;omega;exact ac e);go_wp2_with(refine U7 rfl (.tmp 2) (.tmp 11) rfl w.heap.size rfl rfl M rfl ?_);have nO:=a8.out;have ah:∀k,O1 k->O k\/w.heap.size<k:=by
   intro k hk;rcases ar k hk with e|e
   ·exact .inl e
   ·exact .inr (by simp at e;omega)
  have aq:¬O1 w.heap.size:=fun e=>by rcases ah _ e with e|e;have:=nO _ e;omega;omega
  refine bodyPost_ret (W3 Tryz.results143 _ rfl (M.setRow _)) rfl ⟨rfl,O1,J.setRow (by omega) aq _,?_,?_⟩
  ·exact(((hK.alloc _).drewN n).trans' D).setRow (by omega) _
  ·exact fun k hk=>(ah k hk).imp id (fun e=>by omega)
 rw[if_neg Z];have aw:(F0 s p==40)=false:=by simp[Z]
 have aa:=fun W h1=>WT s p G gb W h1 hs hp
 generalize W6 s p=r at aa⊢;obtain⟨A,ok,p1⟩:=r;simp only at aa⊢;have HP:=Hd aa;have HS:=Hd h;have a8:=Hd nO;clear aa hE h nO Z;cases ok with
 |false=>
  rw[if_neg (by simp)];go_enter Tryz.func143,Tryz.ntmps143;go_wp2_with fail;refine(I3 s p G gb _ (HS.out.rd.alloc _) hs (by omega)).mono ?_;rintro e B ⟨rfl,n,rfl⟩;go_wp2_with fail;refine(HP.out _ ((HS.out.rd.alloc _).drewN n)).mono ?_;rintro e B ⟨rfl,a7,D⟩;have J:=((HS.out.alloc _).drewN n).jL a7 D;have M:Blk B w.heap.size X1 196:=((Blk.aR w X1 196).drewN n).kept D (by omega);have av:=M.lt;have a2:=Blk.aR B Tryz.zeroCells228 228;have X:=(M.alloc (.cells Tryz.zeroCells228 228)).aP (g:=B.heap.size) (by omega) (Z1 A);have U:C0 (fun k=>k=G\/O k) w B:=((hK.alloc _).drewN n).trans D (fun i _ e=>.inl e);have HH:Hid (RS B G gb s p1 R O/\C0 (fun k=>k=G\/O k) w B):=⟨J,U⟩;clear J a7 D U;go_wp2_with(first|refine Ka rfl (.tmp 4) (.tmp 16) rfl B.heap.size rfl rfl a2 Dd ?_|refine U7 (q:=Z6.aR) rfl (.tmp 2) (.tmp 20) rfl w.heap.size rfl rfl X rfl ?_);obtain⟨J,U⟩:=HH.out;have ab:¬O B.heap.size:=fun e=>by have:=a8.out _ e;omega
  refine bodyPost_ret (W3 Tryz.results143 _ rfl (X.setRow _)) rfl ⟨rfl,O,((J.alloc _).setRow (by omega) ab _).setRow (by omega) ac _,?_,fun k hk=>.inl hk⟩;exact((U.alloc _).setRow (by omega) _).setRow (by omega) _
 |true=>
  rw[if_pos rfl];go_enter Tryz.func143,Tryz.ntmps143;go_wp2_with fail;refine(I3 s p G gb _ (HS.out.rd.alloc _) hs (by omega)).mono ?_;rintro e B ⟨rfl,n,rfl⟩;go_wp2_with fail;refine(HP.out _ ((HS.out.rd.alloc _).drewN n)).mono ?_;rintro e B ⟨rfl,a7,D⟩;have J:=((HS.out.alloc _).drewN n).jL a7 D;have M:Blk B w.heap.size X1 196:=((Blk.aR w X1 196).drewN n).kept D (by omega);have av:=M.lt;have a2:=Blk.aR B Tryz.zeroCells228 228;have U:C0 (fun k=>k=G\/O k) w B:=((hK.alloc _).drewN n).trans D (fun i _ e=>.inl e);have ab:¬O B.heap.size:=fun e=>by have:=a8.out _ e;omega
  have ay:=J.lt;have V:=(J.alloc (.cells Tryz.zeroCells228 228)).setRow (g:=B.heap.size) (by omega) ab (Z1 A);have a4:=(U.alloc (.cells Tryz.zeroCells228 228)).setRow (g:=B.heap.size) (by omega) (Z1 A);have X:=(M.alloc (.cells Tryz.zeroCells228 228)).aP (g:=B.heap.size) (by omega) (Z1 A);have a0:=a2.setRow (Z1 A);clear J a7 D U M;go_wp2_with(first|refine Ka rfl (.tmp 4) (.tmp 16) rfl B.heap.size rfl rfl a2 Dd ?_);generalize(B.alloc (.cells Tryz.zeroCells228 228)).setRow B.heap.size (Z1 A)=w2 at V a4 X a0⊢;obtain⟨fv,lv,ad⟩:=V.ru;have c2:w2.cell? ⟨G,2,none⟩=some (.pointer (some ⟨gb,0,none⟩)):=V.rd.c2;have aj:=Gv a0;have hu:=Tryz.underlying228;have hi:(Tryz.prog.info? 228).map (·.size)=some (Z1 A).toList.length:=by rw[Array.length_toList,Z2];exact Tryz.cW
  have ap:(Z1 A).toList.length=256:=by rw[Array.length_toList,Z2]
  have ai:∀v∈(Z1 A).toList,v.oneCell'=true:=fun v hv=>(Array.all_eq_true_iff_forall_mem.1 (Ak A)) v (by simpa using hv)
  have zZ:w.heap.size<w2.heap.size:=X.lt;have zA:B.heap.size<w2.heap.size:=a0.lt;have zr:G<w2.heap.size:=V.lt;have a3:∀W,C1 W gb O R fv lv->Calls Tryz.prog 147 #[.pointer (some ⟨gb,0,none⟩),.agg (Z1 A).toList.toArray] W fun e w'=>
   e=.returned (X9 R.addPart)/\∃O' am,C1 w' gb O' (R.add A) am lv/\C0 O W w'/\∀k,O' k->O k\/W.heap.size<=k:=by
   intro W hW;rw[Array.toArray_toList];exact TY R gb O fv lv A W hW (by omega)
  have af:∀W,Blk W B.heap.size (Z1 A) 228->W.rangeAt B.heap.size 0 (Z1 A).toList:=fun W hW=>Gv hW
  generalize(Z1 A).toList=cs at aj hi ap ai a3 af;have ag:=Hd a3;have ak:=Hd af;have a1:Hid (RS w2 G gb s p1 R O/\C0 (fun k=>k=G\/O k) w w2/\Blk w2 w.heap.size X1 196/\C1 w2 gb O R fv lv/\Blk w2 B.heap.size (Z1 A) 228):=⟨V,a4,X,ad,a0⟩;clear V a4 X ad a0 a2 a3 af;have K:w.heap.size≠G:=by omega
  have Y:w.heap.size≠B.heap.size:=by omega
  go_region_held3 (fun w'=>w'.cell? ⟨G,2,none⟩=some (.pointer (some ⟨gb,0,none⟩))/\w'.rangeAt B.heap.size 0 cs)
   (first|with_reducible exact⟨k1,k2⟩|exact⟨by simp[k1,K,World.cell?_setCell_far],Xf (Xf (Xf (Xf (Xf k2 Y _) Y _) Y _) Y _) Y _⟩|exact⟨c2,aj⟩)
   (first|(go_at_call 147;refine(ag.out _ a1.out.2.2.2.1.drew).mono ?_;rintro e w3 ⟨rfl,O3,ax,an,a5,ae⟩;have k1:w3.cell? ⟨G,2,none⟩=some (.pointer (some ⟨gb,0,none⟩)):=(a5.cell (p:=⟨G,2,none⟩) zr a1.out.1.no).trans c2;have k2:w3.rangeAt B.heap.size 0 cs:=ak.out _ (a1.out.2.2.2.2.drew.kept a5 ab);have k3:=a1.out.2.2.1.drew.kept a5 ac;have b0:=k3.cell 0;have b1:=k3.cell 1;have b2:=k3.cell 2;have b3:=k3.cell 3;have b4:=k3.cell 4;have b5:=k3.frozen 0;have b6:=k3.frozen 1;have b7:=k3.frozen 2;have b8:=k3.frozen 3;have b9:=k3.frozen 4))
  obtain⟨V,a4,X,ad,a0⟩:=a1.out;have ao:=V.drew.gI an a5 ae;have a6:¬O3 w.heap.size:=fun e=>by rcases ae _ e with e|e;exact ac e;simp at e;omega
  have U:C0 (fun k=>k=G\/O k) w w3:=a4.drew.trans a5 (fun i _ e=>.inr e);go_wp2_with fail;refine bodyPost_ret (W3 (x:=R.addPart) Tryz.results143 _ rfl (((((k3.set 0 _).set 1 _).set 2 _).set 3 _).set 4 _)) rfl ⟨rfl,O3,((((ao.aG K a6 _).aG K a6 _).aG K a6 _).aG K a6 _).aG K a6 _,?_,?_⟩
  ·exact((((U.setCell (by simp) _).setCell (by simp) _).setCell (by simp) _).setCell (by simp) _).setCell (by simp) _
  ·intro k hk;rcases ae k hk with e|e
   ·exact .inl e
   ·exact .inr (by simp at e;omega)
theorem VY(s:ByteArray)(B gb f:Nat)(D:NP s B gb f)(M:s.size<=120):Ww 143 s B gb f (Ce s (S5 s f)):=
 fun w p R O h K G J=>YV s B gb f D M w p R O h K G J
theorem VT(s:ByteArray)(X gb f:Nat)(hA:Ww 143 s X gb f (Ce s (S5 s f)))(hs:s.size<=120):Ww 140 s X gb f (H8 s (S5 s f)):=by
 intro w p R O h hp hR hf;have b8:=h.lt;have hK:C0 (fun k=>k=X\/O k) w w:=C0.refl _ _;have nO:∀k,O k->k<w.heap.size:=h.olt;have b3:¬O w.heap.size:=fun e=>by have:=nO _ e;omega
 have hg:=Lx (Ya s f) p R hp hR;have ae:=fun W O h1=>hA W p R O h1 hp hR hf
 unfold H8;generalize Ce s (S5 s f) p R=r at hg ae⊢;obtain⟨q,ok,Y,R1⟩:=r;simp only at ae;have b1:=hg.cV;have ax:=hg.bU;simp only at b1 ax;generalize au:Ue s ⟨q,ok,Y,R1⟩=F;have HF:=Hd au;have HA:=Hd ae;have HS:=Hd h;have aq:=Hd nO;clear ae hA h nO hg au;go_enter Tryz.func140,Tryz.ntmps140;go_wp2_with fail;refine(HA.out _ O (HS.out.alloc _)).mono ?_;rintro e w1 ⟨rfl,O1,ag,an,az⟩;have nO:=aq.out;have am:Blk w1 w.heap.size X1 196:=(Blk.aR w X1 196).kept an (fun e=>by rcases e with e|e;omega;exact b3 e);have b5:=am.lt;have ay:C0 (fun k=>k=X\/O k) w w1:=(hK.alloc _).trans' an;have ak:∀k,O1 k->O k\/w.heap.size<k:=by
  intro k hk;rcases az k hk with e|e
  ·exact .inl e
  ·exact .inr (by simp at e;omega)
 have a6:¬O1 w.heap.size:=fun e=>by rcases ak _ e with e|e;have:=nO _ e;omega;omega
 have V:¬O1 w1.heap.size:=fun e=>by have:=ag.olt _ e;omega
 have af:=Blk.aR w1 X1 196;have b7:=ag.lt;have ah:=(ag.alloc (.cells X1 196)).setRow (g:=w1.heap.size) (by omega) V (M2 q);have ao:=(ay.alloc (.cells X1 196)).setRow (g:=w1.heap.size) (by omega) (M2 q);have ai:=(am.alloc (.cells X1 196)).aP (g:=w1.heap.size) (by omega) (M2 q);have av:=af.setRow (M2 q);have b4:w1.heap.size≠w.heap.size:=by omega
 have ad:w1.heap.size≠X:=by omega
 have a4:w.heap.size≠X:=by omega
 have aw:∀k,O1 k->O k\/w.heap.size<=k:=fun k hk=>(ak k hk).imp id (fun e=>by omega)
 have HO:=Hd aw;clear ag an az ay ak nO am aw aq HS HA;cases ok with
 |false=>
  have a1:F=⟨Z6.aR,false,Y,R1⟩:=by rw[<-HF.out];rfl
  subst a1;clear HF;go_wp2_with(first|refine U7 rfl (.tmp 4) (.tmp 9) rfl w1.heap.size rfl rfl af rfl ?_|refine U7 (q:=Z6.aR) rfl (.tmp 2) (.tmp 13) rfl w.heap.size rfl rfl ai rfl ?_);exact bodyPost_ret (W3 Tryz.results140 _ rfl (ai.setRow _)) rfl ⟨rfl,O1,ah.setRow a4 a6 _,ao.setRow (by omega) _,HO.out⟩
 |true=>
  have b0:=ah.rd;go_wp2_with(first|refine U7 rfl (.tmp 4) (.tmp 9) rfl w1.heap.size rfl rfl af rfl ?_);refine(I3 s Y X gb _ b0 hs (by omega)).mono ?_;rintro e w3 ⟨rfl,n,rfl⟩;have B:=ah.drewN n;have U:=ao.drewN n;have M:=ai.drewN n;have D:=av.drewN n;clear ah ao ai av b0 af;generalize((w1.alloc (.cells X1 196)).setRow w1.heap.size (M2 q)).drewN n=w2 at B U M D⊢;generalize w1.heap.size=m at B U M D b4 ad V b5⊢
  by_cases a7:F0 s Y=42
  ·have a1:F=⟨{ q with empty:=true },true,Y+1,R1.link q.last q.first⟩:=by rw[<-HF.out];simp[Ue,a7]
   subst a1;clear HF;rw[a7];obtain⟨fv,lv,a2⟩:=B.ru;have c2:=B.rd.c2;have c1:=B.rd.c1;have f1:=B.rd.f1;have i0:w2.cell? ⟨m,0,none⟩=some (.int .u64 (q.first.lo.toNat:Int)):=D.cell 0;have i1:w2.cell? ⟨m,1,none⟩=some (.int .u64 (q.first.hi.toNat:Int)):=D.cell 1;have i2:w2.cell? ⟨m,2,none⟩=some (.int .u64 (q.last.lo.toNat:Int)):=D.cell 2;have i3:w2.cell? ⟨m,3,none⟩=some (.int .u64 (q.last.hi.toNat:Int)):=D.cell 3;have zr:=B.lt;have zm:=D.lt;have ap:=B.no;have HH:Hid (RS w2 X gb s Y R1 O1/\C0 (fun k=>k=X\/O k) w w2/\Blk w2 w.heap.size X1 196/\Blk w2 m (M2 q) 196/\C1 w2 gb O1 R1 fv lv):=⟨B,U,M,D,a2⟩;clear B U M D a2;go_wp2_with fail
   go_region_held3 (fun w'=>w'.cell? ⟨X,2,none⟩=some (.pointer (some ⟨gb,0,none⟩))/\w'.cell? ⟨m,0,none⟩=some (.int .u64 (q.first.lo.toNat:Int))/\w'.cell? ⟨m,1,none⟩=some (.int .u64 (q.first.hi.toNat:Int))/\w'.cell? ⟨m,2,none⟩=some (.int .u64 (q.last.lo.toNat:Int))/\w'.cell? ⟨m,3,none⟩=some (.int .u64 (q.last.hi.toNat:Int)))
    (first|exact⟨c2,i0,i1,i2,i3⟩|exact⟨j0,j1,j2,j3,j4⟩)
    (first|(go_at_call 144;refine(Jj R1 gb O1 fv lv q.last q.first _ HH.out.2.2.2.2.drew (by omega)).mono ?_;rintro e w4 ⟨rfl,aa,G⟩;have j0:=(G.cell (p:=⟨X,2,none⟩) zr ap).trans c2;have j1:=(G.cell (p:=⟨m,0,none⟩) zm V).trans i0;have j2:=(G.cell (p:=⟨m,1,none⟩) zm V).trans i1;have j3:=(G.cell (p:=⟨m,2,none⟩) zm V).trans i2;have j4:=(G.cell (p:=⟨m,3,none⟩) zm V).trans i3))
   obtain⟨B,U,M,D,a2⟩:=HH.out;have K:=B.drew.fW aa G;have a0:C0 (fun k=>k=X\/O k) w w4:=U.drew.trans G (fun i hi e=>.inr (by rcases HO.out i e with e|e;exact e;omega));have Z:=M.drew.kept G a6;have J:=D.drew.kept G V;clear B U M D a2 HH j0 j1 j2 j3 j4 c2 c1 f1 i0 i1 i2 i3 aa G;have c1:=K.rd.c1;have f1:=K.rd.f1;have e4:w4.cell? ⟨m,4,none⟩=some (.bool q.empty):=J.cell 4;have f4:=J.frozen 4;have a5:=(J.set 4 (.bool true)).aG (p:=⟨X,1,none⟩) (by simp;omega) (.int .i64 ((Y:Int)+1));have a3:=(Z.aG (p:=⟨m,4,none⟩) (by simp;omega) (.bool true)).aG (p:=⟨X,1,none⟩) (by simp;omega) (.int .i64 ((Y:Int)+1));have ab:=(K.aG (a:=⟨m,4,none⟩) ad V (.bool true)).set1;have ac:=(a0.setCell (p:=⟨m,4,none⟩) (by simp;omega) (.bool true)).setCell (p:=⟨X,1,none⟩) (fun _=>.inl rfl) (.int .i64 ((Y:Int)+1));have aj:Blk _ m (M2 { q with empty:=true }) 196:=a5;clear K a0 Z J a5;go_wp2_with(first|refine Jm rfl (.tmp 4) rfl m rfl aj ?_|refine U7 rfl (.tmp 2) (.tmp 50) rfl w.heap.size rfl rfl a3 rfl ?_);exact bodyPost_ret (W3 Tryz.results140 _ rfl (a3.setRow _)) rfl ⟨rfl,O1,ab.setRow a4 a6 _,ac.setRow (by omega) _,HO.out⟩
  have ar:(F0 s Y==42)=false:=by simp[a7]
  by_cases a8:F0 s Y=43
  ·have a1:F=⟨q,true,Y+1,R1.link q.last q.first⟩:=by rw[<-HF.out];simp[Ue,a8]
   subst a1;clear HF;rw[a8]at ar⊢;obtain⟨fv,lv,a2⟩:=B.ru;have c2:=B.rd.c2;have c1:=B.rd.c1;have f1:=B.rd.f1;have i0:w2.cell? ⟨m,0,none⟩=some (.int .u64 (q.first.lo.toNat:Int)):=D.cell 0;have i1:w2.cell? ⟨m,1,none⟩=some (.int .u64 (q.first.hi.toNat:Int)):=D.cell 1;have i2:w2.cell? ⟨m,2,none⟩=some (.int .u64 (q.last.lo.toNat:Int)):=D.cell 2;have i3:w2.cell? ⟨m,3,none⟩=some (.int .u64 (q.last.hi.toNat:Int)):=D.cell 3;have zr:=B.lt;have zm:=D.lt;have ap:=B.no;have HH:Hid (RS w2 X gb s Y R1 O1/\C0 (fun k=>k=X\/O k) w w2/\Blk w2 w.heap.size X1 196/\Blk w2 m (M2 q) 196/\C1 w2 gb O1 R1 fv lv):=⟨B,U,M,D,a2⟩;clear B U M D a2;go_wp2_with fail
   go_region_held3 (fun w'=>w'.cell? ⟨X,2,none⟩=some (.pointer (some ⟨gb,0,none⟩))/\w'.cell? ⟨m,0,none⟩=some (.int .u64 (q.first.lo.toNat:Int))/\w'.cell? ⟨m,1,none⟩=some (.int .u64 (q.first.hi.toNat:Int))/\w'.cell? ⟨m,2,none⟩=some (.int .u64 (q.last.lo.toNat:Int))/\w'.cell? ⟨m,3,none⟩=some (.int .u64 (q.last.hi.toNat:Int)))
    (first|exact⟨c2,i0,i1,i2,i3⟩|exact⟨j0,j1,j2,j3,j4⟩)
    (first|(go_at_call 144;refine(Jj R1 gb O1 fv lv q.last q.first _ HH.out.2.2.2.2.drew (by omega)).mono ?_;rintro e w4 ⟨rfl,aa,G⟩;have j0:=(G.cell (p:=⟨X,2,none⟩) zr ap).trans c2;have j1:=(G.cell (p:=⟨m,0,none⟩) zm V).trans i0;have j2:=(G.cell (p:=⟨m,1,none⟩) zm V).trans i1;have j3:=(G.cell (p:=⟨m,2,none⟩) zm V).trans i2;have j4:=(G.cell (p:=⟨m,3,none⟩) zm V).trans i3))
   obtain⟨B,U,M,D,a2⟩:=HH.out;have K:=B.drew.fW aa G;have a0:C0 (fun k=>k=X\/O k) w w4:=U.drew.trans G (fun i hi e=>.inr (by rcases HO.out i e with e|e;exact e;omega));have Z:=M.drew.kept G a6;have J:=D.drew.kept G V;clear B U M D a2 HH j0 j1 j2 j3 j4 c2 c1 f1 i0 i1 i2 i3 aa G;have c1:=K.rd.c1;have f1:=K.rd.f1;have a5:=J.aG (p:=⟨X,1,none⟩) (by simp;omega) (.int .i64 ((Y:Int)+1));have a3:=Z.aG (p:=⟨X,1,none⟩) (by simp;omega) (.int .i64 ((Y:Int)+1));have ab:=K.set1;have ac:=a0.setCell (p:=⟨X,1,none⟩) (fun _=>.inl rfl) (.int .i64 ((Y:Int)+1));clear K a0 Z J;go_wp2_with(first|refine Jm rfl (.tmp 4) rfl m rfl a5 ?_|refine U7 rfl (.tmp 2) (.tmp 50) rfl w.heap.size rfl rfl a3 rfl ?_);exact bodyPost_ret (W3 Tryz.results140 _ rfl (a3.setRow _)) rfl ⟨rfl,O1,ab.setRow a4 a6 _,ac.setRow (by omega) _,HO.out⟩
  have b2:(F0 s Y==43)=false:=by simp[a8]
  have K:=B;have a0:=U;have Z:=M;have J:=D;have c1:=B.rd.c1;have f1:=B.rd.f1;clear B U M D;generalize w2=w4 at K a0 Z J c1 f1⊢
  by_cases a9:F0 s Y=63
  ·have a1:F=⟨{ q with empty:=true },true,Y+1,R1⟩:=by rw[<-HF.out];simp[Ue,a9]
   subst a1;clear HF;rw[a9]at ar b2⊢;have e4:w4.cell? ⟨m,4,none⟩=some (.bool q.empty):=J.cell 4;have f4:=J.frozen 4;have a5:=(J.set 4 (.bool true)).aG (p:=⟨X,1,none⟩) (by simp;omega) (.int .i64 ((Y:Int)+1));have a3:=(Z.aG (p:=⟨m,4,none⟩) (by simp;omega) (.bool true)).aG (p:=⟨X,1,none⟩) (by simp;omega) (.int .i64 ((Y:Int)+1));have ab:=(K.aG (a:=⟨m,4,none⟩) ad V (.bool true)).set1;have ac:=(a0.setCell (p:=⟨m,4,none⟩) (by simp;omega) (.bool true)).setCell (p:=⟨X,1,none⟩) (fun _=>.inl rfl) (.int .i64 ((Y:Int)+1));have aj:Blk _ m (M2 { q with empty:=true }) 196:=a5;clear K a0 Z J a5;go_wp2_with(first|refine Jm rfl (.tmp 4) rfl m rfl aj ?_|refine U7 rfl (.tmp 2) (.tmp 50) rfl w.heap.size rfl rfl a3 rfl ?_);exact bodyPost_ret (W3 Tryz.results140 _ rfl (a3.setRow _)) rfl ⟨rfl,O1,ab.setRow a4 a6 _,ac.setRow (by omega) _,HO.out⟩
  ·have b6:(F0 s Y==63)=false:=by simp[a9]
   have a1:F=⟨q,true,Y,R1⟩:=by rw[<-HF.out];simp[Ue,a7,a8,a9]
   subst a1;clear HF a7 a8 a9;go_wp2_with(first|refine Jm rfl (.tmp 4) rfl m rfl J ?_|refine U7 rfl (.tmp 2) (.tmp 16) rfl w.heap.size rfl rfl Z rfl ?_);exact bodyPost_ret (W3 Tryz.results140 _ rfl (Z.setRow _)) rfl ⟨rfl,O1,K.setRow a4 a6 _,a0.setRow (by omega) _,HO.out⟩
theorem Cw(s:ByteArray)(Z gb f:Nat)(hP:Ww 140 s Z gb f (H8 s (S5 s f)))(hs:s.size<=120):Ww 136 s Z gb f (O2 s (S5 s f)):=by
 intro w p R O h hp hR hf;have ca:=h.lt;have hK:C0 (fun k=>k=Z\/O k) w w:=C0.refl _ _;have nO:∀k,O k->k<w.heap.size:=h.olt;have c1:¬O w.heap.size:=fun e=>by have:=nO _ e;omega
 have ae:=Ya s f;have hg:=Td ae p R hp hR;have V:=fun W O h1=>hP W p R O h1 hp hR hf
 unfold O2;generalize c4:H8 s (S5 s f) p R=r0 at hg V⊢;generalize bg:I6 s (S5 s f) (s.size+1) r0=F;have HF:=Hd bg;have HA:=Hd V;have HS:=Hd h;have be:=Hd nO;have HP:=Hd hP;have bd:=Hd ae;have HG:=Hd hg;clear V hP h nO bg c4 hg ae;go_enter Tryz.func136,Tryz.ntmps136;go_wp2_with fail;refine(HA.out _ O (HS.out.alloc _)).mono ?_;rintro e J ⟨rfl,O1,ap,ba,bn⟩;have nO:=be.out;have b8:Blk J w.heap.size X1 196:=(Blk.aR w X1 196).kept ba (fun e=>by rcases e with e|e;omega;exact c1 e);have c6:=b8.lt;have ah:C0 (fun k=>k=Z\/O k) w J:=(hK.alloc _).trans' ba;have b6:∀k,O1 k->O k\/w.heap.size<k:=by
  intro k hk;rcases bn k hk with e|e
  ·exact .inl e
  ·exact .inr (by simp at e;omega)
 have bm:¬O1 w.heap.size:=fun e=>by rcases b6 _ e with e|e;have:=nO _ e;omega;omega
 have bb:¬O1 J.heap.size:=fun e=>by have:=ap.olt _ e;omega
 have az:=Blk.aR J X1 196;have bx:=ap.lt;have bj:=(ap.alloc (.cells X1 196)).setRow (g:=J.heap.size) (by omega) bb (M2 r0.part);have bl:=(ah.alloc (.cells X1 196)).setRow (g:=J.heap.size) (by omega) (M2 r0.part);have bk:=(b8.alloc (.cells X1 196)).aP (g:=J.heap.size) (by omega) (M2 r0.part);have bh:=az.setRow (M2 r0.part);have bi:∀k,O1 k->O k\/w.heap.size<=k:=fun k hk=>(b6 k hk).imp id (fun e=>by omega)
 have am:Hid (RS ((J.alloc (.cells X1 196)).setRow J.heap.size (M2 r0.part)) Z gb s r0.bD r0.aD O1/\C0 (fun k=>k=Z\/O k) w ((J.alloc (.cells X1 196)).setRow J.heap.size (M2 r0.part))/\
  Blk ((J.alloc (.cells X1 196)).setRow J.heap.size (M2 r0.part)) w.heap.size X1 196/\Blk ((J.alloc (.cells X1 196)).setRow J.heap.size (M2 r0.part)) J.heap.size (M2 r0.part) 196/\¬O1 w.heap.size/\¬O1 J.heap.size/\∀k,O1 k->O k\/w.heap.size<=k):=⟨bj,bl,bk,bh,bm,bb,bi⟩
 clear ap ba bn ah b6 nO b8 bi be HS HA bj bl bk bh bm bb;go_wp2_with(first|refine U7 rfl (.tmp 4) (.tmp 11) rfl J.heap.size rfl rfl az rfl ?_);clear az;generalize((J.alloc (.cells X1 196)).setRow J.heap.size (M2 r0.part))=w2 at am⊢;generalize J.heap.size=m at am c6 bx⊢
 go_loopg[5] (s.size+1) (fun g c wr=>∃(r:Cg) (O1:Nat->Prop),c=.bool r.ok/\Xn s p R r/\(r.ok=true->s.size<g+r.bD)/\I6 s (S5 s f) g r=F/\
  RS wr Z gb s r.bD r.aD O1/\C0 (fun k=>k=Z\/O k) w wr/\Blk wr w.heap.size X1 196/\Blk wr m (M2 r.part) 196/\¬O1 w.heap.size/\¬O1 m/\∀k,O1 k->O k\/w.heap.size<=k)
 case atStart=>
  obtain⟨q1,q2,q3,q4,q5,q6,q7⟩:=am.out;exact⟨r0,O1,rfl,HG.out,fun _=>by omega,HF.out,q1,q2,q3,q4,q5,q6,q7⟩
 case round=>
  obtain⟨r,O3,rfl,a6,aj,B,X,a7,M,K,av,bp,U⟩:=hrel;clear am HF HG;have ak:=a6.cV;have ac:=a6.bU;have c0:=a6.le;obtain⟨q,ok,p1,R1⟩:=r;simp only at ak ac c0 aj X K⊢;cases ok with
  |false=>
   have ay:F=⟨q,false,p1,R1⟩:=by rw[<-B];exact Ko _ _ _ _ (by simp)
   subst ay;clear B a6 aj;go_wp2_with(first|refine Jm rfl (.tmp 4) rfl m rfl K ?_|refine U7 rfl (.tmp 2) (.tmp 32) rfl w.heap.size rfl rfl M rfl ?_);exact bodyPost_ret (W3 Tryz.results136 _ rfl (M.setRow _)) rfl ⟨rfl,O3,X.setRow (by omega) av _,a7.setRow (by omega) _,U⟩
  |true=>
   cases hend:Zb (F0 s p1)with
   |true=>
    have ay:F=⟨q,true,p1,R1⟩:=by rw[<-B];exact Ko _ _ _ _ (by simp[hend])
    subst ay;clear B a6 aj;go_wp2_with fail;refine(Jg s p1 Z gb _ X.rd hs (by omega)).mono ?_;rintro e w4 ⟨rfl,n,rfl⟩;rw[hend];have ao:=K.drewN n;have aa:=M.drewN n;go_wp2_with(first|refine Jm rfl (.tmp 4) rfl m rfl ao ?_|refine U7 rfl (.tmp 2) (.tmp 32) rfl w.heap.size rfl rfl aa rfl ?_);exact bodyPost_ret (W3 Tryz.results136 _ rfl (aa.setRow _)) rfl ⟨rfl,O3,(X.drewN n).setRow (by omega) av _,(a7.drewN n).setRow (by omega) _,U⟩
   |false=>
    have c9:=aj rfl;have c3:gk=(gk-1)+1:=by omega
    rw[c3]at B;unfold I6 at B;rw[if_pos ⟨rfl,hend⟩]at B;have ad:=Yj bd.out a6 rfl;have a8:=Td bd.out p1 R1 ak ac;have V:=fun W O h1=>HP.out W p1 R1 O h1 ak ac (by omega)
    simp only at B ad;generalize H8 s (S5 s f) p1 R1=r2 at B ad a8 V;obtain⟨q2,cn,p2,R2⟩:=r2;simp only at B ad a8 V;have ai:=a8.ok;have b9:=a8.bU;have bc:=a8.cV;simp only at ai b9 bc;have bq:=Hd B;have br:=Hd ad;have bf:=Hd V;have bs:=Hd ai;have cb:=K.lt;have cc:=M.lt;have an:Hid (RS wr Z gb s p1 R1 O3/\C0 (fun k=>k=Z\/O k) w wr/\Blk wr w.heap.size X1 196/\Blk wr m (M2 q) 196/\∀k,O3 k->O k\/w.heap.size<=k):=⟨X,a7,M,K,U⟩;clear B ad a8 V a6 aj ai X a7 M K U;go_wp2_with fail;refine(Jg s p1 Z gb _ an.out.1.rd hs (by omega)).mono ?_;rintro e w4 ⟨rfl,n,rfl⟩;rw[hend];go_wp2_with fail;refine(bf.out _ O3 (an.out.1.drewN n)).mono ?_;rintro e w4 ⟨rfl,O4,aq,af,au⟩;obtain⟨X,a7,M,K,U⟩:=an.out;have c7:wr.heap.size<=w4.heap.size:=af.size;have ao:=(K.drewN n).kept af (fun e=>by rcases e with e|e;omega;exact bp e);have aa:=(M.drewN n).kept af (fun e=>by rcases e with e|e;omega;exact av e);have ah:C0 (fun k=>k=Z\/O k) w w4:=(a7.drewN n).trans af (fun i hi e=>by rcases e with e|e;exact .inl e;exact .inr (by rcases U i e with e|e;exact e;omega));have aw:¬O4 w.heap.size:=fun e=>by rcases au _ e with e|e;exact av e;simp at e;omega
    have D:¬O4 m:=fun e=>by rcases au _ e with e|e;exact bp e;simp at e;omega
    have a9:∀k,O4 k->O k\/w.heap.size<=k:=fun k hk=>by rcases au k hk with e|e;exact U k e;exact .inr (by simp at e;omega)
    have bo:¬O4 w4.heap.size:=fun e=>by have:=aq.olt _ e;omega
    have b5:=Blk.aR w4 X1 196;have bz:=aq.lt;have a5:=(aq.alloc (.cells X1 196)).setRow (g:=w4.heap.size) (by omega) bo (M2 q2);have ag:=(ah.alloc (.cells X1 196)).setRow (g:=w4.heap.size) (by omega) (M2 q2);have ab:=(aa.alloc (.cells X1 196)).aP (g:=w4.heap.size) (by omega) (M2 q2);have G:=(ao.alloc (.cells X1 196)).aP (g:=w4.heap.size) (by omega) (M2 q2);have Y:=b5.setRow (M2 q2);have c5:w4.heap.size≠m:=by omega
    clear X a7 M K U an aq af au ah aa ao bf hend;go_wp2_with(first|refine U7 rfl (.tmp 6) (.tmp 22) rfl w4.heap.size rfl rfl b5 rfl ?_);clear b5;generalize((w4.alloc (.cells X1 196)).setRow w4.heap.size (M2 q2))=w5 at a5 ag ab G Y⊢;generalize w4.heap.size=x at Y c5 bz c7 bo⊢;obtain⟨fv,lv,b7⟩:=a5.ru;have c2:=a5.rd.c2;have a0:w5.cell? ⟨m,0,none⟩=some (.int .u64 (q.first.lo.toNat:Int)):=G.cell 0;have a1:w5.cell? ⟨m,1,none⟩=some (.int .u64 (q.first.hi.toNat:Int)):=G.cell 1;have a2:w5.cell? ⟨m,2,none⟩=some (.int .u64 (q.last.lo.toNat:Int)):=G.cell 2;have a3:w5.cell? ⟨m,3,none⟩=some (.int .u64 (q.last.hi.toNat:Int)):=G.cell 3;have a4:w5.cell? ⟨m,4,none⟩=some (.bool q.empty):=G.cell 4;have b0:w5.cell? ⟨x,0,none⟩=some (.int .u64 (q2.first.lo.toNat:Int)):=Y.cell 0;have b1:w5.cell? ⟨x,1,none⟩=some (.int .u64 (q2.first.hi.toNat:Int)):=Y.cell 1;have b2:w5.cell? ⟨x,2,none⟩=some (.int .u64 (q2.last.lo.toNat:Int)):=Y.cell 2;have b3:w5.cell? ⟨x,3,none⟩=some (.int .u64 (q2.last.hi.toNat:Int)):=Y.cell 3;have b4:w5.cell? ⟨x,4,none⟩=some (.bool q2.empty):=Y.cell 4;have ax:Hid (RS w5 Z gb s p2 R2 O4/\C0 (fun k=>k=Z\/O k) w w5/\Blk w5 w.heap.size X1 196/\Blk w5 m (M2 q) 196/\C1 w5 gb O4 R2 fv lv/\∀k,O4 k->O k\/w.heap.size<=k):=⟨a5,ag,ab,G,b7,a9⟩;have c8:=G.lt;clear a5 ag ab G Y b7 a9;go_wp2_with fail
    go_region_with (go_at_call 142;refine(SR R2 gb O4 fv lv q q2 _ ax.out.2.2.2.2.1.drew (by omega)).mono ?_;rintro e w6 ⟨rfl,bt,ar⟩;have k3:=ax.out.2.2.2.1.drew.kept ar D;have cd:=k3.cell 0;have ce:=k3.cell 1;have cf:=k3.cell 2;have cg:=k3.cell 3;have ch:=k3.cell 4;have ci:=k3.frozen 0;have cj:=k3.frozen 1;have ck:=k3.frozen 2;have cl:=k3.frozen 3;have cm:=k3.frozen 4)
    all_goals
     go_wp2_with fail
     go_roundg (gk-1)
     case measure=>omega
     case rel=>
      obtain⟨a5,ag,ab,G,b7,a9⟩:=ax.out;have bu:=a5.drew.fW bt ar;have bw:C0 (fun k=>k=Z\/O k) w w6:=ag.drew.trans ar (fun i hi e=>.inr (by rcases a9 i e with e|e;exact e;omega));have bv:=ab.drew.kept ar aw;refine⟨_,O4,rfl,br.out,fun e=>?_,bq.out,((((bu.aG (by simp;omega) D _).aG (by simp;omega) D _).aG (by simp;omega) D _).aG (by simp;omega) D _).aG (by simp;omega) D _,?_,?_,?_,aw,D,a9⟩
      ·have:=bs.out e;show s.size<gk-1+p2;omega
      ·exact((((bw.setCell (by simp;omega) _).setCell (by simp;omega) _).setCell (by simp;omega) _).setCell (by simp;omega) _).setCell (by simp;omega) _
      ·exact((((bv.aG (by simp;omega) _).aG (by simp;omega) _).aG (by simp;omega) _).aG (by simp;omega) _).aG (by simp;omega) _
      ·exact((((k3.set 0 _).set 1 _).set 2 _).set 3 _).set 4 _
end Go.Proofs.YtcckhngbdoiikabGreat
