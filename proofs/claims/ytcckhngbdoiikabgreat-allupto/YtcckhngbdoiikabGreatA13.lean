import Derived.Test.YtcckhngbdoiikabGreatA12
set_option maxRecDepth 20000
set_option maxHeartbeats 12800000
set_option linter.unusedVariables false
namespace Go.Proofs.YtcckhngbdoiikabGreat
open Go.RowKit Go.Deep
def keptAt(al:List Bool)(f:List Int)(k:Nat):List Int:=R4 al (f.take k)++List.replicate (f.length-k) 0
theorem BN(al:List Bool)(f:List Int)(k:Nat)(h:k<=f.length):(keptAt al f k).length=f.length:=by simp[keptAt,R4];omega
theorem OJ(al:List Bool)(f:List Int)(k:Nat)(h:k<f.length):keptAt al f (k+1)=(keptAt al f k).set k (if f[k] != -1 && al.getD f[k].toNat false then f[k]else -1):=by
 unfold keptAt;have B:(R4 al (f.take k)).length=k:=by simp[R4];omega
 rw[List.set_append_right _ _ (by omega),B,yS,show f.length-k=(f.length- (k+1))+1 by omega,List.replicate_succ,List.set_cons_zero,yO h];unfold R4;rw[zV,yF];rfl
theorem AN(al:List Bool)(f:List Int):keptAt al f f.length=R4 al f:=by simp[keptAt]
theorem YT(rv nv:Value)(g:B0)(K:Nat)(w:World)(hg:Y6 w rv nv g)(ho:GOk g K)(hn:g.aB.length<=1000)(hK:K<=1000):
  Calls Tryz.prog 57 #[.agg #[rv,nv]] w fun e w'=>∃pv,e=.returned (.agg #[rv,pv])/\Y6 w' rv pv (G0 g)/\Bw w w':=by
 have hA:=fun(W:World) (V:Bw w W)=>KR rv nv g K W (hg.aA V) ho hn hK
 obtain⟨Y,hN,ad,bx⟩:=hg.next;have ac:=hg.aB;obtain⟨rd,D,rfl,ce⟩:=hg.aB.aV;obtain⟨nd,a4,rfl,b4⟩:=hN.aV;have ao:=ho.len;have c8:=Hd bx;have HN:=Hd hN;have bc:=Hd ac;have HO:=Hd ho;have HA:=Hd hA;have cy:Y.length<=1000:=by omega
 have cj:=Hd ao;have bd:=Hd ad;clear bx hN ac ho hg ao ad hA;generalize bk:Ua g=al;have b6:=Hd bk;clear bk;go_enter Tryz.func57,Tryz.ntmps57;go_wp2_with fail;refine(HA.out _ (F6 _ _ _)).mono ?_;rw[b6.out];rintro e B ⟨ab,rfl,bf,U,am⟩;have ah:=((Blk.aR w #[.slice rd g.aB.length D,.slice nd Y.length a4] 71).alloc (.cells #[.slice none 0 0,.slice none 0 0] 71)).aA am;have ax:=(Blk.dX w (.cells #[.slice rd g.aB.length D,.slice nd Y.length a4] 71) #[.slice none 0 0,.slice none 0 0] 71).aA am;have bl:Bw w B:=(F6 w _ _).trans (am.mono (by simp;omega));have g0:B.cell? ⟨w.heap.size,0,none⟩=some (.slice rd g.aB.length D):=ah.cell 0;have g1:B.cell? ⟨w.heap.size,1,none⟩=some (.slice nd Y.length a4):=ah.cell 1;have z1:w.heap.size+1<B.heap.size:=ax.lt;have z0:w.heap.size<B.heap.size:=by omega
 have b7:=Hd U;have b8:=Hd bf;have b9:Hid (Bw w B/\Blk B w.heap.size #[.slice rd g.aB.length D,.slice nd Y.length a4] 71/\Blk B (w.heap.size+1) #[.slice none 0 0,.slice none 0 0] 71):=⟨bl,ah,ax⟩;clear bl ah ax am bf U;go_wp2_with fail
 go_loopg[18] Y.length (fun G i wr=>∃(n:Nat) (O:Nat->Prop) (pv:Value),n<=Y.length/\G=Y.length-n/\i=.int .i64 n/\Bw B wr/\
  Blk wr B.heap.size #[.slice rd g.aB.length D,pv] 71/\Y4 wr O pv ((g.next.take n).map (R4 al))/\∀k,O k->B.heap.size<k)
 case atStart=>
  exact⟨0,fun _=>False,.slice none 0 0,by omega,rfl,rfl,N0 _ _,Blk.aR _ _ _,by simpa using Y4.nil _,fun k h=>h.elim⟩
 case round=>
  obtain⟨n,O,pv,cr,rfl,rfl,V,hP,hR,hO⟩:=hrel
  by_cases cb:n<Y.length
  ·have e0:decide ((n:Int)<(Y.length:Int))=true:=by simp;omega
   rcases b4 with h0|⟨ng,rfl⟩
   ·omega
   have ay:Bw w wr:=b9.out.1.trans (V.mono (by omega));have ad:=bd.out;have n0:=(HN.out.aA ay).cell n cb;have X:=c8.out n Y[n] (zF _);have bt:=HO.out.row n (by omega);generalize Y[n]=vn at n0 X;have b0:g.next[n]?=some (g.next.getD n []):=by simp[show n<g.next.length by omega]
   generalize cf:g.next.getD n []=f at X bt b0;obtain⟨ed,ck,rfl,az⟩:=X.aV;have i0:(0:Int)<=(n:Int):=by omega
   have i1:(n:Int)<(Y.length:Int):=by omega
   have zr:B.heap.size<wr.heap.size:=hP.lt;have cw:f.length<=1000:=by omega
   have cq:=Je f.length (by omega);obtain⟨bu,ap⟩:=bt;have c6:=Hd ap;have bb:=Hd X;have c3:=Hd b0;have HH:Hid (Bw B wr/\Blk wr B.heap.size #[.slice rd g.aB.length D,pv] 71/\Y4 wr O pv ((g.next.take n).map (R4 al))/\∀k,O k->B.heap.size<k):=⟨V,hP,hR,hO⟩;have c2:=Hd ay;clear V hP hR hO ad bu ap X b0 cf ay g0 g1;obtain⟨M,rfl⟩:∃M:World,M=wr:=⟨_,rfl⟩;go_wp2_with fail
   go_loopg[27] f.length (fun G i wr=>∃(k:Nat),k<=f.length/\G=f.length-k/\i=.int .i64 k/\Bw M wr/\Blk wr M.heap.size (T3 (keptAt al f k)) 3)
   case atStart=>
    refine⟨0,by omega,rfl,rfl,N0 _ _,?_⟩;have e1:keptAt al f 0=List.replicate f.length 0:=by simp[keptAt,R4]
    rw[e1];exact Blk.aR _ _ _
   case round=>
    obtain⟨k,hk,rfl,rfl,V,hI⟩:=hrel;have b1:=BN al f k hk
    by_cases b2:k<f.length
    ·have e1:decide ((k:Int)<(f.length:Int))=true:=by simp;omega
     rcases az with h0|⟨eg,rfl⟩
     ·omega
     have a9:Bw w wr:=c2.out.trans (V.mono (by omega));have r0:=(bb.out.aA a9).cell k b2;have b5:=c6.out f[k] (zG b2);have a1:=OJ al f k b2;have c0:=Aa hI k (by omega);generalize(keptAt al f k)[k]'(by omega)=old at c0;have f0:=hI.frozen k;have i2:(0:Int)<=(k:Int):=by omega
     have i3:(k:Int)<(f.length:Int):=by omega
     generalize f[k]=to at r0 b5 a1;have ar:=b8.out.aA (V.mono (zD _) |>fun h=>(HH.out.1.trans (h.mono (by omega))));have U:=b7.out
     by_cases b3:to= -1
     ·subst b3;have ag:=Hd a1;have ae:Hid (Bw M wr/\Blk wr M.heap.size (T3 (keptAt al f k)) 3):=⟨V,hI⟩;clear a1 V hI a9 b5 ar U b1;go_wp2_with fail
      go_roundg (f.length- (k+1))
      case measure=>omega
      case rel=>
       obtain⟨q1,q2⟩:=ae.out;refine⟨k+1,by omega,rfl,by go_num,q1.setCell (zD _) _,?_⟩;have hs:=ag.out;simp only[bne_self_eq_false,xB,zX,if_false]at hs;rw[hs,<-Z3];exact q2.set k _
     ·have e2:(to != -1)=true:=by simp[b3]
      obtain⟨j,rfl⟩:∃j:Nat,to=(j:Int):=⟨to.toNat,by omega⟩;have hj:j<al.length:=by omega
      have m0:wr.cell? ⟨ab,j,none⟩=some (.bool al[j]):=by
       have an:=ar;rw[<-U]at an;exact an.cell j hj
      have bq:al.getD j false=al[j]:=by simp[hj]
      simp only[zH,bq,e2,Bool.true_and]at a1;have j0:(0:Int)<=(j:Int):=by omega
      have j1:(j:Int)<(g.aB.length:Int):=by omega
      have cz:ab<B.heap.size:=Q1 b8.out ab rfl;have cd:ab≠M.heap.size:=by omega
      generalize al[j]=aj at m0 a1;have ag:=Hd a1;have ae:Hid (Bw M wr/\Blk wr M.heap.size (T3 (keptAt al f k)) 3):=⟨V,hI⟩;clear a1 V hI a9 b5 ar U b1 bq b3;cases aj with
      |true=>
       go_wp2_with fail
       go_roundg (f.length- (k+1))
       case measure=>omega
       case rel=>
        obtain⟨q1,q2⟩:=ae.out;refine⟨k+1,by omega,rfl,by go_num,(q1.setCell (zD _) _).setCell (zD _) _,?_⟩;have hs:=ag.out;simp only[if_true]at hs;have q3:=(q2.set k (.int .i64 (-1))).set k (.int .i64 j);rw[Z3,Z3,List.set_set]at q3;rw[hs];exact q3
      |false=>
       go_wp2_with fail
       go_roundg (f.length- (k+1))
       case measure=>omega
       case rel=>
        obtain⟨q1,q2⟩:=ae.out;refine⟨k+1,by omega,rfl,by go_num,q1.setCell (zD _) _,?_⟩;have hs:=ag.out;simp only[zX,if_false]at hs;rw[hs,<-Z3];exact q2.set k _
    ·have e1:decide ((k:Int)<(f.length:Int))=false:=by simp;omega
     obtain rfl:k=f.length:=by omega
     rw[AN]at hI;obtain⟨bm,bg,av,au⟩:=HH.out;have a7:=bg.aA V;have aw:=av.aA V;obtain⟨us,a5,a8,ak⟩:=aw.ex;have bw:(R4 al f).length=f.length:=by simp[R4]
     have a0:=Q2.cC hI (by omega);rw[bw]at a0;obtain⟨pd,J,rfl,_⟩:=a5.aV;have c1:wr.cell? ⟨B.heap.size,1,none⟩=some (.slice pd us.length J):=a7.cell 1;have f1:=a7.frozen 1;have cx:us.length<=1000:=by rw[a8];simp;omega
     obtain⟨ii,hi,cg,ch,ci⟩:=info_parts Tryz.dP;have bv:=a5.aA (N0 wr (.cells #[.slice (some ⟨M.heap.size,0,none⟩) f.length f.length] 68));have zw:B.heap.size<wr.heap.size:=a7.lt;have zz:M.heap.size<wr.heap.size:=hI.lt;have cc:¬O M.heap.size:=fun e=>by have:=av.olt _ e;omega
     have bs:¬O B.heap.size:=fun e=>by have:=au _ e;omega
     have bh:=aw.alloc (.cells #[.slice (some ⟨M.heap.size,0,none⟩) f.length f.length] 68);have aq:=Hd bv;have HU:=Hd2 a8 ak;have ba:Hid (Bw M wr/\Bw B M/\Blk wr B.heap.size #[.slice rd g.aB.length D,.slice pd us.length J] 71/\Q2 wr (.slice (some ⟨M.heap.size,0,none⟩) f.length f.length) (R4 al f)/\∀k,O k->B.heap.size<k):=⟨V,bm,a7,a0,au⟩;have af:=Hd bh;clear V hI bm bg av au a7 aw a5 a8 ak a0 bv bh bw b1 HH;go_wp2_with(at_builtin;(refine wpList_append_lies _ (by rfl) _ _ _ (by rfl) 0 68 ii _ 1 24 Tryz.underlying69 hi cg ch ci rfl (by omega) (.slice pd us.length J) us.length us (by rfl) aq.out ⟨wr.heap.size,0,none⟩ 1 1 [.slice (some ⟨M.heap.size,0,none⟩) f.length f.length] (by rfl) (by rfl) (World.news_of_block (cs:=#[.slice (some ⟨M.heap.size,0,none⟩) f.length f.length]) (t:=68) (fr:=(0,0)) (heap_alloc_new wr _)) (by simp[Value.oneCell']) (by omega) (by unfold maxLen;omega) (by omega) (by simp) (wr.heap.size+1) (by simp) ?_));intro gg be w6 aa a3 a2 br;obtain⟨q1,bz,q2,q3,q4⟩:=ba.out;obtain⟨bi,Z⟩:=Y4.push af.out aq.out HU.out.1 (fun i v hv=>⟨((HU.out.2 i v hv).1).aA (N0 _ _),(HU.out.2 i v hv).2⟩) (q3.aA (N0 _ _)) cc aa a3 (by simpa using a2) br;have ai:=(q2.alloc (.cells #[.slice (some ⟨M.heap.size,0,none⟩) f.length f.length] 68)).kept Z bs;have c7:w6.cell? ⟨B.heap.size,1,none⟩=some (.slice pd us.length J):=ai.cell 1;have f7:=ai.frozen 1;have ca:gg≠B.heap.size:=by
      intro e;subst e;rcases a2 with e|e
      ·exact bs (af.out.ob _ e)
      ·omega
     have cl:B.heap.size<gg:=by
      rcases a2 with e|e
      ·exact q4 _ (af.out.ob _ e)
      ·omega
     have bp:Bw B w6:=by
      have h1:Bw B wr:=bz.trans (q1.mono (by omega));refine(h1.alloc (by omega) _).trans ⟨Z.os,Z.tape,Z.output,Z.size,fun k hk=>Z.block k (by simp;omega) (fun e=>by have:=q4 _ e;omega)⟩
     have c5:Hid (Y4 w6 (fun k=>O k\/k=gg\/k=M.heap.size) (.slice (some ⟨gg,0,none⟩) (us.length+1) be) ((g.next.take n).map (R4 al)++ [R4 al f])/\Blk w6 B.heap.size #[.slice rd g.aB.length D,.slice pd us.length J] 71/\Bw B w6/\∀k,O k->B.heap.size<k):=⟨bi,ai,bp,q4⟩;clear bi Z ai bp q1 bz q2 q3 q4 aa a3 a2 ba af HU aq c1 f1;go_wp2_with fail
     go_roundg (Y.length- (n+1))
     case measure=>omega
     case rel=>
      obtain⟨q1,q2,q3,q4⟩:=c5.out;refine⟨n+1,(fun k=>O k\/k=gg\/k=M.heap.size),_,by omega,rfl,by go_num,q3.setCell (zD _) _,q2.set 1 _,?_,?_⟩
      ·have e9:(g.next.take (n+1)).map (R4 al)=(g.next.take n).map (R4 al)++ [R4 al f]:=by
        rw[List.take_add_one,c3.out,zV];rfl
       rw[e9];exact q1.setCell (fun e=>by rcases e with e|e|e;exact absurd (q4 _ e) (by simp);exact ca e.symm;simp at e;omega) _
      ·intro k e;rcases e with e|e|e
       ·exact q4 k e
       ·omega
       ·omega
  ·have e0:decide ((n:Int)<(Y.length:Int))=false:=by simp;omega
   obtain rfl:n=Y.length:=by omega
   obtain⟨bn,c9,bj⟩:=b9.out;have a6:=bj.aA V;have cm:wr.cell? ⟨B.heap.size,0,none⟩=some (.slice rd g.aB.length D):=hP.cell 0;obtain⟨us,a5,a8,ak⟩:=hR.ex;obtain⟨pd,J,rfl,_⟩:=a5.aV;have cn:wr.cell? ⟨B.heap.size,1,none⟩=some (.slice pd us.length J):=hP.cell 1;have ct:wr.cell? ⟨w.heap.size+1,0,none⟩=some (.slice none 0 0):=a6.cell 0;have cu:wr.cell? ⟨w.heap.size+1,1,none⟩=some (.slice none 0 0):=a6.cell 1;have co:=a6.frozen 0;have cp:=a6.frozen 1;have c4:Hid (Bw w B/\Bw B wr/\Blk wr (w.heap.size+1) #[.slice none 0 0,.slice none 0 0] 71/\Y4 wr O (.slice pd us.length J) ((g.next.take Y.length).map (R4 al))/\∀k,O k->B.heap.size<k):=⟨bn,V,a6,hR,hO⟩;clear bn c9 bj V a6 hR hO hP a5 a8 ak;go_wp2_with fail;obtain⟨q1,q2,q3,q4,q5⟩:=c4.out;have ad:=bd.out;rw[zO (by omega)]at q4;have q6:Bw w wr:=q1.trans (q2.mono (by omega));have q7:=q4.setCell (a:=⟨w.heap.size+1,0,none⟩) (fun e=>by have:=q5 _ e;simp at this;omega) (.slice rd g.aB.length D);have q8:=q7.setCell (a:=⟨w.heap.size+1,1,none⟩) (fun e=>by have:=q5 _ e;simp at this;omega) (.slice pd us.length J);have cv:=((bc.out.aA q6).aA (w':=wr) (Below.refl _ _));have bo:=(q6.setCell (p:=⟨w.heap.size+1,0,none⟩) (by simp) (.slice rd g.aB.length D)).setCell (p:=⟨w.heap.size+1,1,none⟩) (by simp) (.slice pd us.length J);refine bodyPost_ret (Xr Tryz.results57 _ rfl rfl ((q3.set 0 _).set 1 _)) rfl ⟨_,rfl,?_,bo⟩;have e5:G0 g=⟨g.aB,g.next.map (R4 al)⟩:=by unfold G0;rw[b6.out]
   rw[e5];exact Y4.gB (g:=⟨g.aB,g.next.map (R4 al)⟩) q8 (bc.out.aA bo)
end Go.Proofs.YtcckhngbdoiikabGreat
