import Derived.Test.YtcckhngbdoiikaaGreatS27
set_option maxRecDepth 20000
set_option maxHeartbeats 12800000
set_option linter.unusedVariables false
namespace Go.Proofs.YtcckhngbdoiikaaGreat
open Go.RowKit Go.Deep
theorem BB:∀(l:List Bool) (j:Nat),j<l.length->l.getD j false=false->(l.set j true).count true=l.count true+1
 | [],j,h,_=>by simp at h
 |x::l,0,h,hx=>by simp at hx;subst hx;simp
 |x::l,j+1,h,hx=>by
  have:=BB l j (by simpa using h) (by simpa using hx);simp only[List.set_cons_succ,List.count_cons,this];omega
theorem JJ{L:List Nat}{P:List Nat->Prop}{S:Nat->Prop}(J:∀m q,S m->I8 L P m q->S q){u:List Nat}(h:Mf P u):∀p q,p<=q->q<=L.length->dY L p q=u->S p->S q:=by
 induction h with
 |nil=>intro p q B f D G;rw[<-DF B f D];exact G
 | @cons u v hu hv ih=>
  intro p q B f D G;obtain⟨m,K,M,U,V⟩:=TC B f D;exact ih m q M f V (J p m G ⟨K,by omega,by rw[U];exact hu⟩)
theorem ES{L:List Nat}{P:List Nat->Prop}{p m q:Nat}(h:I8 L (Mf P) p m)(g:I8 L P m q):I8 L (Mf P) p q:=
 ⟨yK h.1 g.1,g.2.1,by rw[<-Uy h.1 g.1];exact Yu h.2.2 (Yy g.2.2)⟩
structure AgP(c:AlC)(P:List Nat->Prop)(i:Nat)(la ld:List Bool):Prop where
 dZ:la.length=c.N
 gG:ld.length=c.N
 iZ:∀q,q<=c.s.size->la.getD q false=true->I8 (Q0 c.s) (Mf P) i q
 has:la.getD i false=true
 sub:∀q,ld.getD q false=true->la.getD q false=true
 aS:∀q q',ld.getD q false=true->I8 (Q0 c.s) P q q'->la.getD q' false=true
theorem AgP.start(c:AlC)(P:List Nat->Prop)(i:Nat)(G:i<=c.s.size):AgP c P i (Uq i c.N) (List.replicate c.N false):=by
 have f:i<c.N:=AlC.dL.2 G;have D:∀q,(List.replicate c.N false).getD q false=false:=fun q=>by rw[zC,yW];split <;>rfl
 refine⟨We _ _,by simp,fun q B h=>?_,by rw[Ak f f];simp,fun q h=>(by rw[D]at h;exact absurd h (by simp)),fun q J h=>(by rw[D]at h;exact absurd h (by simp))⟩;rw[Ak f (AlC.dL.2 B)]at h;simp at h;subst h;exact⟨zD _,by rw[I1];exact B,by rw[Vy];exact .nil⟩
theorem BE{l:List Bool}{q:Nat}(h:l.getD q false=true):q<l.length:=by
 refine Nat.lt_of_not_le fun f=>?_
 rw[zC,yI f]at h;cases h
theorem AgP.step{c:AlC}{P:List Nat->Prop}{i:Nat}{la W:List Bool}(h:AgP c P i la W){j:Nat}(U:la.getD j false=true):AgP c P i (orL la (Ha (Q0 c.s) P j)) (W.set j true):=by
 have D:=BE U;rw[h.dZ]at D;have J:∀q,q<c.N->(orL la (Ha (Q0 c.s) P j)).getD q false=(la.getD q false || (Ha (Q0 c.s) P j).getD q false):=fun q B=>Vl _ _ _ (by rw[h.dZ];exact B) (by rw[Zb];exact B)
 have G:∀q,la.getD q false=true->(orL la (Ha (Q0 c.s) P j)).getD q false=true:=fun q B=>by
  have:=BE B;rw[h.dZ]at this;rw[J q this,B];rfl
 have K:∀q,I8 (Q0 c.s) P j q->(orL la (Ha (Q0 c.s) P j)).getD q false=true:=fun q B=>by
  have f:=B.2.1;rw[I1]at f;rw[J q (AlC.dL.2 f),T8.2 B];simp
 refine⟨by rw[An];exact h.dZ,by simp[h.gG],fun q B f=>?_,G _ h.has,fun q f=>?_,fun q V f M=>?_⟩
 ·rw[J q (AlC.dL.2 B),yX]at f;rcases f with f|f
  ·exact h.iZ q B f
  ·exact ES (h.iZ j (AlC.dL.1 D) U) (T8.1 f)
 ·rw[X6 _ _ _ _ (by rw[h.gG];exact D)]at f
  by_cases e:q=j
  ·rw[e];exact G j U
  ·rw[if_neg e]at f;exact G q (h.sub q f)
 ·rw[X6 _ _ _ _ (by rw[h.gG];exact D)]at f
  by_cases e:q=j
  ·rw[e]at M;exact K V M
  ·rw[if_neg e]at f;exact G V (h.aS q V f M)
theorem AgP.done{c:AlC}{P:List Nat->Prop}{i:Nat}{la D:List Bool}(h:AgP c P i la D)(M:∀q,q<c.N->la.getD q false=true->D.getD q false=true):la=Ha (Q0 c.s) (Mf P) i:=by
 refine Ie (by rw[h.dZ,I1];rfl) fun q B=>?_
 rw[I1]at B;constructor
 ·exact h.iZ q B
 ·rintro⟨G,J,K⟩;refine JJ (S:=fun q=>la.getD q false=true) (fun m V f U=>?_) K i q G J rfl h.has;have:=BE f;rw[h.dZ]at this;exact h.aS m V (M m this f) U
theorem QA(c:AlC)(T:MT)(HO:Hn c T)(A:Nat->Prop)(w:World)(i:Nat)(hA:∀b,A b->b<w.heap.size)(hm:D4 c A w)(hi:i<=c.s.size)(hs:c.s.size<=20000):
  Calls Tryz.prog 129 #[.pointer (some ⟨c.ab,0,none⟩),.pointer (some ⟨T.aL,0,none⟩),.int .i64 i] w (MD c A w (Ha (Q0 c.s) (Mf T.nt.aU) i)):=by
 have ba:c.N<=20001:=by unfold AlC.N;omega
 have b9:(c.s.size:Int)+1=(c.N:Int):=by unfold AlC.N;omega
 have b8:i<c.N:=AlC.dL.2 hi;have bd:=U7 c.N (by omega);have s0:w.cell? ⟨c.ab,0,none⟩=some (.string c.s):=hm.aO.cell 0;have HM:=Hd hm;have b5:=Hd HO;have ai:=Hd hA;have HU:=Hd hm.lB;have am:=Hd (Cm i c.N w b8 (by omega));clear hm HO hA;go_enter Tryz.func129,Tryz.ntmps129;go_wp2_with fail;refine am.out.mono ?_;rintro e X ⟨rfl,ae,ag⟩;have be:w.heap.size<X.heap.size:=ae.lt;have HS:Hid (D4 c (fun b=>(A b\/b=w.heap.size)\/b=X.heap.size) (X.alloc (.cells (Z0 (List.replicate c.N false)) 4))/\C0 c.M w (X.alloc (.cells (Z0 (List.replicate c.N false)) 4))/\Blk (X.alloc (.cells (Z0 (List.replicate c.N false)) 4)) w.heap.size (Z0 (Uq i c.N)) 4/\Blk (X.alloc (.cells (Z0 (List.replicate c.N false)) 4)) X.heap.size (Z0 (List.replicate c.N false)) 4):=
  Hd ⟨(HM.out.fresh.aA ag).fresh.aA (P0 _ _),(C0.aM ag).alloc _,ae.alloc _,Blk.aQ _ _ _⟩
 clear ae ag am;go_wp2_with fail
 go_loopg[9] (2*c.N+1) (fun G mv wr=>∃(a0:Bool) (la ld:List Bool),mv=.bool a0/\G=2*(c.N-ld.count true)+a0.toNat/\AgP c T.nt.aU i la ld/\(a0=false->∀q,q<c.N->la.getD q false=true->ld.getD q false=true)/\
  D4 c (fun b=>(A b\/b=w.heap.size)\/b=X.heap.size) wr/\C0 c.M w wr/\Blk wr w.heap.size (Z0 la) 4/\Blk wr X.heap.size (Z0 ld) 4)
 case atStart=>
  obtain⟨U,V,Y,a4⟩:=HS.out;exact⟨true,_,_,rfl,(by rw[show(List.replicate c.N false).count true=0 by simp[List.count_replicate]];simp),AgP.start c _ i hi,(fun h=>absurd h (by simp)),U,V,Y,a4⟩
 case round=>
  obtain⟨a0,la,ld,rfl,rfl,K,ah,W,hk,B,D⟩:=hrel;have za:=B.lt;have zd:=D.lt;cases a0 with
  |false=>
   have HH:=Hd5 K (ah rfl) W hk B;clear K ah W hk B D;go_wp2_with fail;go_ret;obtain⟨U,V,Y,a4,Z⟩:=HH.out;refine⟨w.heap.size,rfl,fun e=>by have:=ai.out _ e;omega,?_,Y.jA (fun b e=>.inl (.inl e)) (fun n hn=>(HM.out.wrow n hn).1),a4⟩;have h6:=Y5.cC Z (by rw[U.dZ];omega);rw[U.dZ]at h6;rw[<-U.done V];exact h6
  |true=>
   have HH:=Hd5 K W hk B D;clear K ah W hk B D HS;obtain⟨cn,au⟩:∃cn,ld.count true=cn:=⟨_,rfl⟩;have ak:=Hd au;clear au;obtain⟨wo,rfl⟩:∃wo:World,wo=wr:=⟨_,rfl⟩;go_wp2_with fail
   go_loopg[9,10] c.N (fun G mv jv wi=>∃(mo:Bool) (j:Nat) (J f:List Bool),mv=.bool mo/\jv=.int .i64 j/\j<=c.N/\G=c.N-j/\AgP c T.nt.aU i J f/\(mo=false->f.count true=cn/\∀q,q<j->J.getD q false=true->f.getD q false=true)/\(mo=true->cn<f.count true)/\
    D4 c (fun b=>(A b\/b=w.heap.size)\/b=X.heap.size) wi/\C0 c.M w wi/\Blk wi w.heap.size (Z0 J) 4/\Blk wi X.heap.size (Z0 f) 4)
   case atStart=>
    obtain⟨U,V,Y,a4,Z⟩:=HH.out;exact⟨false,0,la,ld,rfl,rfl,by omega,rfl,U,fun _=>⟨ak.out,fun q hq=>by omega⟩,(fun h=>absurd h (by simp)),V,Y,a4,Z⟩
   case round=>
    obtain⟨mo,j,J,f,rfl,rfl,hj,rfl,K,aa,ac,W,hk,B,D⟩:=hrel;have bf:=B.lt;have bg:=D.lt
    by_cases a9:j<c.N
    ·have e0:decide ((j:Int)<(c.N:Int))=true:=by simp;omega
     have cA:=N2 B j (by rw[K.dZ];exact a9);have cD:=N2 D j (by rw[K.gG];exact a9);have fD:=D.frozen j;have j0:(0:Int)<=(j:Int):=by omega
     have j1:(j:Int)<(c.N:Int):=by omega
     have HI:=Hd7 K aa ac W hk B D;clear K aa ac W hk B D;generalize az:J.getD j false=xa at cA;generalize b0:f.getD j false=xd at cD;have an:=Hd az;have ao:=Hd b0;clear az b0;cases xa with
     |false=>
      go_wp2_with fail
      go_roundg (c.N- (j+1))
      case measure=>omega
      case rel=>
       obtain⟨U,V,Y,a4,Z,a6,a7⟩:=HI.out;refine⟨mo,j+1,J,f,rfl,by go_num,by omega,rfl,U,fun h=>⟨(V h).1,fun q hq hh=>?_⟩,Y,a4,Z,a6,a7⟩
       by_cases e:q<j
       ·exact(V h).2 q e hh
       ·rw[show q=j by omega,an.out]at hh;cases hh
     |true=>
      cases xd with
      |true=>
       go_wp2_with fail
       go_roundg (c.N- (j+1))
       case measure=>omega
       case rel=>
        obtain⟨U,V,Y,a4,Z,a6,a7⟩:=HI.out;refine⟨mo,j+1,J,f,rfl,by go_num,by omega,rfl,U,fun h=>⟨(V h).1,fun q hq hh=>?_⟩,Y,a4,Z,a6,a7⟩
        by_cases e:q<j
        ·exact(V h).2 q e hh
        ·rw[show q=j by omega];exact ao.out
      |false=>
       obtain⟨U,V,Y,a4,Z,a6,a7⟩:=HI.out;obtain⟨w3,ad⟩:∃w3:World,wr.setCell ⟨X.heap.size,j,none⟩ (.bool true)=w3:=⟨_,rfl⟩;have kd:C0 (fun b=>b=X.heap.size) wr w3:=by rw[<-ad];exact(C0.refl (fun b=>b=X.heap.size) _).setCell (p:=⟨X.heap.size,j,none⟩) (fun _=>rfl) _
       have b3:D4 c (fun b=>(A b\/b=w.heap.size)\/b=X.heap.size) w3:=a4.dC kd (.inr rfl) (fun n hn=>by have:=HU.out n hn;omega) a7;have b4:C0 c.M w w3:=⟨kd.os.trans Z.os,kd.tape.trans Z.tape,kd.output.trans Z.output,by have:=Z.size;have:=kd.size;omega,fun k hk he=>(kd.block k (by have:=Z.size;omega) (by omega)).trans (Z.block k hk he)⟩;have b6:Blk w3 w.heap.size (Z0 J) 4:=a6.kept kd (by omega);have b7:Blk w3 X.heap.size (Z0 (f.set j true)) 4:=by rw[<-ad,<-Z3];exact a7.set j _
       have HE:=Hd (b5.out _ w3 j (fun b hb=>by rcases hb with(e|e)|e;have:=ai.out b e;have:=kd.size;omega;have:=kd.size;omega;have:=kd.size;omega) b3 (AlC.dL.1 a9));have HB:=Hd4 b3 b4 b6 b7;have av:=Hd (BB f j (by rw[U.gG];exact a9) ao.out);have HJ:=Hd3 U V Y;have z3:wr.heap.size<=w3.heap.size:=kd.size;clear U V Y a4 Z a6 a7 b3 b4 b6 b7 kd HI;go_upto_region 12 with fail
       try rw[ad]
       clear ad cA cD fD;go_wp2_with fail;refine HE.out.mono ?_;rintro e w4 ⟨b,rfl,ay,aq,ax,a8⟩;obtain⟨b3,b4,b6,b7⟩:=HB.out;have af:Blk w4 w.heap.size (Z0 J) 4:=b3.eD a8 b6 (by decide);have ar:Blk w4 X.heap.size (Z0 (f.set j true)) 4:=b3.eD a8 b7 (by decide);have z4:=a8.size;have aj:=Hd (Vo w.heap.size c.N c.N J (Ha (Q0 c.s) T.nt.aU j) (.slice (some ⟨b,0,none⟩) c.N c.N) w4 af aq HJ.out.1.dZ (Zb _ _ _) (fun e=>ay (.inl (.inr (zE e)))) (by omega));have b1:=Hd4 ax (b4.trans a8 (fun i _ e=>e)) af ar;clear b3 b4 b6 b7 ax a8 af ar aq ay HB HE;go_wp2_with fail;refine aj.out.mono ?_;rintro e w5 ⟨rfl,ap,aw⟩;have b2:=Hd2 ap aw;clear ap aw aj;go_wp2_with fail
       go_roundg (c.N- (j+1))
       case measure=>omega
       case rel=>
        obtain⟨r1,r2⟩:=b2.out;obtain⟨q1,q2,q3,q4⟩:=b1.out;obtain⟨U,V,Y⟩:=HJ.out;refine⟨true,j+1,orL J (Ha (Q0 c.s) T.nt.aU j),f.set j true,rfl,by go_num,by omega,rfl,U.step an.out,(fun h=>absurd h (by simp)),fun _=>?_,q1.dC r2 (.inl (.inr rfl)) (fun n hn=>by have:=HU.out n hn;omega) q3,?_,r1,q4.kept r2 (by omega)⟩
        ·rw[av.out];cases mo with
         |true=>have:=Y rfl;omega
         |false=>have:=(V rfl).1;omega
        ·exact⟨r2.os.trans q2.os,r2.tape.trans q2.tape,r2.output.trans q2.output,by have:=q2.size;have:=r2.size;omega,fun k hk he=>(r2.block k (by have:=q2.size;omega) (by omega)).trans (q2.block k hk he)⟩
    ·have e0:decide ((j:Int)<(c.N:Int))=false:=by simp;omega
     obtain rfl:j=c.N:=by omega
     have HI:=Hd7 K aa ac W hk B D;clear K aa ac W hk B D;go_wp2_with fail
     go_roundg (2*(c.N-f.count true)+mo.toNat)
     case measure=>
      obtain⟨U,V,Y,_⟩:=HI.out;have bc:f.count true<=c.N:=by rw[<-U.gG];exact List.count_le_length
      have bb:=ak.out;cases mo with
      |true=>have:=Y rfl;simp;omega
      |false=>have:=(V rfl).1;simp;omega
     case rel=>
      obtain⟨U,V,Y,a4,Z,a6,a7⟩:=HI.out;exact⟨mo,J,f,rfl,rfl,U,fun h=>(V h).2,a4,Z,a6,a7⟩
mutual
def NT.Wf(s:ByteArray):NT->Prop
 |.place i e A=>D8 s i e A
 |.node k l=>(k=1\/k=2\/(k=3/\l.length=1)\/k=4)/\WfL s l
def WfL(s:ByteArray):List NT->Prop
 | []=>True
 |x::l=>x.Wf s/\WfL s l
end
theorem OD{s:ByteArray}:∀l:List NT,WfL s l↔∀x∈l,x.Wf s
 | []=>by simp[WfL]
 |x::l=>by simp[WfL,OD l]
theorem Pp{s:ByteArray}{l:List NT}{x:NT}(h:WfL s l)(B:x.Wf s):WfL s (l++ [x]):=by
 rw[OD]at h⊢;intro y f;rw[zO,zJ]at f;rcases f with f|rfl
 ·exact h y f
 ·exact B
theorem BO{s:ByteArray}{x:NT}(h:x.Wf s)(m:Nat):(P6 m x).Wf s:=by
 unfold P6;split
 ·simp[NT.Wf,WfL,h]
 ·split
  ·simp[NT.Wf,WfL,h]
  ·split
   ·simp[NT.Wf,WfL,h]
   ·exact h
theorem PT.eE{s:ByteArray}:∀(t:PT) (i j:Nat) (f cur:List NT),t.Sp s i j->WfL s f->WfL s cur->(t.nt f cur).Wf s
 |.nil,i,j,f,cur,_,hr,hc=>by
  have:WfL s (f++ [.node 1 cur]):=Pp hr (by simp[NT.Wf,hc]);simp[PT.nt,NT.Wf,this]
 |.bar r,i,j,f,cur,h,hr,hc=>PT.eE r _ _ _ _ h.2 (Pp hr (by simp[NT.Wf,hc])) (by simp[WfL])
 |.leaf a e A m r,i,j,f,cur,h,hr,hc=>by
  obtain⟨rfl,B,_,_,D⟩:=h;exact PT.eE r _ _ _ _ D hr (Pp hc (BO (by simp only[NT.Wf];exact Pf B) m))
 |.group t m r,i,j,f,cur,h,hr,hc=>by
  obtain⟨_,e,B,_,_,D⟩:=h;exact PT.eE r _ _ _ _ D hr (Pp hc (BO (PT.eE t _ _ [] [] B (by simp[WfL]) (by simp[WfL])) m))
mutual
theorem MT.kB{s:ByteArray}:∀(U T:MT),U.nt.Wf s->T∈U.subs->T.nt.Wf s
 |.place b i e A,T,h,f=>by
  simp only[MT.subs,zJ]at f;rw[f];exact h
 |.node b v k l,T,h,f=>by
  simp only[MT.subs,zU]at f;rcases f with f|f
  ·rw[f];exact h
  ·simp only[MT.nt,NT.Wf]at h;exact Bn l T h.2 f
theorem Bn{s:ByteArray}:∀(l:List MT) (T:MT),WfL s (ntL l)->T∈B5 l->T.nt.Wf s
 | [],T,h,f=>by simp[B5]at f
 |y::l,T,h,f=>by
  simp only[ntL,WfL]at h;simp only[B5,zO]at f;rcases f with f|f
  ·exact MT.kB y T h.1 f
  ·exact Bn l T h.2 f
end
mutual
theorem MT.gC{s:ByteArray}:∀(T:MT),T.nt.Wf s->T.KindOk
 |.place b i e A,h=>by simp[MT.KindOk]
 |.node b v k l,h=>by
  simp only[MT.nt,NT.Wf]at h;simp only[MT.KindOk];exact⟨by omega,XJ l h.2⟩
theorem XJ{s:ByteArray}:∀(l:List MT),WfL s (ntL l)->De l
 | [],h=>by simp[De]
 |y::l,h=>by
  simp only[ntL,WfL]at h;simp only[De];exact⟨MT.gC y h.1,XJ l h.2⟩
end
theorem DO(l:List MT):(ntL l).length=l.length:=by rw[Lb,yA]
theorem I5{w:World}{s:ByteArray}{f:Nat->Int}{b k:Nat}{v:Value}{l:List MT}(h:(MT.node b v k l).At w s f):∃D B,v=.slice D l.length B/\w.cell? ⟨b,0,none⟩=some (.int .i64 k)/\w.cell? ⟨b,4,none⟩=some (.slice D l.length B)/\∀i,(M:i<l.length)->∃g,D=some ⟨g,0,none⟩/\w.cell? ⟨g,i,none⟩=some (.pointer (some ⟨l[i].aL,0,none⟩)):=by
 simp only[MT.At]at h;obtain⟨K,U,_⟩:=h;have G:w.ownsRow 0 80 1 v l.length (K5 (l.map MT.aL)):=by unfold TF at U;rwa [yA]at U
 obtain⟨_,D,B,rfl,J⟩:=L0 G;refine⟨D,B,rfl,K.cell 0,K.cell 4,fun i M=>?_⟩;rcases J with⟨_,e⟩|⟨g,_,rfl,_⟩
 ·omega
 ·exact⟨g,rfl,by rw[Y0 G i (by omega)];simp[K5,M]⟩
theorem DB{L:List Nat}{i q:Nat}(D:i<=L.length):I8 L (fun w=>w= []) i q↔q=i:=by
 constructor
 ·rintro⟨f,h,B⟩;exact(DF f h B).symm
 ·rintro rfl;exact⟨zD _,D,Vy _ _⟩
theorem M9{L:List Nat}{P Q:List Nat->Prop}(h:∀w,P w↔Q w){i q:Nat}:I8 L P i q↔I8 L Q i q:=by unfold I8;rw[h]
theorem EQ(c:AlC)(b:Nat)(v:Value)(l:List MT)(hT:(MT.node b v 1 l)∈B5 c.aD)(HE:∀y∈l,Hn c y)(hs:c.s.size<=20000)(hl:l.length<=100000):Uv c (.node b v 1 l):=by
 intro A w p hA hm hp;have ao:c.N<=20001:=by unfold AlC.N;omega
 have an:(c.s.size:Int)+1=(c.N:Int):=by unfold AlC.N;omega
 have ae:p<c.N:=AlC.dL.2 hp;have s0:w.cell? ⟨c.ab,0,none⟩=some (.string c.s):=hm.aO.cell 0;obtain⟨ad,ai,rfl,k0,_,_⟩:=I5 (AtL.sub c.aD _ hm.cL hT);have HM:=Hd hm;have a0:=Hd hA;have ah:=Hd HE;have a7:=Hd (Cm p c.N w ae (by omega));have HT:=Hd hT;clear hm hA HE hT;simp only[MT.aL];go_enter Tryz.func131,Tryz.ntmps131;go_wp2_with fail;refine a7.out.mono ?_;rintro e w1 ⟨rfl,U,V⟩;have ap:w.heap.size<w1.heap.size:=U.lt;have HS:=Hd3 (HM.out.aA V) (C0.aM (ex:=c.M) V) U;clear U V a7;go_wp2_with fail
 go_loopg[7,8] l.length (fun G nv kv wr=>∃(k:Nat) (bQ:List Bool) (ng ag:Nat),kv=.int .i64 k/\k<=l.length/\G=l.length-k/\nv=.slice (some ⟨ng,0,none⟩) c.N c.N/\¬A ng/\Y5 wr (.slice (some ⟨ng,0,none⟩) c.N c.N) bQ/\bQ=Ha (Q0 c.s) (V5 (ntL (l.take k))) p/\D4 c A wr/\C0 c.M w wr)
 case atStart=>
  obtain⟨a1,Y,a3⟩:=HS.out;refine⟨0,Uq p c.N,w.heap.size,c.N,rfl,by omega,rfl,rfl,fun e=>by have:=a0.out _ e;omega,?_,?_,a1,Y⟩
  ·have:=Y5.cC a3 (by rw[We];omega);rw[We]at this;exact this
  ·refine Ie (by rw[We,I1];rfl) fun q Z=>?_
   rw[I1]at Z;rw[Ak ae (AlC.dL.2 Z)];simp only[List.take_zero,ntL];rw[M9 (Q:=fun w=>w= []) (fun w=>by simp[V5]),DB (by rw[I1];exact hp)];simp
 case round=>
  obtain⟨k,bQ,ng,ag,rfl,hk,rfl,rfl,X,D,f,B,h⟩:=hrel;obtain⟨am,ak,aj,_,c4,ck⟩:=I5 (AtL.sub c.aD _ B.cL HT.out)
  injection aj with hv1 hv2 hv3
  subst hv1 hv3;have hz:=h.size
  by_cases W:k<l.length
  ·have e0:decide ((k:Int)<(l.length:Int))=true:=by simp;omega
   obtain⟨g,rfl,cg⟩:=ck k W;have i0:(0:Int)<=(k:Int):=by omega
   have i1:(k:Int)<(l.length:Int):=by omega
   have ac:bQ.length=c.N:=by rw[f,Zb]
   have HF:=Hd (Dx c l[k] (ah.out _ (zG W)) A wr ng c.N bQ (fun b hb=>by have:=a0.out b hb;omega) B D ac hs);have HK:=Hd2 h f;clear B D f X h ac ck;go_wp2_with fail;refine HF.out.mono ?_;rintro e w2 ⟨l2,a9,af,b2,rfl,K,J,aa,a8⟩;have HR:=Hd6 a9 af K J aa a8;clear a9 af K J aa a8 HF;go_wp2_with fail
   go_roundg (l.length- (k+1))
   case measure=>omega
   case rel=>
    obtain⟨a1,Y,a3,a4,a5,a6⟩:=HR.out;refine⟨k+1,l2,b2,c.N,by go_num,by omega,rfl,rfl,a3,a4,?_,a5,HK.out.1.trans a6 (fun i _ e=>e)⟩;refine Ie (by rw[a1,I1];rfl) fun q Z=>?_
    rw[I1]at Z;rw[Y q Z,show l.take (k+1)=l.take k++ [l[k]]from(yJ W).symm,Wb,
     M9 (Fk _ _),Ax]
    rw[HK.out.2];simp only[T8]
  ·obtain rfl:k=l.length:=by omega
   have e0:decide ((l.length:Int)<(l.length:Int))=false:=by simp
   have HH:=Hd5 X D f B h;clear X D f B h ck;go_wp2_with fail;go_ret;obtain⟨a1,Y,a3,a4,a5⟩:=HH.out;refine⟨ng,rfl,a1,?_,a4,a5⟩;rw[a3]at Y;have e:Ha (Q0 c.s) (V5 (ntL (l.take l.length))) p=Ha (Q0 c.s) (MT.node b (.slice ad l.length ai) 1 l).nt.aU p:=by
    refine Ie (by rw[Fr]) fun q Z=>?_
    rw[T8,zN (zD _)];exact M9 (fun w=>by simp only[MT.nt];rw[OE])
   rw[<-e];exact Y
theorem DQ(c:AlC)(b:Nat)(v:Value)(y:MT)(hT:(MT.node b v 3 [y])∈B5 c.aD)(HE:Hn c y)(hs:c.s.size<=20000):Uv c (.node b v 3 [y]):=by
 intro A w p hA Z hp;obtain⟨ad,K,rfl,k0,k4,kk⟩:=I5 (AtL.sub c.aD _ Z.cL hT);obtain⟨g,rfl,cg⟩:=kk 0 (by simp);simp only[yO,List.getElem_cons_zero]at k4 cg;have J:=Hd (QA c y HE A w p hA Z hp hs);have HM:=Hd Z;have a0:=Hd hA;have a7:=Hd HE;have HT:=Hd hT;clear Z hA HE hT kk;simp only[MT.aL,yO];go_enter Tryz.func131,Tryz.ntmps131;go_wp2_with fail;refine J.out.mono ?_;rintro e w1 ⟨b1,rfl,X,f,G,D⟩;obtain⟨ab,aa,a9,_,c4,ck⟩:=I5 (AtL.sub c.aD _ G.cL HT.out)
 injection a9 with hv1 hv2 hv3
 subst hv3;obtain⟨g',M,a8⟩:=ck 0 (by simp);simp only[yO,List.getElem_cons_zero]at c4 a8;rw[<-hv1]at c4 M;cases M;have ac:=D.size;have HF:=Hd (Dx c y a7.out A w1 b1 c.N _ (fun b hb=>by have:=a0.out b hb;omega) G f (Zb _ _ _) hs);have HK:=Hd D;clear X f G D J k0 k4 cg ck hv1 hv2;go_wp2_with fail;refine HF.out.mono ?_;rintro e w2 ⟨l2,V,Y,b2,rfl,B,h,W,U⟩;have HR:=Hd6 V Y B h W U;clear V Y B h W U HF;go_wp2_with fail;go_ret;obtain⟨a1,a2,a3,a4,a5,a6⟩:=HR.out;refine⟨b2,rfl,a3,?_,a5,HK.out.trans a6 (fun i _ e=>e)⟩;have e:l2=Ha (Q0 c.s) (MT.node b (.slice (some ⟨g,0,none⟩) [y].length K) 3 [y]).nt.aU p:=by
  refine Ie (by rw[a1,I1];rfl) fun q hq=>?_
  rw[I1]at hq;rw[a2 q hq,M9 (P:=(MT.node b (.slice (some ⟨g,0,none⟩) [y].length K) 3 [y]).nt.aU) (fun w=>by simp only[MT.nt,ntL];rw[DD]),Ax];simp only[T8]
 simp only[yO]at e;rw[<-e];exact a4
theorem C0.jE{c:AlC}{w wr B:World}{g:Nat}(f:C0 c.M w wr)(h:C0 (fun x=>x=g) wr B)(J:w.heap.size<=g):C0 c.M w B:=
 ⟨h.os.trans f.os,h.tape.trans f.tape,h.output.trans f.output,by have:=f.size;have:=h.size;omega,fun k G D=>(h.block k (by have:=f.size;omega) (by omega)).trans (f.block k G D)⟩
theorem YV{c:AlC}{A:Nat->Prop}{w wr:World}{p b k:Nat}{v:Value}{l:List MT}{D:List Bool}(K:k=2\/k=4)(hA:∀b,A b->b<w.heap.size)(Y:D4 c A w)(Z:p<=c.s.size)(hs:c.s.size<=20000)(J:D.length=c.N)(q2:∀q,q<=c.s.size->(D.getD q false=true↔I8 (Q0 c.s) (T5 (ntL l)) p q))
  (q3:D4 c (fun b=>A b\/b=w.heap.size) wr) (q4:C0 c.M w wr) (q5:Blk wr w.heap.size (Z0 D) 4) (G:Bool) (W:G=(D.getD p false || decide (k=4))):
  MD c A w (Ha (Q0 c.s) (MT.node b v k l).nt.aU p) (.returned (.slice (some ⟨w.heap.size,0,none⟩) c.N c.N)) (wr.setCell ⟨w.heap.size,p,none⟩ (.bool G)):=by
 have a0:c.N<=20001:=by unfold AlC.N;omega
 have V:p<c.N:=AlC.dL.2 Z;have hu:=Y.lB;have kS:=(C0.refl (fun b=>b=w.heap.size) wr).setCell (p:=⟨w.heap.size,p,none⟩) (fun _=>rfl) (.bool G);refine⟨w.heap.size,rfl,fun e=>by have:=hA _ e;omega,?_,(q3.dC kS (.inr rfl) (fun n U=>by have:=hu n U;omega) q5).jA (fun b e=>.inl e) (fun n U=>(Y.wrow n U).1),q4.jE kS (zD _)⟩;have h:=q5.set p (.bool G);rw[Z3]at h;have X:=Y5.cC h (by rw[xD,J];omega);rw[xD,J]at X;have e:D.set p G=Ha (Q0 c.s) (MT.node b v k l).nt.aU p:=by
  refine Ie (by rw[xD,J,I1];rfl) fun q hq=>?_
  rw[I1]at hq;rw[X6 _ _ _ _ (by rw[J];exact V),W];simp only[MT.nt];have B:=q2 q hq;rcases K with rfl|rfl
  ·rw[M9 (Gz _),<-B]
   by_cases f:q=p
   ·subst f;simp
   ·simp[f]
  ·rw[M9 (Hz _),WK (by rw[I1];exact Z),<-B]
   by_cases f:q=p
   ·subst f;simp
   ·simp[f]
 rw[<-e];exact X
theorem FB(c:AlC)(b k:Nat)(v:Value)(l:List MT)(ae:k=2\/k=4)(hT:(MT.node b v k l)∈B5 c.aD)(HE:∀y∈l,Hn c y)(hs:c.s.size<=20000)(hl:l.length<=100000):Uv c (.node b v k l):=by
 intro A w p hA Z hp;have an:c.N<=20001:=by unfold AlC.N;omega
 have am:(c.s.size:Int)+1=(c.N:Int):=by unfold AlC.N;omega
 have ao:=U7 c.N (by omega);have af:p<c.N:=AlC.dL.2 hp;have s0:w.cell? ⟨c.ab,0,none⟩=some (.string c.s):=Z.aO.cell 0;obtain⟨ad,ak,rfl,k0,_,_⟩:=I5 (AtL.sub c.aD _ Z.cL hT);have zb:b<w.heap.size:=MT.At.lt _ (AtL.sub c.aD _ Z.cL hT) b (by simp[MT.has]);have HM:=Hd Z;have a0:=Hd hA;have HU:=Hd Z.lB;have ac:=Hd HE;have HT:=Hd hT;clear Z hA HE hT;simp only[MT.aL];rcases ae with rfl|rfl
 all_goals
  go_enter Tryz.func131,Tryz.ntmps131;go_wp2_with fail
  go_loopg[11] l.length (fun G kv wr=>∃(k:Nat) (K:List Bool),kv=.int .i64 k/\k<=l.length/\G=l.length-k/\K.length=c.N/\(∀q,q<=c.s.size->(K.getD q false=true↔I8 (Q0 c.s) (T5 (ntL (l.take k))) p q))/\D4 c (fun b=>A b\/b=w.heap.size) wr/\C0 c.M w wr/\Blk wr w.heap.size (Z0 K) 4)
  case atStart=>
   refine⟨0,List.replicate c.N false,rfl,by omega,rfl,by simp,fun q hq=>?_,HM.out.fresh.aA (P0 _ _),(C0.refl _ _).alloc _,Blk.aQ _ _ _⟩;constructor
   ·intro h;simp[AlC.dL.2 hq]at h
   ·rintro⟨_,_,h⟩;simp[ntL,T5]at h
  case round=>
   obtain⟨k,K,rfl,hk,rfl,D,J,f,B,U⟩:=hrel;have zB:=U.lt;obtain⟨aj,ai,ag,ah,c4,ck⟩:=I5 (AtL.sub c.aD _ f.cL HT.out)
   injection ag with hv1 hv2 hv3
   subst hv1 hv3;have hz:=B.size
   by_cases X:k<l.length
   ·have e0:decide ((k:Int)<(l.length:Int))=true:=by simp;omega
    obtain⟨g,rfl,cg⟩:=ck k X;have i0:(0:Int)<=(k:Int):=by omega
    have i1:(k:Int)<(l.length:Int):=by omega
    have HF:=Hd (ac.out _ (zG X) (fun b=>A b\/b=w.heap.size) wr p (fun b hb=>by rcases hb with e|e;have:=a0.out b e;omega;omega) f hp);have HK:=Hd5 D J f B U;clear D J f B U ck ah;go_wp2_with fail;refine HF.out.mono ?_;rintro e w1 ⟨b1,rfl,a9,a6,a8,W⟩;obtain⟨Y,q2,q3,q4,q5⟩:=HK.out;have V:Blk w1 w.heap.size (Z0 K) 4:=q3.eD W q5 (by decide);have a4:=Hd (Vo w.heap.size c.N c.N K (Ha (Q0 c.s) l[k].nt.aU p) (.slice (some ⟨b1,0,none⟩) c.N c.N) w1 V a6 Y (Zb _ _ _) (fun e=>a9 (.inr (zE e))) (by omega));have HR:=Hd3 a8 (q4.trans W (fun i _ e=>e)) V;clear Y q2 q3 q4 q5 a9 a6 a8 W V HF;go_wp2_with fail;refine a4.out.mono ?_;rintro e w2 ⟨rfl,a5,a7⟩;have aa:=Hd2 a5 a7;clear a5 a7 a4;go_wp2_with fail
    go_roundg (l.length- (k+1))
    case measure=>omega
    case rel=>
     obtain⟨r1,r2⟩:=aa.out;obtain⟨a1,a2,a3⟩:=HR.out;obtain⟨Y,q2,q3,q4,q5⟩:=HK.out;refine⟨k+1,orL K (Ha (Q0 c.s) l[k].nt.aU p),by go_num,by omega,rfl,by rw[An];exact Y,fun q hq=>?_,a1.dC r2 (.inr rfl) (fun n hn=>by have:=HU.out n hn;omega) a3,a2.jE r2 (zD _),r1⟩;rw[Vl _ _ _ (by rw[Y];exact AlC.dL.2 hq) (by rw[Zb];exact AlC.dL.2 hq),yX,q2 q hq,T8,show l.take (k+1)=l.take k++ [l[k]]from(yJ X).symm,Wb,M9 (Vp _ _),IX]
   ·obtain rfl:k=l.length:=by omega
    have e0:decide ((l.length:Int)<(l.length:Int))=false:=by simp
    have cP:=N2 U p (by rw[D];exact af);have fP:=U.frozen p;have p0:(0:Int)<=(p:Int):=by omega
    have p1:(p:Int)<(c.N:Int):=by omega
    have HH:=Hd5 D J f B U;generalize hx:K.getD p false=x at cP;have HX:=Hd hx;clear D J f B U ck hx;cases x
    all_goals
     go_wp2_with fail;go_ret;obtain⟨Y,q2,q3,q4,q5⟩:=HH.out;rw[zN (zD _)]at q2;exact YV (by simp) a0.out HM.out hp hs Y q2 q3 q4 q5 _ (by rw[HX.out];rfl)
theorem Jo{s:ByteArray}{p:Nat}(h:p<s.size):(Q0 s)[p]'(by rw[I1];exact h)=s[p].toNat:=by
 simp only[Q0,List.getElem_map,Array.getElem_toList];rfl
theorem Hy{s:ByteArray}{i e p q:Nat}{A:Nat->Bool}(V:p<=s.size):I8 (Q0 s) (NT.place i e A).aU p q↔(q=p+1/\∃h:p<s.size,A s[p].toNat=true):=by
 constructor
 ·rintro⟨U,G,J⟩;rw[Fp]at J;obtain⟨x,B,D⟩:=J;rw[I1]at G;have K:=congrArg List.length B;rw[Rv (by rw[I1];exact G)]at K;simp at K;have M:q=p+1:=by omega
  subst M;have f:p<s.size:=by omega
  rw[SO (by rw[I1];exact f),Jo f]at B
  injection B with B
  exact⟨rfl,f,by rw[B];exact D⟩
 ·rintro⟨rfl,h,D⟩;refine⟨by omega,by rw[I1];omega,?_⟩;rw[Fp,SO (by rw[I1];exact h),Jo h];exact⟨_,rfl,D⟩
theorem XK(c:AlC)(b i e:Nat)(Z:Nat->Bool)(hT:(MT.place b i e Z)∈B5 c.aD)(a6:Cv (c.rs.extract i e) Z)(hs:c.s.size<=20000):Uv c (.place b i e Z):=by
 intro A w p hA hm hp;have au:c.N<=20001:=by unfold AlC.N;omega
 have ar:(c.s.size:Int)+1=(c.N:Int):=by unfold AlC.N;omega
 have am:=U7 c.N (by omega);have s0:w.cell? ⟨c.ab,0,none⟩=some (.string c.s):=hm.aO.cell 0;have K:=AtL.sub c.aD _ hm.cL hT;simp only[MT.At]at K;have k0:w.cell? ⟨b,0,none⟩=some (.int .i64 0):=K.cell 0;have k3:w.cell? ⟨b,3,none⟩=some (.string (c.rs.extract i e)):=K.cell 3;have zb:=K.lt;have ao:=hm.aO.lt;have HM:=Hd hm;have aq:=Hd hA;have HU:=Hd hm.lB;have ad:=hm.fresh;have a8:∀(B:World) (lo:List Bool),Bw w B->D4 c (fun b=>A b\/b=w.heap.size) B->lo.length=c.N->(∀q,q<=c.s.size->(lo.getD q false=true↔I8 (Q0 c.s) (NT.place i e Z).aU p q))->Blk B w.heap.size (Z0 lo) 4->MD c A w (Ha (Q0 c.s) (MT.place b i e Z).nt.aU p) (.returned (.slice (some ⟨w.heap.size,0,none⟩) c.N c.N)) B:=by
  intro B lo a1 a2 a3 a4 a5;refine⟨w.heap.size,rfl,fun e=>by have:=hA _ e;omega,?_,a2.jA (fun b e=>.inl e) (fun n hn=>(hm.wrow n hn).1),C0.aM a1⟩;have h6:=Y5.cC a5 (by rw[a3];omega);rw[a3]at h6;have e9:lo=Ha (Q0 c.s) (MT.place b i e Z).nt.aU p:=Ie (by rw[a3,I1];rfl) (fun q hq=>by simp only[MT.nt];exact a4 q (by rw[I1]at hq;exact hq));rw[<-e9];exact h6
 have a0:=Hd a8;have W:=ad.aA (P0 w (.cells (Z0 (List.replicate c.N false)) 4));clear hm hA hT a8 K ad;simp only[MT.aL]
 by_cases ak:p<c.s.size
 ·have e0:decide ((p:Int)<(c.s.size:Int))=true:=by simp;omega
  have V:=Hd W;have G:=Hd (Blk.aQ w (Z0 (List.replicate c.N false)) 4);obtain⟨B,Y⟩:∃B:World,w.alloc (.cells (Z0 (List.replicate c.N false)) 4)=B:=⟨_,rfl⟩;have J:Bw w B:=by rw[<-Y];exact P0 _ _
  rw[Y]at V G;have t0:B.cell? ⟨c.ab,0,none⟩=some (.string c.s):=(J.cell (p:=⟨c.ab,0,none⟩) ao).trans s0;have t3:B.cell? ⟨b,3,none⟩=some (.string (c.rs.extract i e)):=(J.cell (p:=⟨b,3,none⟩) zb).trans k3;have ax:B.cell? ⟨b,0,none⟩=some (.int .i64 0):=(J.cell (p:=⟨b,0,none⟩) zb).trans k0;have aj:=Hd J;have z1:w.heap.size<B.heap.size:=G.out.lt;have S0:B.drew.cell? ⟨c.ab,0,none⟩=some (.string c.s)/\B.drew.cell? ⟨b,3,none⟩=some (.string (c.rs.extract i e)):=⟨t0,t3⟩;obtain⟨U,M⟩:∃U,c.s[p].toNat=U:=⟨_,rfl⟩;have aa:U<256:=by rw[<-M];exact c.s[p].toNat_lt
  have ac:(c.s[p].toNat:Int)=(U:Int):=by rw[M]
  have an:wrap64 ((c.s[p].toNat:Nat):Int)=(U:Int):=by rw[M];unfold wrap64;omega
  have ap:IntKind.i64.wrap (U:Int)=(U:Int):=by rw[Go.IntWalk.i64_left];unfold wrap64;omega
  have av:IntKind.i64.wrap ((p:Int)+1)=(p:Int)+1:=by rw[Go.IntWalk.i64_left];unfold wrap64;omega
  have a7:=Hd M;have HC:=Hd (a6 U B.drew aa);have p0:(0:Int)<=(p:Int):=by omega
  have p1:(p:Int)<(c.s.size:Int):=by omega
  have p2:(0:Int)<=(p:Int)+1:=by omega
  have p3:(p:Int)+1<(c.N:Int):=by omega
  have ag:p+1<c.N:=by unfold AlC.N;omega
  obtain⟨tx,ah⟩:∃tx,c.rs.extract i e=tx:=⟨_,rfl⟩;rw[ah]at t3 S0 HC k3;clear W J a6 ah M;go_enter Tryz.func131,Tryz.ntmps131;go_upto_region 15 with fail
  try rw[Y]
  clear Y s0 k0 k3 am;have af:w.heap.size≠c.ab:=by omega
  have ae:w.heap.size≠b:=by omega
  have cO:=N2 G.out (p+1) (by simp;exact ag);have fO:=G.out.frozen (p+1);rw[ac]at an
  go_region_held3 (fun w'=>w'.cell? ⟨c.ab,0,none⟩=some (.string c.s)/\w'.cell? ⟨b,3,none⟩=some (.string tx))
   (first|with_reducible exact S0|with_reducible exact S1|exact⟨by simp[g0,af,World.cell?_setCell_far],by simp[g3,ae,World.cell?_setCell_far]⟩)
   (first|(go_at_call 97;refine HC.out.mono ?_;rintro e w2 ⟨rfl,D⟩;have f:=(B6 B).trans (D.mono (zD _));have g0:=(f.cell (p:=⟨c.ab,0,none⟩) (by show c.ab<B.heap.size;omega)).trans t0;have g3:=(f.cell (p:=⟨b,3,none⟩) (by show b<B.heap.size;omega)).trans t3;have S1:=And.intro g0 g3;have g5:=(f.cell (p:=⟨w.heap.size,p+1,none⟩) z1).trans cO;have g6:=(f.frozen (p:=⟨w.heap.size,p+1,none⟩) z1).trans fO;have ai:=Hd f;clear D f))
  go_wp2_with fail;go_ret;have D:=ai.out;have aw:=D.size;have kS:=(C0.refl (fun b=>b=w.heap.size) w2).setCell (p:=⟨w.heap.size,p+1,none⟩) (fun _=>rfl) (.bool (Z U));have a9:=G.out.aA D;refine a0.out _ ((List.replicate c.N false).set (p+1) (Z U)) (Y2 (aj.out.trans (D.mono (by omega))) kS (by omega) (fun x hx e=>by omega)) ((V.out.aA D).dC kS (.inr rfl) (fun n hn=>by have:=HU.out n hn;omega) a9) (by simp) (fun q hq=>?_) (by rw[<-Z3];exact a9.set (p+1) _);rw[Hy hp,X6 _ _ _ _ (by simp;exact ag)]
  by_cases X:q=p+1
  ·rw[if_pos X];exact⟨fun h=>⟨X,ak,by rw[a7.out];exact h⟩,fun⟨_,_,h⟩=>by rw[a7.out]at h;exact h⟩
  ·rw[if_neg X];exact⟨fun h=>by simp[AlC.dL.2 hq]at h,fun⟨h,_⟩=>absurd h X⟩
 ·have e0:decide ((p:Int)<(c.s.size:Int))=false:=by simp;omega
  have V:=Hd W;clear W;go_enter Tryz.func131,Tryz.ntmps131;go_wp2_with fail;go_ret;refine a0.out _ (List.replicate c.N false) (P0 _ _) V.out (by simp) (fun q hq=>?_) (Blk.aQ _ _ _);rw[Hy hp];constructor
  ·intro h;simp[AlC.dL.2 hq]at h
  ·rintro⟨_,h,_⟩;omega
mutual
theorem Bk:∀(L:List MT) (T:MT),T∈B5 L->T.nt.aH<=J1 (ntL L)
 | [],T,h=>by simp[B5]at h
 |x::L,T,h=>by
  simp only[B5,zO]at h;simp only[ntL,J1];rcases h with h|h
  ·have:=MT.gL x T h;omega
  ·have:=Bk L T h;omega
theorem MT.gL:∀(U T:MT),T∈U.subs->T.nt.aH<=U.nt.aH
 |.place b i e A,T,h=>by
  simp only[MT.subs,zJ]at h;rw[h];exact zD _
 |.node b v k l,T,h=>by
  simp only[MT.subs,zU]at h;rcases h with h|h
  ·rw[h];exact zD _
  ·have:=Bk l T h;simp only[MT.nt,NT.aH];omega
end
theorem D8.fG{s:ByteArray}{i e:Nat}{A:Nat->Bool}(B:s.size<=120)(h:D8 s i e A):Cv (s.extract i e) A:=by
 have f:=h.lt;exact PD (by rw[Sj f.2];omega) h.sub
mutual
theorem SG(c:AlC)(G:c.s.size<=20000)(D:WfL c.rs (ntL c.aD))(K:c.rs.size<=120)(J:c.aH<=100000):∀T:MT,T∈B5 c.aD->Hn c T
 |.place b i e A,h=>by
  have M:=Bn c.aD _ D h;simp only[MT.nt,NT.Wf]at M;exact Jl c _ h (XK c b i e A h (M.fG K) G)
 |.node b v k l,h=>by
  have M:=Bn c.aD _ D h;have V:=Bk c.aD _ h;have X:=Xb l;have f:=Ls c G D K J l (fun y W=>Lj c.aD _ h b v k l rfl y W);simp only[MT.nt,NT.Wf,NT.aH]at M V;have B:l.length<=100000:=by unfold AlC.aH at J;omega
  rcases M.1 with e|e|⟨e,U⟩|e
  ·subst e;exact Jl c _ h (EQ c b v l h f G B)
  ·exact Jl c _ h (FB c b k v l (.inl e) h f G B)
  ·subst e;rw[DO]at U;obtain⟨y,rfl⟩:=List.length_eq_one_iff.1 U;exact Jl c _ h (DQ c b v y h (f y (by simp)) G)
  ·exact Jl c _ h (FB c b k v l (.inr e) h f G B)
theorem Ls(c:AlC)(G:c.s.size<=20000)(D:WfL c.rs (ntL c.aD))(B:c.rs.size<=120)(f:c.aH<=100000):∀(l:List MT),(∀y∈l,y∈B5 c.aD)->∀y∈l,Hn c y
 | [],_,y,h=>by simp at h
 |x::l,hl,y,h=>by
  rw[zU]at h;rcases h with rfl|h
  ·exact SG c G D B f y (hl y (by simp))
  ·exact Ls c G D B f l (fun z J=>hl z (by simp[J])) y h
end
def PL(c:AlC)(T:MT)(j a:Nat):Prop:=j<c.s.size/\T.nt.aX ((Q0 c.s).drop j) a
theorem Jk{L u v:List Nat}{i:Nat}(G:i<=L.length):L.drop i=u++v↔∃m,i<=m/\m<=L.length/\dY L i m=u/\L.drop m=v:=by
 constructor
 ·intro h;have f:=congrArg List.length h;simp only[List.length_drop,zL]at f;refine⟨i+u.length,by omega,by omega,?_,?_⟩
  ·unfold dY;rw[h,show i+u.length-i=u.length by omega];simp
  ·rw[<-List.drop_drop,h];simp
 ·rintro⟨m,B,D,rfl,rfl⟩;unfold dY;have e:L.drop m=(L.drop i).drop (m-i):=by rw[List.drop_drop];congr 1;omega
  rw[e,yT]
mutual
theorem NT.dU:∀(x:NT) (a:Nat),¬x.aX [] a
 |.place i e A,a,h=>by rw[No]at h;obtain⟨x,f,_⟩:=h;cases f
 |.node k l,a,h=>by
  rw[NT.aX]at h;rcases h with⟨_,h⟩|⟨_,h⟩|⟨_,u,v,f,_,B⟩
  ·exact Ry l a h
  ·exact Eo l a h
  ·have D:v= []:=by cases u <;>simp at f;exact f
   rw[D]at B;exact Eo l a B
theorem Ry:∀(l:List NT) (a:Nat),¬Q6 l [] a
 | [],a,h=>by simp[Q6]at h
 |y::l,a,h=>by
  simp only[Q6]at h;rcases h with h|⟨u,v,f,_,B⟩
  ·exact NT.dU y a h
  ·have D:v= []:=by cases u <;>simp at f;exact f
   rw[D]at B;exact Ry l a B
theorem Eo:∀(l:List NT) (a:Nat),¬H6 l [] a
 | [],a,h=>by simp[H6]at h
 |y::l,a,h=>by
  simp only[H6]at h;rcases h with h|h
  ·exact NT.dU y a h
  ·exact Eo l a h
end
theorem PL.lt{c:AlC}{T:MT}{j a:Nat}(h:T.nt.aX ((Q0 c.s).drop j) a):j<c.s.size:=by
 refine Nat.lt_of_not_le fun f=>?_
 rw[List.drop_eq_nil_of_le (by rw[I1];exact f)]at h;exact NT.dU _ _ h
structure LSt(c:AlC)(A:Nat->Prop)(og:Nat)(w:World)(lo:List Bool)(wl:Nat->List Bool):Prop where
 bI:D4 c A w
 kJ:A og
 kC:∀b,A b->b<w.heap.size
 len:lo.length=120
 aO:Blk w og (Z0 lo) 4
 was:∀n,n<c.aH->(wl n).length=c.N/\Blk w (c.U n) (Z0 (wl n)) 4
 kF:∀n,n<c.aH->c.U n≠og
theorem LSt.iB{c:AlC}{A:Nat->Prop}{D:Nat}{w w':World}{B:List Bool}{G:Nat->List Bool}(h:LSt c A D w B G)(k:C0 c.M w w')(K:D4 c A w'):LSt c A D w' B G:=
 ⟨K,h.kJ,fun b J=>yG (h.kC b J) k.size,h.len,h.bI.eD k h.aO (by decide),fun n f=>⟨(h.was n f).1,h.bI.eD k (h.was n f).2 (by decide)⟩,h.kF⟩
theorem LSt.aA{c:AlC}{A:Nat->Prop}{B:Nat}{w w':World}{f:List Bool}{D:Nat->List Bool}(h:LSt c A B w f D)(k:Bw w w'):LSt c A B w' f D:=h.iB (C0.aM k) (h.bI.aA k)
def Oh(f:Nat->List Bool)(n:Nat)(l:List Bool):Nat->List Bool:=fun m=>if m=n then l else f m
theorem LSt.mark{c:AlC}{A:Nat->Prop}{J:Nat}{w:World}{G:List Bool}{D:Nat->List Bool}(h:LSt c A J w G D){n i:Nat}(B:n<c.aH):LSt c A J (w.setCell ⟨c.U n,i,none⟩ (.bool true)) G (Oh D n ((D n).set i true)):=by
 have k:C0 (fun b=>b=c.U n) w (w.setCell ⟨c.U n,i,none⟩ (.bool true)):=(C0.refl (fun b=>b=c.U n) _).setCell (p:=⟨c.U n,i,none⟩) (fun _=>rfl) _;refine⟨h.bI.lO B,h.kJ,fun b M=>yG (h.kC b M) k.size,h.len,h.aO.kept k (fun e=>h.kF n B e.symm),fun m f=>?_,h.kF⟩;unfold Oh
 by_cases e:m=n
 ·subst e;rw[if_pos rfl];exact⟨by simp[(h.was m f).1],by rw[<-Z3];exact(h.was m f).2.set i _⟩
 ·rw[if_neg e];exact⟨(h.was m f).1,(h.was m f).2.kept k (fun K=>e (h.bI.eW m n f B K))⟩
theorem LSt.out{c:AlC}{A:Nat->Prop}{f:Nat}{w:World}{D:List Bool}{G:Nat->List Bool}(h:LSt c A f w D G)(a:Nat):LSt c A f (w.setCell ⟨f,a,none⟩ (.bool true)) (D.set a true) G:=by
 have k:C0 (fun b=>b=f) w (w.setCell ⟨f,a,none⟩ (.bool true)):=(C0.refl (fun b=>b=f) _).setCell (p:=⟨f,a,none⟩) (fun _=>rfl) _;exact⟨h.bI.dC k h.kJ h.kF h.aO,h.kJ,fun b J=>yG (h.kC b J) k.size,by simp[h.len],by rw[<-Z3];exact h.aO.set a _,fun m B=>⟨(h.was m B).1,(h.was m B).2.kept k (h.kF m B)⟩,h.kF⟩
def Wc(c:AlC)(B:Nat->List Bool)(h:List Bool)(n m:Nat):Prop:=∀T∈B5 c.aD,∀id:Nat,c.f T.aL=(id:Int)->n<=id->id<m->∀j,(B id).getD j false=true->∀a,PL c T j a->h.getD a false=true
def Wv(c:AlC)(A:Nat->Prop)(D:Nat)(w:World)(B:List Bool)(G:Nat->List Bool)(n m:Nat)(Q:Nat->Prop)(e:Ending)(w':World):Prop:=
 e=.returned (.tuple #[])/\∃f h,LSt c A D w' f h/\(∀a,f.getD a false=true↔(B.getD a false=true\/Q a))/\(∀id,¬(n<=id/\id<m)->h id=G id)/\Wc c h f n m/\C0 (fun b=>c.M b\/A b) w w'
theorem Wc.grow{c:AlC}{Z B:Nat->List Bool}{W f:List Bool}{Y X n m:Nat}(h0:Wc c Z W Y X)(h:Wc c B f n m)(J:∀a,W.getD a false=true->f.getD a false=true)(M:∀id,¬(n<=id/\id<m)->B id=Z id):Wc c B f Y X:=by
 intro T U id D h1 h2 j G a V
 by_cases K:n<=id/\id<m
 ·exact h T U id D K.1 K.2 j G a V
 ·rw[M id K]at G;exact J a (h0 T U id D h1 h2 j G a V)
def Xv(c:AlC)(T:MT):Prop:=∀(A:Nat->Prop) (B:Nat) (w:World) (h:List Bool) (D:Nat->List Bool) (n i:Nat),T.Numd c.f n->LSt c A B w h D->Wc c D h n (n+T.nt.aH)->i<=c.s.size->
 Calls Tryz.prog 95 #[.pointer (some ⟨c.ab,0,none⟩),.pointer (some ⟨T.aL,0,none⟩),.int .i64 i,.slice (some ⟨B,0,none⟩) 120 120] w (Wv c A B w h D n (n+T.nt.aH) (fun a=>PL c T i a))
theorem OB(c:AlC)(T:MT)(HL:Xv c T)(A:Nat->Prop)(og:Nat)(w:World)(lo:List Bool)(wl:Nat->List Bool)(n:Nat)(hN:T.Numd c.f n)(D:LSt c A og w lo wl)(J:Wc c wl lo n (n+T.nt.aH))(ng V:Nat)(bQ:List Bool)(Z:Y5 w (.slice (some ⟨ng,0,none⟩) c.N V) bQ)(hl:bQ.length=c.N)(a8:¬A ng)(hs:c.s.size<=20000):
  Calls Tryz.prog 127 #[.pointer (some ⟨c.ab,0,none⟩),.pointer (some ⟨T.aL,0,none⟩),.slice (some ⟨ng,0,none⟩) c.N V,.slice (some ⟨og,0,none⟩) 120 120] w (Wv c A og w lo wl n (n+T.nt.aH) (fun a=>∃j,bQ.getD j false=true/\PL c T j a)):=by
 have ae:c.N<=20001:=by unfold AlC.N;omega
 have aa:=Hd HL;have HI:=Hd6 hN D J Z hl a8;clear HL hN D J Z hl a8;go_enter Tryz.func127,Tryz.ntmps127;go_wp2_with fail
 go_loopg[8] c.N (fun G jv wr=>∃(j:Nat) (K:List Bool) (U:Nat->List Bool),jv=.int .i64 j/\j<=c.N/\G=c.N-j/\LSt c A og wr K U/\(∀a,K.getD a false=true↔(lo.getD a false=true\/∃i,i<j/\bQ.getD i false=true/\PL c T i a))/\(∀id,¬(n<=id/\id<n+T.nt.aH)->U id=wl id)/\Wc c U K n (n+T.nt.aH)/\C0 (fun b=>c.M b\/A b) w wr)
 case atStart=>
  obtain⟨a1,a2,a3,a4,a5,a6⟩:=HI.out;exact⟨0,lo,wl,rfl,by omega,rfl,a2,fun a=>⟨fun h=>.inl h,fun h=>by rcases h with h|⟨i,hi,_⟩;exact h;omega⟩,fun _ _=>rfl,a3,C0.refl _ _⟩
 case round=>
  obtain⟨j,K,U,rfl,hj,rfl,D,X,Y,J,hk⟩:=hrel
  by_cases a7:j<c.N
  ·have e0:decide ((j:Int)<(c.N:Int))=true:=by simp;omega
   obtain⟨a1,a2,a3,a4,a5,a6⟩:=HI.out;have a9:Y5 wr (.slice (some ⟨ng,0,none⟩) c.N V) bQ:=a4.kept hk (fun b hb e=>by
    cases(zE hb:ng=b);rcases e with e|e
    ·obtain⟨cs,W⟩:=a2.bI.type e;exact K0 a4 W (by decide) rfl
    ·exact a6 e)
   have cN:=a9.cellD j (by rw[a5];exact a7);have j0:(0:Int)<=(j:Int):=by omega
   have j1:(j:Int)<(c.N:Int):=by omega
   have HC:=Hd (aa.out A og wr K U n j a1 D J (AlC.dL.1 a7));have HH:=Hd5 D X Y J hk;clear D X Y J hk a1 a2 a3 a4 a5 a6 a9;generalize hx:bQ.getD j false=x at cN;have HX:=Hd hx;clear hx;cases x with
   |false=>
    go_wp2_with fail
    go_roundg (c.N- (j+1))
    case measure=>omega
    case rel=>
     obtain⟨b1,b2,b3,b4,b5⟩:=HH.out;refine⟨j+1,K,U,by go_num,by omega,rfl,b1,fun a=>?_,b3,b4,b5⟩;rw[b2 a];refine⟨fun h=>?_,fun h=>?_⟩
     ·rcases h with h|⟨i,W,B⟩
      ·exact .inl h
      ·exact .inr ⟨i,by omega,B⟩
     ·rcases h with h|⟨i,W,B⟩
      ·exact .inl h
      ·refine .inr ⟨i,?_,B⟩;rcases yE i j with e|e
       ·exact e
       ·rw[show i=j by omega,HX.out]at B;exact absurd B.1 (by simp)
   |true=>
    go_wp2_with fail;refine HC.out.mono ?_;rintro e w1 ⟨rfl,ac,ad,W,B,h3,h4,h5⟩;have HR:=Hd5 W B h3 h4 h5;clear W B h3 h4 h5 HC;go_wp2_with fail
    go_roundg (c.N- (j+1))
    case measure=>omega
    case rel=>
     obtain⟨b1,b2,b3,b4,b5⟩:=HH.out;obtain⟨W,B,h3,h4,h5⟩:=HR.out;refine⟨j+1,ac,ad,by go_num,by omega,rfl,W,fun a=>?_,fun id a0=>(h3 id a0).trans (b3 id a0),h4,b5.trans h5 (fun i _ e=>e)⟩;rw[B a,b2 a];refine⟨fun h=>?_,fun h=>?_⟩
     ·rcases h with(h|⟨i,W,B⟩)|h
      ·exact .inl h
      ·exact .inr ⟨i,by omega,B⟩
      ·exact .inr ⟨j,by omega,HX.out,h⟩
     ·rcases h with h|⟨i,W,B⟩
      ·exact .inl (.inl h)
      ·rcases yE i j with e|e
       ·exact .inl (.inr ⟨i,e,B⟩)
       ·right;rw[show i=j by omega]at B;exact B.2
  ·obtain rfl:j=c.N:=by omega
   have e0:decide ((c.N:Int)<(c.N:Int))=false:=by simp
   have HH:=Hd5 D X Y J hk;clear D X Y J hk;go_wp2_with fail
   go_end0
   obtain⟨b1,b2,b3,b4,b5⟩:=HH.out;refine⟨rfl,K,U,b1,fun a=>?_,b3,b4,b5⟩;rw[b2 a];refine⟨fun h=>?_,fun h=>?_⟩
   ·rcases h with h|⟨i,_,B⟩
    ·exact .inl h
    ·exact .inr ⟨i,B⟩
   ·rcases h with h|⟨i,B,h3⟩
    ·exact .inl h
    ·exact .inr ⟨i,by have:=h3.1;unfold AlC.N;omega,B,h3⟩
end Go.Proofs.YtcckhngbdoiikaaGreat
