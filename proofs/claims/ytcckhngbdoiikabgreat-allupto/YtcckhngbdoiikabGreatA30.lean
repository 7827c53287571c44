import Derived.Test.YtcckhngbdoiikabGreatA29
import Derived.Test.YtcckhngbdoiikabGreatA21
set_option maxRecDepth 20000
set_option maxHeartbeats 12800000
set_option linter.unusedVariables false
namespace Go.Proofs.YtcckhngbdoiikabGreat
section
variable{g:B0}{K:Nat}{F:List Nat}
theorem VD(g:B0)(s:Int)(f:List Nat)(k:Nat):A3 g s (f++ [k])=W0 g (A3 g s f) k:=by simp[A3]
theorem PK(B:GOk g K){a k:Nat}(f:a<g.aB.length)(h:k<K):W0 (G0 g) (a:Int) k=W0 g (a:Int) k\/W0 (G0 g) (a:Int) k= -1:=by
 rw[Jh B f h];split
 ·exact .inl rfl
 ·exact .inr rfl
theorem Fv(G:Ga g K){a k t:Nat}(J:a<g.aB.length)(M:k<K)(h:W0 g (a:Int) k=(t:Int))(Y:R6 g K (t:Int)):W0 (G0 g) (a:Int) k=(t:Int):=by
 rcases PK G.ok J M with e|e
 ·rw[e];exact h
 ·exfalso
  obtain⟨f,U,V⟩:=Y;have D:=R9 G.ok (k::f) a (fun x B=>by
   rw[zU]at B;rcases B with rfl|B
   ·exact M
   ·exact U x B) J
  have W:A3 (G0 g) (a:Int) (k::f)=A3 (G0 g) (W0 (G0 g) (a:Int) k) f:=rfl;have X:A3 g (a:Int) (k::f)=A3 g (W0 g (a:Int) k) f:=rfl;rw[W,X,e,h,S9 (G0 g) f (-1) (by omega)]at D;apply V;rw[<-D];split <;>rfl
theorem Ea.run(Y:Ea g K F)(D:Ga g K):∀(n:Nat) (J:List Nat) (a:Nat),J.length=n->(∀k∈J,k<K)->A3 g 0 J=(a:Int)->Zv g K a->∃s,∃M:s<F.length,A3 (E1 (G0 g) (U1 (G0 g))) 0 J=(s:Int)/\R5 (G0 g) K (F[s]:Int) (a:Int)
 |0,J,a,hn,Z,hr,hg=>by
  obtain rfl:J= []:=yN hn;have e:a=0:=by have e':(0:Int)=(a:Int):=hr;omega
  subst e;have hm:0∈F:=(Y.mem 0).2 ⟨hg,fun b hb=>by omega⟩;obtain⟨s,M,V⟩:=List.getElem_of_mem hm;have a4:s=0:=by
   refine Decidable.byContradiction fun a8=>?_
   have h1:0<F.length:=by omega
   have:=(E9 Y.bJ h1 M).2 (by omega);omega
  subst a4;exact⟨0,M,rfl,by rw[V];exact fun J Z=>rfl⟩
 |n+1,J,t,hn,Z,hr,hg=>by
  obtain⟨h,k,rfl⟩:∃h k,J=h++ [k]:=⟨J.dropLast,J.getLast (fun e=>by rw[e]at hn;simp at hn),(List.dropLast_concat_getLast _).symm⟩;have f:k<K:=Z k (by simp);have a0:∀x∈h,x<K:=fun x hx=>Z x (by simp[hx])
  rw[VD]at hr;rw[VD];have a1:A3 g 0 h= -1\/∃a:Nat,a<g.aB.length/\A3 g 0 h=(a:Int):=by
   clear hr hn Z;have a7:∀(l:List Nat) (s:Nat),(∀x∈l,x<K)->s<g.aB.length->A3 g (s:Int) l= -1\/∃a:Nat,a<g.aB.length/\A3 g (s:Int) l=(a:Int):=by
    intro l
    induction l with
    |nil=>intro s _ M;exact .inr ⟨s,M,rfl⟩
    |cons x l ih=>
     intro s hx M;have e:A3 g (s:Int) (x::l)=A3 g (W0 g (s:Int) x) l:=rfl;rw[e];rcases J8 D.ok (s:=(s:Int)) (by omega) (by omega) (hx x (by simp))with U|⟨U,V⟩
     ·left
      rw[U,S9 g l (-1) (by omega)];split <;>rfl
     ·obtain⟨j,hj⟩:∃j:Nat,W0 g (s:Int) x=(j:Int):=⟨(W0 g (s:Int) x).toNat,by omega⟩;rw[hj];exact ih j (fun y hy=>hx y (by simp[hy])) (by omega)
   exact a7 h 0 a0 D.bE
  rcases a1 with e|⟨a,ha,e⟩
  ·exfalso
   rw[e]at hr;unfold W0 at hr;rw[if_pos (by omega)]at hr;omega
  ·rw[e]at hr;have a5:t≠0:=by
    intro X;have:=D.up a k ha f;rw[hr,X]at this;exact this rfl
   have W:R6 g K (t:Int):=by
    rcases hg.2 with X|X
    ·exact absurd X a5
    ·exact X
   have a2:R6 g K (a:Int):=Ty f hr W;obtain⟨s,M,h1,h2⟩:=Ea.run Y D n h a (by simpa using hn) a0 e ⟨ha,.inr a2⟩;rw[h1];have G:=h2.step f;rw[Fv D ha f hr W]at G;have hm:=((Y.mem F[s]).1 (zG M)).1.1;rcases Y.next D M f with⟨h3,h4⟩|⟨t',s',a3,h3,h4,h5,h6,h7⟩
   ·exfalso
    have hd:W0 (G0 g) (F[s]:Int) k= -1:=by
     rcases PK D.ok hm f with U|U
     ·rcases h4 with V|⟨u,V,e3⟩
      ·rw[U];exact V
      ·exfalso
       rw[V]at U;have hu:=Rm D.ok hm f U;obtain⟨B,p1,p2⟩:=hu;have a6:u<g.aB.length:=by
        have:=J8 D.ok (s:=(F[s]:Int)) (by omega) (by omega) f;rw[V]at this;omega
       rw[R9 D.ok B u p1 a6]at p2;exact e3 ⟨B,p1,p2⟩
     ·exact U
    rw[hd]at G;obtain⟨B,p1,p2⟩:=W;have:=G B p1;rw[R9 D.ok B t p1 hg.1,S9 (G0 g) B (-1) (by omega)]at this;apply p2;rw[<-this];split <;>rfl
   ·refine⟨s',a3,h6,?_⟩;rw[Fv D hm f h3 h4]at G;exact h7.trans G
end
section
variable{rs:ByteArray}{R:E0}{ts:List PT}{T:List ByteArray}{S:List (Nat×List Bool)}{To:List (Nat×List Int)}{PS:List I0}{g:B0}
theorem FP.run(h:FP ts R PS.length T S To PS g){i:Nat}(hi:i<T.length):A3 g 0 ((Q0 T[i]).map (D3 R.aJ))=(i:Int):=by
 have a0:=h.aI.tl;have B:(T.map Q0).getD i []=Q0 T[i]:=by rw[zC,List.getElem?_map,zF hi];rfl
 by_cases h0:0<i
 ·obtain⟨W,U,t3⟩:=h.bT.bO.set i h0 (by omega);have D:=h.bT.bO.bytes i;rw[B]at W U D;rcases QI h.bT.ex (fun b hb=>Af R.aJ b 256 hb) (Q0 T[i]) W D with⟨_,e⟩|⟨m,X,e2,M,J⟩
  ·rw[U,t3]at e;cases e
  ·rw[X];rw[U]at J;have hm:m=i:=by
    have f:i<PS.length:=by omega
    have Y:PS.getD m I0.none=PS[m]:=by rw[zC,zF M];rfl
    have Z:PS.getD i I0.none=PS[i]:=by rw[zC,zF f];rfl
    rw[Y,Z]at J;have G:=List.pairwise_iff_getElem.1 h.bT.bR;rcases Nat.lt_trichotomy m i with e|e|e
    ·exact absurd J (G m i M f e)
    ·exact e
    ·exact absurd J.symm (G i m f M e)
   rw[hm]
 ·obtain rfl:i=0:=by omega
  have V:=h.bT.bO.zero.2;rw[B]at V;rw[V];rfl
theorem FP.text{F:List Nat}{K:Nat}(B:Ea g K F)(Z:Ga g K)(Y:K=(V0 R.aJ 256).length)(h:FP ts R PS.length T S To PS g){s:Nat}(G:s<F.length)(V:F[s]<T.length):A3 (E1 (G0 g) (U1 (G0 g))) 0 ((Q0 T[F[s]]).map (D3 R.aJ))=(s:Int):=by
 have D:=h.bT.bO.bytes F[s];have J:(T.map Q0).getD F[s] []=Q0 T[F[s]]:=by rw[zC,List.getElem?_map,zF V];rfl
 rw[J]at D;have M:=((B.mem F[s]).1 (zG G)).1;obtain⟨W,f,X,U⟩:=B.run Z _ ((Q0 T[F[s]]).map (D3 R.aJ)) F[s] rfl (fun k hk=>by
  obtain⟨b,hb,rfl⟩:=List.mem_map.1 hk;rw[Y];exact(Af R.aJ b 256 (D b hb)).1) (h.run V) M
 rw[X];have a1:=B.dR (zG f) U.symm;have a2:=B.dR (zG G) U;have:W=s:=by
  rcases Nat.lt_trichotomy W s with e|e|e
  ·have:=(E9 B.bJ f G).2 e;omega
  ·exact e
  ·have:=(E9 B.bJ G f).2 e;omega
 rw[this]
end
structure Dq(kd:Nat->Nat)(g:B0)(TX:List ByteArray):Prop where
 run:∀s,(h:s<TX.length)->A3 g 0 ((Q0 TX[s]).map kd)=(s:Int)
 dI:∀s,(h:s<TX.length)->TX[s].size<=61
 zero:(h:0<TX.length)->TX[0].size=0
section
variable{rs:ByteArray}{R:E0}{ts:List PT}{T:List ByteArray}{S:List (Nat×List Bool)}{To:List (Nat×List Int)}{PS:List I0}{g:B0}
theorem FP.bO{F:List Nat}{K:Nat}(U:Ea g K F)(Y:Ga g K)(hK:K=(V0 R.aJ 256).length)(h:FP ts R PS.length T S To PS g)(hg:g.aB.length=T.length):Dq (D3 R.aJ) (E1 (G0 g) (U1 (G0 g))) (Dn T F F.length):=by
 have Z:(Dn T F F.length).length=F.length:=Us T F (zD _);have B:∀s,(f:s<F.length)->F[s]<T.length:=fun s f=>by rw[<-hg];exact((U.mem F[s]).1 (zG f)).1.1
 have D:∀s,(f:s<F.length)->(X:s<(Dn T F F.length).length)->(Dn T F F.length)[s]=T[F[s]]'(B s f):=fun s f X=>by
  have M:=B s f;have W:(Dn T F F.length)[s]?=some T[F[s]]:=by
   unfold Dn;rw[List.getElem?_map,zO (zD _),zF f];show some (T.getD F[s] noT)=_;rw[zC,zF M];rfl
  rw[zF X]at W;exact zE W
 have a0:=h.bT.cV;have a1:=h.aI.tl;refine⟨fun s f=>?_,fun s f=>?_,fun f=>?_⟩
 ·rw[D s (by omega) f];exact h.text U Y hK (by omega) (B s (by omega))
 ·rw[D s (by omega) f];have M:=B s (by omega);have J:=h.bT.bO.dI F[s];have G:(T.map Q0).getD F[s] []=Q0 T[F[s]]:=by rw[zC,List.getElem?_map,zF M];rfl
  rw[G,I1]at J;omega
 ·rw[D 0 (by omega) f];have M:=B 0 (by omega);have hm:0∈F:=(U.mem 0).2 ⟨⟨Y.bE,.inl rfl⟩,fun b hb=>by omega⟩;have h0:F[0]'(by omega)=0:=by
   obtain⟨s,V,e⟩:=List.getElem_of_mem hm
   by_cases e0:s=0
   ·subst e0;exact e
   ·have:=(E9 U.bJ (show 0<F.length by omega) V).2 (by omega);omega
  have J:=h.bT.bO.dI F[0];have G:(T.map Q0).getD F[0] []=Q0 T[F[0]]:=by rw[zC,List.getElem?_map,zF M];rfl
  rw[G,I1]at J;omega
end
end Go.Proofs.YtcckhngbdoiikabGreat

namespace Go.Proofs.YtcckhngbdoiikabGreat
open Go.RowKit Go.Deep
section
variable{w w':World}{xb yb:Nat}{rv pn pv tv ov fv:Value}{TX:List ByteArray}{OX:List (Nat×List Int)}{FX:List Int}{kd:Nat->Nat}{g:B0}
theorem XAt.kD(h:XAt w xb rv pn pv tv ov fv TX OX FX)(K:0<OX.length):∃B f,w.cell? ⟨xb,4,none⟩=some (.slice (some ⟨B,0,none⟩) OX.length f)/\∀i,(D:i<OX.length)->w.cell? ⟨B,i,none⟩=some (.slice (some ⟨OX[i].1,0,none⟩) 256 256)/\∀b,b<256->w.cell? ⟨OX[i].1,b,none⟩=some (.int .i64 (OX[i].2.getD b 0)):=by
 have G:=h.bP.row;obtain⟨_,W,f,rfl,⟨_,e⟩|⟨B,V,rfl,_⟩⟩:=P0 G
 ·omega
 refine⟨B,f,h.aO.cell 4,fun i D=>⟨by rw[Y0 G i (by omega)];simp[slV,D],fun b U=>?_⟩⟩;obtain⟨J,M⟩:=h.bP.aX OX[i] (zG D);exact T5 J b (by omega)
theorem XAt.eU(h:XAt w xb rv pn pv tv ov fv TX OX FX)(M:0<TX.length):∃J B,w.cell? ⟨xb,3,none⟩=some (.slice (some ⟨J,0,none⟩) TX.length B)/\∀i,(D:i<TX.length)->w.cell? ⟨J,i,none⟩=some (.string TX[i]):=by
 have G:=h.txt;obtain⟨_,V,f,rfl,⟨_,e⟩|⟨K,U,rfl,_⟩⟩:=P0 G
 ·omega
 exact⟨K,f,h.aO.cell 3,fun i D=>by rw[Y0 G i (by omega)];simp[D]⟩
theorem XAt.lW(h:XAt w xb rv pn pv tv ov fv TX OX FX)(K:0<FX.length):∃B f,w.cell? ⟨xb,5,none⟩=some (.slice (some ⟨B,0,none⟩) FX.length f)/\∀i,i<FX.length->w.cell? ⟨B,i,none⟩=some (.int .i64 (FX.getD i 0)):=by
 obtain⟨J,D,rfl,e|⟨B,rfl⟩⟩:=h.of.aV
 ·omega
 exact⟨B,D,h.aO.cell 5,fun i G=>h.of.getD i G⟩
structure P5(w:World)(yb:Nat)(kd:Nat->Nat)(g:B0)(TX:List ByteArray):Prop where
 x:∃rv pn pv xt xo xf OX FX,XAt w yb rv pn pv xt xo xf TX OX FX/\SP (fun i b=>W0 g (i:Int) (kd b)) (fun i=>g.aB.getD i 0) g.aB.length OX FX
 tl:TX.length=g.aB.length
 bE:0<g.aB.length/\g.aB.length<=61
 nl:g.next.length=g.aB.length
theorem P5.aA(h:P5 w yb kd g TX)(k:Bw w w'):P5 w' yb kd g TX:=by
 obtain⟨rv,pn,pv,J,G,D,OX,FX,f,B⟩:=h.x;exact⟨⟨rv,pn,pv,J,G,D,OX,FX,f.aA k,B⟩,h.tl,h.bE,h.nl⟩
theorem P5.cells(h:P5 w yb kd g TX):yb<w.heap.size/\(∃Y D,w.cell? ⟨yb,3,none⟩=some (.slice (some ⟨Y,0,none⟩) g.aB.length D)/\∀i,(J:i<TX.length)->w.cell? ⟨Y,i,none⟩=some (.string TX[i]))/\
  (∃X B,w.cell? ⟨yb,4,none⟩=some (.slice (some ⟨X,0,none⟩) g.aB.length B)/\∀i,i<g.aB.length->∃ob,w.cell? ⟨X,i,none⟩=some (.slice (some ⟨ob,0,none⟩) 256 256)/\∀b,b<256->w.cell? ⟨ob,b,none⟩=some (.int .i64 (W0 g (i:Int) (kd b))))/\
  (∃V f,w.cell? ⟨yb,5,none⟩=some (.slice (some ⟨V,0,none⟩) g.aB.length f)/\∀i,i<g.aB.length->w.cell? ⟨V,i,none⟩=some (.int .i64 (g.aB.getD i 0))):=by
 obtain⟨rv,pn,pv,xt,xo,xf,OX,FX,W,G⟩:=h.x;have Z:=h.bE.1;refine⟨W.aO.lt,?_,?_,?_⟩
 ·obtain⟨Y,D,K,M⟩:=W.eU (by rw[h.tl];exact Z);exact⟨Y,D,by rw[K,h.tl],M⟩
 ·obtain⟨X,B,K,M⟩:=W.kD (by rw[G.ol];exact Z);refine⟨X,B,by rw[K,G.ol],fun i J=>?_⟩;have U:i<OX.length:=by rw[G.ol];exact J
  obtain⟨e3,e4⟩:=M i U;refine⟨_,e3,fun b hb=>?_⟩;have h5:=G.row i b J hb;rw[zC (l:=OX),zF U,Option.getD_some]at h5;rw[e4 b hb,h5]
 ·obtain⟨V,f,K,M⟩:=W.lW (by rw[G.fl];exact Z);exact⟨V,f,by rw[K,G.fl],fun i J=>by rw[M i (by rw[G.fl];exact J),G.bM i J]⟩
theorem CK(f:g.next.length=g.aB.length){i b:Nat}(B:i<g.aB.length)(h:b<256):X0 kd g (i:Int) (b:Int)=W0 g (i:Int) (kd b):=by
 unfold X0 W0;rw[if_neg (by omega),if_neg (by omega),zH,zH]
end
theorem Yf(yb:Nat)(kd:Nat->Nat)(g:B0)(TX:List ByteArray)(s:Int)(w:World)(h:P5 w yb kd g TX):
  Calls Tryz.prog 76 #[.pointer (some ⟨yb,0,none⟩),.int .i64 s] w fun e w'=>e=.returned (.int .i64 (M0 g s))/\w'=w:=by
 obtain⟨zy,⟨tg,M,X,_⟩,_,⟨Y,K,J,G⟩⟩:=h.cells;generalize f:M0 g s=F;unfold M0 at f;clear h
 by_cases B:s<0
 ·have U:decide (s<0)=true:=by simp[B]
  rw[if_pos (.inl B)]at f;subst f;clear G J;go_enter Tryz.func76,Tryz.ntmps76;go_wp2_with fail;go_ret;exact⟨rfl,rfl⟩
 ·have U:decide (s<0)=false:=by simp;omega
  by_cases D:(g.aB.length:Int)<=s
  ·have V:decide ((g.aB.length:Int)<=s)=true:=by simp[D]
   rw[if_pos (.inr D)]at f;subst f;clear G J;go_enter Tryz.func76,Tryz.ntmps76;go_wp2_with fail;go_ret;exact⟨rfl,rfl⟩
  ·have V:decide ((g.aB.length:Int)<=s)=false:=by simp;omega
   rw[if_neg (by omega)]at f;obtain⟨j,rfl⟩:∃j:Nat,s=(j:Int):=⟨s.toNat,by omega⟩;have W:=G j (by omega);rw[zH]at f;rw[f]at W;have Z:(0:Int)<=(j:Int):=by omega
   have i1:(j:Int)<(g.aB.length:Int):=by omega
   clear G f;go_enter Tryz.func76,Tryz.ntmps76;go_wp2_with fail;go_ret;exact⟨rfl,rfl⟩
theorem Ic(yb:Nat)(kd:Nat->Nat)(g:B0)(TX:List ByteArray)(s b:Int)(w:World)(h:P5 w yb kd g TX):
  Calls Tryz.prog 86 #[.pointer (some ⟨yb,0,none⟩),.int .i64 s,.int .i64 b] w fun e w'=>e=.returned (.int .i64 (X0 kd g s b))/\Bw w w':=by
 obtain⟨zy,⟨tg,X,c3,_⟩,⟨og,V,K,D⟩,_⟩:=h.cells;have B:=h.nl;generalize f:X0 kd g s b=F;clear h
 by_cases J:s<0
 ·have Y:decide (s<0)=true:=by simp[J]
  unfold X0 at f;rw[if_pos (.inl J)]at f;subst f;clear D K B;go_enter Tryz.func86,Tryz.ntmps86;go_wp2_with fail;go_ret;exact⟨rfl,Below.refl _ _⟩
 ·have Y:decide (s<0)=false:=by simp;omega
  by_cases U:(g.aB.length:Int)<=s
  ·have Z:decide ((g.aB.length:Int)<=s)=true:=by simp[U]
   unfold X0 at f;rw[if_pos (.inr (.inl (by omega)))]at f;subst f;clear D K B;go_enter Tryz.func86,Tryz.ntmps86;go_wp2_with fail;go_ret;exact⟨rfl,Below.refl _ _⟩
  ·have Z:decide ((g.aB.length:Int)<=s)=false:=by simp;omega
   by_cases G:b<0
   ·have e2:decide (b<0)=true:=by simp[G]
    unfold X0 at f;rw[if_pos (.inr (.inr (.inl G)))]at f;subst f;clear D K B;go_enter Tryz.func86,Tryz.ntmps86;go_wp2_with fail;go_ret;exact⟨rfl,Below.refl _ _⟩
   ·have e2:decide (b<0)=false:=by simp;omega
    by_cases M:256<=b
    ·have e3:decide ((255:Int)<b)=true:=by simp;omega
     unfold X0 at f;rw[if_pos (.inr (.inr (.inr M)))]at f;subst f;clear D K B;go_enter Tryz.func86,Tryz.ntmps86;go_wp2_with fail;go_ret;exact⟨rfl,Below.refl _ _⟩
    ·have e3:decide ((255:Int)<b)=false:=by simp;omega
     obtain⟨j,rfl⟩:∃j:Nat,s=(j:Int):=⟨s.toNat,by omega⟩;obtain⟨c,rfl⟩:∃c:Nat,b=(c:Int):=⟨b.toNat,by omega⟩;rw[CK B (by omega) (by omega)]at f;obtain⟨ob,q1,W⟩:=D j (by omega);have q3:=W c (by omega);rw[f]at q3;have i0:(0:Int)<=(j:Int):=by omega
     have i1:(j:Int)<(g.aB.length:Int):=by omega
     have i2:(0:Int)<=(c:Int):=by omega
     have i3:(c:Int)<256:=by omega
     clear D B f W;go_enter Tryz.func86,Tryz.ntmps86;go_wp2_with fail
     first
     |(go_ret;exact⟨rfl,Below.refl _ _⟩)
     |(go_quiet(fail);go_wp2_with fail;go_ret;exact⟨rfl,C2 (Below.refl _ _) _⟩)
def Yh(F:List Nat):List Int:=F.map Int.ofNat
theorem Zc(F:List Nat):(Yh F).length=F.length:=by simp[Yh]
theorem Un(F:List Nat){s:Nat}(f:s<F.length):(Yh F).getD s 0=(F[s]:Int):=by simp[Yh,f]
theorem T1{B:Nat}{a w:World}(h:Below B a w):Below B a w.drew:=⟨h.os,h.tape,h.output,h.size,h.block⟩
def VN(g:B0):B0:=E1 (G0 g) (U1 (G0 g))
def Ac7(w w':World)(xb:Nat)(G B D:Value)(T:List ByteArray)(g:B0)(K:Nat)(kd:Nat->Nat):Prop:=∃(F:List Nat) (U M J:Value) (h:List (Nat×List Int)) (f:List Int),Ea g K F/\XO w w' xb G B D U M J (Dn T F F.length) h f/\SP (fun i b=>W0 (VN g) (i:Int) (kd b)) (fun i=>(VN g).aB.getD i 0) F.length h f
theorem FB(xb fb lo N:Nat)(rs:ByteArray)(f:Nat->Int)(aD:List MT)(tv sv ov:Value)(T:List ByteArray)(S:List (Nat×List Bool))(To:List (Nat×List Int))(g:B0)(K:Nat)(kd:Nat->Nat)(w:World)(hL:Wh w xb rs f aD)(hF:P3 w lo fb tv sv ov T S To)(hG:GP T To g K kd aD)(hS:Ga g K)(hN:N=g.aB.length)(rv pn pv:Value)(hX:XAt w xb rv pn pv (.slice none 0 0) (.slice none 0 0) (.slice none 0 0) [] [] []):
  Calls Tryz.prog 33 #[.pointer (some ⟨xb,0,none⟩),.pointer (some ⟨fb,0,none⟩)] w fun e w'=>e=.returned (.tuple #[])/\Ac7 w w' xb rv pn pv T g K kd:=by
 have ew:=Hd hX;clear hX;have fc:=hG.cV;have cq:T.length=N:=by rw[hG.tl,hN]
 have fw:N<=61:=by omega
 have g0:0<N:=by omega
 have f9:=Je N (by omega);have b9:=Hd (MG xb fb lo rs f aD tv sv ov T S To g K kd w hL hF hG);have HC:=Hd6 hL hF hG hS hN cq;rw[cq]at b9;have zf:=hF.aO.lt;have HN:=Hd hN;clear hL hF hG hS fc cq hN;go_enter Tryz.func33,Tryz.ntmps33;go_wp2_with fail;refine b9.out.mono ?_;rintro e w1 ⟨al,rfl,cu,bd,cv,c1⟩;have dj:=Hd (CB xb fb lo w.heap.size N rs f aD tv sv ov T S To g K kd al w1 (HC.out.1.aA c1) (HC.out.2.1.aA c1) HC.out.2.2.1 HN.out cu bd (fun i hi=>cv i (by rw[HN.out];exact hi)));have H1:=Hd4 cu bd cv c1;clear cu bd cv c1 b9;go_wp2_with fail;refine dj.out.mono ?_;rintro e X ⟨db,R,D,rfl,hD,aa,cw⟩;obtain⟨a1,a2,a3,a4⟩:=H1.out;have J:Bw w X:=a4.trans (cw.mono a4.size);have cm:=HC.out.2.1.aA J;obtain⟨tg,ee,c0,_⟩:=cm.eU (by have:=HC.out.2.2.2.2.2;omega);rw[HC.out.2.2.2.2.2]at c0;have bd:=a1.aA cw;have H4:=Hd (fun i (hi:i<N)=>a3 i hi);have H2:=Hd5 hD aa J bd a2;have fu:=cm.aO.lt;obtain⟨w3,cb⟩:∃w3:World,X.alloc (.cells (T3 (List.replicate N 0)) 3)=w3:=⟨_,rfl⟩;have ds:Bw X w3:=by rw[<-cb];exact N0 _ _
 have dw:Blk w3 X.heap.size (T3 (List.replicate N 0)) 3:=by rw[<-cb];exact Blk.aR _ _ _
 have H3:=Hd2 ds dw;clear hD aa cw a1 a2 a3 a4 J cm bd ds dw dj H1;go_upto_region 3 with fail
 try rw[cb]
 clear cb f9;go_wp2_with fail
 go_loopg[7,8] N (fun G fv nv wr=>∃(n:Nat) (F:List Nat) (st:List Int),nv=.int .i64 n/\n<=N/\G=N-n/\StI g K n F st/\Q2 wr fv (Yh F)/\(∀b,fv.ownBlock=some b->X.heap.size<b)/\Blk wr X.heap.size (T3 st) 3/\Bw X wr)
 case atStart=>exact⟨0,[],_,rfl,by omega,rfl,StI.start (by simp;exact HN.out),World.ownsRow_nil _ _ _ _,fun x hx=>by simp[Value.ownBlock]at hx,H3.out.2,H3.out.1⟩
 case round=>
  obtain⟨n,F,st,rfl,hn,rfl,hI,hR,bw,aj,hB⟩:=hrel;have fx:wr.cell? ⟨fb,0,none⟩=some (.slice (some ⟨tg,0,none⟩) N ee):=by rw[hB.cell fu];exact c0
  obtain⟨fd,a0,rfl,cx⟩:=hR.aV;rw[Zc]at cx hR bw⊢
  by_cases ad:n<N
  ·have e0:decide ((n:Int)<(N:Int))=true:=by simp;omega
   have n0:(0:Int)<=(n:Int):=by omega
   have n1:(n:Int)<(N:Int):=by omega
   have cs:=T5 aj n (by rw[hI.len,<-HN.out];exact ad);have fs:=aj.frozen n;generalize st.getD n 0=y0 at cs;have zs:=aj.lt;obtain⟨hD,aa,J,hA,an⟩:=H2.out;have gc:=hA.lt;have ca:=P2 (hA.aA hB) n (by omega);have e8:al.getD n false=true↔R6 g K (n:Int):=H4.out n ad;have HK:=Hd6 hI hR bw aj hB e8;have f1:=hI.bU;clear hI hR bw aj hB hD aa J hA an e8;generalize al.getD n false=x at ca HK;have bp:(0<n/\x=false)\/(n=0\/x=true):=by cases x <;>simp <;>omega
   rcases bp with⟨g7,rfl⟩|bp
   ·have e1:decide ((0:Int)<(n:Int))=true:=by simp;omega
    go_wp2_with fail
    go_roundg (N- (n+1))
    case measure=>omega
    case rel=>
     obtain⟨b1,b2,b3,b4,b5,b6⟩:=HK.out;refine⟨n+1,F,st.set n (-1),by go_num,by omega,rfl,b1.skip (by rw[<-HN.out];exact ad) (fun hg=>?_) _,?_,b3,by rw[<-Z3];exact b4.set n _,b5.setCell (zD _) _⟩
     ·rcases hg.2 with e|e
      ·omega
      ·have:=b6.2 e;cases this
     ·exact K0 (ex:=fun x=>x=X.heap.size) b2 (C0.setCell (ex:=fun x=>x=X.heap.size) (p:=⟨X.heap.size,n,none⟩) (C0.refl _ _) (fun _=>rfl) _) (fun b V e=>by have:=b3 b V;omega)
   ·have f5:Hid (Zv g K n):=Hd ⟨by rw[<-HN.out];exact ad,by
     rcases bp with e|e
     ·exact .inl e
     ·exact .inr (HK.out.2.2.2.2.2.1 e)⟩
    have e1:(¬0<n/\decide ((0:Int)<(n:Int))=false)\/(0<n/\decide ((0:Int)<(n:Int))=true/\x=true):=by
     by_cases e:n=0
     ·exact .inl ⟨by omega,by simp;omega⟩
     ·exact .inr ⟨by omega,by simp;omega,by rcases bp with e'|e';exact absurd e' e;exact e'⟩
    clear bp;rcases e1 with⟨hz,e1⟩|⟨hz,e1,rfl⟩
    all_goals
     go_wp2_with fail
     go_loopg[9] F.length (fun G sv wr=>∃(s:Nat) (v:Int),sv=.int .i64 s/\s<=F.length/\G=F.length-s/\((v= -1/\∀s',(h:s'<F.length)->s'<s->Bg g K (F[s']:Int) (n:Int))\/∃s0,∃h:s0<F.length,v=(s0:Int)/\¬Bg g K (F[s0]:Int) (n:Int))/\Q2 wr (.slice fd F.length a0) (Yh F)/\Blk wr X.heap.size (T3 (st.set n v)) 3/\Bw X wr)
     case atStart=>
      obtain⟨b1,b2,b3,b4,b5,b6⟩:=HK.out;exact⟨0,-1,rfl,by omega,rfl,.inl ⟨rfl,fun s' _ hs=>by omega⟩,K0 (ex:=fun x=>x=X.heap.size) b2 (C0.setCell (ex:=fun x=>x=X.heap.size) (p:=⟨X.heap.size,n,none⟩) (C0.refl _ _) (fun _=>rfl) _) (fun b V e=>by have:=b3 b V;omega),by rw[<-Z3];exact b4.set n _,b5.setCell (zD _) _⟩
     case round=>
      obtain⟨t,v,rfl,ht,rfl,hv,az,a5,av⟩:=hrel;clear hz e1;obtain⟨hD,aa,J,hA,an⟩:=H2.out;have gd:=a5.lt;have a7:n<st.length:=by rw[HK.out.1.len,<-HN.out];exact ad
      have ez:=T5 a5 n (by simp;exact a7);rw[Mb _ _ _ _ a7,if_pos rfl]at ez;have fz:=a5.frozen n;have af:∀q,(h:q<F.length)->F[q]<N:=fun q h=>by have:=HK.out.1.lt h;omega
      by_cases d7:v= -1
      ·subst d7;have bz:∀s',(h:s'<F.length)->s'<t->Bg g K (F[s']:Int) (n:Int):=by
        rcases hv with⟨_,h⟩|⟨s0,_,h,_⟩
        ·exact h
        ·omega
       by_cases a6:t<F.length
       ·have e3:decide ((t:Int)<(F.length:Int))=true:=by simp;omega
        rcases cx with e|⟨fg,rfl⟩
        ·omega
        have t0:(0:Int)<=(t:Int):=by omega
        have t1:(t:Int)<(F.length:Int):=by omega
        have cf:wr.cell? ⟨fg,t,none⟩=some (.int .i64 (F[t]:Int)):=by
         rw[<-Un F a6];have h9:Q2 wr (.slice (some ⟨fg,0,none⟩) (Yh F).length a0) (Yh F):=by rw[Zc];exact az
         exact h9.getD t (by rw[Zc];exact a6)
        have bt:=af t a6;obtain⟨d1,d2⟩:=(hD.aA av).cells bt ad;have c7:=aa F[t] n bt ad;have dz:R F[t]≠X.heap.size:=by have:=(hD.aX F[t] bt).1.lt;omega
        generalize e6:F[t]=ft at cf d1 d2 c7 bt dz;have q0:(0:Int)<=(ft:Int):=by omega
        have q1:(ft:Int)<(N:Int):=by omega
        generalize R ft=rb at d1 d2 dz;generalize(D ft).getD n false=y at d2 c7;have HQ:=Hd6 bz az a5 av c7 e6;clear bz az a5 av c7 e6 hD aa J hA an hv af a7;cases y with
        |true=>
         go_wp2_with fail
         go_roundg (F.length- (t+1))
         case measure=>omega
         case rel=>
          obtain⟨b1,b2,b3,b4,b5,b6⟩:=HQ.out;refine⟨t+1,-1,by go_num,by omega,rfl,.inl ⟨rfl,fun s' h hs=>?_⟩,b2,b3,b4⟩
          by_cases e:s'<t
          ·exact b1 s' h e
          ·have:s'=t:=by omega
           subst this;rw[b6];exact b5.1 (by simp)
        |false=>
         go_wp2_with fail
         go_roundg (F.length- (t+1))
         case measure=>omega
         case rel=>
          obtain⟨b1,b2,b3,b4,b5,b6⟩:=HQ.out;refine⟨t+1,(t:Int),by go_num,by omega,rfl,.inr ⟨t,a6,rfl,fun h=>?_⟩,?_,?_,b4.setCell (zD _) _⟩
          ·rw[b6]at h;have:=b5.2 h;cases this
          ·exact K0 (ex:=fun x=>x=X.heap.size) b2 (C0.setCell (ex:=fun x=>x=X.heap.size) (p:=⟨X.heap.size,n,none⟩) (C0.refl _ _) (fun _=>rfl) _) (fun b V e=>by have:=HK.out.2.2.1 b V;omega)
          ·have:=b3.set n (.int .i64 t);rw[Z3,List.set_set]at this;exact this
       ·have e3:decide ((t:Int)<(F.length:Int))=false:=by simp;omega
        have ea:∀s',(h:s'<F.length)->¬R5 (G0 g) K (F[s']:Int) (n:Int):=fun s' h hx=>by
         refine((Mu HC.out.2.2.1.ok (a:=F[s']) (b:=n) ?_ ?_).1 hx) (bz s' h (by omega))
         ·have:=af s' h;rw[<-HN.out];exact this
         ·rw[<-HN.out];exact ad
        have ap:=StI.fresh HC.out.2.2.2.1 HK.out.1 f5.out ea;have d0:∀x,(Value.slice fd F.length a0).ownBlock=some x->X.heap.size+1<=x:=fun x hx=>HK.out.2.2.1 x hx
        have dv:wr.ownsRow 0 3 1 (.slice fd F.length a0) (Z7 (Yh F)).length (Z7 (Yh F)):=Q2.lF az;have fa:(Z7 (Yh F)).length+1<=4000000:=by rw[Ze,Zc];omega
        have dl:=Hd (K0 (ex:=fun x=>x=X.heap.size) dv (C0.setCell (ex:=fun x=>x=X.heap.size) (p:=⟨X.heap.size,n,none⟩) (C0.refl _ _) (fun _=>rfl) (.int .i64 (F.length:Int))) (fun b V e=>by have:=d0 b V;omega));have cp:=a5.set n (.int .i64 (F.length:Int));rw[Z3,List.set_set]at cp;have ax:=av.setCell (p:=⟨X.heap.size,n,none⟩) (zD _) (.int .i64 (F.length:Int));have HQ:=Hd4 ap cp ax d0;obtain⟨M,b8⟩:∃M,wr.setCell ⟨X.heap.size,n,none⟩ (.int .i64 (F.length:Int))=M:=⟨_,rfl⟩;rw[b8]at dl HQ;have ge:=HQ.out.2.1.lt;clear ea ap d0 dv cp ax bz az a5 av hD aa J hA an hv af a7;go_upto_region 16 with fail
        try rw[b8]
        clear b8;go_wp2_with(at_builtin;(refine Kf Tryz.underlying68 Tryz.cG rfl (by omega) (la:=Z7 (Yh F)) (ll:=[.int .i64 n]) (va:=.slice fd F.length a0) (vl:=.slice (some ⟨M.heap.size,0,none⟩) 1 1) (by rfl) _ _ (by rfl) (by rfl) (by rfl) (Vm dl.out _) (Lf M 3 (.int .i64 n)) (fun u hu=>by rw[zJ]at hu;rw[hu];rfl) (X.heap.size+1) (by simp;omega) HQ.out.2.2.2 fa ?_));intro v6 w6 r1 r2 r3;have ep:=Hd3 r1 r2 r3;clear r1 r2 r3;go_wp2_with fail
        go_roundg (N- (n+1))
        case measure=>omega
        case rel=>
         obtain⟨b1,b2,b3,b4⟩:=HQ.out;obtain⟨r1,r2,r3⟩:=ep.out;refine⟨n+1,F++ [n],_,by go_num,by omega,rfl,b1,?_,fun b V=>r2 b V,(b2.alloc _).kept r3 (fun e=>by have:=b4 _ e;omega),C3 (b3.alloc b3.size _) r3 (by simp;omega) (fun x hx e=>by have:=b4 x e;omega)⟩;have e9:Z7 (Yh (F++ [n]))=Z7 (Yh F)++ [.int .i64 n]:=by simp[Z7,Yh]
         exact Q2.fJ (by rw[e9];simpa using r1)
      ·obtain⟨s0,eb,fe,cd⟩:∃s0,∃h:s0<F.length,v=(s0:Int)/\¬Bg g K (F[s0]:Int) (n:Int):=by
        rcases hv with⟨e,_⟩|h
        ·exact absurd e d7
        ·exact h
       subst fe;have ap:=HK.out.1.fF (by rw[<-HN.out];exact ad) eb ((Mu HC.out.2.2.1.ok (a:=F[s0]) (b:=n) (by have:=af s0 eb;rw[<-HN.out];exact this) (by rw[<-HN.out];exact ad)).2 cd);have e4:decide ((s0:Int)<0)=false:=by simp
       have HQ:=Hd4 ap az a5 av;clear ap az a5 av hD aa J hA an hv af a7 d7 cd
       by_cases a6:t<F.length
       ·have e3:decide ((t:Int)<(F.length:Int))=true:=by simp;omega
        go_wp2_with fail
        go_roundg (N- (n+1))
        case measure=>omega
        case rel=>
         obtain⟨b1,b2,b3,b4⟩:=HQ.out;exact⟨n+1,F,_,by go_num,by omega,rfl,b1,b2,HK.out.2.2.1,b3,b4⟩
       ·have e3:decide ((t:Int)<(F.length:Int))=false:=by simp;omega
        go_wp2_with fail
        go_roundg (N- (n+1))
        case measure=>omega
        case rel=>
         obtain⟨b1,b2,b3,b4⟩:=HQ.out;exact⟨n+1,F,_,by go_num,by omega,rfl,b1,b2,HK.out.2.2.1,b3,b4⟩
  ·obtain rfl:n=N:=by omega
   have e0:decide ((n:Int)<(n:Int))=false:=by simp
   have f1:=hI.bU;obtain⟨hD,aa,J,hA,an⟩:=H2.out;have be:Bw w wr:=J.trans (hB.mono J.size);have b7:=ew.out.aA be;have f2:=(HC.out.2.1.aA be).aO;have HW:Hid (∀W,C0 (fun b=>b=xb) wr W->P3 W lo fb tv sv ov T S To/\Q2 W (.slice fd F.length a0) (Yh F)/\Blk W w.heap.size (Z0 al) 4/\Blk W X.heap.size (T3 st) 3):=Hd fun W k=>⟨(HC.out.2.1.aA be).iH b7.aO k,K0 hR k (fun b V e=>by subst e;exact L0 hR b7.aO (by decide) V),(hA.aA hB).kept k ((hA.aA hB).ne b7.aO (by decide)),aj.kept k (aj.ne b7.aO (by decide))⟩
   have en:Hid (∀W ef ed dr dq dp dc,XO wr W xb rv pn pv ef ed dr dq dp dc->Wh W xb rs f aD):=Hd fun W ef ed dr dq dp dc h=>(HC.out.1.aA be).jG b7 h.kept h.x
   have HI:=Hd3 hI be b7;have a7:st.length=n:=by rw[hI.len,<-HN.out]
   have ce:al.length=n:=an;have af:∀q,(h:q<F.length)->F[q]<n:=fun q h=>hI.lt h
   have em:=Hd af;have b9:=Hd2 a7 ce;clear hI hR bw aj hB hD aa J hA an be b7 f2 a7 ce af;obtain⟨wz,rfl⟩:∃wz:World,wz=wr:=⟨_,rfl⟩;go_wp2_with fail
   go_loopg[10] F.length (fun G sv wr=>∃(s:Nat) (xt xo xf:Value) (OX:List (Nat×List Int)) (FX:List Int),sv=.int .i64 s/\s<=F.length/\G=F.length-s/\XO wz wr xb rv pn pv xt xo xf (Dn T F s) OX FX/\SP (fun i b=>W0 (VN g) (i:Int) (kd b)) (fun i=>(VN g).aB.getD i 0) s OX FX)
   case atStart=>exact⟨0,_,_,_,[],[],rfl,by omega,rfl,⟨HI.out.2.2,C0.refl _ _,fun b V=>by simp[Value.ownBlock]at V,fun b V=>by simp[Value.ownBlock]at V,fun b V=>by simp[Value.ownBlock]at V⟩,SP.start⟩
   case round=>
    obtain⟨s,xt,xo,xf,OX,FX,rfl,hs,rfl,bx,bu⟩:=hrel
    by_cases U:s<F.length
    ·have e1:decide ((s:Int)<(F.length:Int))=true:=by simp;omega
     have g6:=BQ;have HX:=Hd2 bx bu;clear bx bu;obtain⟨wo,rfl⟩:∃wo:World,wo=wr:=⟨_,rfl⟩;rcases cx with e|⟨fg,rfl⟩
     ·omega
     obtain⟨fs,cy⟩:∃fs,F[s]=fs:=⟨_,rfl⟩;have c9:fs<n:=by rw[<-cy];exact em.out s U
     have ba:=Hd cy;clear cy;go_wp2_with fail
     go_loopg[12] 256 (fun G bv wr=>∃(b:Nat) (l:List Int),bv=.int .i64 b/\b<=256/\G=256-b/\l.length=256/\(∀c,c<b->l.getD c 0=DE al st (W0 g (fs:Int) (kd c)))/\Blk wr wo.heap.size (T3 l) 3/\Bw wo wr)
     case atStart=>exact⟨0,TG,rfl,by omega,rfl,Rz,fun c hc=>by omega,Blk.aR _ _ _,N0 _ _⟩
     case round=>
      obtain⟨b,l,rfl,V,rfl,hl,hv,aw,bb⟩:=hrel;have cn:=HX.out.1.kept.aA bb;obtain⟨bc,bk,bh,bm⟩:=HW.out wr cn
      by_cases aq:b<256
      ·have e2:decide ((b:Int)<256)=true:=by simp;omega
       have cl:=T5 aw b (by rw[hl];exact aq);generalize l.getD b 0=y at cl;have fl:=aw.frozen b;have zl:=aw.lt;have b0:(0:Int)<=(b:Int):=by omega
       have b1:(b:Int)<256:=by omega
       have ax:=aw.set b (.int .i64 (-1));rw[Z3]at ax;have bj:=bb.setCell (p:=⟨wo.heap.size,b,none⟩) (zD _) (.int .i64 (-1));obtain⟨w4,d8⟩:∃w4,wr.setCell ⟨wo.heap.size,b,none⟩ (.int .i64 (-1))=w4:=⟨_,rfl⟩;rw[d8]at ax bj;have Y:=Hd4 ax bj hl hv;clear ax bj aw bb cn bc bk bh bm hl hv;go_upto_region 25 with fail
       try rw[d8]
       clear d8 cl fl zl;obtain⟨bc,bk,bh,bm⟩:=HW.out w4 (HX.out.1.kept.aA Y.out.2.1);have a8:=HC.out.2.2.1;have ag:To.length=n:=by rw[a8.ol,HN.out]
       obtain⟨og,ae,c2,co⟩:=bc.to (by rw[ag];omega);rw[ag]at c2;obtain⟨c3,c4⟩:=co fs (by rw[ag];exact c9);have c5:=c4 b aq;rw[a8.step fs b (by rw[ag];exact c9) aq]at c5;have cf:w4.cell? ⟨fg,s,none⟩=some (.int .i64 fs):=by
        have h9:Q2 w4 (.slice (some ⟨fg,0,none⟩) (Yh F).length a0) (Yh F):=by rw[Zc];exact bk
        have h8:=h9.getD s (by rw[Zc];exact U);rw[Un F U,ba.out]at h8;exact h8
       have s0:(0:Int)<=(s:Int):=by omega
       have s1:(s:Int)<(F.length:Int):=by omega
       have q0:(0:Int)<=(fs:Int):=by omega
       have q1:(fs:Int)<(n:Int):=by omega
       have da:=bc.aO.lt;obtain⟨tt,d4⟩:∃tt,W0 g (fs:Int) (kd b)=tt:=⟨_,rfl⟩;have cz:=a8.leads (i:=fs) (b:=b) (by rw[<-HN.out];exact c9) aq;rw[d4]at c5 cz;rw[<-HN.out]at cz;generalize To[fs].1=ob at c3 c5;have ci:=Hd d4;have HM:=Hd2 bh bm;clear d4 a8 ag co c4 bc bk bh bm;go_quiet(fail);obtain⟨M,b8⟩:∃M,w4.drewN nq=M:=⟨_,rfl⟩;have ai:Hid (Bw w4 M):=Hd (by rw[<-b8];exact C2 (Below.refl _ _) _);rw[b8];clear b8 c2 c3 c5 cf;rcases cz with rfl|⟨t,ht,rfl⟩
       ·have e3:decide ((0:Int)<= -1)=false:=by simp
        go_wp2_with fail
        go_roundg (256- (b+1))
        case measure=>omega
        case rel=>
         obtain⟨a1,a2,a3,a4⟩:=Y.out;refine⟨b+1,l.set b (-1),by go_num,by omega,rfl,by rw[xF];exact a3,fun c hc=>?_,a1.aA ai.out,a2.trans (ai.out.mono a2.size)⟩;rw[Mb _ _ _ _ (by omega)];split
         ·rename_i e;subst e;rw[ci.out];unfold DE;rw[Vb];rfl
         ·exact a4 c (by omega)
       ·have e3:decide ((0:Int)<=(t:Int))=true:=by simp
        have ca:=P2 (HM.out.1.aA ai.out) t (by have:=b9.out.2;omega);have t0:(0:Int)<=(t:Int):=by omega
        have t1:(t:Int)<(n:Int):=by omega
        generalize hx:al.getD t false=x at ca;have dn:=Hd hx;clear hx;cases x with
        |false=>
         go_wp2_with fail
         go_roundg (256- (b+1))
         case measure=>omega
         case rel=>
          obtain⟨a1,a2,a3,a4⟩:=Y.out;refine⟨b+1,l.set b (-1),by go_num,by omega,rfl,by rw[xF];exact a3,fun c hc=>?_,a1.aA ai.out,a2.trans (ai.out.mono a2.size)⟩;rw[Mb _ _ _ _ (by omega)];split
          ·rename_i e;subst e;rw[ci.out];unfold DE;rw[Ta,dn.out];rfl
          ·exact a4 c (by omega)
        |true=>
         have cs:=T5 (HM.out.2.aA ai.out) t (by have:=b9.out.1;omega);generalize hy:st.getD t 0=y at cs;have HY:=Hd hy;clear hy;have bi:=Y.out.1.aA ai.out;have cl:=T5 bi b (by rw[xF,Y.out.2.2.1];exact aq);generalize(l.set b (-1)).getD b 0=z at cl;have fl:=bi.frozen b;have zl:=bi.lt;have ei:=Hd bi;clear bi;go_wp2_with fail
         go_roundg (256- (b+1))
         case measure=>omega
         case rel=>
          obtain⟨a1,a2,a3,a4⟩:=Y.out;have h7:=ei.out.set b (.int .i64 y);rw[Z3,List.set_set]at h7;refine⟨b+1,l.set b y,by go_num,by omega,rfl,by rw[xF];exact a3,fun c hc=>?_,h7,(a2.trans (ai.out.mono a2.size)).setCell (p:=⟨wo.heap.size,b,none⟩) (zD _) _⟩;rw[Mb _ _ _ _ (by omega)];split
          ·rename_i e;subst e;rw[ci.out];unfold DE;rw[Ta,dn.out,zH,HY.out];rfl
          ·exact a4 c (by omega)
      ·obtain rfl:b=256:=by omega
       have e2:decide (((256:Nat):Int)<256)=false:=by simp
       have ak:=HX.out.1.aA bb;obtain⟨_,od,ae,e',_⟩:=P0 ak.x.bP.row;have du:=HX.out.2.ol;have c4:wr.cell? ⟨xb,4,none⟩=some (.slice od OX.length ae):=by rw[<-e'];exact ak.x.aO.cell 4
       have HO:Hid (xo=.slice od OX.length ae):=Hd e';have zx:=ak.x.aO.lt;have fo:wz.heap.size<=wr.heap.size:=ak.kept.size;have dx:(OX.map (fun p:Nat×List Int=>slV 256 p.1)).length+1<=4000000:=by rw[yB,du];omega
       have HA:Hid ((wr.alloc (.cells #[slV 256 wo.heap.size] 68)).ownsRow 0 68 1 (.slice od OX.length ae) (OX.map (fun p:Nat×List Int=>slV 256 p.1)).length (OX.map (fun p:Nat×List Int=>slV 256 p.1))):=by rw[<-e',yB];exact Hd (Vm ak.x.bP.row _)
       have di:Hid (∀x,(Value.slice od OX.length ae).ownBlock=some x->wz.heap.size<=x):=by rw[<-e'];exact Hd ak.o2
       have cg:xf.ownBlock≠some wo.heap.size:=fun e=>by have:=Q1 HX.out.1.x.of _ e;omega
       have HJ:=Hd6 ak hl hv aw bb cg;clear ak hl hv aw bb cg cn bc bk bh bm e' du;go_wp2_with(at_builtin;(refine Kf Tryz.underlying69 Tryz.dP rfl (by omega) (la:=OX.map (fun p:Nat×List Int=>slV 256 p.1)) (ll:=[slV 256 wo.heap.size]) (va:=.slice od OX.length ae) (vl:=.slice (some ⟨wr.heap.size,0,none⟩) 1 1) (by rfl) _ _ (by rfl) (by rfl) (by rfl) HA.out (Lf wr 68 (slV 256 wo.heap.size)) (fun u hu=>by rw[zJ]at hu;rw[hu];rfl) wz.heap.size (by simp;omega) di.out dx ?_));intro v6 w6 r1 r2 r3;obtain⟨d6,m6,a9,rfl⟩:∃d6 m6 a9,v6=.slice d6 m6 a9:=by obtain⟨_,d6,a9,e,_⟩:=P0 r1;exact⟨_,_,_,e⟩
       obtain⟨j1,j2,j3,j4,j5,j6⟩:=HJ.out;have bn:=j1.aA (N0 wr (.cells #[slV 256 wo.heap.size] 68));have b6:Blk w6 xb #[rv,pn,pv,xt,xo,xf] 87:=bn.x.aO.kept r3 (fun e=>by rw[<-HO.out]at e;exact L0 bn.x.bP.row bn.x.aO (by decide) e);have c6:w6.cell? ⟨xb,4,none⟩=some xo:=b6.cell 4;have f6:=b6.frozen 4;have cr:=bn.to (j4.aA (N0 wr (.cells #[slV 256 wo.heap.size] 68))) j2 j6 (by simpa using r1) r2 (by rw[HO.out];exact r3);obtain⟨w7,d9⟩:∃w7,w6.setCell ⟨xb,4,none⟩ (.slice d6 m6 a9)=w7:=⟨_,rfl⟩;rw[d9]at cr;have au:=Hd cr;clear r1 r2 r3 bn b6 cr HA di dx j1 j2 j3 j4 j5 j6;go_upto_region 29 with fail
       try rw[d9]
       clear d9 c6 f6 c4 zx fo;obtain⟨ii,f7,fj,fk,fm⟩:=info_parts Tryz.fB;obtain⟨ij,f8,ff,fh,fi⟩:=info_parts Tryz.cG;obtain⟨ay,bl,_,_⟩:=HW.out w7 au.out.kept;have a8:=HC.out.2.2.1;have a6:T.length=n:=by rw[a8.tl,HN.out]
       obtain⟨g8,fp,t0,tc⟩:=ay.eU (by rw[a6];omega);rw[a6]at t0;have bo:fs<T.length:=by rw[a6];exact c9
       have ct:=tc fs bo;have ec:=a8.size fs bo;have d3:=fun r=>a8.bM fs r bo
       have d5:T.getD (F.getD s 0) noT=T[fs]:=by
        rw[zC (l:=F),zF U,Option.getD_some,ba.out,zC,zF bo,Option.getD_some]
       obtain⟨tx,bq⟩:∃tx,T[fs]=tx:=⟨_,rfl⟩;rw[bq]at ct ec d3 d5;have ev:=Hd d5;have dm:Hid (T[fs]=tx):=Hd bq;have et:=Hd d3;have cf:w7.cell? ⟨fg,s,none⟩=some (.int .i64 fs):=by
        have h9:Q2 w7 (.slice (some ⟨fg,0,none⟩) (Yh F).length a0) (Yh F):=by rw[Zc];exact bl
        have h8:=h9.getD s (by rw[Zc];exact U);rw[Un F U,ba.out]at h8;exact h8
       have s0:(0:Int)<=(s:Int):=by omega
       have s1:(s:Int)<(F.length:Int):=by omega
       have q0:(0:Int)<=(fs:Int):=by omega
       have q1:(fs:Int)<(n:Int):=by omega
       have da:=ay.aO.lt;obtain⟨_,xd,ar,e',_⟩:=P0 au.out.x.txt;have br:=Us T F hs;rw[br]at e';subst e';have k3:w7.cell? ⟨xb,3,none⟩=some (.slice xd s ar):=au.out.x.aO.cell 3;have kf:=au.out.x.aO.frozen 3;have zx:=au.out.x.aO.lt;have am:=au.out.aA (w':=(w7.alloc (.cells #[.string tx] 9)).drew) (T1 (N0 _ _));have ag:=am.x.txt;rw[br]at ag;have dg:=Hd ag;have bf:some xb≠(Value.slice xd s ar).ownBlock:=fun e=>L0 am.x.txt am.x.aO (by decide) e.symm
       have CW:Hid ((w7.alloc (.cells #[.string tx] 9)).drew.cell? ⟨xb,3,none⟩=some (.slice xd s ar)):=Hd (am.x.aO.cell 3);have FW:=Hd (am.x.aO.frozen 3);have de:Hid ((w7.alloc (.cells #[.string tx] 9)).drew.heap[w7.heap.size]?=some (.cells #[.string tx] 9 (0,0))):=Hd (heap_alloc_new w7 (.cells #[.string tx] 9));have ck:Hid (xb<(w7.alloc (.cells #[.string tx] 9)).drew.heap.size):=Hd am.x.aO.lt;have dd:Hid (s+1<=maxLen):=Hd (by unfold maxLen;omega);have ek:Hid ((s+1)*16<=140737488355328):=Hd (by omega);have ej:Hid ((s+1)*8<=140737488355328):=Hd (by omega);have cj:=Hd am;have fn:wz.heap.size<=w7.heap.size:=au.out.kept.size;clear d5 d3 bq a8 a6 tc ay bl br am ag
       go_cut[] (fun wx=>∃bs,XO wz wx xb rv pn pv bs (.slice d6 m6 a9) xf (Dn T F (s+1)) (OX++ [(wo.heap.size,l)]) FX)
       case first=>
        go_region_law ((refine step_append_lies _ (by rfl) _ _ _ (by rfl) 0 9 ii _ 1 16 Tryz.underlying85 f7 fj fk fm rfl (Nat.one_pos) (.slice xd s ar) s ((Dn T F s).map Value.string) (by rfl) dg.out ⟨w7.heap.size,0,none⟩ 1 1 [.string tx] (by rfl) (by rfl) (World.news_of_block (cs:=#[.string tx]) (t:=9) (fr:=(0,0)) de.out) (by simp[Value.oneCell']) (Nat.one_pos) dd.out ek.out (yC _) (w7.heap.size+1) (by simp) ?_;intro gg bg w8 ac B ao e7;have ey:=(B.cell_far ⟨xb,3,none⟩ ck.out bf).trans CW.out;have f0:=(B.frozen_far ⟨xb,3,none⟩ ck.out bf).trans FW.out))
        all_goals
         have ch:=Hd3 ac (D8 (O:=fun b=>(Value.slice xd s ar).ownBlock=some b) B (fun k e=>e)) ao;clear ac B ao;go_wp2_with fail;go_meet;obtain⟨g1,g2,g3⟩:=ch.out;refine⟨.slice (some ⟨gg,0,none⟩) (s+1) bg,?_⟩;rw[ZU T F U,ev.out];refine cj.out.text (by simpa[Us T F hs]using g1) (fun b V=>?_) g2;cases(zE V:gg=b);rcases g3 with e|e
         ·exact cj.out.o1 _ e
         ·omega
       case rest=>
        obtain⟨bs,ab⟩:=hcut;clear dg CW FW de ck cj k3 kf zx t0 ct cf da bf fn;obtain⟨ay,bl,_,_⟩:=HW.out wc ab.kept;have a8:=HC.out.2.2.1;have a6:T.length=n:=by rw[a8.tl,HN.out]
        obtain⟨g9,fq,t0,tc⟩:=ay.eU (by rw[a6];omega);rw[a6]at t0;have ct:=tc fs bo;rw[dm.out]at ct;have cf:wc.cell? ⟨fg,s,none⟩=some (.int .i64 fs):=by
         have h9:Q2 wc (.slice (some ⟨fg,0,none⟩) (Yh F).length a0) (Yh F):=by rw[Zc];exact bl
         have h8:=h9.getD s (by rw[Zc];exact U);rw[Un F U,ba.out]at h8;exact h8
        have da:=ay.aO.lt;have c8:=HX.out.2.fl;obtain⟨ah,Z,e5,_⟩:=ab.x.of.aV;rw[c8]at e5;subst e5;have k5:wc.cell? ⟨xb,5,none⟩=some (.slice ah s Z):=ab.x.aO.cell 5;have kf:=ab.x.aO.frozen 5;have zx:=ab.x.aO.lt;have dt:=en.out wc _ _ _ _ _ _ ab;have eu:Hid (∀W,Bw wc W->Calls Tryz.prog 68 #[.pointer (some ⟨xb,0,none⟩),.string tx] W fun e w'=>∃r,e=.returned (.int .i64 r)/\WE aD (Q0 tx) r/\Bw W w'):=Hd fun W k=>Np xb rs tx f aD W (dt.aA k) ec
        have dk:Hid (∀M,Bw wc M->Blk M xb #[rv,pn,pv,bs,.slice d6 m6 a9,.slice ah s Z] 87):=Hd fun M k=>(ab.aA k).x.aO
        have HQ:Hid (∀M r,Bw wc M->XO wz (M.alloc (.cells #[.int .i64 r] 3)) xb rv pn pv bs (.slice d6 m6 a9) (.slice ah s Z) (Dn T F (s+1)) (OX++ [(wo.heap.size,l)]) FX):=Hd fun M r k=>(ab.aA k).aA (N0 _ _)
        have eo:Hid (∀M r,Bw wc M->(M.alloc (.cells #[.int .i64 r] 3)).ownsRow 0 3 1 (.slice ah s Z) s (Z7 FX)):=Hd fun M r k=>by
         have h1:=(HQ.out M r k).x.of.lF;rw[Ze,c8]at h1;exact h1
        have bf:some xb≠(Value.slice ah s Z).ownBlock:=fun e=>L0 ab.x.of ab.x.aO (by decide) e.symm
        have el:=Hd c8;clear a8 a6 tc ay bl c8 dt ab;go_upto_region 30 with fail
        go_region_law (first
         |(refine step_append_lies _ (by rfl) _ _ _ (by rfl) 0 3 ij _ 1 8 Tryz.underlying68 f8 ff fh fi rfl (Nat.one_pos) (.slice ah s Z) s (Z7 FX) (by rfl) dh.out ⟨M.heap.size,0,none⟩ 1 1 [.int .i64 r] (by rfl) (by rfl) (World.news_of_block (cs:=#[.int .i64 r]) (t:=3) (fr:=(0,0)) df.out) (by simp[Value.oneCell']) (Nat.one_pos) dd.out ej.out (yC _) (M.heap.size+1) (by simp) ?_;intro gg bg w8 ac B ao e7;have ey:=(B.cell_far ⟨xb,5,none⟩ cc.out bf).trans eg.out;have f0:=(B.frozen_far ⟨xb,5,none⟩ cc.out bf).trans eh.out)
         |(go_simp;go_wp2_with(go_at_call 68;refine(eu.out _ (T1 (Below.refl _ _))).mono ?_;rintro e M ⟨r,rfl,hr,dy⟩;have Y:Hid (Bw wc M):=Hd ((T1 (Below.refl _ _)).trans (dy.mono (zD _)));have fy:M.cell? ⟨xb,5,none⟩=some (.slice ah s Z):=(dk.out M Y.out).cell 5;have ga:xb<M.heap.size:=(dk.out M Y.out).lt;have dh:=Hd (eo.out M r Y.out);have df:Hid ((M.alloc (.cells #[.int .i64 r] 3)).heap[M.heap.size]?=some (.cells #[.int .i64 r] 3 (0,0))):=Hd (heap_alloc_new M (.cells #[.int .i64 r] 3));have cc:=Hd (HQ.out M r Y.out).x.aO.lt;have eg:Hid ((M.alloc (.cells #[.int .i64 r] 3)).cell? ⟨xb,5,none⟩=some (.slice ah s Z)):=Hd ((HQ.out M r Y.out).x.aO.cell 5);have eh:=Hd ((HQ.out M r Y.out).x.aO.frozen 5);have er:=Hd hr;clear hr dy)))
        all_goals
         have ch:=Hd5 ac (D8 (O:=fun b=>(Value.slice ah s Z).ownBlock=some b) B (fun k e=>e)) ao er.out Y.out;clear ac B ao;go_wp2_with fail
         go_roundg (F.length- (s+1))
         case measure=>omega
         case rel=>
          obtain⟨g1,g2,g3,g4,g5⟩:=ch.out;have f4:Ea g K F:=StI.fR (by rw[<-HN.out];exact HI.out.1);refine⟨s+1,bs,_,.slice (some ⟨gg,0,none⟩) (s+1) bg,_,FX++ [r],by go_num,by omega,rfl,(HQ.out M r g5).aB ?_ (fun b V=>?_) g2,HX.out.2.next (fun b V=>?_) ?_⟩
          ·refine Q2.fJ ?_;rw[Ze,zL,el.out];simpa[Z7]using g1
          ·cases(zE V:gg=b);rcases g3 with e|e
           ·exact .inl e
           ·right;rw[e];simp
          ·have h1:=HJ.out.2.2.1 b V;have h2:=StI.next (al:=al) HC.out.2.2.2.1 (by rw[<-HN.out];exact HI.out.1) (fun i hi=>H4.out i (by rw[HN.out];exact hi)) U (HC.out.2.2.1.lI b V);rw[ba.out]at h2;rw[h1,h2];rfl
          ·have h1:=f4.aB HC.out.2.2.2.1 U;rw[ba.out]at h1;rw[et.out r g4];exact h1.symm
    ·have e1:decide ((s:Int)<(F.length:Int))=false:=by simp;omega
     have HX:=Hd2 bx bu;clear bx bu;go_wp2_with fail
     go_end0
     obtain⟨b1,b2⟩:=HX.out;have es:s=F.length:=by omega
     subst es;obtain⟨q1,q2,q3⟩:=HI.out;have f3:C0 (fun b=>b=xb) w wr:=(C0.aM q2).trans b1.kept (fun _ _ e=>e);refine⟨rfl,F,_,_,_,OX,FX,(StI.fR (by rw[<-HN.out];exact q1)),⟨b1.x,f3,fun b V=>?_,fun b V=>?_,fun b V=>?_⟩,b2⟩
     ·exact yI q2.size (b1.o1 b V)
     ·exact yI q2.size (b1.o2 b V)
     ·exact yI q2.size (b1.o3 b V)
def Aw(s:ByteArray)(w:World)(b:Nat):Prop:=∀kd g,newF s=.lexer kd g->∃f,P5 w b kd g f/\Dq kd g f
theorem Aw.aA(s:ByteArray)(w w':World)(b:Nat)(h:Aw s w b)(k:Bw w w'):Aw s w' b:=fun kd g G=>by
 obtain⟨f,B,D⟩:=h kd g G;exact⟨f,B.aA k,D⟩
theorem DT{s:ByteArray}(h:120<s.size):newF s=.bad 1 0:=by unfold newF;rw[if_pos h]
theorem DX{s:ByteArray}(h:s.size<=120)(f:(Va s).1=false):newF s=.bad 2 (Va s).2.1:=by unfold newF;rw[if_neg (by omega),if_pos f]
theorem ET{s:ByteArray}(h:s.size<=120)(f:(Va s).1=true)(B:J6 (Va s).2.2 (V0 (Va s).2.2.aJ 256)=none):newF s=.bad 3 0:=by
 unfold newF;rw[if_neg (by omega),if_neg (by simp[f])];unfold N3;rw[B]
theorem RN{s:ByteArray}{g:B0}(h:s.size<=120)(f:(Va s).1=true)(B:J6 (Va s).2.2 (V0 (Va s).2.2.aJ 256)=some g):newF s=.lexer (D3 (Va s).2.2.aJ) (VN g):=by
 unfold newF;rw[if_neg (by omega),if_neg (by simp[f])];unfold N3;rw[B];rfl
theorem TK(s:ByteArray)(h:120<s.size):Wj (Aw s) s:=by
 intro w;rw[DT h];have f:=Hd (Sm s w);have B:decide (s.size<=120)=false:=by simp;omega
 rw[B]at f;clear h B;go_enter Tryz.func12,Tryz.ntmps12;go_wp2_with fail;refine f.out.mono ?_;rintro e D ⟨rfl,rfl⟩;go_wp2_with fail
 go_ret3
 exact⟨Below.refl _ _,rfl⟩
theorem KO(s:ByteArray)(h:s.size<=120)(B:(Va s).1=false):Wj (Aw s) s:=by
 intro w;rw[DX h B];have D:=Hd (Sm s w);have G:decide (s.size<=120)=true:=by simp[h]
 rw[G]at D;have f:=Hd (Ur s w h);rw[MD s,if_neg (by simp[B])]at f;generalize(Va s).2.1=p at f⊢;have M:decide ((0:Int)<=(p:Int))=true:=by simp
 clear h G B;go_enter Tryz.func12,Tryz.ntmps12;go_wp2_with fail;refine D.out.mono ?_;rintro e K ⟨rfl,rfl⟩;go_wp2_with fail;refine f.out.mono ?_;rintro e K ⟨rfl,J⟩;go_wp2_with fail
 go_ret3
 exact⟨J,rfl⟩
theorem SK(s:ByteArray)(hs:s.size<=120)(h2:(Va s).1=true):Wj (Aw s) s:=by
 intro w;obtain⟨X,hX⟩:∃X,newF s=X:=⟨_,rfl⟩;rw[hX];have b5:=Hd hX;clear hX;have HF:=Hd (Sm s w);have e0:decide (s.size<=120)=true:=by simp[hs]
 rw[e0]at HF;have HP:=Hd (Ur s w hs);rw[MD s,if_pos h2]at HP;obtain⟨ts,a5,am⟩:=LZ h2 hs;have B:=RSp.bV ts 0 a5.sp (yC _);have bb:=Hd (fun w=>QG s ts w hs a5.sp);have HS:=Hd5 hs h2 a5 am B;have e1:decide ((0:Int)<= -1)=false:=by simp
 clear hs h2 e0 a5 am B;go_enter Tryz.func12,Tryz.ntmps12;go_wp2_with fail;refine HF.out.mono ?_;rintro e w0 ⟨rfl,c9⟩;obtain rfl:=c9.symm;go_wp2_with fail;refine HP.out.mono ?_;rintro e w1 ⟨rfl,Z⟩;have an:=Hd (bb.out w1);clear bb HP HF;go_wp2_with fail;refine an.out.mono ?_;rintro e h ⟨v,f,rfl,V,a1,az,cc⟩;obtain⟨_,vd,D,rfl,c8⟩:=P0 V.row;have cf:J1 (ntL f)<=1000:=by rw[a1];have:=HS.out.2.2.2.2;have:=HS.out.1;omega
 have J:f≠ []:=by
  intro e;subst e;have:=HS.out.2.2.1.sp;have e2:ts= []:=by simpa[ntL]using a1.symm
  rw[e2]at this;exact this
 have cb:0<f.length:=List.length_pos_iff.2 J;rcases c8 with⟨_,e⟩|⟨vg,vc,rfl,_⟩
 ·omega
 have ae:WfL s (ntL f):=by rw[a1];exact RSp.wf ts 0 HS.out.2.2.1.sp
 have bk:Bw w1 h:=az;have ay:Bw w h:=Z.trans (az.mono Z.size);have bh:NI h.heap.size (h.alloc (.cells #[.slice (some ⟨vg,0,none⟩) f.length D,.int .i64 0,.slice none 0 0,.slice none 0 0,.slice none 0 0,.slice none 0 0] 87)) s h.heap.size (.slice (some ⟨vg,0,none⟩) f.length D) (.slice none 0 0) f 0 0:=
  ⟨Blk.aR _ _ _,Vm V.row _,AtL.kept (ex:=fun _=>False) (C0.aM (N0 _ _)) _ V.cZ (fun _ _ e=>e),World.ownsRow_nil _ _ _ _,fun x hx=>AtL.lt _ V.cZ x hx,fun x hx=>Q1 V.row x hx,zD _,fun x hx=>by simp[Value.ownBlock]at hx⟩
 have bu:Hid (∀x,Xd f x->w.heap.size<=x):=Hd fun x hx=>yI Z.size (V.own x hx).1
 have av:w.heap.size<=h.heap.size:=ay.size;have M:=Hd6 bh ay ae V.bR a1 J;clear bh ay ae a1 J V Z az bk an;go_wp2_with fail
 go_loopg[8] f.length (fun G rv wr=>∃(r:Nat) (pv:Value),rv=.int .i64 r/\r<=f.length/\G=f.length-r/\NI h.heap.size wr s h.heap.size (.slice (some ⟨vg,0,none⟩) f.length D) pv f r r/\Bw w wr)
 case atStart=>exact⟨0,_,rfl,by omega,rfl,M.out.1,M.out.2.1.alloc M.out.2.1.size _⟩
 case round=>
  obtain⟨r,pv,rfl,hr,rfl,hI,hB⟩:=hrel;have c0:wr.cell? ⟨h.heap.size,0,none⟩=some (.slice (some ⟨vg,0,none⟩) f.length D):=hI.aO.cell 0;have zx:=hI.aO.lt
  by_cases a0:r<f.length
  ·have e2:decide ((r:Int)<(f.length:Int))=true:=by simp;omega
   have cg:wr.cell? ⟨vg,r,none⟩=some (.pointer (some ⟨f[r].aL,0,none⟩)):=by rw[Y0 hI.row r (by omega)];simp[Q5,a0]
   have r0:(0:Int)<=(r:Int):=by omega
   have r1:(r:Int)<(f.length:Int):=by omega
   have c1:wr.cell? ⟨h.heap.size,1,none⟩=some (.int .i64 ((J1 (ntL (f.take r)):Nat):Int)):=hI.aO.cell 1;have f1:=hI.aO.frozen 1;have c5:J1 (ntL (f.take (r+1)))=J1 (ntL (f.take r))+f[r].nt.aH:=by rw[show f.take (r+1)=f.take r++ [f[r]]from(yL a0).symm,Pm]
   have ab:J1 (ntL (f.take (r+1)))<=J1 (ntL f):=by
    have:=L7 (ntL (f.take (r+1))) (ntL (f.drop (r+1)));have e:ntL f=ntL (f.take (r+1))++ntL (f.drop (r+1)):=by rw[Sb,Sb,Sb,<-zV,yV]
    rw[e,this];omega
   have aa:=zG a0;have ah:Hid (∀W,Bw wr W->Calls Tryz.prog 29 #[.pointer (some ⟨f[r].aL,0,none⟩),.int .i64 ((J1 (ntL (f.take r)):Nat):Int)] W fun e w'=>e=.returned (.int .i64 ((J1 (ntL (f.take r))+f[r].nt.aH:Nat):Int))/\(∀U:MT,U.At W s (Hg (f.take r) 0 N9)->U.At w' s (f[r].num (J1 (ntL (f.take r))) (Hg (f.take r) 0 N9)))/\C0 (fun x=>x∈f[r].blks) W w'):=
    Hd fun W k=>JQ f[r] W s _ _ ((Bd f).1 (hI.aA k).cQ _ aa) (by omega)
   have c4:J1 (ntL (f.take r))+f[r].nt.aH<=1000:=by omega
   have HI:=Hd2 hI hB;have a6:Hid (∀w5,C0 (fun x=>x∈f[r].blks) wr.drew w5->Blk w5 h.heap.size #[.slice (some ⟨vg,0,none⟩) f.length D,.int .i64 ((J1 (ntL (f.take r)):Nat):Int),pv,.slice none 0 0,.slice none 0 0,.slice none 0 0] 87):=Hd fun w5 k=>(hI.aA (H6 wr)).aO.kept k (fun hx=>by
    have:=hI.jK _ ((Wc f _).2 ⟨f[r],aa,MT.cJ _ _ hx⟩);omega)
   clear hI hB c5 ab;obtain⟨rt,br⟩:∃rt,f[r].aL=rt:=⟨_,rfl⟩;obtain⟨pn,a2⟩:∃pn,J1 (ntL (f.take r))=pn:=⟨_,rfl⟩;obtain⟨pm,ad⟩:∃pm,f[r].nt.aH=pm:=⟨_,rfl⟩;have ba:=Hd a2;have b9:=Hd ad;rw[a2]at c1 a6;rw[a2,ad]at ah c4;rw[br]at ah cg;clear a2 ad br;go_upto_region 11 with fail
   go_cut[] (fun wx=>NI h.heap.size wx s h.heap.size (.slice (some ⟨vg,0,none⟩) f.length D) pv f (r+1) r/\Bw w wx)
   case first=>
    go_region_with (go_at_call 29;refine(ah.out _ (T1 (Below.refl _ _))).mono ?_;rintro e w5 ⟨rfl,bi,a9⟩;have q1:w5.cell? ⟨h.heap.size,1,none⟩=some (.int .i64 pn):=(a6.out w5 a9).cell 1;have q2:=(a6.out w5 a9).frozen 1;have q3:=(a6.out w5 a9).lt;have bw:=Hd2 bi a9;clear bi a9)
    all_goals
     go_wp2_with fail;go_meet;obtain⟨u1,u2⟩:=bw.out;have u3:=(HI.out.1.aA (H6 wr)).num a0 (by rw[ba.out];exact u1) u2;rw[ba.out,b9.out]at u3;refine⟨u3,(C3 (T1 HI.out.2) u2 HI.out.2.size (fun x hx hb=>?_)).setCell (p:=⟨h.heap.size,1,none⟩) av _⟩;have:=bu.out x ((Wc f x).2 ⟨f[r],aa,MT.cJ _ _ hb⟩);omega
   case rest=>
    obtain⟨Y,bd⟩:=hcut;clear ah a6 c1 f1 cg c0 zx HI;have c0:wc.cell? ⟨h.heap.size,0,none⟩=some (.slice (some ⟨vg,0,none⟩) f.length D):=Y.aO.cell 0;have zx:=Y.aO.lt;have cg:wc.cell? ⟨vg,r,none⟩=some (.pointer (some ⟨f[r].aL,0,none⟩)):=by rw[Y0 Y.row r (by omega)];simp[Q5,a0]
    have ak:=MT.gJ f[r] ((BF (ntL f)).1 M.out.2.2.1 _ (by rw[Sb];exact List.mem_map_of_mem aa));have bl:(match f[r]with|.place ..=>True|.node _ _ k _=>0<k):=by
     cases hh:f[r]with
     |place=>trivial
     |node b v k l=>rw[hh]at ak;simp only[MT.KindOk]at ak;show 0<k;omega
    have b7:=Hd (NX f[r] ak wc s _ ((Bd f).1 Y.cQ _ aa) bl (by rw[b9.out];omega));obtain⟨_,pd,a3,e',_⟩:=P0 Y.bL;subst e';have bt:(plL (f.take r)).length+f[r].pl.length<=1000:=by
     have h1:=Qr f;have e:f=f.take (r+1)++f.drop (r+1):=(yV _ _).symm;have c7:plL (f.take (r+1))=plL (f.take r)++f[r].pl:=by rw[(yL a0).symm,Ef];simp[plL]
     rw[e,Ef,c7]at h1;rw[<-e]at h1;simp only[zL]at h1;omega
    have ax:=Hd2 Y bd;clear Y bd ak bl;go_wp2_with fail;refine b7.out.mono ?_;rintro e w5 ⟨v1,rfl,q1,q2,q3⟩;have a4:=ax.out.1.aA q3;have be:Bw w w5:=ax.out.2.trans (q3.mono ax.out.2.size);have c2:w5.cell? ⟨h.heap.size,2,none⟩=some (.slice pd (plL (f.take r)).length a3):=a4.aO.cell 2;have z5:=a4.aO.lt;have bj:w5.ownsRow 0 89 1 (.slice pd (plL (f.take r)).length a3) ((plL (f.take r)).map MT.aL).length (Q5 ((plL (f.take r)).map MT.aL)):=by rw[yB];exact a4.bL
    have Z:w5.ownsRow 0 89 1 v1 (f[r].pl.map MT.aL).length (Q5 (f[r].pl.map MT.aL)):=by rw[yB];exact q1
    have au:((plL (f.take r)).map MT.aL).length+(f[r].pl.map MT.aL).length<=4000000:=by rw[yB,yB];omega
    have bm:h.heap.size<=w5.heap.size:=by omega
    have af:=Hd3 bj Z a4.kJ;have H5:=Hd2 a4 be;clear bj Z a4 be q1 q2 q3 b7 cg c0;generalize aq:(plL (f.take r)).length=pll at c2 af bt H5;have b8:=Hd aq;clear aq;go_wp2_with(at_builtin;(refine CC (la:=(plL (f.take r)).map MT.aL) (ll:=f[r].pl.map MT.aL) (va:=.slice pd pll a3) (vl:=v1) (by rfl) _ _ (by rfl) (by rfl) (by rfl) af.out.1 af.out.2.1 h.heap.size bm af.out.2.2 au ?_));intro v6 w6 r1 r2 r3;obtain⟨d6,m6,a7,e6,ce⟩:∃d6 m6 a7,v6=.slice d6 m6 a7/\m6<=1000:=by
     obtain⟨_,d6,a7,e,_⟩:=P0 r1;exact⟨_,_,_,e,by rw[b8.out];exact bt⟩
    subst e6;have b6:=H5.out.1.aO.kept r3 (fun e=>L0 H5.out.1.bL H5.out.1.aO (by decide) e);have c6:w6.cell? ⟨h.heap.size,2,none⟩=some (.slice pd pll a3):=b6.cell 2;have f6:=b6.frozen 2;have z6:=b6.lt;have HR:=Hd2 (H5.out.1.lH a0 (by simpa using r1) r2 r3) (C3 H5.out.2 r3 H5.out.2.size (fun x hx e=>by have:=H5.out.1.kJ x e;omega));clear r1 r2 r3 b6 au;go_wp2_with fail
    go_roundg (f.length- (r+1))
    case measure=>omega
    case rel=>exact⟨r+1,_,by go_num,by omega,rfl,HR.out.1,HR.out.2.setCell (p:=⟨h.heap.size,2,none⟩) av _⟩
  ·obtain rfl:r=f.length:=by omega
   have e2:decide ((f.length:Int)<(f.length:Int))=false:=by simp
   obtain⟨k1,k2,ae,bo,a1,J⟩:=M.out;obtain⟨hs,h2,a5,am,B⟩:=HS.out;obtain⟨l1,l2,l3⟩:=hI.eQ bo ae hs (by omega) J;have bq:(Rr s f).length<=1000:=by rw[OK];have:=Qr f;omega
   have b4:=Hd (MN (Rr s f) h.heap.size wr l2 bq);have HL:=Hd3 l1 l3 hB;clear hI hB l1 l2 l3 k1 k2 ae bo a1 J hs h2 a5 am B bq;go_wp2_with fail;refine b4.out.mono ?_;rintro e w3 ⟨v3,ca,rfl,ar,ao,ap,_,b0⟩;have bg:MV w3 h.heap.size s _ f ts _ v3 ca:=⟨HL.out.1.aA b0,M.out.2.2.2.2.1,HS.out.2.2.1,ar,ao,fun b hb=>by
    obtain⟨k,q1,q2⟩:=ap b hb;exact⟨k,q1,Ab5 M.out.2.2.2.2.1 HS.out.2.2.2.1 q2⟩⟩
   have aw:=Hd (RK _ _ _ _ _ _ _ _ _ bg);have ag:=Hd b0;clear ar ao ap b0 bg b4;go_wp2_with fail;refine aw.out.mono ?_;rintro e w4 ⟨v4,rfl,bp,a8⟩;have ai:Bw w w4:=(HL.out.2.2.trans (ag.out.mono HL.out.2.2.size)).trans (a8.mono (yI HL.out.2.2.size ag.out.size));rcases bp with⟨rfl,ac⟩|⟨fb,tv,sv,ov,T,S,To,PS,g,rfl,bf,aj,K⟩
   ·have HE:=Hd2 ac ai;clear ac ai a8 aw;go_wp2_with fail
    go_ret3
    rw[<-b5.out,ET HS.out.1 HS.out.2.1 HE.out.1];exact⟨HE.out.2,rfl⟩
   ·have b1:=aj.gp HS.out.2.2.1 M.out.2.2.2.2.1 K;have b3:=aj.lB K;have bc:=Hd (FB h.heap.size fb _ _ s _ f tv sv ov T S To g _ _ w4 ((HL.out.1.aA ag.out).aA a8) bf b1 b3 rfl _ _ _ ((HL.out.2.1.aA ag.out).aA a8));have HE:=Hd5 K ai b3 b1 aj;clear K ai a8 aw b1 b3 bf aj;go_wp2_with fail;refine bc.out.mono ?_;rintro e w5 ⟨rfl,bs⟩;have bv:=Hd bs;clear bs bc;go_wp2_with fail
    go_ret3
    obtain⟨F,xt,xo,xf,OX,FX,o1,o2,o3⟩:=bv.out;obtain⟨d1,d2,d3,d4,d5⟩:=HE.out;have b2:=RN HS.out.1 HS.out.2.1 d1;have ab:=o1.len d3;have c3:=Hp b2;refine⟨C3 d2 o2.kept d2.size (fun x hx e=>by omega),?_⟩;rw[<-b5.out,b2];refine⟨h.heap.size,rfl,fun ch g' bn=>?_⟩;rw[b2]at bn
    injection bn with n1 n2
    subst n1 n2;refine⟨Dn T F F.length,⟨⟨_,_,_,_,_,_,OX,FX,o2.x,?_⟩,?_,?_,c3.2⟩,d5.bO o1 d3 rfl d4.tl.symm⟩
    ·have e9:(VN g).aB.length=F.length:=ab.symm;rw[e9];exact o3
    ·rw[Us T F (zD _)];exact ab
    ·have e9:(VN g).aB.length=F.length:=ab.symm;rw[e9];have bz:0∈F:=(o1.mem 0).2 ⟨⟨d4.cV.1,.inl rfl⟩,fun b hb=>by omega⟩;have cd:=Wg g.aB.length F (o1.bJ.imp (fun bx=>Nat.ne_of_lt bx)) (fun x hx=>((o1.mem x).1 hx).1.1);have:=d4.cV.2;exact⟨List.length_pos_of_mem bz,by omega⟩
theorem Mz(s:ByteArray):Wj (Aw s) s:=by
 by_cases h:120<s.size
 ·exact TK s h
 ·by_cases f:(Va s).1=true
  ·exact SK s (by omega) f
  ·exact KO s (by omega) (by simpa using f)
structure Vw(w:World)(pb xb yb:Nat)(kd:Nat->Nat)(g:B0)(TX:List ByteArray):Prop where
 aO:Blk w pb #[.pointer (some ⟨xb,0,none⟩),.pointer (some ⟨yb,0,none⟩)] 43
 eQ:W7 w xb kd g
 ok:N7 kd g
 eV:P5 w yb kd g TX
 txt:Dq kd g TX
theorem Vw.aA{w w':World}{a b c:Nat}{kd:Nat->Nat}{g:B0}{T:List ByteArray}(h:Vw w a b c kd g T)(k:Bw w w'):Vw w' a b c kd g T:=⟨h.aO.aA k,h.eQ.eM k,h.ok,h.eV.aA k,h.txt⟩
theorem MZ(V xb Y:Nat)(kd:Nat->Nat)(g:B0)(TX:List ByteArray)(s:Int)(w:World)(h:Vw w V xb Y kd g TX):
  Calls Tryz.prog 53 #[.pointer (some ⟨V,0,none⟩),.int .i64 s] w fun e w'=>e=.returned (.bool true)/\Bw w w':=by
 have HP:=Hd h;have c0:w.cell? ⟨V,0,none⟩=some (.pointer (some ⟨xb,0,none⟩)):=h.aO.cell 0;have c1:w.cell? ⟨V,1,none⟩=some (.pointer (some ⟨Y,0,none⟩)):=h.aO.cell 1;have zb:=h.aO.lt;have M:Hid (∀W,Bw w W->Calls Tryz.prog 84 #[.pointer (some ⟨xb,0,none⟩),.int .i64 s] W fun e w'=>e=.returned (.int .i64 (M0 g s))/\w'=W):=Hd fun W k=>UJ xb kd g s W (h.eQ.eM k)
 have U:Hid (∀W,Bw w W->Calls Tryz.prog 76 #[.pointer (some ⟨Y,0,none⟩),.int .i64 s] W fun e w'=>e=.returned (.int .i64 (M0 g s))/\w'=W):=Hd fun W k=>Yf Y kd g TX s W (h.eV.aA k)
 generalize M0 g s=R at M U;have eR:((R:Int) !=R)=false:=by simp
 clear h;go_enter Tryz.func53,Tryz.ntmps53;go_upto_region 1 with fail
 go_cut[20] (fun bv wx=>bv=.bool false/\wx=w.drew)
 case first=>
  go_region_with (first
   |(go_at_call 84;refine(M.out _ (T1 (Below.refl _ _))).mono ?_;rintro e w5 ⟨rfl,rfl⟩)
   |(go_at_call 76;refine(U.out _ (T1 (Below.refl _ _))).mono ?_;rintro e w5 ⟨rfl,rfl⟩))
  all_goals
   go_wp2_with fail;go_meet;exact⟨by simp,rfl⟩
 case rest=>
  obtain⟨rfl,rfl⟩:=hcut;clear M U eR c0 c1;go_wp2_with fail
  go_loopg[5] 258 (fun G bv wr=>∃k:Nat,bv=.int .i64 ((k:Int)-1)/\k<=258/\G=258-k/\Bw w wr)
  case atStart=>exact⟨0,by simp,by omega,rfl,T1 (Below.refl _ _)⟩
  case round=>
   obtain⟨k,rfl,hk,rfl,hB⟩:=hrel
   by_cases a4:k<258
   ·have e0:decide ((k:Int)-1<=256)=true:=by simp;omega
    have D:=HP.out.aA hB;have c0:wr.cell? ⟨V,0,none⟩=some (.pointer (some ⟨xb,0,none⟩)):=D.aO.cell 0;have a5:=D.aO.lt;obtain⟨b,hb⟩:∃b:Int,(k:Int)-1=b:=⟨_,rfl⟩;have HB:=Hd hb;rw[hb]at e0⊢;have J:=Hd (TJ xb kd g s b wr D.eQ D.ok);have K:Hid (∀W,Bw wr W->Calls Tryz.prog 86 #[.pointer (some ⟨Y,0,none⟩),.int .i64 s,.int .i64 b] W fun e w'=>e=.returned (.int .i64 (X0 kd g s b))/\Bw W w'):=Hd fun W q=>Ic Y kd g TX s b W (D.eV.aA q)
    have a0:Hid (∀W,Bw wr W->W.cell? ⟨V,1,none⟩=some (.pointer (some ⟨Y,0,none⟩))/\V<W.heap.size):=Hd fun W q=>⟨(D.aO.aA q).cell 1,(D.aO.aA q).lt⟩
    generalize X0 kd g s b=X at J K;have eX:((X:Int) !=X)=false:=by simp
    have f:=Hd hB;have B:-1<=b/\b<=256:=by omega
    clear hB D hb;go_wp2_with fail;refine J.out.mono ?_;rintro e w1 ⟨rfl,B⟩;obtain⟨d1,d2⟩:=a0.out w1 B;have a1:=Hd (K.out w1 B);have Z:=Hd B;clear B J K a0;go_wp2_with fail;refine a1.out.mono ?_;rintro e w2 ⟨rfl,a2⟩;have a3:=Hd a2;clear a2 a1;go_wp2_with fail
    go_roundg (258- (k+1))
    case measure=>omega
    case rel=>
     refine⟨k+1,?_,by omega,rfl,(f.out.trans (Z.out.mono f.out.size)).trans (a3.out.mono (yI f.out.size Z.out.size))⟩;have:=HB.out
     first
     |go_num
     |(congr 1;omega)
   ·have e0:decide ((k:Int)-1<=256)=false:=by simp;omega
    have f:=Hd hB;clear hB;go_wp2_with fail;go_ret;exact⟨rfl,f.out⟩
theorem TU(J xb V:Nat)(kd:Nat->Nat)(g:B0)(X:List ByteArray)(w:World)(h:Vw w J xb V kd g X):
  Calls Tryz.prog 22 #[.pointer (some ⟨J,0,none⟩)] w fun e w'=>e=.returned (.bool true)/\Bw w w':=by
 have HP:=Hd h;have c0:w.cell? ⟨J,0,none⟩=some (.pointer (some ⟨xb,0,none⟩)):=h.aO.cell 0;have c1:w.cell? ⟨J,1,none⟩=some (.pointer (some ⟨V,0,none⟩)):=h.aO.cell 1;have zb:=h.aO.lt;obtain⟨zy,⟨tg,Z,c3,_⟩,_⟩:=h.eV.cells;have M:=Hd (CA xb kd g w h.eQ);have hn:=h.eV.bE;generalize g.aB.length=n at c3 M hn;have eN:((n:Int) !=(n:Int))=false:=by simp
 clear h;go_enter Tryz.func22,Tryz.ntmps22;go_wp2_with fail;refine M.out.mono ?_;rintro e w1 ⟨rfl,rfl⟩;clear M;go_wp2_with fail
 go_loopg[4] (n+2) (fun G bv wr=>∃k:Nat,bv=.int .i64 ((k:Int)-1)/\k<=n+2/\G=n+2-k/\Bw w1 wr)
 case atStart=>exact⟨0,by simp,by omega,rfl,Below.refl _ _⟩
 case round=>
  obtain⟨k,rfl,hk,rfl,B⟩:=hrel
  by_cases a1:k<n+2
  ·have Y:decide ((k:Int)-1<=(n:Int))=true:=by simp;omega
   obtain⟨b,U⟩:∃b:Int,(k:Int)-1=b:=⟨_,rfl⟩;have HB:=Hd U;rw[U]at Y⊢;have W:=Hd (MZ J xb V kd g X b wr (HP.out.aA B));have f:=Hd B;have a0:-1<=b/\b<=61:=by omega
   clear B U;go_wp2_with fail;refine W.out.mono ?_;rintro e w2 ⟨rfl,D⟩;have K:=Hd D;clear D W;go_wp2_with fail
   go_roundg (n+2- (k+1))
   case measure=>omega
   case rel=>
    refine⟨k+1,?_,by omega,rfl,f.out.trans (K.out.mono f.out.size)⟩;have:=HB.out
    first
    |go_num
    |(congr 1;omega)
  ·have Y:decide ((k:Int)-1<=(n:Int))=false:=by simp;omega
   have f:=Hd B;clear B;go_wp2_with fail;go_ret;exact⟨rfl,f.out⟩
theorem OS(w:World):Calls Tryz.prog 6 #[] w fun e w'=>e=.returned (.bool true)/\Bw w w':=BZ (Aw Zf) (Aw.aA Zf) (Mz Zf) w
def Ac3(w':World)(e:Ending):FR->Prop
 |.bad c a=>e=.returned (.tuple #[.pointer none,.bool true])
 |.lexer kd g=>∃f xb B h,e=.returned (.tuple #[.pointer (some ⟨f,0,none⟩),.bool true])/\Vw w' f xb B kd g h
theorem ZW(s:ByteArray)(V:s.size<=maxLen)(w:World):Calls Tryz.prog 7 #[.string s] w fun e w'=>Bw w w'/\Ac3 w' e (newF s):=
 (AX (Aw s) (Aw.aA s) s V (Mz s) w).mono fun e w' h=>by
  refine⟨h.1,?_⟩;have f:=h.2;cases hX:newF s with
  |bad c a=>rw[hX]at f;exact f
  |lexer kd g=>
   rw[hX]at f;obtain⟨W,xb,X,D,G,J,K⟩:=f;obtain⟨B,M,U⟩:=K kd g hX;exact⟨W,xb,X,B,D,G,J,(Hp hX).1,M,U⟩
end Go.Proofs.YtcckhngbdoiikabGreat
