import Derived.Test.YtcckhngbdoiikabGreatA02
set_option maxRecDepth 20000
set_option maxHeartbeats 12800000
set_option linter.unusedVariables false
namespace Go.Proofs.YtcckhngbdoiikabGreat
def YQ(R:E0)(s:I0)(x:Nat):I0:=(R.after s).and (R.aJ x)
def Kb(R:E0):List Nat->I0
 | []=>I0.none
 |x::w=>w.foldl (YQ R) (R.first.and (R.aJ x))
theorem Du(R:E0)(x:Nat):∀(w:List Nat),w≠ []->Kb R (w++ [x])=YQ R (Kb R w) x
 | [],h=>absurd rfl h
 |y::w,_=>by simp[Kb]
theorem Zz(R:E0)(q:Nat)(w:List Nat):w≠ []->((Kb R w).has q=true↔∃p,R.first.has p=true/\V2 R.F R.A p w q):=by
 generalize V:w.length=n
 induction n using Nat.strongRecOn generalizing w q with
 |ind n ih=>
  intro K;obtain⟨u,x,rfl⟩:∃u x,w=u++ [x]:=⟨w.dropLast,w.getLast K,(List.dropLast_concat_getLast K).symm⟩
  by_cases f:u= []
  ·subst f;show((R.first.and (R.aJ x)).has q=true)↔_;rw[Xq,yK];constructor
   ·rintro⟨h,B⟩;exact⟨q,h,B,rfl⟩
   ·rintro⟨p,h,B,rfl⟩;exact⟨h,B⟩
  ·rw[Du R x u f];unfold YQ;rw[Xq,yK,XB];simp at V;constructor
   ·rintro⟨⟨i,h,B⟩,D⟩;obtain⟨p,G,J⟩:=(ih u.length (by omega) i u rfl f).1 h;exact⟨p,G,(V2.kC f).2 ⟨⟨i,J,B⟩,D⟩⟩
   ·rintro⟨p,G,J⟩;obtain⟨⟨i,M,U⟩,D⟩:=(V2.kC f).1 J;exact⟨⟨i,(ih u.length (by omega) i u rfl f).2 ⟨p,G,M⟩,U⟩,D⟩
theorem Jy:∀(l:List I0) (s:I0),H9 l s<l.length->l.getD (H9 l s) I0.none=s
 | [],s,h=>by simp at h
 |x::r,s,h=>by
  unfold H9 at h⊢;split
  ·rename_i e;simpa using e
  ·rename_i e;rw[if_neg e]at h;simp at h;simpa using Jy r s h
theorem DJ:∀(l:List I0) (s:I0),H9 l s=l.length->s∉l
 | [],s,_=>by simp
 |x::r,s,h=>by
  unfold H9 at h;split at h
  ·simp at h
  ·rename_i e;simp at h;have:=DJ r s h;simp;exact⟨fun f=>e f.symm,this⟩
theorem Bc(al:Nat->I0)(b:Nat):∀d,V0 al b<+:V0 al (b+d)
 |0=>List.prefix_refl _
 |d+1=>by
  refine(Bc al b d).trans ?_;show V0 al (b+d)<+:(if H9 (V0 al (b+d)) (al (b+d))=(V0 al (b+d)).length then V0 al (b+d)++ [al (b+d)]else V0 al (b+d));split
  ·exact List.prefix_append _ _
  ·exact List.prefix_refl _
theorem V8{l m:List I0}(h:l<+:m){k:Nat}(f:k<l.length):m.getD k I0.none=l.getD k I0.none:=by
 obtain⟨r,rfl⟩:=h;rw[zC,zR f,<-zC]
theorem Af(al:Nat->I0)(b n:Nat)(h:b<n):D3 al b<(V0 al n).length/\(V0 al n).getD (D3 al b) I0.none=al b:=by
 have B:V0 al (b+1)<+:V0 al n:=by
  have:=Bc al (b+1) (n- (b+1))
  rwa [show b+1+(n- (b+1))=n by omega]at this
 have G:=Fi (V0 al b) (al b);have e:V0 al (b+1)=(if H9 (V0 al b) (al b)=(V0 al b).length then V0 al b++ [al b]else V0 al b):=rfl;have f:D3 al b<(V0 al (b+1)).length/\(V0 al (b+1)).getD (D3 al b) I0.none=al b:=by
  unfold D3;rw[e];split
  ·rename_i D;rw[D];simp
  ·exact⟨by omega,Jy _ _ (by omega)⟩
 refine⟨by have:=B.length_le;omega,?_⟩;rw[V8 B f.1,f.2]
def Gt(f:List I0)(h:Int)(s:I0):Prop:=(s.isEmpty=true/\h= -1)\/(s.isEmpty=false/\∃m:Nat,h=(m:Int)/\m<f.length/\f.getD m I0.none=s)
theorem Gt.mono{l m:List I0}{B:Int}{s:I0}(h:Gt l B s)(f:l<+:m):Gt m B s:=by
 rcases h with h|⟨D,k,G,J,K⟩
 ·exact .inl h
 ·exact .inr ⟨D,k,G,by have:=f.length_le;omega,by rw[V8 f J,K]⟩
theorem Xg(f:I0):∀(h B:List I0),B<+:(P8 f h B).2/\(P8 f h B).1.length=h.length/\∀k,k<h.length->Gt (P8 f h B).2 ((P8 f h B).1.getD k 0) (f.and (h.getD k I0.none))
 | [],B=>⟨List.prefix_refl _,rfl,fun k G=>by simp at G⟩
 |x::r,B=>by
  unfold P8;simp only;have D:=Xg f r (if C6 B (f.and x)=(B.length:Int)then B++ [f.and x]else B);have U:B<+:(if C6 B (f.and x)=(B.length:Int)then B++ [f.and x]else B):=by
   split
   ·exact List.prefix_append _ _
   ·exact List.prefix_refl _
  refine⟨U.trans D.1,by simp[D.2.1],fun k G=>?_⟩;cases k with
  |zero=>
   simp only[List.getD_cons_zero];refine Gt.mono (l:=(if C6 B (f.and x)=(B.length:Int)then B++ [f.and x]else B)) ?_ D.1;unfold C6;cases he:(f.and x).isEmpty with
   |true=>exact .inl ⟨he,by simp⟩
   |false=>
    simp only[zX,if_false];refine .inr ⟨he,H9 B (f.and x),rfl,?_⟩;have M:=Fi B (f.and x)
    by_cases K:(H9 B (f.and x):Int)=(B.length:Int)
    ·rw[if_pos K];have J:H9 B (f.and x)=B.length:=by omega
     rw[J];simp
    ·rw[if_neg K];exact⟨by omega,Jy _ _ (by omega)⟩
  |succ k=>
   simp only[List.getD_cons_succ];exact D.2.2 k (by simpa using G)
structure KV(R:E0)(kinds aI:List I0)(g:B0)(i:Nat):Prop where
 rl:g.aB.length=i
 nl:g.next.length=i
 zero:0<aI.length/\aI.getD 0 I0.none=I0.none
 aB:∀j,j<i->g.aB.getD j 0=R.aB (aI.getD j I0.none)
 row:∀j,j<i->(g.next.getD j []).length=kinds.length
 next:∀j,j<i->∀k,k<kinds.length->Gt aI ((g.next.getD j []).getD k 0) ((if 0<j then R.after (aI.getD j I0.none)else R.first).and (kinds.getD k I0.none))
theorem M5{α:Type}(l:List α)(x d:α)(j:Nat):(l++ [x]).getD j d=if j<l.length then l.getD j d else if j=l.length then x else d:=by
 rw[zC,List.getElem?_append];split
 ·rw[<-zC]
 ·split
  ·rename_i h f;rw[f];simp
  ·rename_i h f;have:j-l.length≠0:=by omega
   obtain⟨m,B⟩:=Nat.exists_eq_succ_of_ne_zero this;rw[B];simp
theorem Gj(R:E0)(f:List I0):∀(n i:Nat) (B:List I0) (g J:B0),F4 R f n i B g=some J->KV R f B g i->i<=B.length->∃D,KV R f D J D.length
 |0,i,B,g,J,h,_,_=>by simp[F4]at h
 |n+1,i,B,g,J,h,ho,hi=>by
  unfold F4 at h
  by_cases U:i<B.length
  ·rw[if_pos U]at h;generalize M:(if 0<i then R.after (B.getD i I0.none)else R.first)=aft at h;have G:=Xg aft f B;generalize X:P8 aft f B=r at h G;simp only at h;split at h
   ·cases h
   ·have Y:=G.1.length_le;refine Gj R f n (i+1) _ _ J h ?_ (by omega);refine⟨by simp[ho.rl],by simp[ho.nl],⟨by omega,by rw[V8 G.1 ho.zero.1];exact ho.zero.2⟩,fun j V=>?_,fun j V=>?_,fun j V k W=>?_⟩
    ·rw[M5,ho.rl];split
     ·rename_i K;rw[ho.aB j K,V8 G.1 (by omega)]
     ·rw[if_pos (by omega),show j=i by omega]
    ·rw[M5,ho.nl];split
     ·rename_i K;exact ho.row j K
     ·rw[if_pos (by omega)];exact G.2.1
    ·rw[M5,ho.nl];split
     ·rename_i K;rw[V8 G.1 (by omega:j<B.length)];exact(ho.next j K k W).mono G.1
     ·rw[if_pos (by omega),V8 G.1 (by omega:j<B.length),show j=i by omega,M];exact G.2.2 k W
  ·rw[if_neg U]at h;cases h;have:i=B.length:=by omega
   subst this;exact⟨B,ho⟩
theorem VA{R:E0}{f:List I0}{g:B0}(h:J6 R f=some g):∃B,KV R f B g B.length:=
 Gj R f 63 0 [I0.none] B0.aR g h ⟨rfl,rfl,⟨by simp,rfl⟩,fun j D=>by omega,fun j D=>by omega,fun j D=>by omega⟩ (by simp)
def W0(g:B0)(s:Int)(k:Nat):Int:=if s<0 then -1 else(g.next.getD s.toNat []).getD k 0
def A3(g:B0)(s:Int)(f:List Nat):Int:=f.foldl (W0 g) s
def Z4(g:B0)(s:Int):Int:=if s<0 then -1 else g.aB.getD s.toNat 0
theorem S9(g:B0):∀(f:List Nat) (s:Int),s<0->A3 g s f=if f= []then s else -1
 | [],s,h=>rfl
 |k::f,s,h=>by
  show A3 g (W0 g s k) f=_;have e:W0 g s k= -1:=by unfold W0;rw[if_pos h]
  rw[e,S9 g f (-1) (by omega)];simp
theorem QI{R:E0}{f B:List I0}{g:B0}(U:KV R f B g B.length)(hk:∀b,b<256->D3 R.aJ b<f.length/\f.getD (D3 R.aJ b) I0.none=R.aJ b)(w:List Nat):
  w≠ []->(∀x∈w,x<256)->((A3 g 0 (w.map (D3 R.aJ))= -1/\(Kb R w).isEmpty=true)\/∃m:Nat,A3 g 0 (w.map (D3 R.aJ))=(m:Int)/\0<m/\m<B.length/\B.getD m I0.none=Kb R w):=by
 generalize hn:w.length=n
 induction n using Nat.strongRecOn generalizing w with
 |ind n ih=>
  intro X Y;obtain⟨u,x,rfl⟩:∃u x,w=u++ [x]:=⟨w.dropLast,w.getLast X,(List.dropLast_concat_getLast X).symm⟩;have W:=hk x (Y x (by simp));have J:∀(j:Nat),j<B.length->∀s,(if 0<j then R.after (B.getD j I0.none)else R.first).and (R.aJ x)=s->((W0 g (j:Int) (D3 R.aJ x)= -1/\s.isEmpty=true)\/∃m:Nat,W0 g (j:Int) (D3 R.aJ x)=(m:Int)/\0<m/\m<B.length/\B.getD m I0.none=s):=by
   intro j hj s hs;have G:=U.next j hj (D3 R.aJ x) W.1;rw[W.2,hs]at G;unfold W0;rw[if_neg (by omega),zH];rcases G with⟨h,D⟩|⟨h,m,D,K,M⟩
   ·exact .inl ⟨D,h⟩
   ·refine .inr ⟨m,D,?_,K,M⟩;refine Nat.pos_of_ne_zero fun e=>?_
    rw[e,U.zero.2]at M;rw[<-M]at h;cases h
  by_cases V:u= []
  ·subst V;exact J 0 U.zero.1 _ rfl
  ·simp at hn;have hi:=ih u.length (by omega) u rfl V (fun y hy=>Y y (by simp[hy]));rw[Du R x u V];have Z:A3 g 0 ((u++ [x]).map (D3 R.aJ))=W0 g (A3 g 0 (u.map (D3 R.aJ))) (D3 R.aJ x):=by simp[A3]
   rw[Z];rcases hi with⟨G,h⟩|⟨m,G,h,D,K⟩
   ·left
    rw[G];refine⟨by unfold W0;rw[if_pos (by omega)],?_⟩;rw[Pd]at h⊢;intro p;unfold YQ;rw[Xq];cases e:(R.after (Kb R u)).has p with
    |false=>rfl
    |true=>
     obtain⟨i,D,_⟩:=(XB R (Kb R u) p).1 e;rw[h i]at D;cases D
   ·rw[G];exact J m D _ (by rw[if_pos h,K];rfl)
inductive BT where
 |leaf (i:Nat) (A:Nat->Bool)
 |row (l r:BT)
 |or(l r:BT)
 |plus (l:BT)
 |maybe (l:BT)
namespace BT
def places:BT->Nat
 |leaf _ _=>1
 |row l r=>l.places+r.places
 |or l r=>l.places+r.places
 |plus l=>l.places
 |maybe l=>l.places
def glush:BT->E0->Z6×E0
 |leaf i A,R=>(R.addPart,R.add A)
 |row l r,R=>(J4 (l.glush R).1 (r.glush (l.glush R).2).1,(r.glush (l.glush R).2).2.chain (l.glush R).1 (r.glush (l.glush R).2).1)
 |or l r,R=>(E8 (l.glush R).1 (r.glush (l.glush R).2).1,(r.glush (l.glush R).2).2)
 |plus l,R=>((l.glush R).1,(l.glush R).2.link (l.glush R).1.last (l.glush R).1.first)
 |maybe l,R=>({ (l.glush R).1 with empty:=true },(l.glush R).2)
def aW:BT->List Nat->Prop
 |leaf i A,w=>∃x,w= [x]/\A x=true
 |row l r,w=>∃u v,w=u++v/\l.aW u/\r.aW v
 |or l r,w=>l.aW w\/r.aW w
 |plus l,w=>∃u v,w=u++v/\Sf l.aW u/\l.aW v
 |maybe l,w=>w= []\/l.aW w
def Last:BT->Nat->List Nat->Nat->Prop
 |leaf i A,n,w,q=>∃x,w= [x]/\A x=true/\q=n
 |row l r,n,w,q=>l.Last n w q\/∃u v,w=u++v/\l.aW u/\r.Last (n+l.places) v q
 |or l r,n,w,q=>l.Last n w q\/r.Last (n+l.places) w q
 |plus l,n,w,q=>∃u v,w=u++v/\Sf l.aW u/\l.Last n v q
 |maybe l,n,w,q=>l.Last n w q
def aY:BT->List Nat->Nat->Prop
 |leaf i A,w,q=>∃x,w= [x]/\A x=true/\q=i
 |row l r,w,q=>l.aY w q\/∃u v,w=u++v/\l.aW u/\r.aY v q
 |or l r,w,q=>l.aY w q\/r.aY w q
 |plus l,w,q=>∃u v,w=u++v/\Sf l.aW u/\l.aY v q
 |maybe l,w,q=>l.aY w q
def bE:BT->List Nat
 |leaf i _=>[i]
 |row l r=>l.bE++r.bE
 |or l r=>l.bE++r.bE
 |plus l=>l.bE
 |maybe l=>l.bE
theorem cB:∀t:BT,t.bE.length=t.places
 |leaf _ _=>rfl
 |row l r=>by simp[bE,places,cB l,cB r]
 |or l r=>by simp[bE,places,cB l,cB r]
 |plus l=>cB l
 |maybe l=>cB l
end BT
theorem A5:∀(t:BT) (R:E0),(t.glush R).2.aC.length=R.aC.length+t.places
 |.leaf i A,R=>by simp[BT.glush,BT.places,E0.add]
 |.row l r,R=>by simp[BT.glush,BT.places,E0.chain,E7,A5 l,A5 r];omega
 |.or l r,R=>by simp[BT.glush,BT.places,A5 l,A5 r];omega
 |.plus l,R=>by simp[BT.glush,BT.places,E7,A5 l]
 |.maybe l,R=>by simp[BT.glush,BT.places,A5 l]
theorem Y3:∀(t:BT) (R:E0),R.aC.length+t.places<=128->TE R (t.glush R).2 (t.glush R).1
 |.leaf i A,R,hn=>by
  simp only[BT.places]at hn;have J:∀p q,(R.add A).F p q↔R.F p q:=by
   intro p q;unfold E0.F E0.add;simp only
   by_cases f:p<R.aC.length
   ·rw[zC,zR f,<-zC]
   ·constructor
    ·intro h;have W:=Fh h;simp at W;have:p=R.aC.length:=by omega
     subst this;simp[W9]at h
    ·intro h;exact absurd (Fh h) f
  have G:∀p x,p≠R.aC.length->((R.add A).A p x↔R.A p x):=by
   intro p x f;unfold E0.A E0.add Ae;simp only;split
   ·rw[Bb,Fe _ _ (by omega)];simp[Ne.symm f]
   ·rfl
  have U:∀p,(I0.only R.aC.length).has p=true->R.aC.length<=p/\p<(R.add A).aC.length:=by
   intro p f;rw[Fe _ _ (by omega)]at f;simp at f;subst f;simp[E0.add]
  refine⟨by simp[BT.glush,E0.add],fun p q f=>J p q,fun p q f X=>?_,fun p x f=>G p x (by omega),fun p x f=>G p x (by simp[BT.glush,E0.add]at f;omega),U,U,rfl,rfl⟩;have:=Ad1 ((J p q).1 X);omega
 |.row l r,R,hn=>by
  simp only[BT.places]at hn;have B:=Y3 l R (by omega);have V:=A5 l R;have D:=Y3 r (l.glush R).2 (by omega);have e2:=A5 r (l.glush R).2;have Y:=B.le;have Z:=D.le;have K:∀p,(J4 (l.glush R).1 (r.glush (l.glush R).2).1).first.has p=true->R.aC.length<=p/\p<(r.glush (l.glush R).2).2.aC.length:=by
   intro p f;unfold J4 at f;simp only at f;split at f
   ·rw[Bb,yZ]at f;rcases f with e|e
    ·have:=B.first p e;omega
    ·have:=D.first p e;omega
   ·have:=B.first p f;omega
  have M:∀p,(J4 (l.glush R).1 (r.glush (l.glush R).2).1).last.has p=true->R.aC.length<=p/\p<(r.glush (l.glush R).2).2.aC.length:=by
   intro p f;unfold J4 at f;simp only at f;split at f
   ·rw[Bb,yZ]at f;rcases f with e|e
    ·have:=D.last p e;omega
    ·have:=B.last p e;omega
   ·have:=D.last p f;omega
  exact YC (B.trans D K M) (fun p f=>(B.last p f).1) (fun p f=>by have:=D.first p f;omega) K M
 |.or l r,R,hn=>by
  simp only[BT.places]at hn;have B:=Y3 l R (by omega);have V:=A5 l R;have D:=Y3 r (l.glush R).2 (by omega);have Y:=B.le;have Z:=D.le;have l3:(BT.glush (.or l r) R).2.aC.length=(r.glush (l.glush R).2).2.aC.length:=rfl;refine B.trans D (fun p f=>?_) (fun p f=>?_)
  ·rw[show(BT.glush (.or l r) R).1.first=(l.glush R).1.first.or (r.glush (l.glush R).2).1.first from rfl,Bb,yZ]at f;rcases f with e|e
   ·have:=B.first p e;omega
   ·have:=D.first p e;omega
  ·rw[show(BT.glush (.or l r) R).1.last=(l.glush R).1.last.or (r.glush (l.glush R).2).1.last from rfl,Bb,yZ]at f;rcases f with e|e
   ·have:=B.last p e;omega
   ·have:=D.last p e;omega
 |.plus l,R,hn=>by
  have B:=Y3 l R hn;exact YC B (fun p f=>(B.last p f).1) (fun p f=>B.first p f) B.first B.last
 |.maybe l,R,hn=>by
  have B:=Y3 l R hn;exact⟨B.le,B.eB,B.newF,B.gQ,B.gX,B.first,B.last,B.dO,B.fH⟩
theorem U9:∀(t:BT) (R:E0),R.aC.length+t.places<=128->Bt R->∀w,VZ (t.glush R).2 (t.glush R).1 w↔t.aW w
 |.leaf i A,R,hn,hc,w=>by
  simp only[BT.places]at hn;have hA:∀x,(R.add A).A R.aC.length x↔A x=true:=by
   intro x;unfold E0.A E0.add Ae;simp only;have ac:(R.aJ x).has R.aC.length=false:=by
    cases e:(R.aJ x).has R.aC.length
    ·rfl
    ·have:=hc.2 _ x e;omega
   split
   ·rename_i h;rw[Bb,Fe _ _ (by omega)];simp[h]
   ·rename_i h;rw[ac];simp at h;simp[h]
  have aa:=Y3 (.leaf i A) R hn;constructor
  ·rintro(⟨_,h⟩|⟨p,q,f,B,J⟩)
   ·cases h
   ·have a2:(I0.only R.aC.length).has p=true:=f;rw[Fe _ _ (by omega)]at a2;simp at a2;subst a2;cases w with
    |nil=>exact J.elim
    |cons x w=>
     cases w with
     |nil=>exact⟨x,rfl,(hA x).1 J.1⟩
     |cons y w=>
      obtain⟨_,G,D,_⟩:=J
      exfalso
      have h5:(R.add A).F R.aC.length G:=D;unfold E0.F E0.add at h5;simp[W9]at h5
  ·rintro⟨x,rfl,h⟩;have ho:(I0.only R.aC.length).has R.aC.length=true:=by rw[Fe _ _ (by omega)];simp
   exact .inr ⟨R.aC.length,R.aC.length,ho,ho,(hA x).2 h,rfl⟩
 |.row l r,R,hn,hc,w=>by
  simp only[BT.places]at hn;have V:=Y3 l R (by omega);have e1:=A5 l R;have c1:=Qa V hc;have X:=Y3 r (l.glush R).2 (by omega);have c2:=Qa X c1;have U:=U9 l R (by omega) hc;have w2:=U9 r (l.glush R).2 (by omega) c1;have l1:=V.le;have l2:=X.le;simp only[BT.aW,BT.glush,E0.chain];generalize hP:(l.glush R).1=P at*;generalize a8:(l.glush R).2=R1 at*;generalize hQ:(r.glush R1).1=Q at*;generalize a9:(r.glush R1).2=R2 at*;have a0:∀{p q:Nat} {w:List Nat},p<R1.aC.length->(V2 R2.F R2.A p w q↔V2 R1.F R1.A p w q):=fun K=>Oj X c1.1 K
  have hG:∀p G,(R2.link P.last Q.first).F p G->R2.F p G\/(P.last.has p=true/\Q.first.has G=true):=by
   intro p G h;rcases(Ie _ _ _ _ _).1 h with e|⟨_,e1,e2⟩
   ·exact .inl e
   ·exact .inr ⟨e1,e2⟩
  have Y:∀{p q:Nat} {w:List Nat},V2 R2.F R2.A p w q->V2 (R2.link P.last Q.first).F (R2.link P.last Q.first).A p w q:=fun h=>
   V2.mono (I:=fun _=>True) (fun p x _ h=>h) (fun p G _ h=>⟨(Ie _ _ _ _ _).2 (.inl h),trivial⟩) trivial h
  have a6:∀{p q:Nat} {w:List Nat},R1.aC.length<=p->V2 (R2.link P.last Q.first).F (R2.link P.last Q.first).A p w q->V2 R2.F R2.A p w q:=fun K h=>by
   refine V2.mono (I:=fun p=>R1.aC.length<=p) (fun p x _ h=>h) (fun p G hi h=>?_) K h;rcases hG _ _ h with e|⟨e1,_⟩
   ·exact⟨e,(X.newF p G hi e).1⟩
   ·have:=V.last p e1;omega
  have hf:∀p,(J4 P Q).first.has p=true↔(P.first.has p=true\/(P.empty=true/\Q.first.has p=true)):=by
   intro p;unfold J4;simp only;cases P.empty <;>simp[Bb]
  have hl:∀p,(J4 P Q).last.has p=true↔(Q.last.has p=true\/(Q.empty=true/\P.last.has p=true)):=by
   intro p;unfold J4;simp only;cases Q.empty <;>simp[Bb]
  constructor
  ·rintro(⟨rfl,h⟩|⟨p,q,f,B,J⟩)
   ·have h':(P.empty && Q.empty)=true:=h;rw[yK]at h';exact⟨[],[],rfl,(U []).1 (.inl ⟨rfl,h'.1⟩),(w2 []).1 (.inl ⟨rfl,h'.2⟩)⟩
   ·rcases(hf p).1 f with D|⟨D,h5⟩
    ·have K:=V.first p D
     rcases V2.part (F:=R2.F) hG J with h6|⟨u,v,G,a7,rfl,h6,Z,h8,h9⟩
     ·have a4:=(a0 K.2).1 h6;have hq:=V2.bT (I:=fun p=>p<R1.aC.length) (fun p G hi h=>c1.1 _ _ h) K.2 a4;rcases(hl q).1 B with Z|⟨Z,h8⟩
      ·have:=X.last q Z;omega
      ·exact⟨w,[],by simp,(U w).1 (.inr ⟨p,q,D,h8,a4⟩),(w2 []).1 (.inl ⟨rfl,Z⟩)⟩
     ·have a1:=X.first a7 h8
      have a5:=a6 a1.1 h9;have hq:=V2.bT (I:=fun p=>R1.aC.length<=p) (fun p G hi h=>(X.newF p G hi h).1) a1.1 a5;rcases(hl q).1 B with W|⟨_,W⟩
      ·exact⟨u,v,rfl,(U u).1 (.inr ⟨p,G,D,Z,(a0 K.2).1 h6⟩),(w2 v).1 (.inr ⟨a7,q,h8,W,a5⟩)⟩
      ·have:=V.last q W;omega
    ·have K:=X.first p h5
     have M:=a6 K.1 J;have hq:=V2.bT (I:=fun p=>R1.aC.length<=p) (fun p G hi h=>(X.newF p G hi h).1) K.1 M;rcases(hl q).1 B with W|⟨_,W⟩
     ·exact⟨[],w,rfl,(U []).1 (.inl ⟨rfl,D⟩),(w2 w).1 (.inr ⟨p,q,h5,W,M⟩)⟩
     ·have:=V.last q W;omega
  ·rintro⟨u,v,rfl,hu,hv⟩;rcases(U u).2 hu with⟨rfl,f⟩|⟨p,q,f,B,J⟩
   ·rcases(w2 v).2 hv with⟨rfl,D⟩|⟨G,q',D,h5,h6⟩
    ·exact .inl ⟨rfl,by show(P.empty && Q.empty)=true;rw[f,D];rfl⟩
    ·exact .inr ⟨G,q',(hf G).2 (.inr ⟨f,D⟩),(hl q').2 (.inl h5),by simpa using Y h6⟩
   ·have M:=(a0 (V.first p f).2).2 J;rcases(w2 v).2 hv with⟨rfl,D⟩|⟨G,q',D,h5,h6⟩
    ·exact .inr ⟨p,q,(hf p).2 (.inl f),(hl q).2 (.inr ⟨D,B⟩),by simpa using Y M⟩
    ·refine .inr ⟨p,q',(hf p).2 (.inl f),(hl q').2 (.inl h5),V2.iF (Y M) ((Ie _ _ _ _ _).2 (.inr ⟨?_,B,D⟩)) (Y h6)⟩;have:=V.last q B;omega
 |.or l r,R,hn,hc,w=>by
  simp only[BT.places]at hn;have V:=Y3 l R (by omega);have e1:=A5 l R;have c1:=Qa V hc;have X:=Y3 r (l.glush R).2 (by omega);have U:=U9 l R (by omega) hc;have w2:=U9 r (l.glush R).2 (by omega) c1;simp only[BT.aW,BT.glush];generalize hP:(l.glush R).1=P at*;generalize a8:(l.glush R).2=R1 at*;generalize hQ:(r.glush R1).1=Q at*;generalize a9:(r.glush R1).2=R2 at*;have a0:∀{p q:Nat} {w:List Nat},p<R1.aC.length->(V2 R2.F R2.A p w q↔V2 R1.F R1.A p w q):=fun K=>Oj X c1.1 K
  have hf:∀p,(E8 P Q).first.has p=true↔(P.first.has p=true\/Q.first.has p=true):=by
   intro p;unfold E8;simp[Bb]
  have hl:∀p,(E8 P Q).last.has p=true↔(P.last.has p=true\/Q.last.has p=true):=by
   intro p;unfold E8;simp[Bb]
  constructor
  ·rintro(⟨rfl,h⟩|⟨p,q,f,B,J⟩)
   ·have h':(P.empty || Q.empty)=true:=h;rw[yZ]at h';rcases h' with e|e
    ·exact .inl ((U []).1 (.inl ⟨rfl,e⟩))
    ·exact .inr ((w2 []).1 (.inl ⟨rfl,e⟩))
   ·rcases(hf p).1 f with D|D
    ·have K:=V.first p D
     have M:=(a0 K.2).1 J;have hq:=V2.bT (I:=fun p=>p<R1.aC.length) (fun p G hi h=>c1.1 _ _ h) K.2 M;rcases(hl q).1 B with Z|Z
     ·exact .inl ((U w).1 (.inr ⟨p,q,D,Z,M⟩))
     ·have:=X.last q Z;omega
    ·have K:=X.first p D
     have hq:=V2.bT (I:=fun p=>R1.aC.length<=p) (fun p G hi h=>(X.newF p G hi h).1) K.1 J;rcases(hl q).1 B with Z|Z
     ·have:=V.last q Z;omega
     ·exact .inr ((w2 w).1 (.inr ⟨p,q,D,Z,J⟩))
  ·rintro(h|h)
   ·rcases(U w).2 h with⟨rfl,f⟩|⟨p,q,f,B,J⟩
    ·exact .inl ⟨rfl,by show(P.empty || Q.empty)=true;rw[f];rfl⟩
    ·exact .inr ⟨p,q,(hf p).2 (.inl f),(hl q).2 (.inl B),(a0 (V.first p f).2).2 J⟩
   ·rcases(w2 w).2 h with⟨rfl,f⟩|⟨p,q,f,B,J⟩
    ·exact .inl ⟨rfl,by show(P.empty || Q.empty)=true;rw[f];simp⟩
    ·exact .inr ⟨p,q,(hf p).2 (.inr f),(hl q).2 (.inr B),J⟩
 |.plus l,R,hn,hc,w=>by
  have V:=Y3 l R hn;have U:=U9 l R hn hc;simp only[BT.aW,BT.glush];have hw:=LN (R:=(l.glush R).2) (P:=(l.glush R).1) (fun p K=>(V.last p K).2) w;rw[Oh U]at hw;have a3:(∃u v,w=u++v/\Sf l.aW u/\l.aW v)↔((w= []/\l.aW [])\/(w≠ []/\Sf l.aW w)):=by
   constructor
   ·rintro⟨u,v,rfl,f,B⟩
    by_cases he:u++v= []
    ·left
     rw[List.append_eq_nil_iff]at he;rw[he.2]at B;exact⟨by rw[he.1,he.2];rfl,B⟩
    ·exact .inr ⟨he,Tv f (BA B)⟩
   ·rintro(⟨rfl,h⟩|⟨ab,h⟩)
    ·exact⟨[],[],rfl,.nil,h⟩
    ·clear hw
     induction h with
     |nil=>exact absurd rfl ab
     | @cons u v f B ih=>
      by_cases hv:v= []
      ·exact⟨[],u,by rw[hv];simp,.nil,f⟩
      ·obtain⟨u',v',rfl,J,D⟩:=ih hv;exact⟨u++u',v',by simp,.cons f J,D⟩
  rw[a3];constructor
  ·rintro(⟨rfl,h⟩|h)
   ·exact .inl ⟨rfl,(U []).1 (.inl ⟨rfl,h⟩)⟩
   ·exact .inr (hw.1 h)
  ·rintro(⟨rfl,h⟩|h)
   ·rcases(U []).2 h with⟨_,f⟩|⟨p,q,f,B,J⟩
    ·exact .inl ⟨rfl,f⟩
    ·exact J.elim
   ·exact .inr (hw.2 h)
 |.maybe l,R,hn,hc,w=>by
  have U:=U9 l R hn hc w;simp only[BT.aW,BT.glush];constructor
  ·rintro(⟨rfl,h⟩|h)
   ·exact .inl rfl
   ·exact .inr (U.1 (.inr h))
  ·rintro(rfl|h)
   ·exact .inl ⟨rfl,rfl⟩
   ·rcases U.2 h with⟨f,B⟩|B
    ·exact .inl ⟨f,rfl⟩
    ·exact .inr B
theorem Wb:∀(t:BT) (R:E0),R.aC.length+t.places<=128->Bt R->∀w q,(∃p,(t.glush R).1.first.has p=true/\V2 (t.glush R).2.F (t.glush R).2.A p w q)↔t.Last R.aC.length w q
 |.leaf i A,R,hn,hc,w,q=>by
  simp only[BT.places]at hn;have hA:∀x,(R.add A).A R.aC.length x↔A x=true:=by
   intro x;unfold E0.A E0.add Ae;simp only;have a6:(R.aJ x).has R.aC.length=false:=by
    cases e:(R.aJ x).has R.aC.length
    ·rfl
    ·have:=hc.2 _ x e;omega
   split
   ·rename_i h;rw[Bb,Fe _ _ (by omega)];simp[h]
   ·rename_i h;rw[a6];simp at h;simp[h]
  constructor
  ·rintro⟨p,f,J⟩;have a0:(I0.only R.aC.length).has p=true:=f;rw[Fe _ _ (by omega)]at a0;simp at a0;subst a0;cases w with
   |nil=>exact J.elim
   |cons x w=>
    cases w with
    |nil=>exact⟨x,rfl,(hA x).1 J.1,J.2.symm⟩
    |cons y w=>
     obtain⟨_,B,G,_⟩:=J
     exfalso
     have W:(R.add A).F R.aC.length B:=G;unfold E0.F E0.add at W;simp[W9]at W
  ·rintro⟨x,rfl,h,rfl⟩;have ho:(I0.only R.aC.length).has R.aC.length=true:=by rw[Fe _ _ (by omega)];simp
   exact⟨R.aC.length,ho,(hA x).2 h,rfl⟩
 |.row l r,R,hn,hc,w,q=>by
  simp only[BT.places]at hn;have M:=Y3 l R (by omega);have X:=A5 l R;have c1:=Qa M hc;have g2:=Y3 r (l.glush R).2 (by omega);have w1:=U9 l R (by omega) hc;have k1:=Wb l R (by omega) hc;have k2:=Wb r (l.glush R).2 (by omega) c1;rw[X]at k2;have l1:=M.le;have l2:=g2.le;simp only[BT.Last,BT.glush,E0.chain];generalize hP:(l.glush R).1=P at*;generalize a1:(l.glush R).2=R1 at*;generalize hQ:(r.glush R1).1=Q at*;generalize a4:(r.glush R1).2=R2 at*;have K:∀{p q:Nat} {w:List Nat},p<R1.aC.length->(V2 R2.F R2.A p w q↔V2 R1.F R1.A p w q):=fun hp=>Oj g2 c1.1 hp
  have hG:∀p B,(R2.link P.last Q.first).F p B->R2.F p B\/(P.last.has p=true/\Q.first.has B=true):=by
   intro p B h;rcases(Ie _ _ _ _ _).1 h with e|⟨_,X,e2⟩
   ·exact .inl e
   ·exact .inr ⟨X,e2⟩
  have D:∀{p q:Nat} {w:List Nat},V2 R2.F R2.A p w q->V2 (R2.link P.last Q.first).F (R2.link P.last Q.first).A p w q:=fun h=>
   V2.mono (I:=fun _=>True) (fun p x _ h=>h) (fun p B _ h=>⟨(Ie _ _ _ _ _).2 (.inl h),trivial⟩) trivial h
  have a2:∀{p q:Nat} {w:List Nat},R1.aC.length<=p->V2 (R2.link P.last Q.first).F (R2.link P.last Q.first).A p w q->V2 R2.F R2.A p w q:=fun hp h=>by
   refine V2.mono (I:=fun p=>R1.aC.length<=p) (fun p x _ h=>h) (fun p B hi h=>?_) hp h;rcases hG _ _ h with e|⟨X,_⟩
   ·exact⟨e,(g2.newF p B hi e).1⟩
   ·have:=M.last p X;omega
  have Z:∀p,(J4 P Q).first.has p=true↔(P.first.has p=true\/(P.empty=true/\Q.first.has p=true)):=by
   intro p;unfold J4;simp only;cases P.empty <;>simp[Bb]
  constructor
  ·rintro⟨p,f,J⟩;rcases(Z p).1 f with G|⟨G,W⟩
   ·have hp:=M.first p G
    rcases V2.part (F:=R2.F) hG J with V|⟨u,v,B,Y,rfl,V,h7,h8,h9⟩
    ·exact .inl ((k1 w q).1 ⟨p,G,(K hp.2).1 V⟩)
    ·exact .inr ⟨u,v,rfl,(w1 u).1 (.inr ⟨p,B,G,h7,(K hp.2).1 V⟩),(k2 v q).1 ⟨Y,h8,a2 (g2.first Y h8).1 h9⟩⟩
   ·exact .inr ⟨[],w,rfl,(w1 []).1 (.inl ⟨rfl,G⟩),(k2 w q).1 ⟨p,W,a2 (g2.first p W).1 J⟩⟩
  ·rintro(h|⟨u,v,rfl,hu,hv⟩)
   ·obtain⟨p,f,U⟩:=(k1 w q).2 h;exact⟨p,(Z p).2 (.inl f),D ((K (M.first p f).2).2 U)⟩
   ·obtain⟨B,G,V⟩:=(k2 v q).2 hv;rcases(w1 u).2 hu with⟨rfl,f⟩|⟨p,q',f,U,J⟩
    ·exact⟨B,(Z B).2 (.inr ⟨f,G⟩),by simpa using D V⟩
    ·refine⟨p,(Z p).2 (.inl f),V2.iF (D ((K (M.first p f).2).2 J)) ((Ie _ _ _ _ _).2 (.inr ⟨?_,U,G⟩)) (D V)⟩;have:=M.last q' U;omega
 |.or l r,R,hn,hc,w,q=>by
  simp only[BT.places]at hn;have M:=Y3 l R (by omega);have X:=A5 l R;have c1:=Qa M hc;have g2:=Y3 r (l.glush R).2 (by omega);have k1:=Wb l R (by omega) hc;have k2:=Wb r (l.glush R).2 (by omega) c1;rw[X]at k2;simp only[BT.Last,BT.glush];generalize hP:(l.glush R).1=P at*;generalize a1:(l.glush R).2=R1 at*;generalize hQ:(r.glush R1).1=Q at*;generalize a4:(r.glush R1).2=R2 at*;have K:∀{p q:Nat} {w:List Nat},p<R1.aC.length->(V2 R2.F R2.A p w q↔V2 R1.F R1.A p w q):=fun hp=>Oj g2 c1.1 hp
  have Z:∀p,(E8 P Q).first.has p=true↔(P.first.has p=true\/Q.first.has p=true):=by
   intro p;unfold E8;simp[Bb]
  constructor
  ·rintro⟨p,f,J⟩;rcases(Z p).1 f with G|G
   ·exact .inl ((k1 w q).1 ⟨p,G,(K (M.first p G).2).1 J⟩)
   ·exact .inr ((k2 w q).1 ⟨p,G,J⟩)
  ·rintro(h|h)
   ·obtain⟨p,f,U⟩:=(k1 w q).2 h;exact⟨p,(Z p).2 (.inl f),(K (M.first p f).2).2 U⟩
   ·obtain⟨p,f,U⟩:=(k2 w q).2 h;exact⟨p,(Z p).2 (.inr f),U⟩
 |.plus l,R,hn,hc,w,q=>by
  have M:=Y3 l R hn;have w1:=U9 l R hn hc;have k1:=Wb l R hn hc;simp only[BT.Last,BT.glush];generalize hP:(l.glush R).1=P at*;generalize a1:(l.glush R).2=R1 at*;have D:∀{p q:Nat} {w:List Nat},V2 R1.F R1.A p w q->V2 (R1.link P.last P.first).F (R1.link P.last P.first).A p w q:=fun h=>
   V2.mono (I:=fun _=>True) (fun p x _ h=>h) (fun p B _ h=>⟨(Ie _ _ _ _ _).2 (.inl h),trivial⟩) trivial h
  have hG:∀p B,(R1.link P.last P.first).F p B->R1.F p B\/(P.last.has p=true/\P.first.has B=true):=by
   intro p B h;rcases(Ie _ _ _ _ _).1 h with e|⟨_,X,e2⟩
   ·exact .inl e
   ·exact .inr ⟨X,e2⟩
  constructor
  ·rintro⟨p,f,J⟩;generalize a5:w.length=n
   induction n using Nat.strongRecOn generalizing w p with
   |ind n ih=>
    rcases V2.part (F:=R1.F) hG J with G|⟨u,v,B,Y,rfl,W,V,h7,h8⟩
    ·exact⟨[],w,rfl,.nil,(k1 w q).1 ⟨p,f,G⟩⟩
    ·have hu:=W.ne;have:0<u.length:=List.length_pos_iff.2 hu;simp at a5;obtain⟨u',v',rfl,h9,a3⟩:=ih v.length (by omega) v Y h7 h8 rfl;exact⟨u++u',v',by simp,.cons ((w1 u).1 (.inr ⟨p,B,f,V,W⟩)) h9,a3⟩
  ·rintro⟨u,v,rfl,hu,hv⟩
   induction hu with
   |nil=>
    obtain⟨p,f,U⟩:=(k1 v q).2 hv;exact⟨p,f,by simpa using D U⟩
   | @cons a b f U ih=>
    obtain⟨B,V,h8⟩:=ih;rcases(w1 a).2 f with⟨rfl,_⟩|⟨p,q',J,G,W⟩
    ·exact⟨B,V,by simpa using h8⟩
    ·rw[yF];exact⟨p,J,V2.iF (D W) ((Ie _ _ _ _ _).2 (.inr ⟨(M.last q' G).2,G,V⟩)) h8⟩
 |.maybe l,R,hn,hc,w,q=>Wb l R hn hc w q
theorem BT.bH:∀(t:BT) (n:Nat) (w:List Nat) (q:Nat),t.Last n w q->n<=q/\q<n+t.places
 |.leaf i A,n,w,q,h=>by obtain⟨x,_,_,rfl⟩:=h;simp[places]
 |.row l r,n,w,q,h=>by
  simp only[places];rcases h with h|⟨u,v,_,_,h⟩
  ·have:=bH l n w q h;omega
  ·have:=bH r _ v q h;omega
 |.or l r,n,w,q,h=>by
  simp only[places];rcases h with h|h
  ·have:=bH l n w q h;omega
  ·have:=bH r _ w q h;omega
 |.plus l,n,w,q,h=>by obtain⟨u,v,_,_,h⟩:=h;exact bH l n v q h
 |.maybe l,n,w,q,h=>bH l n w q h
theorem Lb{l m:List Nat}{k:Nat}(h:k<l.length):(l++m).getD k 0=l.getD k 0:=by
 rw[zC,zR h,<-zC]
theorem Ia{l m:List Nat}{k n:Nat}(h:l.length=n)(f:n<=k):(l++m).getD k 0=m.getD (k-n) 0:=by
 rw[zC,zY (by omega),<-zC,h]
theorem BT.bS:∀(t:BT) (n:Nat) (w:List Nat) (a:Nat),t.aY w a↔∃q,t.Last n w q/\t.bE.getD (q-n) 0=a
 |.leaf i A,n,w,a=>by
  constructor
  ·rintro⟨x,G,J,rfl⟩;exact⟨n,⟨x,G,J,rfl⟩,by simp[bE]⟩
  ·rintro⟨q,⟨x,G,J,rfl⟩,D⟩;exact⟨x,G,J,by simpa[bE]using D.symm⟩
 |.row l r,n,w,a=>by
  have K:=bS l n;have M:=bS r (n+l.places);have e:=cB l;constructor
  ·rintro(h|⟨u,v,G,J,D⟩)
   ·obtain⟨q,B,f⟩:=(K w a).1 h;have:=bH l n w q B;exact⟨q,.inl B,by rw[bE,Lb (by omega)];exact f⟩
   ·obtain⟨q,B,f⟩:=(M v a).1 D;have:=bH r _ v q B;exact⟨q,.inr ⟨u,v,G,J,B⟩,by rw[bE,Ia e (by omega),show q-n-l.places=q- (n+l.places) by omega];exact f⟩
  ·rintro⟨q,h|⟨u,v,G,J,D⟩,f⟩
   ·have:=bH l n w q h;rw[bE,Lb (by omega)]at f;exact .inl ((K w a).2 ⟨q,h,f⟩)
   ·have:=bH r _ v q D;rw[bE,Ia e (by omega),show q-n-l.places=q- (n+l.places) by omega]at f;exact .inr ⟨u,v,G,J,(M v a).2 ⟨q,D,f⟩⟩
 |.or l r,n,w,a=>by
  have K:=bS l n;have M:=bS r (n+l.places);have e:=cB l;constructor
  ·rintro(h|D)
   ·obtain⟨q,B,f⟩:=(K w a).1 h;have:=bH l n w q B;exact⟨q,.inl B,by rw[bE,Lb (by omega)];exact f⟩
   ·obtain⟨q,B,f⟩:=(M w a).1 D;have:=bH r _ w q B;exact⟨q,.inr B,by rw[bE,Ia e (by omega),show q-n-l.places=q- (n+l.places) by omega];exact f⟩
  ·rintro⟨q,h|D,f⟩
   ·have:=bH l n w q h;rw[bE,Lb (by omega)]at f;exact .inl ((K w a).2 ⟨q,h,f⟩)
   ·have:=bH r _ w q D;rw[bE,Ia e (by omega),show q-n-l.places=q- (n+l.places) by omega]at f;exact .inr ((M w a).2 ⟨q,D,f⟩)
 |.plus l,n,w,a=>by
  constructor
  ·rintro⟨u,v,G,J,D⟩;obtain⟨q,B,f⟩:=(bS l n v a).1 D;exact⟨q,⟨u,v,G,J,B⟩,f⟩
  ·rintro⟨q,⟨u,v,G,J,B⟩,f⟩;exact⟨u,v,G,J,(bS l n v a).2 ⟨q,B,f⟩⟩
 |.maybe l,n,w,a=>bS l n w a
def M6:List BT->Nat
 | []=>0
 |t::ts=>t.places+M6 ts
def B7:List BT->E0->E0
 | [],R=>R
 |t::ts,R=>B7 ts ((t.glush R).2.endRule (t.glush R).1)
def Ra:List BT->Nat->List Nat->Nat->Prop
 | [],n,w,q=>False
 |t::ts,n,w,q=>t.Last n w q\/Ra ts (n+t.places) w q
def Jd:List BT->List Nat
 | []=>[]
 |t::ts=>t.bE++Jd ts
theorem Rq(t:BT):∀f:List BT,M6 (f++ [t])=M6 f+t.places
 | []=>by simp[M6]
 |x::f=>by simp[M6,Rq t f];omega
theorem Br(t:BT):∀(f:List BT) (n:Nat) (w:List Nat) (q:Nat),Ra (f++ [t]) n w q↔(Ra f n w q\/t.Last (n+M6 f) w q)
 | [],n,w,q=>by simp[Ra,M6]
 |x::f,n,w,q=>by
  simp only[List.cons_append,Ra,M6];rw[Br t f,show n+x.places+M6 f=n+(x.places+M6 f) by omega,or_assoc]
theorem Lp:∀f:List BT,(Jd f).length=M6 f
 | []=>rfl
 |t::f=>by simp[Jd,M6,t.cB,Lp f]
theorem Hh:∀(f:List BT) (n:Nat) (w:List Nat) (q:Nat),Ra f n w q->n<=q/\q<n+M6 f
 | [],n,w,q,h=>h.elim
 |t::f,n,w,q,h=>by
  simp only[M6];rcases h with h|h
  ·have:=t.bH n w q h;omega
  ·have:=Hh f _ w q h;omega
theorem Eb:∀(B:List BT) (n:Nat) (w:List Nat) (a:Nat),(∃t∈B,t.aY w a)↔∃q,Ra B n w q/\(Jd B).getD (q-n) 0=a
 | [],n,w,a=>by simp[Ra]
 |t::B,n,w,a=>by
  have J:=t.bS n w a;have K:=Eb B (n+t.places) w a;have e:=t.cB;constructor
  ·rintro⟨x,D,h⟩;rw[zU]at D;rcases D with rfl|D
   ·obtain⟨q,G,f⟩:=J.1 h;have:=x.bH n w q G;exact⟨q,.inl G,by rw[Jd,Lb (by omega)];exact f⟩
   ·obtain⟨q,G,f⟩:=K.1 ⟨x,D,h⟩;have:=Hh B _ w q G;exact⟨q,.inr G,by rw[Jd,Ia e (by omega),show q-n-t.places=q- (n+t.places) by omega];exact f⟩
  ·rintro⟨q,h|h,f⟩
   ·have:=t.bH n w q h;rw[Jd,Lb (by omega)]at f;exact⟨t,by simp,J.2 ⟨q,h,f⟩⟩
   ·have:=Hh B _ w q h;rw[Jd,Ia e (by omega),show q-n-t.places=q- (n+t.places) by omega]at f;obtain⟨x,D,M⟩:=K.2 ⟨q,h,f⟩;exact⟨x,by simp[D],M⟩
structure Pf(R:E0)(ts:List BT):Prop where
 aU:Bt R
 first:∀p,R.first.has p=true->p<R.aC.length
 len:R.last.length=ts.length
 fA:R.aC.length=M6 ts
 last:∀i p,(R.last.getD i I0.none).has p=true->p<R.aC.length
 dA:∀i,(h:i<ts.length)->∀w,w≠ []->((∃p q,R.first.has p=true/\(R.last.getD i I0.none).has q=true/\V2 R.F R.A p w q)↔ts[i].aW w)
 bF:∀w q,(∃p,R.first.has p=true/\V2 R.F R.A p w q)↔Ra ts 0 w q
theorem Pf.aR:Pf E0.aR []where
 aU:=⟨fun p q h=>by simp[E0.F,E0.aR,W9]at h,fun p x h=>by simp[E0.A,E0.aR,W9]at h⟩
 first:=fun p h=>by simp[E0.aR,W9]at h
 len:=rfl
 fA:=rfl
 last:=fun i p h=>by simp[E0.aR,W9]at h
 dA:=fun i h=>by simp at h
 bF:=fun w q=>by simp[E0.aR,W9,Ra]
theorem Pf.step{R:E0}{V:List BT}(h:Pf R V)(t:BT)(hn:R.aC.length+t.places<=128):Pf ((t.glush R).2.endRule (t.glush R).1) (V++ [t]):=by
 have g:=Y3 t R hn;have c:=Qa g h.aU;have gw:=U9 t R hn h.aU;have gl:=Wb t R hn h.aU;have gn:=A5 t R;generalize(t.glush R).1=P at*;generalize(t.glush R).2=R1 at*;have l1:=g.le;have eF:(R1.endRule P).F=R1.F:=rfl;have eA:(R1.endRule P).A=R1.A:=rfl;have M:∀p,(R1.endRule P).first.has p=true↔(R.first.has p=true\/P.first.has p=true):=by
  intro p;show((R1.first.or P.first).has p=true)↔_;rw[Bb,yZ,g.dO]
 have Z:(R1.endRule P).last=R.last++ [P.last]:=by show R1.last++ [P.last]=_;rw[g.fH]
 have X:∀i,i<V.length->(R1.endRule P).last.getD i I0.none=R.last.getD i I0.none:=fun i U=>by
  rw[Z,zC,zR (by rw[h.len];exact U),<-zC]
 have W:(R1.endRule P).last.getD V.length I0.none=P.last:=by rw[Z,<-h.len];simp
 have f:∀{p q:Nat} {w:List Nat},p<R.aC.length->(V2 R1.F R1.A p w q↔V2 R.F R.A p w q):=fun J=>Oj g h.aU.1 J
 have Y:∀{p q:Nat} {w:List Nat},R.aC.length<=p->V2 R1.F R1.A p w q->R.aC.length<=q:=fun J hr=>
  V2.bT (I:=fun p=>R.aC.length<=p) (fun p p' U h=>(g.newF p p' U h).1) J hr
 refine⟨c,fun p J=>?_,by rw[Z];simp[h.len],?_,fun i p J=>?_,fun i U w hw=>?_,fun w q=>?_⟩
 ·show p<R1.aC.length;rcases(M p).1 J with e|e
  ·have:=h.first p e;omega
  ·exact(g.first p e).2
 ·show R1.aC.length=_;rw[gn,Rq,h.fA]
 ·show p<R1.aC.length
  by_cases U:i<V.length
  ·rw[X i U]at J;have:=h.last i p J;omega
  ·by_cases G:i=V.length
   ·rw[G,W]at J;exact(g.last p J).2
   ·have:=Fh J;rw[Z]at this;simp[h.len]at this;omega
 ·rw[eF,eA]
  by_cases G:i<V.length
  ·rw[X i G,List.getElem_append_left G,<-h.dA i G w hw];constructor
   ·rintro⟨p,q,D,B,K⟩;rcases(M p).1 D with e|e
    ·exact⟨p,q,e,B,(f (h.first p e)).1 K⟩
    ·have:=Y (g.first p e).1 K;have:=h.last i q B;omega
   ·rintro⟨p,q,D,B,K⟩;exact⟨p,q,(M p).2 (.inl D),B,(f (h.first p D)).2 K⟩
  ·have a1:i=V.length:=by simp at U;omega
   subst a1;rw[W];simp only[List.getElem_append_right (zD _),yS,List.getElem_cons_zero];rw[<-gw w];constructor
   ·rintro⟨p,q,D,B,K⟩;rcases(M p).1 D with e|e
    ·have a0:=(f (h.first p e)).1 K;have:=V2.bT (I:=fun p=>p<R.aC.length) (fun p p' U h'=>h.aU.1 _ _ h') (h.first p e) a0;have:=g.last q B;omega
    ·exact .inr ⟨p,q,e,B,K⟩
   ·rintro(⟨e,_⟩|⟨p,q,D,B,K⟩)
    ·exact absurd e hw
    ·exact⟨p,q,(M p).2 (.inr D),B,K⟩
 ·rw[eF,eA,Br,<-h.bF w q,yX,<-h.fA,<-gl w q];constructor
  ·rintro⟨p,D,B⟩;rcases(M p).1 D with e|e
   ·exact .inl ⟨p,e,(f (h.first p e)).1 B⟩
   ·exact .inr ⟨p,e,B⟩
  ·rintro(⟨p,D,B⟩|⟨p,D,B⟩)
   ·exact⟨p,(M p).2 (.inl D),(f (h.first p D)).2 B⟩
   ·exact⟨p,(M p).2 (.inr D),B⟩
theorem Mo:∀(f B:List BT) (R:E0),Pf R B->R.aC.length+M6 f<=128->Pf (B7 f R) (B++f)
 | [],B,R,h,_=>by rw[yP];exact h
 |t::f,B,R,h,hn=>by
  unfold M6 at hn;unfold B7;have:=Mo f (B++ [t]) _ (h.step t (by omega)) (by show(t.glush R).2.aC.length+_<=128;rw[A5];omega);simpa using this
theorem RM(f:List BT)(h:M6 f<=128):Pf (B7 f E0.aR) f:=by
 have:=Mo f [] E0.aR Pf.aR (by simp[E0.aR];exact h);simpa using this
theorem Pf.set{R:E0}{f:List BT}(h:Pf R f){w:List Nat}(B:w≠ [])(q:Nat):(Kb R w).has q=true↔Ra f 0 w q:=by
 rw[Zz R q w B,h.bF]
def Xw(f:List BT):Prop:=(Jd f).Nodup
theorem EO{f:List BT}(h:Xw f){i j:Nat}(B:i<M6 f)(D:j<M6 f)(e:(Jd f).getD i 0=(Jd f).getD j 0):i=j:=by
 rw[<-Lp]at B D;simp only[zC,zF B,zF D,Option.getD_some]at e;exact(List.getElem_inj h).1 e
theorem ZX{R:E0}{f:List BT}(h:Pf R f)(X:Xw f){v w:List Nat}(K:v≠ [])(M:w≠ []):(∀a,(∃t∈f,t.aY v a)↔∃t∈f,t.aY w a)↔Kb R v=Kb R w:=by
 constructor
 ·intro e;refine Hz fun q=>?_
  rw[Bool.eq_iff_iff,h.set K,h.set M];have B:∀v w:List Nat,(∀a,(∃t∈f,t.aY v a)->∃t∈f,t.aY w a)->Ra f 0 v q->Ra f 0 w q:=by
   intro v w e D;have W:=e _ ((Eb f 0 v _).2 ⟨q,D,rfl⟩);obtain⟨Y,G,J⟩:=(Eb f 0 w _).1 W;have U:=Hh f 0 v q D;have V:=Hh f 0 w Y G;simp only[Nat.sub_zero,yX]at J U V;rw[<-EO X V.2 U.2 J];exact G
  exact⟨B v w (fun a=>(e a).1),B w v (fun a=>(e a).2)⟩
 ·intro e a;rw[Eb f 0,Eb f 0];have:∀q,Ra f 0 v q↔Ra f 0 w q:=fun q=>by rw[<-h.set K,<-h.set M,e]
  simp only[this]
theorem NU{R:E0}{f:List BT}(h:Pf R f){w:List Nat}(B:w≠ []):(∀a,¬ ∃t∈f,t.aY w a)↔(Kb R w).isEmpty=true:=by
 rw[Pd];constructor
 ·intro e q;cases hh:(Kb R w).has q with
  |false=>rfl
  |true=>exact absurd ((Eb f 0 w _).2 ⟨q,(h.set B q).1 hh,rfl⟩) (e _)
 ·intro e a D;obtain⟨q,G,_⟩:=(Eb f 0 w a).1 D;have:=(h.set B q).2 G;rw[e q]at this;cases this
def Ow(f:List BT)(w:List Nat)(r:Int):Prop:=(r= -1/\∀i,(h:i<f.length)->¬f[i].aW w)\/∃i,∃h:i<f.length,r=(i:Int)/\f[i].aW w/\∀j,(B:j<i)->¬(f[j]'(by omega)).aW w
theorem Ow.bX{J:List BT}{w:List Nat}{r s:Int}(h:Ow J w r)(g:Ow J w s):r=s:=by
 rcases h with⟨G,B⟩|⟨i,U,G,B,M⟩ <;>rcases g with⟨D,f⟩|⟨j,V,D,f,K⟩
 ·rw[G,D]
 ·exact absurd f (B j V)
 ·exact absurd B (f i U)
 ·rcases Nat.lt_trichotomy i j with e|e|e
  ·exact absurd B (K i e)
  ·rw[G,D,e]
  ·exact absurd f (M j e)
theorem EU{R:E0}{J:List BT}(h:Pf R J)(w:List Nat)(V:w≠ []):Ow J w (R.aB (Kb R w)):=by
 have U:∀i,(G:i<J.length)->((Kb R w).cL (R.last.getD i I0.none)=true↔J[i].aW w):=by
  intro i G;rw[DD,<-h.dA i G w V];constructor
  ·rintro⟨q,f,B⟩;obtain⟨p,D,K⟩:=(Zz R q w V).1 f;exact⟨p,q,D,B,K⟩
  ·rintro⟨p,q,f,B,D⟩;exact⟨q,(Zz R q w V).2 ⟨p,f,D⟩,B⟩
 unfold E0.aB;rcases Si (Kb R w) R.last 0 with⟨f,B⟩|⟨i,f,B,D,K⟩
 ·refine .inl ⟨f,fun i G M=>?_⟩;have:=(U i G).2 M;rw[B i (by rw[h.len];exact G)]at this;cases this
 ·rw[h.len]at f;refine .inr ⟨i,f,by rw[B];simp,(U i f).1 D,fun j W M=>?_⟩;have:=(U j (by omega)).2 M;rw[K j W]at this;cases this
inductive PT where
 |nil
 |bar (r:PT)
 |leaf (i e:Nat) (A:Nat->Bool) (m:Nat) (r:PT)
 |group (t:PT) (m:Nat) (r:PT)
def LF:BT:=.leaf 0 (fun _=>false)
def Cc(m:Nat)(t:BT):BT:=if m=42 then .maybe (.plus t)else if m=43 then .plus t else if m=63 then .maybe t else t
def Eg:Option BT->BT->BT
 |none,x=>x
 |some c,x=>.row c x
def Xc:Option BT->BT->BT
 |none,x=>x
 |some c,x=>.or c x
def PT.bt:PT->Option BT->Option BT->BT
 |.nil,aS,cur=>Xc aS (cur.getD LF)
 |.bar r,aS,cur=>r.bt (some (Xc aS (cur.getD LF))) none
 |.leaf i e A m r,aS,cur=>r.bt aS (some (Eg cur (Cc m (.leaf i A))))
 |.group t m r,aS,cur=>r.bt aS (some (Eg cur (Cc m (t.bt none none))))
def Dt(s:ByteArray)(e m:Nat):Prop:=(m=0/\F0 s e≠42/\F0 s e≠43/\F0 s e≠63)\/((m=42\/m=43\/m=63)/\F0 s e=(m:Int))
def F5(m:Nat):Nat:=if m=0 then 0 else 1
def PT.Sp(s:ByteArray):PT->Nat->Nat->Prop
 |.nil,i,j=>i=j
 |.bar r,i,j=>F0 s i=124/\r.Sp s (i+1) j
 |.leaf a e A m r,i,j=>a=i/\W6 s i=(A,true,e)/\F0 s i≠40/\Dt s e m/\r.Sp s (e+F5 m) j
 |.group t m r,i,j=>F0 s i=40/\∃e,t.Sp s (i+1) e/\F0 s e=41/\Dt s (e+1) m/\r.Sp s (e+1+F5 m) j
def PT.Ne:PT->Bool->Prop
 |.nil,c=>c=true
 |.bar r,c=>c=true/\r.Ne false
 |.leaf i e A m r,c=>r.Ne true
 |.group t m r,c=>t.Ne false/\r.Ne true
def ZL(s:ByteArray)(ex:PFn):Prop:=∀p R,(ex p R).ok=true->∃t:PT,t.Sp s p (ex p R).bD/\t.Ne false/\(t.bt none none).glush R=((ex p R).part,(ex p R).aD)
theorem DQ{s:ByteArray}{a:Cg}(f:(Ue s a).ok=true)(x:BT){R:E0}(G:x.glush R=(a.part,a.aD)):
  a.ok=true/\∃m,Dt s a.bD m/\(Ue s a).bD=a.bD+F5 m/\(Cc m x).glush R=((Ue s a).part,(Ue s a).aD):=by
 unfold Ue at f⊢;split at f
 ·cases f
 ·rename_i K;have J:a.ok=true:=by cases e:a.ok <;>simp_all
  refine⟨J,?_⟩;rw[if_neg K]
  by_cases h:F0 s a.bD=42
  ·rw[if_pos h];refine⟨42,.inr ⟨.inl rfl,h⟩,rfl,?_⟩;simp[Cc,BT.glush,G]
  ·rw[if_neg h]
   by_cases B:F0 s a.bD=43
   ·rw[if_pos B];refine⟨43,.inr ⟨.inr (.inl rfl),B⟩,rfl,?_⟩;simp[Cc,BT.glush,G]
   ·rw[if_neg B]
    by_cases D:F0 s a.bD=63
    ·rw[if_pos D];refine⟨63,.inr ⟨.inr (.inr rfl),D⟩,rfl,?_⟩;simp[Cc,BT.glush,G]
    ·rw[if_neg D];exact⟨0,.inl ⟨rfl,h,B,D⟩,rfl,by simp[Cc,G]⟩
structure SY(s:ByteArray)(p q:Nat)(x:BT)(f:PT->PT):Prop where
 sp:∀r j,r.Sp s q j->(f r).Sp s p j
 bt:∀r aS cur,(f r).bt aS cur=r.bt aS (some (Eg cur x))
 ne:∀r c,r.Ne true->(f r).Ne c
theorem NK{s:ByteArray}{ex:PFn}(h:ZL s ex){p:Nat}{R:E0}(D:(H8 s ex p R).ok=true):
  ∃f x,SY s p (H8 s ex p R).bD x f/\x.glush R=((H8 s ex p R).part,(H8 s ex p R).aD):=by
 unfold H8 at D⊢;have B:(Ce s ex p R).ok=true:=by
  unfold Ue at D;split at D
  ·cases D
  ·rename_i h0;cases e:(Ce s ex p R).ok <;>simp_all
 by_cases G:F0 s p=40
 ·have Y:Ce s ex p R=Ee s ex p R:=by unfold Ce;rw[if_pos G]
  rw[Y]at D B⊢;unfold Ee at B;split at B
  ·rename_i K;have Z:Ee s ex p R=⟨(ex (p+1) R).part,true,(ex (p+1) R).bD+1,(ex (p+1) R).aD⟩:=by unfold Ee;rw[if_pos K]
   obtain⟨t,t1,t2,t3⟩:=h (p+1) R K.1;rw[Z]at D⊢;obtain⟨_,m,U,V,W⟩:=DQ D (t.bt none none) (R:=R) t3;refine⟨fun r=>.group t m r,Cc m (t.bt none none),⟨fun r j J=>?_,fun r X cur=>rfl,fun r c J=>⟨t2,J⟩⟩,W⟩;rw[V]at J;exact⟨G,_,t1,K.2,U,J⟩
  ·cases B
 ·unfold Ce at D B⊢;rw[if_neg G]at D B⊢
  by_cases M:(W6 s p).2.1=true
  ·rw[if_pos M]at D⊢;obtain⟨_,m,U,V,W⟩:=DQ D (.leaf p (W6 s p).1) (R:=R) rfl;refine⟨fun r=>.leaf p (W6 s p).2.2 (W6 s p).1 m r,Cc m (.leaf p (W6 s p).1),⟨fun r j J=>?_,fun r X cur=>rfl,fun r c J=>J⟩,W⟩;rw[V]at J;refine⟨rfl,?_,G,U,J⟩;rw[<-M]
  ·rw[if_neg M]at B;cases B
structure Ac5(s:ByteArray)(p q:Nat)(tc tc':BT)(f:PT->PT):Prop where
 sp:∀r j,r.Sp s q j->(f r).Sp s p j
 bt:∀r aS,(f r).bt aS (some tc)=r.bt aS (some tc')
 ne:∀r,r.Ne true->(f r).Ne true
theorem Ix{s:ByteArray}{ex:PFn}:∀(n:Nat) (r:Cg),(I6 s ex n r).ok=true->r.ok=true
 |0,r,h=>h
 |n+1,r,h=>by
  unfold I6 at h;split at h
  ·rename_i f;exact f.1
  ·exact h
theorem Jx{s:ByteArray}{ex:PFn}(h:ZL s ex){Rc:E0}:∀(n:Nat) (r:Cg) (D:BT),D.glush Rc=(r.part,r.aD)->(I6 s ex n r).ok=true->
  ∃f B,Ac5 s r.bD (I6 s ex n r).bD D B f/\B.glush Rc=((I6 s ex n r).part,(I6 s ex n r).aD)
 |0,r,D,hg,hok=>⟨id,D,⟨fun _ _ h=>h,fun _ _=>rfl,fun _ h=>h⟩,hg⟩
 |n+1,r,D,hg,hok=>by
  unfold I6 at hok⊢
  by_cases U:r.ok=true/\Zb (F0 s r.bD)=false
  ·rw[if_pos U]at hok⊢;have Z:=Ix n _ hok;obtain⟨f,x,J,X⟩:=NK h (p:=r.bD) (R:=r.aD) Z;have G:(BT.row D x).glush Rc=(J4 r.part (H8 s ex r.bD r.aD).part,(H8 s ex r.bD r.aD).aD.chain r.part (H8 s ex r.bD r.aD).part):=by
    simp only[BT.glush,hg,X]
   obtain⟨W,B,K,Y⟩:=Jx h n _ (.row D x) G hok;exact⟨fun r=>f (W r),B,⟨fun r j M=>J.sp _ j (K.sp r j M),fun r V=>by rw[J.bt];exact K.bt r V,fun r M=>J.ne _ _ (K.ne r M)⟩,Y⟩
  ·rw[if_neg U]at hok⊢;exact⟨id,D,⟨fun _ _ h=>h,fun _ _=>rfl,fun _ h=>h⟩,hg⟩
structure Ab8(s:ByteArray)(p q:Nat)(tc:BT)(f:PT->PT):Prop where
 sp:∀r j,r.Sp s q j->(f r).Sp s p j
 bt:∀r aS,(f r).bt aS none=r.bt aS (some tc)
 ne:∀r,r.Ne true->(f r).Ne false
theorem XV{s:ByteArray}{ex:PFn}(h:ZL s ex){p:Nat}{R:E0}(B:(O2 s ex p R).ok=true):
  ∃f M,Ab8 s p (O2 s ex p R).bD M f/\M.glush R=((O2 s ex p R).part,(O2 s ex p R).aD):=by
 unfold O2 at B⊢;have Y:=Ix _ _ B;obtain⟨f,x,D,W⟩:=NK h Y;obtain⟨V,K,G,X⟩:=Jx h (Rc:=R) _ _ x W B;exact⟨fun r=>f (V r),K,⟨fun r j J=>D.sp _ j (G.sp r j J),fun r U=>by rw[D.bt];exact G.bt r U,fun r J=>D.ne _ _ (G.ne r J)⟩,X⟩
structure Ac1(s:ByteArray)(p q:Nat)(aS:Option BT)(cur:BT)(acc':Option BT)(cur':BT)(f:PT->PT):Prop where
 sp:∀r j,r.Sp s q j->(f r).Sp s p j
 bt:∀r,(f r).bt aS (some cur)=r.bt acc' (some cur')
 ne:∀r,r.Ne true->(f r).Ne true
theorem Tu{s:ByteArray}{ex:PFn}:∀(n:Nat) (r:Cg),(X4 s ex n r).ok=true->r.ok=true
 |0,r,h=>h
 |n+1,r,h=>by
  unfold X4 at h;split at h
  ·rename_i f;exact f.1
  ·exact h
theorem Uu{s:ByteArray}{ex:PFn}(h:ZL s ex){R0:E0}:∀(n:Nat) (r:Cg) (G:Option BT) (cur:BT),(Xc G cur).glush R0=(r.part,r.aD)->(X4 s ex n r).ok=true->
  ∃f B D,Ac1 s r.bD (X4 s ex n r).bD G cur B D f/\(Xc B D).glush R0=((X4 s ex n r).part,(X4 s ex n r).aD)
 |0,r,G,cur,hg,hok=>⟨id,G,cur,⟨fun _ _ h=>h,fun _=>rfl,fun _ h=>h⟩,hg⟩
 |n+1,r,G,cur,hg,hok=>by
  unfold X4 at hok⊢
  by_cases U:r.ok=true/\F0 s r.bD=124
  ·rw[if_pos U]at hok⊢;have Z:=Tu n _ hok;obtain⟨f,x,K,X⟩:=XV h (p:=r.bD+1) (R:=r.aD) Z;have J:(Xc (some (Xc G cur)) x).glush R0=(E8 r.part (O2 s ex (r.bD+1) r.aD).part,(O2 s ex (r.bD+1) r.aD).aD):=by
    show(BT.or (Xc G cur) x).glush R0=_;simp only[BT.glush];rw[hg];simp only[X]
   obtain⟨W,B,D,M,Y⟩:=Uu h n _ (some (Xc G cur)) x J hok;exact⟨fun r=>.bar (f (W r)),B,D,⟨fun r j V=>⟨U.2,K.sp _ j (M.sp r j V)⟩,fun r=>by show(f (W r)).bt (some (Xc G cur)) none=_;rw[K.bt];exact M.bt r,fun r V=>⟨rfl,K.ne _ (M.ne r V)⟩⟩,Y⟩
  ·rw[if_neg U]at hok⊢;exact⟨id,G,cur,⟨fun _ _ h=>h,fun _=>rfl,fun _ h=>h⟩,hg⟩
theorem WA{s:ByteArray}{ex:PFn}(h:ZL s ex):ZL s (Od s ex):=by
 intro p R B;unfold Od at B⊢;have W:=Tu _ _ B;obtain⟨f,x,D,U⟩:=XV h W;obtain⟨M,J,K,G,V⟩:=Uu h (R0:=R) _ _ none x U B;refine⟨f (M .nil),D.sp _ _ (G.sp .nil _ rfl),D.ne _ (G.ne .nil rfl),?_⟩;rw[D.bt,G.bt];exact V
theorem RI(s:ByteArray):∀f,ZL s (S5 s f)
 |0=>fun p R h=>by simp[S5]at h
 |f+1=>WA (RI s f)
def RSp(s:ByteArray):List PT->Nat->Prop
 | [],p=>False
 | [t],p=>t.Sp s p s.size/\t.Ne false
 |t::u::l,p=>∃q,t.Sp s p q/\t.Ne false/\F0 s q=10/\RSp s (u::l) (q+1)
theorem Cs{s:ByteArray}{p:Nat}{R:E0}(h:(D6 s p R).1=true):∃t:PT,t.Sp s p (D6 s p R).2.1/\t.Ne false/\(D6 s p R).2.2=((t.bt none none).glush R).2.endRule ((t.bt none none).glush R).1:=by
 unfold D6 at h⊢
 by_cases f:(S5 s (s.size+1) p R).ok=true
 ·rw[if_pos f];obtain⟨t,B,D,G⟩:=RI s (s.size+1) p R f;exact⟨t,B,D,by rw[G]⟩
 ·rw[if_neg f]at h;cases h
theorem Fx{s:ByteArray}:∀(n:Nat) (r:Bool×Nat×E0),(M3 s n r).1=true->r.1=true
 |0,r,h=>h
 |n+1,r,h=>by
  unfold M3 at h;split at h
  ·rename_i f;exact f.1
  ·exact h
theorem Gx{s:ByteArray}:∀(n:Nat) (p:Nat) (R:E0),(M3 s n (D6 s p R)).1=true->F0 s (M3 s n (D6 s p R)).2.1= -1->(M3 s n (D6 s p R)).2.1<=s.size->
  ∃J:List PT,RSp s J p/\(M3 s n (D6 s p R)).2.2=B7 (J.map (fun t=>t.bt none none)) R
 |0,p,R,hok,he,hle=>by
  obtain⟨t,B,D,G⟩:=Cs (s:=s) (p:=p) (R:=R) hok;have e:(M3 s 0 (D6 s p R))=D6 s p R:=rfl;rw[e]at he hle⊢;have:(D6 s p R).2.1=s.size:=by
   refine Nat.le_antisymm hle (xE fun f=>?_);unfold F0 at he;rw[dif_pos f]at he;omega
  exact⟨[t],⟨by rw[<-this];exact B,D⟩,by rw[G];rfl⟩
 |n+1,p,R,hok,he,hle=>by
  have h:=Fx (s:=s) _ _ hok;obtain⟨t,B,D,G⟩:=Cs (s:=s) (p:=p) (R:=R) h;unfold M3 at hok he hle⊢
  by_cases K:(D6 s p R).1=true/\F0 s (D6 s p R).2.1=10
  ·rw[if_pos K]at hok he hle⊢;obtain⟨J,M,U⟩:=Gx n _ _ hok he hle;cases J with
   |nil=>exact M.elim
   |cons u l=>
    refine⟨t::u::l,⟨_,B,D,K.2,M⟩,?_⟩;rw[U,G];rfl
  ·rw[if_neg K]at hok he hle⊢;have:(D6 s p R).2.1=s.size:=by
    refine Nat.le_antisymm hle (xE fun f=>?_);unfold F0 at he;rw[dif_pos f]at he;omega
   exact⟨[t],⟨by rw[<-this];exact B,D⟩,by rw[G];rfl⟩
def Cls(s:ByteArray):List Int->Nat->Nat->Prop
 | [],q,z=>q=z/\F0 s z=93
 |v::l,q,z=>(F0 s q=45/\v= -1/\Cls s l (q+1) z)\/(F0 s q=92/\F0 s (q+1)≠ -1/\F0 s (q+1)≠10/\v=Cb (F0 s (q+1))/\Cls s l (q+2) z)\/(F0 s q≠ -1/\F0 s q≠10/\F0 s q≠45/\F0 s q≠92/\F0 s q≠93/\v=F0 s q/\Cls s l (q+1) z)
theorem Cls.le{s:ByteArray}:∀{l:List Int} {q z:Nat},Cls s l q z->q+l.length<=z/\z<s.size/\F0 s z=93
 | [],q,z,h=>⟨by rw[h.1];simp,A1 (by rw[h.2];decide),h.2⟩
 |v::l,q,z,h=>by
  rcases h with⟨_,_,h⟩|⟨_,_,_,_,h⟩|⟨_,_,_,_,_,_,h⟩
  ·have:=Cls.le h;simp;omega
  ·have:=Cls.le h;simp;omega
  ·have:=Cls.le h;simp;omega
theorem Cls.nl{s:ByteArray}:∀{l:List Int} {q z:Nat},Cls s l q z->∀k,q<=k->k<=z->F0 s k≠10
 | [],q,z,h,k,h1,h2=>by rw[show k=z by have:=h.1;omega,h.2];decide
 |v::l,q,z,h,k,h1,h2=>by
  rcases h with⟨a,_,h⟩|⟨a,b,c,_,h⟩|⟨_,a,_,_,_,_,h⟩
  ·rcases yE q k with e|e
   ·exact Cls.nl h k (by omega) h2
   ·rw[show k=q by omega,a];decide
  ·rcases yE (q+1) k with e|e
   ·exact Cls.nl h k (by omega) h2
   ·rcases yE q k with f|f
    ·rw[show k=q+1 by omega];exact c
    ·rw[show k=q by omega,a];decide
  ·rcases yE q k with e|e
   ·exact Cls.nl h k (by omega) h2
   ·rw[show k=q by omega];exact a
theorem Ny{s:ByteArray}{p q:Nat}{v:Int}(h:A4 s p=(v,true,q)):0<=v/\p<q/\q<=s.size/\∀l z,Cls s l q z->Cls s (v::l) p z:=by
 unfold A4 at h;split at h
 ·cases h
 ·rename_i G;have X:F0 s p≠ -1:=fun e=>G (Or.inl e)
  have n2:F0 s p≠10:=fun e=>G (Or.inr (Or.inl e))
  have n3:F0 s p≠93:=fun e=>G (Or.inr (Or.inr (Or.inl e)))
  have n4:F0 s p≠45:=fun e=>G (Or.inr (Or.inr (Or.inr e)))
  have Z:=A1 X;have Y:=MK s p;unfold O5 at h;split at h
  ·rename_i B
   injection h with e1 e2;injection e2 with e2 e3
   subst e1 e3;exact⟨by omega,by omega,by omega,fun l z D=>.inr (.inr ⟨X,n2,n4,B,n3,rfl,D⟩)⟩
  ·rename_i B;have f:F0 s p=92:=Decidable.not_not.1 B;split at h
   ·injection h with e1 e2;injection e2 with e2 e3;cases e2
   ·rename_i M;have K:F0 s (p+1)≠ -1:=fun e=>M (Or.inl e)
    have W:F0 s (p+1)≠10:=fun e=>M (Or.inr e)
    have V:=A1 K;have U:=MK s (p+1);split at h
    ·rename_i J
     injection h with e1 e2;injection e2 with e2 e3
     subst e1 e3;exact⟨by omega,by omega,by omega,fun l z D=>.inr (.inl ⟨f,K,W,by rw[J];rfl,D⟩)⟩
    ·rename_i J
     injection h with e1 e2;injection e2 with e2 e3
     subst e1 e3;exact⟨by omega,by omega,by omega,fun l z D=>.inr (.inl ⟨f,K,W,by unfold Cb;rw[if_neg J],D⟩)⟩
def FY(m:Int×Int×Bool):List Int:=if m.2.2=true then [m.1,-1,m.2.1]else [m.1]
def Ps:List (Int×Int×Bool)->List Int
 | []=>[]
 |m::r=>FY m++Ps r
def MH(m:Int×Int×Bool):Prop:=0<=m.1/\0<=m.2.1/\(m.2.2=false->m.1=m.2.1)
theorem Zy{s:ByteArray}{p q:Nat}{M K:Int}(h:B4 s p=(M,K,true,q)):∃W,MH (M,K,W)/\p<q/\∀l z,Cls s l q z->Cls s (FY (M,K,W)++l) p z:=by
 unfold B4 at h;generalize f:A4 s p=r1 at h;obtain⟨v1,V,X⟩:=r1;simp only at h;split at h
 ·rename_i B
  injection h with e1 e2;injection e2 with e2 e3;injection e3 with e3 e4
  subst e1 e2 e4;rw[e3]at f;obtain⟨G,Y,t3,U⟩:=Ny f;exact⟨false,⟨G,G,fun _=>rfl⟩,Y,fun l z B=>U l z B⟩
 ·rename_i B;have Z:V=true:=by cases V <;>simp_all
  have J:F0 s X=45:=Decidable.not_not.1 fun e=>B (Or.inr e)
  subst Z;obtain⟨G,Y,t3,U⟩:=Ny f;generalize D:A4 s (X+1)=r2 at h;obtain⟨v2,o2,q2⟩:=r2;simp only at h;split at h
  ·cases h
  ·injection h with e1 e2;injection e2 with e2 e3;injection e3 with e3 e4
   subst e1 e2 e4;rw[e3]at D;obtain⟨u1,u2,u3,u4⟩:=Ny D;exact⟨true,⟨G,u1,fun e=>by cases e⟩,by omega,fun l z B=>U _ z (.inl ⟨J,rfl,u4 l z B⟩)⟩
def inM(c:Int)(m:Int×Int×Bool):Bool:=decide (m.1<=c) && decide (c<=m.2.1)
theorem Bv{s:ByteArray}:∀(n:Nat) (A B:Nat->Bool) (G:Bool) (p z:Nat),G=true->p<=s.size->s.size<n+p->C4 s n A G p=(B,true,z)->
  ∃D:List (Int×Int×Bool),(∀m∈D,MH m)/\Cls s (Ps D) p z/\∀c:Nat,B c=(A c || D.any (inM (c:Int)))
 |0,A,B,G,p,z,hok,hp,hn,h=>by omega
 |n+1,A,B,G,p,z,hok,hp,hn,h=>by
  unfold C4 at h;split at h
  ·rename_i K;have f:=R7 s p hp;generalize J:B4 s p=r at h f;obtain⟨Z,W,o,q⟩:=r;simp only at h f;cases o with
   |false=>
    rw[U8 _ _ _ _ _ (by simp)]at h
    injection h with e1 e2;injection e2 with e2 e3;cases e2
   |true=>
    obtain⟨pr,X,k2,Y⟩:=Zy J;obtain⟨D,M,U,V⟩:=Bv n _ B true q z rfl f.2.1 (by omega) h;refine⟨(Z,W,pr)::D,fun m f=>?_,Y _ _ U,fun c=>?_⟩
    ·rw[zU]at f;rcases f with rfl|f
     ·exact X
     ·exact M m f
    ·rw[V c];simp only[P9,List.any_cons,inM];rw[Bool.or_assoc]
  ·rename_i K
   injection h with e1 e2;injection e2 with e2 e3
   subst e1 e3;refine⟨[],by simp,⟨rfl,?_⟩,fun c=>by simp⟩;exact Decidable.not_not.1 fun e=>K ⟨hok,e⟩
def Gg:List Int->Int->Bool
 | [],_=>false
 | [a],c=>decide (c=a)
 | [a,d],c=>decide (c=a) || Gg [d] c
 |a::d::b::r,c=>if d= -1 then(decide (a<=c) && decide (c<=b)) || Gg r c else decide (c=a) || Gg (d::b::r) c
termination_by l=>l.length
theorem ZJ(c:Int):Gg [] c=false:=by rw[Gg]
theorem ED(a b:Int)(r:List Int)(c:Int):Gg (a:: -1::b::r) c=((decide (a<=c) && decide (c<=b)) || Gg r c):=by
 rw[Gg];simp
theorem AK(a:Int)(r:List Int)(c:Int)(h:∀d b r',r=d::b::r'->d≠ -1):Gg (a::r) c=(decide (c=a) || Gg r c):=by
 match r,h with
 | [],h=>rw[Gg,Gg];simp
 | [d],h=>simp only[Gg]
 |d::b::r',h=>rw[Gg,if_neg (h d b r' rfl)]
theorem IP:∀(f:List (Int×Int×Bool)),(∀m∈f,MH m)->∀d r,Ps f=d::r->d≠ -1
 | [],_,d,r,h=>by cases h
 |m::f,hm,d,r,h=>by
  have:=(hm m (by simp)).1;unfold Ps FY at h;split at h
  ·injection h with e1 e2;omega
  ·injection h with e1 e2;omega
theorem FD(c:Int):∀(f:List (Int×Int×Bool)),(∀m∈f,MH m)->Gg (Ps f) c=f.any (inM c)
 | [],_=>by simp[Ps,ZJ]
 |m::f,hm=>by
  have B:=FD c f (fun x h=>hm x (by simp[h]));have D:=hm m (by simp);obtain⟨a,b,G⟩:=m;simp only[List.any_cons];cases G with
  |true=>
   show Gg (a:: -1::b::Ps f) c=_;rw[ED,B];rfl
  |false=>
   show Gg (a::Ps f) c=_;rw[AK _ _ _ (fun d J r' e=>IP f (fun x h=>hm x (by simp[h])) d _ e),B]
   congr 1
   have:=D.2.2 rfl;simp only at this;subst this;unfold inM;simp only;rw[Bool.eq_iff_iff];simp;omega
inductive L8(s:ByteArray)(i e:Nat)(A:Nat->Bool):Prop where
 |any:F0 s i=46->e=i+1->(∀c:Nat,A c=true)->L8 s i e A
 |esc:F0 s i=92->e=i+2->F0 s (i+1)≠ -1->F0 s (i+1)≠10->(∀c:Nat,A c=decide (Cb (F0 s (i+1))=(c:Int)))->L8 s i e A
 |aE (l:List Int) (neg:Bool) (z:Nat):F0 s i=91->e=z+1->neg=decide (F0 s (i+1)=94)->Cls s l (i+1+neg.toNat) z->(∀c:Nat,A c=(Gg l (c:Int) !=neg))->L8 s i e A
 |bX:¬S7 (F0 s i)->F0 s i≠46->F0 s i≠91->F0 s i≠92->e=i+1->(∀c:Nat,A c=decide (F0 s i=(c:Int)))->L8 s i e A
theorem Vf{s:ByteArray}{i e:Nat}{A:Nat->Bool}(h:W6 s i=(A,true,e)):L8 s i e A:=by
 unfold W6 at h;split at h
 ·injection h with e1 e2;injection e2 with e2 e3;cases e2
 ·rename_i hb;have hi:i<s.size:=A1 (fun e=>hb (Or.inl e));split at h
  ·rename_i K
   injection h with e1 e2;injection e2 with e2 e3
   subst e1 e3;exact .any K rfl (fun c=>rfl)
  ·rename_i K;split at h
   ·rename_i M;generalize f:decide (F0 s (i+1)=94)=neg;have hq:(if neg=true then i+2 else i+1)=i+1+neg.toNat:=by cases neg <;>rfl
    generalize U:B4 s (i+1+neg.toNat)=r;obtain⟨lo,D,o,q⟩:=r;generalize G:C4 s (s.size+1) (P9 Ja lo D) o q=R;obtain⟨A',o',z⟩:=R;rw[Mg f hq U G]at h;simp only at h;split at h
    ·rename_i W
     injection h with e1 e2;injection e2 with e2 e3
     have a0:i+1+neg.toNat<=s.size:=by
      cases neg with
      |false=>show i+1<=s.size;omega
      |true=>
       simp at f;have:=A1 (s:=s) (p:=i+1) (by rw[f];decide);simp;omega
     have V:=R7 s _ a0;rw[U]at V;simp only at V;cases o with
     |false=>
      rw[U8 _ _ _ _ _ (by simp)]at G
      injection G with u1 u2;injection u2 with u2 u3;rw[<-u2]at W;cases W
     |true=>
      obtain⟨pr,k1,k2,k3⟩:=Zy U;subst W;obtain⟨ms,h1,h2,J⟩:=Bv (s.size+1) _ A' true q z rfl V.2.1 (by omega) G;have Y:∀m∈(lo,D,pr)::ms,MH m:=fun m hm=>by
       rw[zU]at hm;rcases hm with rfl|hm
       ·exact k1
       ·exact h1 m hm
      refine .aE (Ps ((lo,D,pr)::ms)) neg z M e3.symm f.symm (k3 _ _ h2) (fun c=>?_);rw[FD _ _ Y];have X:A' c=((lo,D,pr)::ms).any (inM (c:Int)):=by
       rw[J c];simp[P9,Ja,inM]
      rw[<-e1];cases neg with
      |true=>simp[Px,X]
      |false=>simp[X]
    ·injection h with e1 e2;injection e2 with e2 e3;cases e2
   ·rename_i M
    injection h with e1 e2;injection e2 with e2 e3
    unfold O5 at e1 e2 e3
    by_cases B:F0 s i=92
    ·rw[if_neg (by simp[B])]at e1 e2 e3
     by_cases J:F0 s (i+1)= -1\/F0 s (i+1)=10
     ·rw[if_pos J]at e2;cases e2
     ·rw[if_neg J]at e1 e2 e3
      by_cases Z:F0 s (i+1)=110
      ·rw[if_pos Z]at e1 e2 e3;refine .esc B e3.symm (fun e=>J (.inl e)) (fun e=>J (.inr e)) (fun c=>?_);rw[<-e1,Z];simp only[P9,Ja,Cb];rw[Bool.eq_iff_iff];simp;omega
      ·rw[if_neg Z]at e1 e2 e3;refine .esc B e3.symm (fun e=>J (.inl e)) (fun e=>J (.inr e)) (fun c=>?_);rw[<-e1];simp only[P9,Ja,Cb,if_neg Z];rw[Bool.eq_iff_iff];simp;omega
    ·rw[if_pos B]at e1 e2 e3;refine .bX hb K M B e3.symm (fun c=>?_);rw[<-e1];simp only[P9,Ja];rw[Bool.eq_iff_iff];simp;omega
theorem L8.lt{s:ByteArray}{i e:Nat}{A:Nat->Bool}(h:L8 s i e A):i<e/\e<=s.size:=by
 cases h with
 |any h1 h2 _=>have:=A1 (s:=s) (p:=i) (by rw[h1];decide);omega
 |esc h1 h2 h3 _ _=>have:=A1 h3;omega
 |aE l neg z h1 h2 h3 h4 _=>have:=h4.le;omega
 |bX h1 _ _ _ h2 _=>have:=A1 (s:=s) (p:=i) (fun e=>h1 (.inl e));omega
theorem L8.nl{s:ByteArray}{i e:Nat}{A:Nat->Bool}(h:L8 s i e A)(k:Nat)(D:i<=k)(G:k<e):F0 s k≠10:=by
 cases h with
 |any a b _=>rw[show k=i by omega,a];decide
 |esc a b c d _=>
  rcases yE i k with f|f
  ·rw[show k=i+1 by omega];exact d
  ·rw[show k=i by omega,a];decide
 |aE l neg z a b c d _=>
  rcases yE i k with f|f
  ·cases neg with
   |false=>exact d.nl k (by simp;omega) (by omega)
   |true=>
    rcases yE (i+1) k with B|B
    ·exact d.nl k (by simp;omega) (by omega)
    ·rw[show k=i+1 by omega];have:F0 s (i+1)=94:=by simpa using c.symm
     rw[this];decide
  ·rw[show k=i by omega,a];decide
 |bX a _ _ _ b _=>rw[show k=i by omega];exact fun e=>a (.inr (.inl e))
theorem L8.first{s:ByteArray}{i e:Nat}{A:Nat->Bool}(h:L8 s i e A):¬S7 (F0 s i):=by
 cases h with
 |any a _ _=>rw[a];decide
 |esc a _ _ _ _=>rw[a];decide
 |aE l neg z a _ _ _ _=>rw[a];decide
 |bX a _ _ _ _ _=>exact a
theorem PT.cF{s:ByteArray}:∀{t:PT} {i j:Nat},t.Sp s i j->i<=j
 |.nil,i,j,h=>Nat.le_of_eq h
 |.bar r,i,j,h=>by have:=cF h.2;omega
 |.leaf a e A m r,i,j,h=>by
  obtain⟨_,f,_,_,B⟩:=h;have:=(Vf f).lt;have:=cF B;omega
 |.group t m r,i,j,h=>by
  obtain⟨_,e,f,_,_,B⟩:=h;have:=cF f;have:=cF B;omega
theorem CQ{s:ByteArray}{e m:Nat}(h:Dt s e m)(B:e<=s.size):e+F5 m<=s.size:=by
 rcases h with⟨rfl,_⟩|⟨D,f⟩
 ·exact B
 ·have:=A1 (s:=s) (p:=e) (by rw[f];omega);unfold F5;split <;>omega
theorem PT.dV{s:ByteArray}:∀{t:PT} {i j:Nat},i<=s.size->t.Sp s i j->j<=s.size
 |.nil,i,j,hi,h=>by rw[<-(show i=j from h)];exact hi
 |.bar r,i,j,hi,h=>dV (by have:=A1 (s:=s) (p:=i) (by rw[h.1];decide);omega) h.2
 |.leaf a e A m r,i,j,hi,h=>by
  obtain⟨_,D,_,f,B⟩:=h;have:=(Vf D).lt;exact dV (CQ f this.2) B
 |.group t m r,i,j,hi,h=>by
  obtain⟨J,e,D,G,f,B⟩:=h;have:=A1 (s:=s) (p:=e) (by rw[G];decide);exact dV (CQ f (by omega)) B
theorem PT.fL{s:ByteArray}:∀{t:PT} {i j:Nat},t.Sp s i j->∀k,i<=k->k<j->F0 s k≠10
 |.nil,i,j,h,k,h1,h2=>by have:i=j:=h;omega
 |.bar r,i,j,h,k,h1,h2=>by
  rcases yE i k with e|e
  ·exact fL h.2 k (by omega) h2
  ·rw[show k=i by omega,h.1];decide
 |.leaf a e A m r,i,j,h,k,h1,h2=>by
  obtain⟨_,b,_,c,d⟩:=h;rcases yE k e with D|D
  ·exact(Vf b).nl k h1 D
  ·rcases yE k (e+F5 m)with B|B
   ·rcases c with⟨rfl,_⟩|⟨J,G⟩
    ·simp[F5]at B;omega
    ·have:F5 m<=1:=by unfold F5;split <;>omega
     rw[show k=e by omega,G];omega
   ·exact fL d k B h2
 |.group t m r,i,j,h,k,h1,h2=>by
  obtain⟨a,e,b,c,d,f⟩:=h;rcases yE i k with K|K
  ·rcases yE k e with D|D
   ·exact fL b k (by omega) D
   ·rcases yE k (e+1)with M|M
    ·rw[show k=e by omega,c];decide
    ·rcases yE k (e+1+F5 m)with B|B
     ·rcases d with⟨rfl,_⟩|⟨J,G⟩
      ·simp[F5]at B;omega
      ·have:F5 m<=1:=by unfold F5;split <;>omega
       rw[show k=e+1 by omega,G];omega
     ·exact fL f k B h2
  ·rw[show k=i by omega,a];decide
end Go.Proofs.YtcckhngbdoiikabGreat
