import Derived.Test.YtcckhngbdoiikaaGreatS04
set_option maxRecDepth 20000
set_option maxHeartbeats 12800000
set_option linter.unusedVariables false
namespace Go.Proofs.YtcckhngbdoiikaaGreat
def dY(L:List Nat)(p q:Nat):List Nat:=(L.drop p).take (q-p)
theorem Rv{L:List Nat}{p q:Nat}(h:q<=L.length):(dY L p q).length=q-p:=by simp[dY];omega
theorem Uy{L:List Nat}{p m q:Nat}(h:p<=m)(B:m<=q):dY L p m++dY L m q=dY L p q:=by
 unfold dY;have e:L.drop m=(L.drop p).drop (m-p):=by rw[List.drop_drop];congr 1;omega
 have f:q-p=(m-p)+(q-m):=by omega
 rw[e,f,List.take_add]
theorem TC{L:List Nat}{p q:Nat}{u v:List Nat}(G:p<=q)(J:q<=L.length)(h:dY L p q=u++v):∃m,p<=m/\m<=q/\dY L p m=u/\dY L m q=v:=by
 have D:=Rv (L:=L) (p:=p) J;rw[h]at D;simp at D;have f:=Uy (L:=L) (p:=p) (m:=p+u.length) (q:=q) (by omega) (by omega);rw[h]at f;have B:=List.append_inj f (by rw[Rv (by omega)];omega);exact⟨p+u.length,by omega,by omega,B.1,B.2⟩
theorem DF{L:List Nat}{p q:Nat}(f:p<=q)(B:q<=L.length)(h:dY L p q= []):p=q:=by
 have:=Rv (L:=L) (p:=p) B;rw[h]at this;simp at this;omega
theorem Vy(L:List Nat)(p:Nat):dY L p p= []:=by simp[dY]
theorem SO{L:List Nat}{p:Nat}(h:p<L.length):dY L p (p+1)= [L[p]]:=by
 unfold dY;rw[show p+1-p=1 by omega,zY h];rfl
def I8(L:List Nat)(P:List Nat->Prop)(p q:Nat):Prop:=p<=q/\q<=L.length/\P (dY L p q)
noncomputable def Ha (L:List Nat) (P:List Nat->Prop) (p:Nat):List Bool:=(List.range (L.length+1)).map (fun q=>@decide (I8 L P p q) (Classical.propDecidable _))
theorem Fr(L:List Nat)(P:List Nat->Prop)(p:Nat):(Ha L P p).length=L.length+1:=by simp[Ha]
theorem AJ{L:List Nat}{P:List Nat->Prop}{p q:Nat}(h:q<(Ha L P p).length):(Ha L P p)[q]=true↔I8 L P p q:=by
 simp[Ha]
theorem T8{L:List Nat}{P:List Nat->Prop}{p q:Nat}:(Ha L P p).getD q false=true↔I8 L P p q:=by
 by_cases h:q<(Ha L P p).length
 ·rw[zC,zF h];exact AJ h
 ·rw[zC,yI (by omega)];rw[Fr]at h;constructor
  ·intro e;cases e
  ·intro e;have:=e.2.1;omega
theorem Ie{L:List Nat}{P:List Nat->Prop}{p:Nat}{l:List Bool}(D:l.length=L.length+1)(h:∀q,q<=L.length->(l.getD q false=true↔I8 L P p q)):l=Ha L P p:=by
 refine List.ext_getElem (by rw[D,Fr]) fun q f B=>?_
 rw[Bool.eq_iff_iff,AJ B,<-h q (by omega)];simp[f]
theorem Ax{L:List Nat}{P Q:List Nat->Prop}{p q:Nat}:I8 L (fun w=>∃u v,w=u++v/\P u/\Q v) p q↔∃m,I8 L P p m/\I8 L Q m q:=by
 constructor
 ·rintro⟨f,h,u,v,B,D,G⟩;obtain⟨m,J,K,M,U⟩:=TC f h B;exact⟨m,⟨J,by omega,M ▸ D⟩,⟨K,h,U ▸ G⟩⟩
 ·rintro⟨m,⟨f,h,B⟩,⟨D,G,J⟩⟩;exact⟨by omega,G,_,_,(Uy f D).symm,B,J⟩
theorem IX{L:List Nat}{P Q:List Nat->Prop}{p q:Nat}:I8 L (fun w=>P w\/Q w) p q↔(I8 L P p q\/I8 L Q p q):=by
 constructor
 ·rintro⟨h,B,f|f⟩
  ·exact .inl ⟨h,B,f⟩
  ·exact .inr ⟨h,B,f⟩
 ·rintro(⟨h,B,f⟩|⟨h,B,f⟩)
  ·exact⟨h,B,.inl f⟩
  ·exact⟨h,B,.inr f⟩
theorem WK{L:List Nat}{P:List Nat->Prop}{p q:Nat}(D:p<=L.length):I8 L (fun w=>w= []\/P w) p q↔(q=p\/I8 L P p q):=by
 constructor
 ·rintro⟨h,B,f|f⟩
  ·exact .inl (DF h B f).symm
  ·exact .inr ⟨h,B,f⟩
 ·rintro(rfl|⟨h,B,f⟩)
  ·exact⟨zD _,D,.inl (Vy _ _)⟩
  ·exact⟨h,B,.inr f⟩
def Ph(al:Nat->I0)(b k:Nat):Prop:=k<=b/\al k=al b/\∀j,j<k->al j≠al b
theorem Qs(al:Nat->I0):∀n s,s∈V0 al n->∃b,b<n/\al b=s
 |0,s,h=>by simp[V0]at h
 |n+1,s,h=>by
  unfold V0 at h;split at h
  ·rw[zO,zJ]at h;rcases h with h|h
   ·obtain⟨b,B,f⟩:=Qs al n s h;exact⟨b,by omega,f⟩
   ·exact⟨n,by omega,h.symm⟩
  ·obtain⟨b,B,f⟩:=Qs al n s h;exact⟨b,by omega,f⟩
theorem EE:∀(l:List I0) (s:I0),s∈l->W8 l s<l.length
 | [],s,h=>by simp at h
 |x::r,s,h=>by
  unfold W8;split
  ·simp
  ·rename_i e;rw[zU]at h;rcases h with h|h
   ·exact absurd h.symm e
   ·have:=EE r s h;simp;omega
theorem Lx:∀(l:List I0) (s:I0),s∉l->W8 l s=l.length
 | [],s,h=>rfl
 |x::r,s,h=>by
  unfold W8;rw[zU,not_or]at h;rw[if_neg (fun e=>h.1 e.symm),Lx r s h.2];simp
theorem Bu:∀{l m:List I0} {s:I0},l<+:m->s∈l->W8 m s=W8 l s
 | [],m,s,_,h=>by simp at h
 |x::l,[],s,hp,h=>by have:=hp.length_le;simp at this
 |x::l,y::m,s,hp,h=>by
  obtain⟨r,f⟩:=hp
  injection f with e1 e2
  subst e1;unfold W8;split
  ·rfl
  ·rename_i e;rw[zU]at h;rcases h with h|h
   ·exact absurd h.symm e
   ·rw[Bu ⟨r,e2⟩ h]
theorem KB{al:Nat->I0}{b k:Nat}(h:Ph al b k)(W:k<b):Z2 al b=Z2 al k/\V0 al (b+1)=V0 al b:=by
 have D:=Ue al k (k+1) (by omega);have G:V0 al (k+1)<+:V0 al b:=by
  have:=Sb al (k+1) (b- (k+1))
  rwa [show k+1+(b- (k+1))=b by omega]at this
 have f:al k∈V0 al (k+1):=by
  rw[<-D.2,zC,zF D.1];exact zG _
 have K:W8 (V0 al b) (al b)=W8 (V0 al (k+1)) (al k):=by rw[<-h.2.1];exact Bu G f
 have U:=EE (V0 al b) (al b) (by rw[<-h.2.1];exact G.subset f);refine⟨?_,by rw[V0,if_neg (by omega)]⟩;unfold Z2;rw[K];have M:V0 al (k+1)=(if W8 (V0 al k) (al k)=(V0 al k).length then V0 al k++ [al k]else V0 al k):=rfl;rw[M];have X:=Th (V0 al k) (al k);split
 ·rename_i J;have V:=DH _ _ J;rw[J];have:∀(l:List I0) (s:I0),s∉l->W8 (l++ [s]) s=l.length:=by
   intro l s B
   induction l with
   |nil=>simp[W8]
   |cons x r ih=>
    rw[zU,not_or]at B;show(if x=s then 0 else W8 (r++ [s]) s+1)=_;rw[if_neg (fun e=>B.1 e.symm),ih B.2];simp
  exact this _ _ V
 ·rfl
theorem Hq{al:Nat->I0}{b:Nat}(h:Ph al b b):Z2 al b=(V0 al b).length/\V0 al (b+1)=V0 al b++ [al b]:=by
 have D:al b∉V0 al b:=fun e=>by
  obtain⟨j,f,B⟩:=Qs al b _ e;exact h.2.2 j f B
 have:=Lx _ _ D;exact⟨this,by rw[V0,if_pos this]⟩
theorem Af(f k:I0):∀(K S:List I0),H8 f (K++ [k]) S=((H8 f K S).1++ [W5 (H8 f K S).2 (f.and k)],if W5 (H8 f K S).2 (f.and k)=((H8 f K S).2.length:Int)then(H8 f K S).2++ [f.and k]else(H8 f K S).2)
 | [],S=>rfl
 |x::K,S=>by
  show(_::(H8 f (K++ [k]) _).1,(H8 f (K++ [k]) _).2)=_;rw[Af f k K];rfl
theorem ZI(f:I0)(K S:List I0):S<+:(H8 f K S).2:=(Qg f K S).1
theorem GC(f:I0):∀(M K S:List I0),(H8 f K S).2<+:(H8 f (K++M) S).2
 | [],K,S=>by simp
 |m::M,K,S=>by
  have h:=GC f M (K++ [m]) S;rw[yF]at h;refine List.IsPrefix.trans ?_ h;rw[Af];simp only;split
  ·exact List.prefix_append _ _
  ·exact List.prefix_refl _
def Cl(R:E0)(S:List I0)(n:Nat):I0:=if 0<n then R.after (S.getD n I0.none)else R.first
theorem Dl{R:E0}{S f:List I0}{n:Nat}(h:S<+:f)(B:n<S.length):Cl R f n=Cl R S n:=by
 unfold Cl;rw[M8 h B]
structure Rh(R:E0)(S:List I0)(T:List (List Nat)):Prop where
 len:T.length=S.length
 bF:0<S.length
 zero:S.getD 0 I0.none=I0.none/\T.getD 0 []= []
 bytes:∀i,∀x∈T.getD i [],x<256
 set:∀i,0<i->i<S.length->T.getD i []≠ []/\Bb R (T.getD i [])=S.getD i I0.none/\(S.getD i I0.none).isEmpty=false
 dH:∀i,(T.getD i []).length<=i
theorem Rh.next{R:E0}{S:List I0}{T:List (List Nat)}(h:Rh R S T){n:Nat}(G:n<S.length)(b:Nat):Bb R (T.getD n []++ [b])=(Cl R S n).and (R.aJ b):=by
 unfold Cl
 by_cases f:0<n
 ·obtain⟨B,D,_⟩:=h.set n f G;rw[if_pos f,Ft R b _ B,D];rfl
 ·rw[if_neg f,show n=0 by omega,h.zero.2];rfl
theorem Rh.push{R:E0}{S:List I0}{T:List (List Nat)}(h:Rh R S T){n b:Nat}(J:n<S.length)(M:b<256)(G:((Cl R S n).and (R.aJ b)).isEmpty=false):Rh R (S++ [(Cl R S n).and (R.aJ b)]) (T++ [T.getD n []++ [b]]):=by
 have K:=h.next J b;have U:=h.len;refine⟨by simp[h.len],by simp,⟨by rw[G5,if_pos h.bF];exact h.zero.1,by rw[G5,if_pos (by rw[h.len];exact h.bF)];exact h.zero.2⟩,fun i x f=>?_,fun i B f=>?_,fun i=>?_⟩
 ·rw[G5]at f;split at f
  ·exact h.bytes i x f
  ·split at f
   ·rw[zO,zJ]at f;rcases f with f|f
    ·exact h.bytes n x f
    ·omega
   ·simp at f
 ·simp only[zL,yH,List.length_nil]at f;rw[G5,G5,h.len];split
  ·rename_i D;exact h.set i B D
  ·rw[if_pos (by omega),if_pos (by omega)];exact⟨by simp,K,G⟩
 ·rw[G5];split
  ·exact h.dH i
  ·split
   ·have:=h.dH n;rw[zL,yO];omega
   ·simp
structure Sd(R:E0)(n:Nat)(S:List I0)(g:B0)(T:List (List Nat)):Prop where
 loop:E6 R (V0 R.aJ 256)=C4 R (V0 R.aJ 256) (63-n) n S g
 le:n<=S.length
 cT:S.length<=61
 bO:Rh R S T
 bR:S.Nodup
 ex:DT R (V0 R.aJ 256) S g n
theorem Sd.start(R:E0):Sd R 0 [I0.none] B0.aQ [[]]:=
 ⟨rfl,by simp,by simp,⟨rfl,by simp,⟨rfl,rfl⟩,fun i x B=>by cases i <;>simp at B,fun i D h=>by simp at h;omega,fun i=>by cases i <;>simp⟩,by simp,
  ⟨rfl,rfl,⟨by simp,rfl⟩,fun j f=>by omega,fun j f=>by omega,fun j f=>by omega⟩⟩
structure E8(R:E0)(n b:Nat)(S0 S:List I0)(T:List (List Nat))(row:List Int):Prop where
 aI:S=(H8 (Cl R S0 n) (V0 R.aJ b) S0).2
 row:row=(H8 (Cl R S0 n) (V0 R.aJ b) S0).1
 cT:S.length<=61
 bO:Rh R S T
 bR:S.Nodup
theorem E8.start{R:E0}{n:Nat}{S:List I0}{g:B0}{T:List (List Nat)}(h:Sd R n S g T):E8 R n 0 S S T []:=⟨rfl,rfl,h.cT,h.bO,h.bR⟩
theorem E8.skip{R:E0}{n b k:Nat}{B S:List I0}{T:List (List Nat)}{f:List Int}(h:E8 R n b B S T f)(G:Ph R.aJ b k)(D:k<b):E8 R n (b+1) B S T f:=by
 have:=(KB G D).2;exact⟨by rw[this];exact h.aI,by rw[this];exact h.row,h.cT,h.bO,h.bR⟩
theorem E8.cX{R:E0}{n b:Nat}{B S:List I0}{T:List (List Nat)}{f:List Int}(h:E8 R n b B S T f):B<+:S:=by rw[h.aI];exact ZI _ _ _
theorem E8.set{R:E0}{n b:Nat}{f S:List I0}{T:List (List Nat)}{B:List Int}(h:E8 R n b f S T B)(D:n<f.length)(c:Nat):Bb R (T.getD n []++ [c])=(Cl R f n).and (R.aJ c):=by
 have:=h.cX.length_le;rw[h.bO.next (by omega),Dl h.cX D]
theorem E8.eY{R:E0}{n b:Nat}{B S:List I0}{T:List (List Nat)}{f:List Int}(h:E8 R n b B S T f)(J:n<B.length)(G:Ph R.aJ b b)(D:W5 S (Bb R (T.getD n []++ [b]))≠(S.length:Int)):
  E8 R n (b+1) B S T (f++ [W5 S (Bb R (T.getD n []++ [b]))]):=by
 rw[h.set J]at D⊢;have e:=(Hq G).2;refine⟨?_,?_,h.cT,h.bO,h.bR⟩
 ·rw[e,Af,<-h.aI];simp only;rw[if_neg D]
 ·rw[e,Af,<-h.aI,<-h.row]
theorem E8.fresh{R:E0}{n b:Nat}{B S:List I0}{T:List (List Nat)}{G:List Int}(h:E8 R n b B S T G)(K:n<B.length)(V:b<256)(W:Ph R.aJ b b)(f:W5 S (Bb R (T.getD n []++ [b]))=(S.length:Int))(Z:S.length+1<=61):
  E8 R n (b+1) B (S++ [Bb R (T.getD n []++ [b])]) (T++ [T.getD n []++ [b]]) (G++ [(S.length:Int)]):=by
 have M:=h.cX.length_le;have X:=h.set K b;rw[X]at f⊢;have e:=(Hq W).2;have D:((Cl R B n).and (R.aJ b)).isEmpty=false:=by
  cases hc:((Cl R B n).and (R.aJ b)).isEmpty with
  |false=>rfl
  |true=>unfold W5 at f;rw[hc]at f;simp at f
 refine⟨?_,?_,by simp;omega,?_,?_⟩
 ·rw[e,Af,<-h.aI];simp only;rw[if_pos f]
 ·rw[e,Af,<-h.aI,<-h.row,f]
 ·have:=h.bO.push (n:=n) (b:=b) (by omega) V (by rw[Dl h.cX K];exact D);rw[Dl h.cX K]at this;exact this
 ·rw[List.nodup_append];refine⟨h.bR,by simp,fun x Y y U=>?_⟩;rw[zJ]at U;subst U;intro J;subst J;have:=EE _ _ Y;unfold W5 at f;rw[D]at f;simp at f;omega
theorem E8.fail{R:E0}{n b:Nat}{f S:List I0}{T:List (List Nat)}{D:List Int}{g:B0}{U:List (List Nat)}(h:E8 R n b f S T D)(G:Sd R n f g U)(K:n<f.length)(Z:b<256)(W:Ph R.aJ b b)(J:W5 S (Bb R (T.getD n []++ [b]))=(S.length:Int))(ht:61<S.length+1):
  E6 R (V0 R.aJ 256)=none:=by
 have Y:=h.set K b;rw[Y]at J;have e:=(Hq W).2;have X:V0 R.aJ (b+1)<+:V0 R.aJ 256:=by
  have:=Sb R.aJ (b+1) (256- (b+1))
  rwa [show b+1+(256- (b+1))=256 by omega]at this
 obtain⟨M,V⟩:=X;have B:=(GC (Cl R f n) M (V0 R.aJ (b+1)) f).length_le;rw[V]at B;have:(H8 (Cl R f n) (V0 R.aJ (b+1)) f).2.length=S.length+1:=by
  rw[e,Af,<-h.aI];simp only;rw[if_pos J];simp
 rw[G.loop];have:=G.cT;rw[show 63-n=(62-n)+1 by omega,C4,if_pos K];simp only;rw[if_pos];show 61<(H8 (Cl R f n) _ f).2.length;omega
theorem PV(f:I0)(K S:List I0):(H8 f K S).1.length=K.length:=(Qg f K S).2.1
theorem E8.done{R:E0}{n:Nat}{f S:List I0}{T:List (List Nat)}{J:List Int}{g:B0}{X:List (List Nat)}(h:E8 R n 256 f S T J)(K:Sd R n f g X)(Y:n<f.length):
  Sd R (n+1) S ⟨g.aB++ [R.aB (S.getD n I0.none)],g.next++ [J]⟩ T:=by
 have W:=K.cT;have V:=h.cX.length_le;have B:=K.ex;have D:=Qg (Cl R f n) (V0 R.aJ 256) f;rw[<-h.aI,<-h.row]at D;refine⟨?_,by omega,h.cT,h.bO,h.bR,?_⟩
 ·rw[K.loop,show 63-n=(62-n)+1 by omega,C4,if_pos Y];have e:(if 0<n then R.after (f.getD n I0.none)else R.first)=Cl R f n:=rfl;simp only;rw[e,<-h.aI,<-h.row,if_neg (by have:=h.cT;omega),show 63- (n+1)=62-n by omega]
 ·refine⟨by simp[B.rl],by simp[B.nl],⟨h.bO.bF,h.bO.zero.1⟩,fun j M=>?_,fun j M=>?_,fun j M k U=>?_⟩
  ·rw[G5,B.rl];split
   ·rename_i G;rw[B.aB j G,M8 D.1 (by omega)]
   ·rw[if_pos (by omega),show j=n by omega]
  ·rw[G5,B.nl];split
   ·rename_i G;exact B.row j G
   ·rw[if_pos (by omega)];exact D.2.1
  ·rw[G5,B.nl];split
   ·rename_i G;rw[M8 D.1 (by omega:j<f.length)];exact(B.next j G k U).mono D.1
   ·rw[if_pos (by omega),M8 D.1 (by omega:j<f.length),show j=n by omega];exact D.2.2 k U
theorem Sd.done{R:E0}{n:Nat}{S:List I0}{g:B0}{T:List (List Nat)}(h:Sd R n S g T)(f:S.length<=n):E6 R (V0 R.aJ 256)=some g:=by
 have:=h.le;have:=h.cT;rw[h.loop,show 63-n=(62-n)+1 by omega,C4,if_neg (by omega)]
theorem E8.get{R:E0}{n b:Nat}{B S:List I0}{T:List (List Nat)}{f:List Int}(h:E8 R n b B S T f):f.length=(V0 R.aJ b).length:=by rw[h.row,PV]
def BT.Tw(a b:Nat):BT->Prop
 |.leaf _ A=>A a=A b
 |.row l r=>l.Tw a b/\r.Tw a b
 |.or l r=>l.Tw a b/\r.Tw a b
 |.plus l=>l.Tw a b
 |.maybe l=>l.Tw a b
def TwR(a b:Nat)(R:E0):Prop:=∀q,R.A q a↔R.A q b
theorem Se(a b:Nat):∀(t:BT) (R:E0),R.aC.length+t.places<=128->Es R->(TwR a b (t.glush R).2↔(TwR a b R/\t.Tw a b))
 |.leaf i A,R,hn,hc=>by
  simp only[BT.places]at hn;have M:∀p x,(R.add A).A p x↔(R.A p x\/(p=R.aC.length/\A x=true)):=by
   intro p x;unfold E0.A E0.add Ud;simp only;split
   ·rename_i G;rw[Ta,Be _ _ (by omega),G];simp only[yX,decide_eq_true_eq,and_true];exact or_congr Iff.rfl ⟨fun e=>e.symm,fun e=>e.symm⟩
   ·rename_i G;simp[G]
  show TwR a b (R.add A)↔_;unfold TwR;simp only[M,BT.Tw];constructor
  ·intro h;refine⟨fun q=>?_,?_⟩
   ·have:=h q;have B:=hc.2 q a;have D:=hc.2 q b;constructor
    ·intro e;rcases this.1 (.inl e)with x|x
     ·exact x
     ·have:=B e;omega
    ·intro e;rcases this.2 (.inl e)with x|x
     ·exact x
     ·have:=D e;omega
   ·have:=h R.aC.length;have U:¬R.A R.aC.length a:=fun e=>by have:=hc.2 _ _ e;omega
    have V:¬R.A R.aC.length b:=fun e=>by have:=hc.2 _ _ e;omega
    simp only[U,V,false_or,true_and]at this;exact Bool.eq_iff_iff.2 this
  ·rintro⟨B,D⟩ q;rw[B q,D]
 |.row l r,R,hn,hc=>by
  simp only[BT.places]at hn;have f:=Ia (T3 l R (by omega)) hc;have J:=Se a b l R (by omega) hc;have K:=Se a b r (l.glush R).2 (by rw[W4];omega) f;show TwR a b (r.glush (l.glush R).2).2↔_;rw[K,J,and_assoc];rfl
 |.or l r,R,hn,hc=>by
  simp only[BT.places]at hn;have f:=Ia (T3 l R (by omega)) hc;have J:=Se a b l R (by omega) hc;have K:=Se a b r (l.glush R).2 (by rw[W4];omega) f;show TwR a b (r.glush (l.glush R).2).2↔_;rw[K,J,and_assoc];rfl
 |.plus l,R,hn,hc=>Se a b l R hn hc
 |.maybe l,R,hn,hc=>Se a b l R hn hc
theorem Yp(a b:Nat):∀(f B:List BT) (R:E0),Jf R B->R.aC.length+I6 f<=128->(TwR a b (W6 f R)↔(TwR a b R/\∀t∈f,t.Tw a b))
 | [],B,R,h,hn=>by simp[W6]
 |t::f,B,R,h,hn=>by
  unfold I6 at hn;unfold W6;have D:=Se a b t R (by omega) h.aS;have G:=Yp a b f (B++ [t]) _ (h.step t (by omega)) (by show(t.glush R).2.aC.length+_<=128;rw[W4];omega);rw[G];have e:TwR a b ((t.glush R).2.endRule (t.glush R).1)↔TwR a b (t.glush R).2:=Iff.rfl;rw[e,D,and_assoc];simp
theorem OP(a b:Nat)(f:List BT)(D:I6 f<=128):(W6 f E0.aQ).aJ a=(W6 f E0.aQ).aJ b↔∀t∈f,t.Tw a b:=by
 have h:=Yp a b f [] E0.aQ Jf.aQ (by simp[E0.aQ];exact D);have B:TwR a b E0.aQ:=fun q=>by simp[E0.A,E0.aQ]
 have e:(W6 f E0.aQ).aJ a=(W6 f E0.aQ).aJ b↔TwR a b (W6 f E0.aQ):=by
  constructor
  ·intro e q;unfold E0.A;rw[e]
  ·intro e;exact Iy fun q=>Bool.eq_iff_iff.2 (e q)
 rw[e,h];simp[B]
mutual
def NT.Tw(a b:Nat):NT->Prop
 |.place i e A=>A a=A b
 |.node k l=>twL a b l
def twL(a b:Nat):List NT->Prop
 | []=>True
 |x::l=>x.Tw a b/\twL a b l
end
theorem LF(a b:Nat):∀l:List NT,twL a b l↔∀x∈l,x.Tw a b
 | []=>by simp[twL]
 |x::l=>by simp[twL,LF a b l]
theorem Vh(a b k:Nat)(l:List NT):(NT.node k l).Tw a b↔∀x∈l,x.Tw a b:=by rw[NT.Tw,LF]
def PT.Tw(a b:Nat):PT->Prop
 |.nil=>True
 |.bar r=>r.Tw a b
 |.leaf i e A m r=>A a=A b/\r.Tw a b
 |.group t m r=>t.Tw a b/\r.Tw a b
theorem AO(a b m:Nat)(t:BT):(Tb m t).Tw a b↔t.Tw a b:=by
 unfold Tb;split
 ·rfl
 ·split
  ·rfl
  ·split <;>rfl
theorem VH(a b m:Nat)(x:NT):(P6 m x).Tw a b↔x.Tw a b:=by
 unfold P6;split
 ·simp[Vh]
 ·split
  ·simp[Vh]
  ·split
   ·simp[Vh]
   ·rfl
def twO(a b:Nat):Option BT->Prop
 |none=>True
 |some t=>t.Tw a b
theorem YA(a b:Nat)(c:Option BT)(x:BT):(Yf c x).Tw a b↔(twO a b c/\x.Tw a b):=by cases c <;>simp[Yf,twO,BT.Tw]
theorem MH(a b:Nat)(c:Option BT)(x:BT):(Pc c x).Tw a b↔(twO a b c/\x.Tw a b):=by cases c <;>simp[Pc,twO,BT.Tw]
theorem PN(a b:Nat)(c:Option BT):(c.getD TD).Tw a b↔twO a b c:=by cases c <;>simp[twO,TD,BT.Tw]
theorem PT.eS(a b:Nat):∀(t:PT) (f cur:Option BT),(t.bt f cur).Tw a b↔(twO a b f/\twO a b cur/\t.Tw a b)
 |.nil,f,cur=>by simp only[PT.bt,MH,PN,PT.Tw,and_true]
 |.bar r,f,cur=>by
  simp only[PT.bt,PT.eS a b r,PT.Tw];simp only[twO,MH,PN,true_and,and_assoc]
 |.leaf i e A m r,f,cur=>by
  simp only[PT.bt,PT.eS a b r,PT.Tw];simp only[twO,YA,AO,BT.Tw,and_assoc]
 |.group t m r,f,cur=>by
  simp only[PT.bt,PT.eS a b r,PT.Tw];simp only[twO,YA,AO,PT.eS a b t,true_and,and_assoc]
theorem PT.fB(a b:Nat):∀(t:PT) (K cur:List NT),(t.nt K cur).Tw a b↔((∀x∈K,x.Tw a b)/\(∀x∈cur,x.Tw a b)/\t.Tw a b)
 |.nil,K,cur=>by
  simp only[PT.nt,PT.Tw,and_true];rw[Vh];simp only[zO,zJ];constructor
  ·intro h;exact⟨fun x f=>h x (.inl f),(Vh a b 1 cur).1 (h _ (.inr rfl))⟩
  ·rintro⟨D,B⟩ x (f|rfl)
   ·exact D x f
   ·exact(Vh a b 1 cur).2 B
 |.bar r,K,cur=>by
  simp only[PT.nt,PT.fB a b r,PT.Tw,zO,zJ];constructor
  ·rintro⟨h,_,G⟩;exact⟨fun x f=>h x (.inl f),(Vh a b 1 cur).1 (h _ (.inr rfl)),G⟩
  ·rintro⟨D,B,G⟩;refine⟨?_,by simp,G⟩;rintro x (f|rfl)
   ·exact D x f
   ·exact(Vh a b 1 cur).2 B
 |.leaf i e A m r,K,cur=>by
  simp only[PT.nt,PT.fB a b r,PT.Tw,zO,zJ];have J:=VH a b m (.place i e A);rw[NT.Tw]at J;constructor
  ·rintro⟨D,B,G⟩;exact⟨D,fun x f=>B x (.inl f),J.1 (B _ (.inr rfl)),G⟩
  ·rintro⟨D,B,G,M⟩;refine⟨D,?_,M⟩;rintro x (f|rfl)
   ·exact B x f
   ·exact J.2 G
 |.group t m r,K,cur=>by
  simp only[PT.nt,PT.fB a b r,PT.Tw,zO,zJ];have J:=VH a b m (t.nt [] []);rw[PT.fB a b t]at J;simp only[List.not_mem_nil,false_implies,implies_true,true_and]at J;constructor
  ·rintro⟨D,B,G⟩;exact⟨D,fun x f=>B x (.inl f),J.1 (B _ (.inr rfl)),G⟩
  ·rintro⟨D,B,G,M⟩;refine⟨D,?_,M⟩;rintro x (f|rfl)
   ·exact B x f
   ·exact J.2 G
theorem VX{s:ByteArray}(h:(Pa s).1=true)(W:s.size<=120):∃f,Qh s (Pa s).2.2 f/\∀a b,(Pa s).2.2.aJ a=(Pa s).2.2.aJ b↔∀t∈f,t.dK.Tw a b:=by
 unfold Pa at h⊢;simp only[yL,decide_eq_true_eq]at h⊢;obtain⟨f,K,M⟩:=Iw (s:=s) _ 0 E0.aQ h.1 h.2 (Gw _ _ _ (by omega) h.1);obtain⟨J,V⟩:=K.dB (by omega);have B:I6 (f.map PT.gN)<=128:=by
  rw[<-Uo];have:=Pg s.size _ J.bR (fun x G=>(J.le x G).2);have e:Ad (f.map PT.gN)=Ad (f.map (fun t=>t.bt none none)):=rfl;rw[e];omega
 refine⟨f,⟨K,V,?_,J⟩,fun a b=>?_⟩
 ·rw[M];exact SK (f.map PT.gN) B
 ·rw[M];have e:=OP a b (f.map PT.gN) B;have U:W6 (f.map PT.gN) E0.aQ=W6 (f.map (fun t=>t.bt none none)) E0.aQ:=rfl;rw[U]at e;rw[e];have k:∀t:PT,t.gN.Tw a b↔t.dK.Tw a b:=fun t=>by
   show(t.bt none none).Tw a b↔(t.nt [] []).Tw a b;rw[PT.eS,PT.fB];simp[twO]
  constructor
  ·intro g t D;exact(k t).1 (g _ (List.mem_map_of_mem D))
  ·intro g x G;obtain⟨t,D,rfl⟩:=List.mem_map.1 G;exact(k t).2 (g t D)
theorem XU{al:Nat->I0}{tw:Nat->Nat->Bool}(h:∀a b,tw a b=true↔al a=al b){b k:Nat}(f:k<=b)(B:tw k b=true)(D:∀j,j<k->tw j b=false):Ph al b k:=
 ⟨f,(h k b).1 B,fun j G e=>by have:=(h j b).2 e;rw[D j G]at this;cases this⟩
theorem Nq(m:Nat)(x:NT):(P6 m x).aH<=x.aH+2:=by
 unfold P6;split
 ·simp[NT.aH,J1];omega
 ·split
  ·simp[NT.aH,J1];omega
  ·split
   ·simp[NT.aH,J1];omega
   ·omega
theorem PT.bU{s:ByteArray}:∀(t:PT) (i j:Nat) (f cur:List NT),t.Sp s i j->(t.nt f cur).aH<=J1 f+J1 cur+2+4*(j-i)
 |.nil,i,j,f,cur,h=>by
  simp only[PT.nt,NT.aH,F7,J1];omega
 |.bar r,i,j,f,cur,h=>by
  have V:=PT.cF h.2;have B:=PT.bU r (i+1) j (f++ [.node 1 cur]) [] h.2;simp only[PT.nt];simp only[F7,J1,NT.aH]at B;omega
 |.leaf a e A m r,i,j,f,cur,h=>by
  obtain⟨_,B,_,_,D⟩:=h;have K:=(Pf B).lt;have M:=PT.cF D;have G:=PT.bU r (e+A5 m) j f (cur++ [P6 m (.place a e A)]) D;have J:=Nq m (.place a e A);simp only[PT.nt];simp only[F7,J1]at G;simp only[NT.aH]at J;omega
 |.group t m r,i,j,f,cur,h=>by
  obtain⟨_,e,B,_,_,D⟩:=h;have K:=PT.cF B;have M:=PT.cF D;have G:=PT.bU r (e+1+A5 m) j f (cur++ [P6 m (t.nt [] [])]) D;have J:=Nq m (t.nt [] []);have U:=PT.bU t (i+1) e [] [] B;simp only[PT.nt];simp only[F7,J1]at G U;omega
theorem RSp.bU{s:ByteArray}:∀(B:List PT) (p:Nat),RSp s B p->p<=s.size->J1 (B.map PT.dK)<=6*(s.size-p)+2
 | [],p,h,_=>h.elim
 | [t],p,h,hp=>by
  have f:=PT.cF h.1;have D:=PT.bU t p s.size [] [] h.1;simp only[List.map_cons,List.map_nil,J1,PT.dK]at D⊢;omega
 |t::u::l,p,h,hp=>by
  obtain⟨q,f,_,G,J⟩:=h;have U:=PT.cF f;have V:=A1 (s:=s) (p:=q) (by rw[G];decide);have K:=RSp.bU (u::l) (q+1) J (by omega);have M:=PT.bU t p q [] [] f;rw[List.map_cons];simp only[J1,PT.dK]at M K⊢;omega
end Go.Proofs.YtcckhngbdoiikaaGreat
