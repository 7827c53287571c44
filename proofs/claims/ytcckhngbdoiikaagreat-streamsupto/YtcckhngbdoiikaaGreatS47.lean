import Derived.Test.YtcckhngbdoiikaaGreatS46
set_option maxRecDepth 20000
set_option maxHeartbeats 12800000
set_option linter.unusedVariables false
namespace Go.Proofs.YtcckhngbdoiikaaGreat
theorem GO{kd:Nat->Nat}{g:B0}(U:B8 kd g)(s:ByteArray):∀(n p:Nat) (f:List S4),p<=s.size->s.size<n+p->
  (B4 kd g false n (I4 p s (Q1 p)) f).2.bA=s.size\/Hb g (C2 kd g (L1 s (B4 kd g false n (I4 p s (Q1 p)) f).2.bA) (B4 kd g false n (I4 p s (Q1 p)) f).2.bA 0 (Q1 (B4 kd g false n (I4 p s (Q1 p)) f).2.bA)).2=true
 |0,p,f,_,_=>by omega
 |n+1,p,f,hp,hn=>by
  have X:=M3 s p
  by_cases D:p<s.size
  ·have B:=Od kd g (L1 s p) p 0 (Q1 p);rw[V7]at B
   by_cases h:Hb g (C2 kd g (L1 s p) p 0 (Q1 p)).2=true
   ·have e:B4 kd g false (n+1) (I4 p s (Q1 p)) f=(f,I4 p s (C2 kd g (L1 s p) p 0 (Q1 p)).1):=by
     unfold B4;rw[if_pos (.inr (by show(s.extract p s.size).size≠0;omega)),W9 kd g s p (Q1 p) hp];show(if Hb g (C2 kd g (L1 s p) p 0 (Q1 p)).2=true/\false=false then _ else _)=_;rw[if_pos ⟨h,rfl⟩]
    rw[e];exact .inr h
   ·obtain⟨G,J,V,K⟩:=Ux p s (C2 kd g (L1 s p) p 0 (Q1 p)).1 D (by rcases B with e|⟨M,W,_⟩;exact .inl e;exact .inr ⟨M,by omega⟩);have e:B4 kd g false (n+1) (I4 p s (Q1 p)) f=B4 kd g false n (I4 (Fc p (C2 kd g (L1 s p) p 0 (Q1 p)).1).tt s (Q1 (Fc p (C2 kd g (L1 s p) p 0 (Q1 p)).1).tt)) (f++ [Fc p (C2 kd g (L1 s p) p 0 (Q1 p)).1]):=by
     rw[<-G,<-J]
     conv=>lhs;unfold B4
     rw[if_pos (.inr (by show(s.extract p s.size).size≠0;omega)),W9 kd g s p (Q1 p) hp];show(if Hb g (C2 kd g (L1 s p) p 0 (Q1 p)).2=true/\false=false then _ else _)=_;rw[if_neg (fun e=>h e.1)]
    rw[e];exact GO U s n _ _ K (by omega)
  ·left
   unfold B4;have e:p=s.size:=by omega
   subst e;rw[if_neg (by simp only[not_or];exact⟨by show ¬s.size<s.size;omega,by show ¬(s.extract s.size s.size).size≠0;omega⟩)];rfl
theorem GI{kd:Nat->Nat}{g:B0}{s:ByteArray}:∀{l m:List S4} {p q r:Nat},Y8 kd g s p l q->Y8 kd g s q m r->Y8 kd g s p (l++m) r
 | [],m,p,q,r,hl,hm=>by have e:p=q:=hl;rw[e];exact hm
 |t::l,m,p,q,r,⟨h1,h2,h3⟩,hm=>⟨h1,h2,GI h3 hm⟩
structure Bwx(kd:Nat->Nat)(g:B0)(x:ByteArray)(p:Nat)(v:D3)(cX:List S4):Prop where
 st:Lf kd g x p v
 jU:∀z,Y8 kd g (x++z) 0 cX p
theorem Bwx.start(kd:Nat->Nat)(g:B0):Bwx kd g ⟨#[]⟩ 0 (Ea 0) []:=⟨Lf.start kd g,fun z=>rfl⟩
theorem Bwx.gT{kd:Nat->Nat}{g:B0}(M:B8 kd g){x:ByteArray}{p:Nat}{v:D3}{D:List S4}(h:Bwx kd g x p v D)(y:ByteArray):
  ∃f,Bwx kd g (x++y) f (onF kd g v y false).2 (D++(onF kd g v y false).1)/\(f=(x++y).size\/Hb g (C2 kd g (L1 (x++y) f) f 0 (Q1 f)).2=true):=by
 have W:=h.st.le;have X:(x++y).size=x.size+y.size:=zR;obtain⟨l,f,Y,G,J,Z,V⟩:=KO M (x++y) ((x++y).size-p+1) p [] (by omega) (by omega);have B:=GO M (x++y) ((x++y).size-p+1) p [] (by omega) (by omega);rw[G]at B;rw[h.st.on y false,G];have U:Y.bA=f:=by rw[J.eq];rfl
 simp only[yV]at B⊢;rw[U]at B;refine⟨f,⟨J,fun z=>?_⟩,B⟩;have K:=h.jU (y++z);rw[<-ByteArray.append_assoc]at K;exact GI K (V z)
theorem Bwx.cut{kd:Nat->Nat}{g:B0}{x:ByteArray}{p:Nat}{v:D3}{f:List S4}(h:Bwx kd g x p v f)(z:ByteArray):
  ∃B,M5 kd g (x++z)=f++B/\Y8 kd g (x++z) p B (x++z).size:=So (Ks kd g (x++z)) (h.jU z)
theorem NO{kd:Nat->Nat}{g:B0}{s:ByteArray}:∀{l:List S4} {p:Nat},Y8 kd g s p l s.size->∀t∈l,t.fr<=s.size/\t.tt<=s.size
 | [],p,_,t,f=>by simp at f
 |t'::l,p,⟨h1,h2,h3⟩,t,f=>by
  rw[zU]at f;rcases f with rfl|f
  ·have h:=Vb kd g s p h1;have B:=Hg kd g s p (by omega);rw[h2];refine⟨?_,h.2.1⟩;rw[B];unfold Fc;split <;>(show p<=s.size;omega)
  ·exact NO h3 t f
theorem BN{R:E0}{kd:Nat->Nat}{g:B0}(Z:A4 R=some (kd,g))(V:Fb kd g)(K:(V3 kd g).aW=true){x:ByteArray}{p:Nat}{v:D3}(h:Lf kd g x p v)(B:p=x.size\/Hb g (C2 kd g (L1 x p) p 0 (Q1 p)).2=true):
  v.tail.size=0\/v.tail.size<(V3 kd g).k:=by
 obtain⟨a0,rfl,_⟩:=h;have ht:(I4 p x (C2 kd g (L1 x p) p 0 (Q1 p)).1).tail.size=x.size- (C2 kd g (L1 x p) p 0 (Q1 p)).1.1:=M3 x _;rw[ht];rcases B with e|B
 ·subst e
  left
  rw[Ze (zD _)];show x.size-x.size=0;omega
 ·right
  cases hh:(C2 kd g (L1 x p) p 0 (Q1 p)).2 with
  |none=>rw[hh]at B;cases B
  |some s'=>
   rw[hh]at B;obtain⟨d,U⟩:=Du Z (show U5 g s'=true from B);have D:=Pm kd g (L1 x p) p 0 (Q1 p) s' hh;have J:=Bv (kd:=kd) (g:=g) (L1 x p) p 0 (Q1 p);generalize X:C2 kd g (L1 x p) p 0 (Q1 p)=W at hh D J;have f:Z9 kd g (x.size-W.1.1+d) W.1.2.2/\(N0 g W.1.2.2≠ -1\/W.1.2.2=0):=by
    rcases D with e|⟨k,k0,k1,k2,Y⟩
    ·have G:=Ep (kd:=kd) (g:=g) (L1 x p) p 0 (Q1 p) s' d (Xo x p) (zD _) (by rw[X];exact e) (by rw[X];exact hh) U;rw[V7]at G;rw[e];exact⟨G,.inr rfl⟩
    ·have G:=Ep (kd:=kd) (g:=g) ((L1 x p).drop k) (p+k) W.1.2.2 W.1 s' d (by rw[Zo];exact Xo x _) (by omega) (by rw[Y]) (by rw[Y];exact hh) U;rw[Zo,V7,<-k2]at G;refine⟨G,.inl ?_⟩;rcases J with e|e
     ·have:W.1.1=p:=by rw[e]
      omega
     ·exact e
   have M:0<=W.1.2.2/\W.1.2.2<(g.aB.length:Int):=by
    rcases f.2 with e|e
    ·unfold N0 at e;split at e
     ·exact absurd rfl e
     ·omega
    ·rw[e];have:=V.bF;omega
   obtain⟨s,hs⟩:∃s:Nat,W.1.2.2=(s:Int):=⟨W.1.2.2.toNat,by omega⟩;rw[hs]at f M;have:=Ss V K (by omega) (by rcases f.2 with e|e;exact .inl e;exact .inr (by omega)) f.1;omega
def Re(kd:Nat->Nat)(g:B0):List Int->Int->Bool
 | [],st=>U5 g st
 |b::r,st=>if X0 kd g st b= -1 then false else if N0 g (X0 kd g st b)= -1 then Re kd g r (X0 kd g st b)else false
theorem EG{kd:Nat->Nat}{g:B0}{b:Int}{r:List Int}{st:Int}(h:Re kd g (b::r) st=true):X0 kd g st b≠ -1/\N0 g (X0 kd g st b)= -1/\Re kd g r (X0 kd g st b)=true:=by
 unfold Re at h
 by_cases f:X0 kd g st b= -1
 ·rw[if_pos f]at h;cases h
 ·rw[if_neg f]at h
  by_cases B:N0 g (X0 kd g st b)= -1
  ·rw[if_pos B]at h;exact⟨f,B,h⟩
  ·rw[if_neg B]at h;cases h
theorem Zz(x:ByteArray)(p:Nat):L1 (x.extract p x.size) 0=L1 x p:=by
 have f:x.data.toList.length=x.size:=by simp
 unfold L1
 congr 1
 simp only[ByteArray.data_extract,Array.toList_extract,List.extract,List.drop_zero];exact zN (by simp)
structure SY(kd:Nat->Nat)(g:B0)(v:D3):Prop where
 le:v.bA<=v.en
 kQ:(v.en=v.bA/\v.aB= -1/\v.aZ=0)\/(v.bA<v.en/\N0 g v.aZ=v.aB/\v.aB≠ -1)
 jN:(v.en=v.bA/\v.tail.size=0)\/((v.bA<v.en\/v.tail.size≠0)/\Re kd g (L1 v.tail 0) v.aZ=true)
def fE(kd:Nat->Nat)(g:B0)(x:ByteArray)(p:Nat):Bool:=Hb g (C2 kd g (L1 x p) p 0 (Q1 p)).2
section
variable{kd:Nat->Nat}{g:B0}{x:ByteArray}{p:Nat}{v:D3}{cX:List S4}
theorem LV(f:B8 kd g)(B:p<=x.size)(h:fE kd g x p=false)(y:ByteArray):fE kd g (x++y) p=false:=by
 unfold fE at h⊢;rw[Hj x y p B,Cf];cases hh:(C2 kd g (L1 x p) p 0 (Q1 p)).2 with
 |none=>simp only;rw[hh];rfl
 |some s'=>
  rw[hh]at h;simp only;cases hy:L1 y 0 with
  |nil=>exact h
  |cons b r=>rw[E7,if_pos (Wm f h)];rfl
theorem JO(W:B8 kd g)(s:ByteArray):∀(n p:Nat) (f:List S4),p<=s.size->s.size<n+p->∀t∈(B4 kd g false n (I4 p s (Q1 p)) f).1,t∈f\/fE kd g s t.fr=false
 |0,p,f,_,_,t,ht=>.inl ht
 |n+1,p,f,hp,hn,t,ht=>by
  have Z:=M3 s p
  by_cases G:p<s.size
  ·have D:=Od kd g (L1 s p) p 0 (Q1 p);rw[V7]at D
   by_cases B:Hb g (C2 kd g (L1 s p) p 0 (Q1 p)).2=true
   ·have e:B4 kd g false (n+1) (I4 p s (Q1 p)) f=(f,I4 p s (C2 kd g (L1 s p) p 0 (Q1 p)).1):=by
     unfold B4;rw[if_pos (.inr (by show(s.extract p s.size).size≠0;omega)),W9 kd g s p (Q1 p) hp];show(if Hb g (C2 kd g (L1 s p) p 0 (Q1 p)).2=true/\false=false then _ else _)=_;rw[if_pos ⟨B,rfl⟩]
    rw[e]at ht;exact .inl ht
   ·obtain⟨J,K,X,M⟩:=Ux p s (C2 kd g (L1 s p) p 0 (Q1 p)).1 G (by rcases D with e|⟨U,Y,_⟩;exact .inl e;exact .inr ⟨U,by omega⟩);have e:B4 kd g false (n+1) (I4 p s (Q1 p)) f=B4 kd g false n (I4 (Fc p (C2 kd g (L1 s p) p 0 (Q1 p)).1).tt s (Q1 (Fc p (C2 kd g (L1 s p) p 0 (Q1 p)).1).tt)) (f++ [Fc p (C2 kd g (L1 s p) p 0 (Q1 p)).1]):=by
     rw[<-J,<-K]
     conv=>lhs;unfold B4
     rw[if_pos (.inr (by show(s.extract p s.size).size≠0;omega)),W9 kd g s p (Q1 p) hp];show(if Hb g (C2 kd g (L1 s p) p 0 (Q1 p)).2=true/\false=false then _ else _)=_;rw[if_neg (fun e=>B e.1)]
    rw[e]at ht;rcases JO W s n _ _ M (by omega) t ht with h|h
    ·rw[zO,zJ]at h;rcases h with h|h
     ·exact .inl h
     ·right
      have V:t.fr=p:=by rw[h];unfold Fc;split <;>rfl
      rw[V];exact Bool.eq_false_iff.2 B
    ·exact .inr h
  ·have e:p=s.size:=by omega
   subst e;unfold B4 at ht;rw[if_neg (by simp only[not_or];exact⟨by show ¬s.size<s.size;omega,by show ¬(s.extract s.size s.size).size≠0;omega⟩)]at ht;exact .inl ht
structure Ri(kd:Nat->Nat)(g:B0)(x:ByteArray)(p:Nat)(v:D3)(cX:List S4):Prop where
 aK:Bwx kd g x p v cX
 jW:∀t∈cX,t.fr<=x.size/\fE kd g x t.fr=false
 kZ:p=x.size\/fE kd g x p=true
theorem UA(x:ByteArray):x++(⟨#[]⟩:ByteArray)=x:=by apply ByteArray.ext;simp
theorem Bwx.jK(h:Bwx kd g x p v cX):Y8 kd g x 0 cX p:=by have:=h.jU ⟨#[]⟩;rwa [UA]at this
theorem RE{s:ByteArray}:∀{l:List S4} {p q:Nat},Y8 kd g s p l q->∀t∈l,t.fr<s.size
 | [],p,q,_,t,f=>by simp at f
 |t'::l,p,q,⟨h1,h2,h3⟩,t,f=>by
  rw[zU]at f;rcases f with rfl|f
  ·rw[h2,(Vb kd g s p h1).2.2];exact h1
  ·exact RE h3 t f
theorem Ri.start(kd:Nat->Nat)(g:B0):Ri kd g ⟨#[]⟩ 0 (Ea 0) []:=⟨Bwx.start kd g,fun t f=>by simp at f,.inl rfl⟩
theorem Ri.gT(D:B8 kd g)(h:Ri kd g x p v cX)(y:ByteArray):∃G,Ri kd g (x++y) G (onF kd g v y false).2 (cX++(onF kd g v y false).1):=by
 obtain⟨G,J,K⟩:=h.aK.gT D y;have U:=h.aK.st.le;have V:(x++y).size=x.size+y.size:=zR;refine⟨G,J,fun t f=>?_,K⟩;have M:=RE J.jK t f;refine⟨by omega,?_⟩;rw[zO]at f;rcases f with f|f
 ·exact LV D (h.jW t f).1 (h.jW t f).2 y
 ·rw[h.aK.st.on y false]at f;rcases JO D (x++y) ((x++y).size-p+1) p [] (by omega) (by omega) t f with B|B
  ·simp at B
  ·exact B
def Pb(kd:Nat->Nat)(g:B0)(x:ByteArray):Nat:=((M5 kd g x).takeWhile (fun t=>!fE kd g x t.fr)).length
theorem Ri.split(h:Ri kd g x p v cX):∃f,M5 kd g x=cX++f/\Y8 kd g x p f x.size:=by
 obtain⟨f,B,D⟩:=h.aK.cut ⟨#[]⟩;rw[UA]at B D;exact⟨f,B,D⟩
theorem Li{α:Type}(q:α->Bool):∀(l m:List α),(∀t∈l,q t=true)->(l++m).takeWhile q=l++m.takeWhile q
 | [],m,_=>rfl
 |t::l,m,h=>by
  rw[List.cons_append,List.takeWhile_cons,if_pos (h t (by simp)),Li q l m (fun u f=>h u (by simp[f]))];rfl
theorem Ri.lI(h:Ri kd g x p v cX):Pb kd g x=cX.length:=by
 obtain⟨f,B,D⟩:=h.split;unfold Pb;rw[B,Li _ cX f (fun t U=>by rw[(h.jW t U).2];rfl)];cases f with
 |nil=>simp
 |cons t r=>
  obtain⟨G,J,_⟩:=D;have K:t.fr=p:=by rw[J];exact(Vb kd g x p G).2.2
  have M:fE kd g x p=true:=by
   rcases h.kZ with e|e
   ·omega
   ·exact e
  rw[List.takeWhile_cons,K,M];simp
theorem Ri.eT(h:Ri kd g x p v cX):M5 kd g x=cX++(onF kd g v ⟨#[]⟩ true).1:=by
 obtain⟨B,f,J⟩:=h.split;have G:(M5 kd g x).drop cX.length=B:=by rw[f,List.drop_append_of_le_length (zD _),List.drop_length,yV]
 obtain⟨M,D⟩:=h.aK.st.eT (M5 kd g x) cX.length (by rw[f];simp) (by rw[G];exact J);rw[G]at D;have K:B.length=(onF kd g v ⟨#[]⟩ true).1.length:=by
  have:(M5 kd g x).length=cX.length+B.length:=by rw[f];simp
  omega
 rw[f,<-D,<-K,List.take_length]
end
structure Sh where
 a:Nat
 e:Nat
 l:Nat
structure Sh.Ok(r:Sh):Prop where
 le:r.a<=r.e
 z:r.a=r.e↔r.l=0
def Sh.pl(r:Sh)(p:Nat):Nat:=if p=0 then r.a else r.e+p-r.l
def Sh.cS(r:Sh)(v:D3):D3:=⟨r.pl v.bA,r.pl v.en,v.aB,v.aZ,v.tail⟩
def Sh.bN(r:Sh)(t:S4):S4:=⟨t.aB,r.pl t.fr,r.pl t.tt⟩
def Sh.On(r:Sh)(p:Nat):Prop:=p=0\/r.l<=p
section
variable{r:Sh}{p q:Nat}{kd:Nat->Nat}{g:B0}
theorem Sh.dD(h:r.Ok)(f:r.l<=p):r.pl p=r.e+(p-r.l):=by
 unfold Sh.pl;split
 ·have:r.l=0:=by omega
  have:=h.z.2 this;omega
 ·omega
theorem Sh.fZ(h:r.Ok)(D:r.On p)(G:r.l<=q):r.pl p<r.pl q↔p<q:=by
 rw[Sh.dD h G]
 by_cases e:r.l<=p
 ·rw[Sh.dD h e];omega
 ·have B:p=0:=by rcases D with f|f;exact f;exact absurd f e
  subst B;have J:=h.le;have K:=h.z;unfold Sh.pl;rw[if_pos rfl];omega
theorem Sh.iJ(h:r.Ok)(D:r.On p)(G:r.l<=q):r.pl q=r.pl p↔q=p:=by
 rw[Sh.dD h G]
 by_cases e:r.l<=p
 ·rw[Sh.dD h e];omega
 ·have B:p=0:=by rcases D with f|f;exact f;exact absurd f e
  subst B;have J:=h.le;have K:=h.z;unfold Sh.pl;rw[if_pos rfl];omega
theorem Yh(h:r.Ok)(f:ByteArray){B:Nat}(K:r.l<=B):∀(n i:Nat) (st:Int) (x:D3),Q4 kd g f (r.pl B) n i st (r.cS x)=(r.cS (Q4 kd g f B n i st x).1,(Q4 kd g f B n i st x).2)
 |0,i,st,x=>rfl
 |n+1,i,st,x=>by
  unfold Q4
  by_cases D:i<f.size
  ·rw[if_pos D,if_pos D]
   by_cases G:X0 kd g st (F0 f i)= -1
   ·rw[if_pos G,if_pos G]
   ·rw[if_neg G,if_neg G,<-Yh h f K n]
    congr 1
    by_cases J:N0 g (X0 kd g st (F0 f i))= -1
    ·rw[if_pos J,if_pos J]
    ·rw[if_neg J,if_neg J];unfold Sh.cS;rw[Sh.dD h K];simp only;rw[Sh.dD h (show r.l<=B+i+1 by omega)]
     congr 1
     omega
  ·rw[if_neg D,if_neg D]
theorem Dz(h:r.Ok){x:D3}(f:r.l<=x.en):P4 kd g (r.cS x)=(r.cS (P4 kd g x).1,(P4 kd g x).2):=Yh h x.tail f _ _ _ _
theorem JL(h:r.Ok){x:D3}(G:r.On x.bA)(f:r.l<=x.en):Z8 (r.cS x)=r.cS (Z8 x):=by
 unfold Z8;have B:=Sh.iJ h G f
 by_cases e:x.en=x.bA
 ·rw[if_pos (show(r.cS x).en=(r.cS x).bA from B.2 e),if_pos e];unfold Sh.cS;simp only;rw[Sh.dD h f,Sh.dD h (show r.l<=x.en+1 by omega)]
  congr 1
  omega
 ·rw[if_neg (show ¬(r.cS x).en=(r.cS x).bA from fun D=>e (B.1 D)),if_neg e]
theorem LX(x:D3):x.en<=(Z8 x).en/\(Z8 x).bA=x.bA:=by
 unfold Z8;split
 ·exact⟨by show x.en<=x.en+1;omega,rfl⟩
 ·exact⟨zD _,rfl⟩
theorem Tq(h:r.Ok)(B:Bool):∀(n:Nat) (x:D3) (f:List S4),r.On x.bA->r.l<=x.en->
  B4 kd g B n (r.cS x) (f.map r.bN)=((B4 kd g B n x f).1.map r.bN,r.cS (B4 kd g B n x f).2)/\r.On (B4 kd g B n x f).2.bA/\r.l<=(B4 kd g B n x f).2.en/\∀t∈(B4 kd g B n x f).1,t∈f\/(r.On t.fr/\r.l<=t.tt)
 |0,x,f,ha,hb=>⟨rfl,ha,hb,fun t G=>.inl G⟩
 |n+1,x,f,ha,hb=>by
  have J:=Hm kd g x;have W:=Dz (kd:=kd) (g:=g) h hb;have K:=Sh.fZ h ha hb;unfold B4
  by_cases U:x.bA<x.en\/x.tail.size≠0
  ·have D:(r.cS x).bA<(r.cS x).en\/(r.cS x).tail.size≠0:=by
    rcases U with e|e
    ·exact .inl (K.2 e)
    ·exact .inr e
   rw[if_pos U,if_pos D,W];generalize P4 kd g x=y at J;have X:r.On y.1.bA:=by rw[J.bA];exact ha
   have Y:r.l<=y.1.en:=yK hb J.up
   by_cases V:y.2=true/\B=false
   ·rw[if_pos V,if_pos V];exact⟨rfl,X,Y,fun t G=>.inl G⟩
   ·rw[if_neg V,if_neg V];simp only;rw[JL h X Y];obtain⟨z1,z2⟩:=LX y.1;generalize Z8 y.1=z at z1 z2;have Z:r.l<=z.en:=yK Y z1;have M:=Tq h B n ⟨z.en,z.en,-1,0,z.tail⟩ (f++ [⟨z.aB,z.bA,z.en⟩]) (.inr Z) Z;have e1:(f++ [(⟨z.aB,z.bA,z.en⟩:S4)]).map r.bN=f.map r.bN++ [⟨(r.cS z).aB,(r.cS z).bA,(r.cS z).en⟩]:=by simp[Sh.bN,Sh.cS]
    rw[e1]at M;refine⟨M.1,M.2.1,M.2.2.1,fun t G=>?_⟩;rcases M.2.2.2 t G with e|e
    ·rw[zO,zJ]at e;rcases e with e|e
     ·exact .inl e
     ·right
      rw[e];exact⟨by show r.On z.bA;rw[z2];exact X,Z⟩
    ·exact .inr e
  ·have D:¬((r.cS x).bA<(r.cS x).en\/(r.cS x).tail.size≠0):=fun e=>U (by
    rcases e with e|e
    ·exact .inl (K.1 e)
    ·exact .inr e)
   rw[if_neg U,if_neg D];exact⟨rfl,ha,hb,fun t G=>.inl G⟩
def onM(x:D3):Nat:=x.tail.size+if x.bA<x.en then 1 else 0
theorem DI(U:Bool):∀(k:Nat) (x:D3) (K:List S4) (n m:Nat),onM x<=k->k<n->k<m->x.bA<=x.en->B4 kd g U n x K=B4 kd g U m x K:=by
 intro k
 induction k with
 |zero=>
  intro x K n m B hn Z V;obtain⟨G,rfl⟩:∃G,n=G+1:=⟨n-1,by omega⟩;obtain⟨D,rfl⟩:∃D,m=D+1:=⟨m-1,by omega⟩;unfold onM at B;have h:¬(x.bA<x.en\/x.tail.size≠0):=by
   intro e;rcases e with e|e
   ·rw[if_pos e]at B;omega
   ·split at B <;>omega
  unfold B4;rw[if_neg h,if_neg h]
 |succ k ih=>
  intro x K n m B hn Z V;obtain⟨G,rfl⟩:∃G,n=G+1:=⟨n-1,by omega⟩;obtain⟨D,rfl⟩:∃D,m=D+1:=⟨m-1,by omega⟩;have f:=Hm kd g x;unfold B4
  by_cases h:x.bA<x.en\/x.tail.size≠0
  ·rw[if_pos h,if_pos h];generalize P4 kd g x=y at f
   by_cases M:y.2=true/\U=false
   ·rw[if_pos M,if_pos M]
   ·rw[if_neg M,if_neg M];refine ih _ _ G D ?_ (by omega) (by omega) (zD _);unfold onM at B⊢;rw[if_neg (by show ¬(Z8 y.1).en<(Z8 y.1).en;omega)];show(Z8 y.1).tail.size+0<=k;have a1:=f.bA;have a2:=f.up;have a3:=f.sum;unfold Z8
    by_cases e:y.1.en=y.1.bA
    ·rw[if_pos e];have X:y.1.en=x.en:=by omega
     have Y:=f.dG X;show(y.1.tail.extract 1 y.1.tail.size).size+0<=k;rw[M3,Y];have J:¬x.bA<x.en:=by omega
     rw[if_neg J]at B;rcases h with W|W
     ·exact absurd W J
     ·omega
    ·rw[if_neg e];show y.1.tail.size+0<=k
     by_cases J:x.bA<x.en
     ·rw[if_pos J]at B;omega
     ·rw[if_neg J]at B;omega
  ·rw[if_neg h,if_neg h]
theorem BC(h:r.Ok){v:D3}(G:r.On v.bA)(J:r.l<=v.en)(V:v.bA<=v.en)(y:ByteArray)(f:Bool):
  onF kd g (r.cS v) y f=((onF kd g v y f).1.map r.bN,r.cS (onF kd g v y f).2)/\r.On (onF kd g v y f).2.bA/\r.l<=(onF kd g v y f).2.en/\∀t∈(onF kd g v y f).1,r.On t.fr/\r.l<=t.tt:=by
 have B:=Tq (kd:=kd) (g:=g) h f (v.en-v.bA+(v.tail++y).size+1) { v with tail:=v.tail++y } [] G J;have U:r.cS { v with tail:=v.tail++y }={ r.cS v with tail:=(r.cS v).tail++y }:=rfl;have D:(r.cS v).bA<=(r.cS v).en:=by
  have X:=Sh.fZ h G J;have Y:=Sh.iJ h G J;show r.pl v.bA<=r.pl v.en;omega
 have M:(r.cS v).bA<(r.cS v).en↔v.bA<v.en:=Sh.fZ h G J;have K:onF kd g (r.cS v) y f=B4 kd g f (v.en-v.bA+(v.tail++y).size+1) { r.cS v with tail:=(r.cS v).tail++y } []:=by
  unfold onF;refine DI f (onM { r.cS v with tail:=(r.cS v).tail++y }) _ _ _ _ (zD _) ?_ ?_ D
  ·unfold onM;show(v.tail++y).size+(if(r.cS v).bA<(r.cS v).en then 1 else 0)<(r.cS v).en- (r.cS v).bA+(v.tail++y).size+1;split <;>omega
  ·unfold onM;show(v.tail++y).size+(if(r.cS v).bA<(r.cS v).en then 1 else 0)<v.en-v.bA+(v.tail++y).size+1;split
   ·rename_i e;have:=M.1 e;omega
   ·omega
 rw[K,<-U];refine⟨B.1,B.2.1,B.2.2.1,fun t W=>?_⟩;rcases B.2.2.2 t W with e|e
 ·simp at e
 ·exact e
end
structure Eb(kd:Nat->Nat)(g:B0)(r:Sh)(W:ByteArray)(aK:Nat)(x:D3):Prop where
 ok:r.Ok
 ex:∃p v cX,Ri kd g W p v cX/\cX.length=aK/\x=r.cS v/\r.On p/\r.l<=v.en
section
variable{kd:Nat->Nat}{g:B0}{r:Sh}{W:ByteArray}{aK:Nat}{x:D3}
theorem Lf.fQ{p:Nat}{v:D3}(h:Lf kd g W p v):v.bA=p:=by rw[h.eq];rfl
theorem Eb.start(kd:Nat->Nat)(g:B0):Eb kd g ⟨0,0,0⟩ ⟨#[]⟩ 0 (Ea 0):=
 ⟨⟨zD _,by simp⟩,0,Ea 0,[],Ri.start kd g,rfl,rfl,.inl rfl,zD _⟩
theorem Eb.eK(h:Eb kd g r W aK x):x.bA<=x.en/\x.en+x.tail.size=r.e+(W.size-r.l)/\r.l<=W.size/\x.tail.size<=W.size:=by
 obtain⟨p,v,J,B,V,rfl,G,f⟩:=h.ex;obtain⟨X,Y⟩:=B.aK.st.eK;have D:r.On v.bA:=by rw[B.aK.st.fQ];exact G
 have K:=Sh.dD h.ok f;have M:=Sh.fZ h.ok D f;have U:=Sh.iJ h.ok D f;refine⟨?_,?_,by omega,by show v.tail.size<=W.size;omega⟩
 ·show r.pl v.bA<=r.pl v.en;omega
 ·show r.pl v.en+v.tail.size=_;omega
theorem Eb.gT(Z:B8 kd g)(h:Eb kd g r W aK x)(y:ByteArray):Eb kd g r (W++y) (Pb kd g (W++y)) (onF kd g x y false).2/\aK<=Pb kd g (W++y)/\Pb kd g (W++y)<=(M5 kd g (W++y)).length/\
  (onF kd g x y false).1=(((M5 kd g (W++y)).drop aK).take (Pb kd g (W++y)-aK)).map r.bN/\∀t∈((M5 kd g (W++y)).drop aK).take (Pb kd g (W++y)-aK),r.On t.fr/\r.l<=t.tt:=by
 obtain⟨p,v,M,D,G,rfl,V,X⟩:=h.ex;have Y:r.On v.bA:=by rw[D.aK.st.fQ];exact V
 obtain⟨p',f⟩:=D.gT Z y;obtain⟨s1,K,s3,s4⟩:=BC (kd:=kd) (g:=g) h.ok Y X D.aK.st.eK.1 y false;have B:=f.lI;obtain⟨m',J,_⟩:=f.split;rw[zL,G]at B;have U:((M5 kd g (W++y)).drop aK).take (Pb kd g (W++y)-aK)=(onF kd g v y false).1:=by
  rw[J,B,yF,List.drop_append_of_le_length (by omega),<-G,List.drop_length,yV,Nat.add_sub_cancel_left,List.take_append_of_le_length (zD _),List.take_length]
 rw[U,s1];refine⟨⟨h.ok,p',(onF kd g v y false).2,M++(onF kd g v y false).1,f,by rw[zL,G,B],rfl,?_,s3⟩,by omega,by rw[J,B];simp;omega,rfl,s4⟩;rw[f.aK.st.fQ]at K;exact K
theorem Eb.eT(h:Eb kd g r W aK x):aK<=(M5 kd g W).length/\(onF kd g x ⟨#[]⟩ true).1=((M5 kd g W).drop aK).map r.bN/\∀t∈(M5 kd g W).drop aK,r.On t.fr/\r.l<=t.tt:=by
 obtain⟨p,v,X,f,B,rfl,J,K⟩:=h.ex;have M:r.On v.bA:=by rw[f.aK.st.fQ];exact J
 obtain⟨U,Y,Z,V⟩:=BC (kd:=kd) (g:=g) h.ok M K f.aK.st.eK.1 ⟨#[]⟩ true;have D:=f.eT;have G:(M5 kd g W).drop aK=(onF kd g v ⟨#[]⟩ true).1:=by rw[D,List.drop_append_of_le_length (by omega),<-B,List.drop_length,yV]
 rw[G,U];exact⟨by rw[D,<-B];simp,rfl,V⟩
def M4(kd:Nat->Nat)(g:B0)(W:ByteArray)(aK:Nat):Nat:=if aK=0 then 0 else((M5 kd g W).getD (aK-1) ⟨0,0,0⟩).tt
theorem DC{s:ByteArray}:∀{l:List S4} {p q:Nat},Y8 kd g s p l q->q=if l.length=0 then p else(l.getD (l.length-1) ⟨0,0,0⟩).tt
 | [],p,q,h=>h.symm
 | [t],p,q,⟨_,_,h⟩=>by have e:t.tt=q:=h;simp[e]
 |t::u::l,p,q,⟨_,_,h⟩=>by
  have:=DC h;rw[this];simp
theorem Eb.iL(h:Eb kd g r W aK x):aK<=(M5 kd g W).length/\M4 kd g W aK<=W.size/\r.On (M4 kd g W aK)/\
    ((M4 kd g W aK=W.size/\x=⟨r.pl (M4 kd g W aK),r.pl (M4 kd g W aK), -1,0,W.extract (M4 kd g W aK) W.size⟩)\/
     (M4 kd g W aK<W.size/\(Q3 kd g W (M4 kd g W aK)).aB= -1/\x=⟨r.pl (M4 kd g W aK),r.pl (M4 kd g W aK), -1,0,W.extract (M4 kd g W aK) W.size⟩)\/
     (M4 kd g W aK<W.size/\(Q3 kd g W (M4 kd g W aK)).aB≠ -1/\r.l<=(Q3 kd g W (M4 kd g W aK)).tt/\∃st,x=⟨r.pl (M4 kd g W aK),r.pl (Q3 kd g W (M4 kd g W aK)).tt,(Q3 kd g W (M4 kd g W aK)).aB,st,W.extract (Q3 kd g W (M4 kd g W aK)).tt W.size⟩/\st=(C2 kd g (L1 W (M4 kd g W aK)) (M4 kd g W aK) 0 (Q1 (M4 kd g W aK))).1.2.2/\(C2 kd g (L1 W (M4 kd g W aK)) (M4 kd g W aK) 0 (Q1 (M4 kd g W aK))).1.1=(Q3 kd g W (M4 kd g W aK)).tt)):=by
  obtain⟨p,v,cX,J,U,rfl,X,V⟩:=h.ex;obtain⟨m',M,e2⟩:=J.split;have K:M4 kd g W aK=p:=by
    have:=DC J.aK.jK;rw[U]at this;unfold M4;rw[this,M];split
    · rfl
    · congr 1
      rw[zC,zC,zQ (by omega)]
  rw[K];have D:=J.aK.st.le;have G:=J.aK.st.eq;have f:=Od kd g (L1 W p) p 0 (Q1 p);rw[V7]at f;have B:=Hg kd g W p D;refine⟨by rw[M,<-U];simp,D,X,?_⟩;generalize C2 kd g (L1 W p) p 0 (Q1 p)=wk at G f B
  by_cases Z:p=W.size
  · left
    refine⟨Z,?_⟩;have Y:wk.1=Q1 p:=by
      rcases f with e|⟨a,b,_⟩
      · exact e
      · omega
    rw[G,Y];rfl
  · right
    rcases f with e|⟨a,b,c⟩
    · left
      refine⟨by omega,?_,by rw[G,e];rfl⟩;rw[B,e];unfold Fc;rw[if_pos rfl]
    · right
      have ht:Q3 kd g W p=⟨wk.1.2.1,p,wk.1.1⟩:=by rw[B];unfold Fc;rw[if_neg (by omega)]
      rw[ht];refine⟨by omega,c,?_,wk.1.2.2,?_,rfl,rfl⟩
      · have:v.en=wk.1.1:=by rw[G];rfl
        rw[this]at V;exact V
      · rw[G];rfl
end
def Mh(kd:Nat->Nat)(g:B0)(L:List Int)(st:Int):Int:=L.foldl (X0 kd g) st
section
variable{kd:Nat->Nat}{g:B0}
theorem ZB(kd:Nat->Nat)(g:B0)(b:Int):X0 kd g (-1) b= -1:=by unfold X0;rw[if_pos (.inl (by omega))]
theorem DJ(kd:Nat->Nat)(g:B0):∀L:List Int,Mh kd g L (-1)= -1
 | []=>rfl
 |b::L=>by show Mh kd g L (X0 kd g (-1) b)= -1;rw[ZB];exact DJ kd g L
theorem Jt:∀(L:List Int) (q:Nat) (st:Int) (f:Ih),Mh kd g L st≠ -1->(C2 kd g L q st f).2=some (Mh kd g L st)/\(L≠ []->N0 g (Mh kd g L st)≠ -1->(C2 kd g L q st f).1=(q+L.length,N0 g (Mh kd g L st),Mh kd g L st))
 | [],q,st,f,h=>⟨rfl,fun e=>absurd rfl e⟩
 |b::L,q,st,f,h=>by
  have G:Mh kd g L (X0 kd g st b)≠ -1:=h;have M:X0 kd g st b≠ -1:=fun e=>G (by rw[e];exact DJ kd g L)
  have K:=Jt L (q+1) (X0 kd g st b) (if N0 g (X0 kd g st b)= -1 then f else(q+1,N0 g (X0 kd g st b),X0 kd g st b)) G;rw[E7,if_neg M];refine⟨K.1,fun _ U=>?_⟩;have B:N0 g (Mh kd g L (X0 kd g st b))≠ -1:=U;show _=(q+(L.length+1),N0 g (Mh kd g L (X0 kd g st b)),Mh kd g L (X0 kd g st b))
  by_cases J:L= []
  ·subst J;have D:N0 g (X0 kd g st b)≠ -1:=B;show(if N0 g (X0 kd g st b)= -1 then f else _)=_;rw[if_neg D];rfl
  ·rw[K.2 J B,show q+1+L.length=q+(L.length+1) by omega]
theorem Fo:∀(L:List Int) (q:Nat) (st:Int) (f:Ih),Re kd g L st=true->(C2 kd g L q st f).1=f/\Hb g (C2 kd g L q st f).2=true
 | [],q,st,f,h=>⟨rfl,h⟩
 |b::L,q,st,f,h=>by
  obtain⟨B,D,G⟩:=EG h;rw[E7,if_neg B,if_pos D];exact Fo L (q+1) _ f G
theorem Gu{o:Option Int}(h:Hb g o=true):o≠none:=fun e=>by rw[e]at h;cases h
theorem XP(t x:ByteArray)(h:t.size=0):t++x=x:=by
 have e:t=⟨#[]⟩:=by
  apply ByteArray.ext;apply Array.eq_empty_of_size_eq_zero;exact h
 subst e;apply ByteArray.ext;simp
theorem Yt(x:ByteArray):x.extract 0 x.size=x:=by
 apply ByteArray.ext;simp
theorem VD(x z:ByteArray):(x++z).extract x.size (x++z).size=z:=by
 rw[ByteArray.ext_iff];apply Array.toList_inj.1;have f:x.data.toList.length=x.size:=by simp
 simp only[ByteArray.data_append,ByteArray.data_extract,Array.toList_append,Array.toList_extract,List.extract,zR];rw[List.drop_append_of_le_length (by omega),xF (by omega),yV,zN (by simp)]
theorem AA(ho:B8 kd g){x:D3}(hx:SY kd g x)(h0:N0 g 0= -1){t:ByteArray}(D:Mh kd g (L1 t 0) 0=x.aZ)(hz:x.aZ=0->t.size=0):Eb kd g ⟨x.bA,x.en,t.size⟩ (t++x.tail) 0 x:=by
 obtain⟨B,G,U,h,f⟩:=x;have K:=hx.le;have Y:=hx.kQ;have J:=hx.jN;simp only at K Y J D hz⊢;rcases Y with⟨e1,V,e3⟩|⟨e1,V,e3⟩
 ·subst V e3;have a0:=hz rfl;rw[XP t f a0];have hw:(C2 kd g (L1 f 0) 0 0 (Q1 0)).1=Q1 0/\(C2 kd g (L1 f 0) 0 0 (Q1 0)).2≠none/\(0=f.size\/fE kd g f 0=true):=by
   rcases J with⟨_,e⟩|⟨_,e⟩
   ·rw[Ze (by omega)];exact⟨rfl,by show(some (0:Int))≠none;simp,.inl e.symm⟩
   ·obtain⟨a1,W⟩:=Fo (L1 f 0) 0 0 (Q1 0) e;exact⟨a1,Gu W,.inr W⟩
  refine⟨⟨K,by constructor <;>intro _;exact a0;exact e1.symm⟩,0,⟨0,0,-1,0,f⟩,[],⟨⟨⟨yC _,?_,hw.2.1⟩,fun z=>rfl⟩,fun t D=>by simp at D,hw.2.2⟩,rfl,?_,.inl rfl,by show t.size<=0;omega⟩
  ·rw[hw.1];show(⟨0,0,-1,0,f⟩:D3)=⟨0,0,-1,0,f.extract 0 f.size⟩;rw[Yt]
  ·show(⟨B,G,-1,0,f⟩:D3)=⟨B,B,-1,0,f⟩;rw[e1]
 ·have a3:h≠0:=fun e=>by rw[e,h0]at V;exact e3 V.symm
  have a5:0<t.size:=by
   refine Nat.pos_of_ne_zero fun e=>a3 ?_
   rw[Ze (by omega)]at D;exact D.symm
  have hr:N0 g h≠ -1:=by rw[V];exact e3
  have a4:h≠ -1:=fun e=>hr (by rw[e];unfold N0;rw[if_pos (.inl (by omega))])
  have hL:L1 t 0≠ []:=fun e=>by have:=V7 t 0;rw[e]at this;simp at this;omega
  obtain⟨w1,w2⟩:=Jt (kd:=kd) (g:=g) (L1 t 0) 0 0 (Q1 0) (by rw[D];exact a4);rw[D]at w1 w2;have w3:=w2 hL hr;rw[V7,yU,Nat.sub_zero,V]at w3;have X:Re kd g (L1 f 0) h=true:=by
   rcases J with⟨e,_⟩|⟨_,e⟩
   ·omega
   ·exact e
  have M:C2 kd g (L1 (t++f) 0) 0 0 (Q1 0)=C2 kd g (L1 f 0) t.size h (t.size,U,h):=by
   rw[Hj t f 0 (yC _),Cf,w1,w3];simp only;rw[V7];simp
  obtain⟨a1,W⟩:=Fo (kd:=kd) (g:=g) (L1 f 0) t.size h (t.size,U,h) X;have Z:Sh.Ok ⟨B,G,t.size⟩:=⟨K,by constructor <;>intro e <;>(simp only at e;omega)⟩;refine⟨Z,0,⟨0,t.size,U,h,f⟩,[],⟨⟨⟨yC _,?_,?_⟩,fun z=>rfl⟩,fun t D=>by simp at D,.inr ?_⟩,rfl,?_,.inl rfl,zD _⟩
  ·rw[M,a1];show(⟨0,t.size,U,h,f⟩:D3)=⟨0,t.size,U,h,(t++f).extract t.size (t++f).size⟩;rw[VD]
  ·rw[M];exact Gu W
  ·unfold fE;rw[M];exact W
  ·show(⟨B,G,U,h,f⟩:D3)=⟨Sh.pl ⟨B,G,t.size⟩ 0,Sh.pl ⟨B,G,t.size⟩ t.size,U,h,f⟩;have p1:Sh.pl ⟨B,G,t.size⟩ 0=B:=rfl;have p2:Sh.pl ⟨B,G,t.size⟩ t.size=G:=by rw[Sh.dD Z (zD _)];simp
   rw[p1,p2]
theorem RH(B:B8 kd g){d:Nat}{s:Int}(h:Z9 kd g d s):U5 g s=true:=by
 obtain⟨b,D,f,_⟩:=h;refine Decidable.byContradiction fun e=>f (Wm B (by simpa using e))
def Gf(kd:Nat->Nat)(g:B0):List Int->Int->Bool
 | [],st=>true
 |b::r,st=>if X0 kd g st b= -1 then false else if N0 g (X0 kd g st b)= -1 then Gf kd g r (X0 kd g st b)else false
theorem Rn{R:E0}(G:A4 R=some (kd,g))(K:B8 kd g):∀(L:List Int) (st:Int),(∀b∈L,0<=b/\b<256)->Re kd g L st=if L= []then U5 g st else Gf kd g L st
 | [],st,_=>rfl
 |b::L,st,hb=>by
  rw[if_neg (by simp)];unfold Re Gf
  by_cases h:X0 kd g st b= -1
  ·rw[if_pos h,if_pos h]
  ·rw[if_neg h,if_neg h]
   by_cases B:N0 g (X0 kd g st b)= -1
   ·rw[if_pos B,if_pos B,Rn G K L _ (fun x U=>hb x (by simp[U]))]
    by_cases D:L= []
    ·subst D;rw[if_pos rfl];show U5 g (X0 kd g st b)=true;obtain⟨n,M⟩:∃n:Nat,b=(n:Int):=⟨b.toNat,by have:=hb b (by simp);omega⟩;have f:n<256:=by have:=hb b (by simp);omega
     subst M;obtain⟨d,J⟩:=BI G f h;cases d with
     |zero=>exact absurd B J
     |succ d=>exact RH K J.2
    ·rw[if_neg D]
   ·rw[if_neg B,if_neg B]
end
end Go.Proofs.YtcckhngbdoiikaaGreat

namespace Go.Proofs.YtcckhngbdoiikaaGreat
open Go.RowKit Go.Deep
abbrev Nh(a e r s:Int)(t:ByteArray):Value:=.agg #[.int .i64 a,.int .i64 e,.int .i64 r,.int .i64 s,.string t]
abbrev Ga(a e r s:Int)(t:ByteArray):Array Value:=#[.int .i64 a,.int .i64 e,.int .i64 r,.int .i64 s,.string t]
theorem Sr{a e r s:Int}{t:ByteArray}{G:Array Oper}{rest:List Oper}{o:Oper}{f:Act}{w:World}{Q:Exit->Act->World->Prop}(J:o.guard=none)(p q:Operand)(M:o.op=.store 49 p q)
  (g:Nat) (U:f.eval p=.pointer (some ⟨g,0,none⟩)) (V:f.eval q=Nh a e r s t) {D:Array Value} (K:Blk w g D 49) (B:D.size=5)
  (h:wpList Tryz.prog G Q rest (f.put o.dst undef) (w.setRow g (Ga a e r s t))):wpList Tryz.prog G Q (o::rest) f w:=
 wpList_store_row J 49 p q M g _ U V 49 _ K Tryz.bZ B (by simp[Value.oneCell']) h
theorem Qv{a e r s:Int}{t:ByteArray}{B:Array Oper}{rest:List Oper}{o:Oper}{f:Act}{w:World}{Q:Exit->Act->World->Prop}(D:o.guard=none)(p:Operand)(J:o.op=.load 49 p)
  (g:Nat) (K:f.eval p=.pointer (some ⟨g,0,none⟩)) (G:Blk w g (Ga a e r s t) 49)
  (h:wpList Tryz.prog B Q rest (f.put o.dst (Nh a e r s t)) w):wpList Tryz.prog B Q (o::rest) f w:=
 wpList_load_row D 49 p J g K 49 _ (0,0) _ G Tryz.underlying49 rfl Tryz.bZ h
theorem Zg{B:Func}{p q:Tmp}(h:B.results=#[.cell p 49,.tmp q]){a e r s:Int}{t:ByteArray}(f:Array Value){w:World}{g:Nat}
  (G:f.getD p undef=.pointer (some ⟨g,0,none⟩)) (D:Blk w g (Ga a e r s t) 49):(results B f).run Tryz.prog w=.ok (.tuple #[Nh a e r s t,f.getD q undef]) w:=
 C3 h f w g 49 _ (0,0) _ G D Tryz.underlying49 rfl Tryz.bZ
def Bl(a e:Int)(t:ByteArray):Prop:=0<=a/\a<=e/\(t.size:Int)<=1099511627776-e
def MZ(a e:Int)(t:ByteArray)(w:World)(z:Ending)(w':World):Prop:=∃B,z=.returned (.bool B)/\(B=true↔Bl a e t)/\Bw w w'
def Jp(g:B0)(a e r s:Int):Prop:=(e=a/\r= -1/\s=0)\/(e≠a/\N0 g s≠ -1/\N0 g s=r)
def Zk(kd:Nat->Nat)(g:B0)(a e s:Int)(t:ByteArray):Prop:=(t.size=0/\e=a)\/(¬(t.size=0/\e=a)/\Re kd g (L1 t 0) s=true)
theorem Gq(s:ByteArray)(h:s.size=0):s.toList.isEmpty=true:=by
 unfold ByteArray.toList;unfold ByteArray.toList.loop;rw[if_neg (by omega)];rfl
def I64(x:Int):Prop:=-9223372036854775808<=x/\x<=9223372036854775807
theorem GH(a e r s:Int)(t:ByteArray)(w:World)(X:I64 a)(Y:I64 e)(Z:t.size<=4000000):Calls Tryz.prog 133 #[Nh a e r s t] w (MZ a e t w):=by
 unfold I64 at*
 by_cases M:a<0
 ·have G:decide (a<0)=true:=by simp[M]
  go_enter Tryz.func133,Tryz.ntmps133;go_wp2_with fail;go_ret;exact⟨false,rfl,⟨fun h=>(by cases h),fun h=>by unfold Bl at h;omega⟩,P0 _ _⟩
 ·have G:decide (a<0)=false:=by simp;omega
  by_cases U:e<a
  ·have J:decide (e<a)=true:=by simp[U]
   go_enter Tryz.func133,Tryz.ntmps133;go_wp2_with fail;go_ret;exact⟨false,rfl,⟨fun h=>(by cases h),fun h=>by unfold Bl at h;omega⟩,P0 _ _⟩
  ·have J:decide (e<a)=false:=by simp;omega
   obtain⟨d,f⟩:∃d:Int,1099511627776-e=d:=⟨_,rfl⟩;have V:IntKind.i64.wrap (1099511627776-e)=d:=(Go.IntWalk.i64_left _).trans (by rw[f];unfold wrap64;omega);have W:wrap64 (1099511627776-e)=d:=by rw[f];unfold wrap64;omega
   have B:Hid ((t.size:Int)<=d↔Bl a e t):=Hd (by unfold Bl;rw[f];exact⟨fun h=>⟨by omega,by omega,h⟩,fun h=>h.2.2⟩);clear f;go_enter Tryz.func133,Tryz.ntmps133
   by_cases D:(t.size:Int)<=d
   ·have K:decide ((t.size:Int)<=d)=true:=by simp[D]
    go_wp2_with fail;go_ret;exact⟨true,rfl,⟨fun _=>B.out.1 D,fun _=>rfl⟩,P0 _ _⟩
   ·have K:decide ((t.size:Int)<=d)=false:=by simp;omega
    go_wp2_with fail;go_ret;exact⟨false,rfl,⟨fun h=>(by cases h),fun h=>absurd (B.out.2 h) (by omega)⟩,P0 _ _⟩
theorem RL(Z:Nat)(kd:Nat->Nat)(g:B0)(a e r s:Int)(t:ByteArray)(w:World)(h:A9 w Z kd g):
  Calls Tryz.prog 134 #[.pointer (some ⟨Z,0,none⟩),Nh a e r s t] w fun z w'=>∃B,z=.returned (.bool B)/\(B=true↔Jp g a e r s)/\Bw w w':=by
 have V:=Hd (fun(W:World) (hb:Bw w W)=>Hf Z kd g s W (h.aA hb));unfold Jp;clear h
 by_cases G:e=a
 ·have e0:(e==a)=true:=by simp[G]
  by_cases f:r= -1
  ·have X:(r== -1)=true:=by simp[f]
   by_cases D:s=0
   ·have Y:(s==0)=true:=by simp[D]
    have J:=Hd3 G f D;clear G f D;go_enter Tryz.func134,Tryz.ntmps134;go_wp2_with fail;go_ret;exact⟨true,rfl,⟨fun _=>.inl J.out,fun _=>rfl⟩,P0 _ _⟩
   ·have Y:(s==0)=false:=by simp[D]
    have J:=Hd3 G f D;clear G f D;go_enter Tryz.func134,Tryz.ntmps134;go_wp2_with fail;go_ret;exact⟨false,rfl,⟨fun h=>(by cases h),fun h=>by rcases h with⟨_,_,h⟩|⟨h,_⟩;exact absurd h J.out.2.2;exact absurd J.out.1 h⟩,P0 _ _⟩
  ·have X:(r== -1)=false:=by simp[f]
   have J:=Hd2 G f;clear G f;go_enter Tryz.func134,Tryz.ntmps134;go_wp2_with fail;go_ret;exact⟨false,rfl,⟨fun h=>(by cases h),fun h=>by rcases h with⟨_,h,_⟩|⟨h,_⟩;exact absurd h J.out.2;exact absurd J.out.1 h⟩,P0 _ _⟩
 ·have e0:(e==a)=false:=by simp[G]
  have K:=Hd G;clear G;generalize N0 g s=q at V;go_enter Tryz.func134,Tryz.ntmps134;go_wp2_with fail;refine(V.out _ (P0 _ _)).mono ?_;rintro z w1 ⟨rfl,rfl⟩;clear V
  by_cases f:q= -1
  ·have X:(q != -1)=false:=by simp[f]
   have M:=Hd f;clear f;go_wp2_with fail;go_ret;exact⟨false,rfl,⟨fun h=>(by cases h),fun h=>by rcases h with⟨h,_⟩|⟨_,h,_⟩;exact absurd h K.out;exact absurd M.out h⟩,P0 _ _⟩
  ·have X:(q != -1)=true:=by simp[f]
   have M:=Hd f;clear f
   by_cases D:q=r
   ·have Y:(q==r)=true:=by simp[D]
    have U:=Hd D;clear D;go_wp2_with fail;go_ret;exact⟨true,rfl,⟨fun _=>.inr ⟨K.out,M.out,U.out⟩,fun _=>rfl⟩,P0 _ _⟩
   ·have Y:(q==r)=false:=by simp[D]
    have U:=Hd D;clear D;go_wp2_with fail;go_ret;exact⟨false,rfl,⟨fun h=>(by cases h),fun h=>by rcases h with⟨h,_⟩|⟨_,_,h⟩;exact absurd h K.out;exact absurd h U.out⟩,P0 _ _⟩
theorem FG(pb:Nat)(kd:Nat->Nat)(g:B0)(a e r s:Int)(t:ByteArray)(w:World)(h:A9 w pb kd g)(ho:B8 kd g)(hz:t.size<=4000000):
  Calls Tryz.prog 135 #[.pointer (some ⟨pb,0,none⟩),Nh a e r s t] w fun z w'=>∃B,z=.returned (.bool B)/\(B=true↔Zk kd g a e s t)/\Bw w w':=by
 have HN:=Hd (fun(W:World) (K:Bw w W) (st b:Int)=>Ki pb kd g st b W (h.aA K) ho);have HR:=Hd (fun(W:World) (K:Bw w W) (st:Int)=>Hf pb kd g st W (h.aA K));have HL:=Hd (fun(W:World) (K:Bw w W) (st:Int)=>Px pb kd g st W (h.aA K));clear h ho
 by_cases Z:t.size=0/\e=a
 ·have h1:=Gq t Z.1;have e0:(e==a)=true:=by simp[Z.2]
  have HX:=Hd Z;clear Z;go_enter Tryz.func135,Tryz.ntmps135;go_wp2_with fail;go_ret;exact⟨true,rfl,⟨fun _=>.inl HX.out,fun _=>rfl⟩,P0 _ _⟩
 ·have V:(t.toList.isEmpty=true/\(e==a)=false)\/t.toList.isEmpty=false:=by
   by_cases h1:t.size=0
   ·exact .inl ⟨Gq t h1,by simp;exact fun h=>Z ⟨h1,h⟩⟩
   ·exact .inr (Dy t h1)
  have HX:=Hd Z;obtain⟨A0,Y⟩:∃A0,Re kd g (L1 t 0) s=A0:=⟨_,rfl⟩;have HC:Hid (∀B:Bool,A0=B->(B=true↔Zk kd g a e s t)):=Hd fun B hB=>by
   unfold Zk;rw[Y,hB];exact⟨fun h=>.inr ⟨HX.out,h⟩,fun h=>by rcases h with h|h;exact absurd h HX.out;exact h.2⟩
  have HS:=Hd Y;clear Z Y;go_enter Tryz.func135,Tryz.ntmps135;go_upto_region 2 with fail
  go_cut[19] (fun cv wx=>cv=.bool false/\wx=w.alloc (.cells (Ga a e r s t) 49))
  case first=>
   rcases V with⟨e1,e2⟩|e1
   all_goals
    go_wp2_with fail;go_meet;exact⟨rfl,rfl⟩
  case rest=>
   obtain⟨rfl,rfl⟩:=hcut;clear V;go_wp2_with fail
   go_loopg[6,7] t.size (fun G sv iv wr=>∃(i:Nat) (st:Int),sv=.int .i64 st/\iv=.int .i64 i/\i<=t.size/\G=t.size-i/\A0=Re kd g (L1 t i) st/\Bw w wr)
   case atStart=>exact⟨0,s,rfl,rfl,by omega,rfl,HS.out.symm,P0 _ _⟩
   case round=>
    obtain⟨i,st,rfl,rfl,hi,rfl,D,K⟩:=hrel
    by_cases a2:i<t.size
    ·have e0:decide ((i:Int)<(t.size:Int))=true:=by simp;omega
     rw[Yo a2]at D;unfold Re at D;have p0:(0:Int)<=(i:Int):=by omega
     have p1:(i:Int)<(t.size:Int):=by omega
     have HB:=Hd K;have J:=Hd D;clear K D;go_wp2_with fail;rw[Rm t i a2];refine(HN.out wr HB.out st _).mono ?_;rintro z w1 ⟨rfl,a1⟩;generalize X0 kd g st (F0 t i)=n at J;have U:=Hd (HB.out.trans (a1.mono HB.out.size));clear a1 HB
     by_cases hn:n= -1
     ·have e1:(n== -1)=true:=by simp[hn]
      have f:=J.out;rw[if_pos hn]at f;have M:=Hd f;clear f J;go_wp2_with fail;go_ret;exact⟨false,rfl,HC.out false M.out,U.out⟩
     ·have e1:(n== -1)=false:=by simp[hn]
      have f:=J.out;rw[if_neg hn]at f;have M:=Hd f;clear f J;go_wp2_with fail;refine(HR.out w1 U.out n).mono ?_;rintro z w2 ⟨rfl,rfl⟩;generalize N0 g n=q at M
      by_cases hq:q= -1
      ·have e2:(q != -1)=false:=by simp[hq]
       have f:=M.out;rw[if_pos hq]at f;have X:=Hd f;clear f M;go_wp2_with fail
       go_roundg (t.size- (i+1))
       case measure=>omega
       case rel=>exact⟨i+1,n,rfl,by go_num,by omega,rfl,X.out,U.out⟩
      ·have e2:(q != -1)=true:=by simp[hq]
       have f:=M.out;rw[if_neg hq]at f;have X:=Hd f;clear f M;go_wp2_with fail;go_ret;exact⟨false,rfl,HC.out false X.out,U.out⟩
    ·have e0:decide ((i:Int)<(t.size:Int))=false:=by simp;omega
     rw[Ze (by omega)]at D;have HB:=Hd K;have hl:A0=U5 g st:=D;have a0:=Hd (HL.out wr K st);generalize U5 g st=B at a0 hl;have M:=Hd hl;clear K D hl;go_wp2_with fail;refine a0.out.mono ?_;rintro z w1 ⟨rfl,rfl⟩;go_wp2_with fail;go_ret;exact⟨B,rfl,HC.out B M.out,HB.out⟩
structure SvP(kd:Nat->Nat)(g:B0)(a e r s:Int)(t:ByteArray):Prop where
 iX:Bl a e t
 name:Jp g a e r s
 gQ:Zk kd g a e s t
abbrev NY:Value:=Nh 0 0 0 0 ⟨#[]⟩
def SW(kd:Nat->Nat)(g:B0)(a e r s:Int)(t:ByteArray)(w:World)(z:Ending)(w':World):Prop:=
 Bw w w'/\((SvP kd g a e r s t/\z=.returned (.tuple #[Nh a e r s t,.bool true]))\/(¬SvP kd g a e r s t/\z=.returned (.tuple #[NY,.bool false])))
theorem Yw(pb:Nat)(kd:Nat->Nat)(g:B0)(a e r s:Int)(t:ByteArray)(w:World)(h:A9 w pb kd g)(ho:B8 kd g)(ha:I64 a)(he:I64 e)(hz:t.size<=4000000):
  Calls Tryz.prog 111 #[.pointer (some ⟨pb,0,none⟩),Nh a e r s t] w (SW kd g a e r s t w):=by
 have a2:=Hd (fun w=>GH a e r s t w ha he hz);have a3:=Hd (fun(W:World) (hb:Bw w W)=>RL pb kd g a e r s t W (h.aA hb));have a1:=Hd (fun(W:World) (hb:Bw w W)=>FG pb kd g a e r s t W (h.aA hb) ho hz);have a4:=Hd (fun w=>QE t w hz);clear h ho;go_enter Tryz.func111,Tryz.ntmps111;go_wp2_with fail;refine(a2.out _).mono ?_;rintro z w1 ⟨B1,rfl,K,V⟩;have f:Hid (Bw w w1/\Blk w1 w.heap.size (Ga a e r s t) 49/\Blk w1 (w.heap.size+1) Nc 49):=⟨(Z5 _ _ _).trans (V.mono (by simp;omega)),((Blk.aQ _ _ _).alloc _).aA V,(Blk.dX _ _ _ _).aA V⟩;clear V a2;cases B1 with
 |false=>
  have HN:Hid (¬SvP kd g a e r s t):=Hd fun hs=>absurd (K.2 hs.iX) (by simp)
  clear K;go_wp2_with(first|refine Sr (a:=0) (e:=0) (r:=0) (s:=0) (t:=⟨#[]⟩) rfl _ _ rfl (w.heap.size+1) rfl rfl f.out.2.2 rfl ?_);exact bodyPost_ret (Zg Tryz.results111 _ rfl (f.out.2.2.setRow _)) rfl ⟨I2 f.out.1 (by omega) _,.inr ⟨HN.out,rfl⟩⟩
 |true=>
 have a6:=Hd (K.1 rfl);clear K;go_wp2_with(first|refine Qv (a:=a) (e:=e) (r:=r) (s:=s) (t:=t) rfl (.tmp 3) rfl w.heap.size rfl f.out.2.1 ?_);refine(a3.out _ f.out.1).mono ?_;rintro z w2 ⟨B2,rfl,M,X⟩;have B:Hid (Bw w w2/\Blk w2 w.heap.size (Ga a e r s t) 49/\Blk w2 (w.heap.size+1) Nc 49):=⟨f.out.1.trans (X.mono f.out.1.size),f.out.2.1.aA X,f.out.2.2.aA X⟩;clear X a3 f;cases B2 with
 |false=>
  have HN:Hid (¬SvP kd g a e r s t):=Hd fun hs=>absurd (M.2 hs.name) (by simp)
  clear M;go_wp2_with(first|refine Sr (a:=0) (e:=0) (r:=0) (s:=0) (t:=⟨#[]⟩) rfl _ _ rfl (w.heap.size+1) rfl rfl B.out.2.2 rfl ?_);exact bodyPost_ret (Zg Tryz.results111 _ rfl (B.out.2.2.setRow _)) rfl ⟨I2 B.out.1 (by omega) _,.inr ⟨HN.out,rfl⟩⟩
 |true=>
 have a7:=Hd (M.1 rfl);clear M;go_wp2_with(first|refine Qv (a:=a) (e:=e) (r:=r) (s:=s) (t:=t) rfl (.tmp 3) rfl w.heap.size rfl B.out.2.1 ?_);refine(a1.out _ B.out.1).mono ?_;rintro z w3 ⟨B3,rfl,U,Y⟩;have D:Hid (Bw w w3/\Blk w3 w.heap.size (Ga a e r s t) 49/\Blk w3 (w.heap.size+1) Nc 49):=⟨B.out.1.trans (Y.mono B.out.1.size),B.out.2.1.aA Y,B.out.2.2.aA Y⟩;clear Y a1 B;cases B3 with
 |false=>
  have HN:Hid (¬SvP kd g a e r s t):=Hd fun hs=>absurd (U.2 hs.gQ) (by simp)
  clear U;go_wp2_with(first|refine Sr (a:=0) (e:=0) (r:=0) (s:=0) (t:=⟨#[]⟩) rfl _ _ rfl (w.heap.size+1) rfl rfl D.out.2.2 rfl ?_);exact bodyPost_ret (Zg Tryz.results111 _ rfl (D.out.2.2.setRow _)) rfl ⟨I2 D.out.1 (by omega) _,.inr ⟨HN.out,rfl⟩⟩
 |true=>
 have a8:=Hd (U.1 rfl);clear U;have c4:=D.out.2.1.cell 4;go_wp2_with fail;refine(a4.out _).mono ?_;rintro z w4 ⟨rfl,Z⟩;have G:Hid (Bw w w4/\Blk w4 w.heap.size (Ga a e r s t) 49/\Blk w4 (w.heap.size+1) Nc 49):=⟨D.out.1.trans (Z.mono D.out.1.size),D.out.2.1.aA Z,D.out.2.2.aA Z⟩;clear Z a4 D c4;have c4:=G.out.2.1.cell 4;have f4:=G.out.2.1.frozen 4;go_upto_region 8 with fail;obtain⟨w5,a0⟩:∃w5:World,w4.setCell ⟨w.heap.size,4,none⟩ (.string t)=w5:=⟨_,rfl⟩;have a5:Bw w w5/\Blk w5 w.heap.size (Ga a e r s t) 49/\Blk w5 (w.heap.size+1) Nc 49:=by
  rw[<-a0];exact⟨G.out.1.setCell (p:=⟨w.heap.size,4,none⟩) (zD _) _,G.out.2.1.set 4 _,G.out.2.2.aG (p:=⟨w.heap.size,4,none⟩) (by simp) _⟩
 rw[a0];have J:=Hd a5;clear a0 a5 G c4 f4;go_wp2_with(first|refine Qv (a:=a) (e:=e) (r:=r) (s:=s) (t:=t) rfl (.tmp 3) rfl w.heap.size rfl J.out.2.1 ?_|refine Sr (a:=a) (e:=e) (r:=r) (s:=s) (t:=t) rfl _ _ rfl (w.heap.size+1) rfl rfl J.out.2.2 rfl ?_);exact bodyPost_ret (Zg Tryz.results111 _ rfl (J.out.2.2.setRow _)) rfl ⟨I2 J.out.1 (by omega) _,.inl ⟨⟨a6.out,a7.out,a8.out⟩,rfl⟩⟩
theorem YD(B X:Nat)(x:D3)(s:ByteArray)(w:World)(h:E4 w B X x false)(J:x.tail.size+s.size<=4000000)(M:1099511627776<x.en+x.tail.size+s.size)(K:x.en<=1099511627776):
  Calls Tryz.prog 66 #[.pointer (some ⟨B,0,none⟩),.string s] w fun e w'=>e=.returned (.tuple #[.slice none 0 0,.int .i64 5])/\Bw w w':=by
 obtain⟨xa,D,xr,xs,G⟩:=x;simp only at J K M;have Z:w.cell? ⟨B,2,none⟩=some (.int .i64 D):=h.cell 2;have c5:w.cell? ⟨B,5,none⟩=some (.string G):=h.cell 5;have c6:w.cell? ⟨B,6,none⟩=some (.bool false):=h.cell 6;have zt:=h.lt;obtain⟨f,V⟩:∃f:Nat,(D:Int)+(G.size:Int)=(f:Int):=⟨D+G.size,by omega⟩;obtain⟨d,U⟩:∃d:Int,(1099511627776:Int)- (f:Int)=d:=⟨_,rfl⟩;have e1:decide (d<(s.size:Int))=true:=by simp;omega
 have W:IntKind.i64.wrap ((D:Int)+(G.size:Int))=(f:Int):=(Go.IntWalk.i64_left _).trans (by rw[V];unfold wrap64;omega);have Y:IntKind.i64.wrap ((1099511627776:Int)- (f:Int))=d:=(Go.IntWalk.i64_left _).trans (by rw[U];unfold wrap64;omega);clear h V U J K M;go_enter Tryz.func66,Tryz.ntmps66;go_wp2_with fail;go_quiet(fail);clear W;go_wp2_with fail
 go_ret2
 exact⟨rfl,A2 (Below.refl _ _) _⟩
end Go.Proofs.YtcckhngbdoiikaaGreat
