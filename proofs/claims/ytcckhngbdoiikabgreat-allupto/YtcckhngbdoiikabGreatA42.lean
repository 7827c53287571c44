import Derived.Test.YtcckhngbdoiikabGreatA41
set_option maxRecDepth 20000
set_option maxHeartbeats 12800000
set_option linter.unusedVariables false
namespace Go.Proofs.YtcckhngbdoiikabGreat
theorem BP{R:E0}{kd:Nat->Nat}{g:B0}(Z:N3 R=some (kd,g))(V:K8 kd g)(K:(V1 kd g).aT=true){x:ByteArray}{p:Nat}{v:F3}(h:Rf kd g x p v)(B:p=x.size\/Pb g (K2 kd g (M1 x p) p 0 (Y1 p)).2=true):
  v.tail.size=0\/v.tail.size<(V1 kd g).k:=by
 obtain⟨a0,rfl,_⟩:=h;have ht:(L4 p x (K2 kd g (M1 x p) p 0 (Y1 p)).1).tail.size=x.size- (K2 kd g (M1 x p) p 0 (Y1 p)).1.1:=S3 x _;rw[ht];rcases B with e|B
 ·subst e
  left
  rw[Ff (zD _)];show x.size-x.size=0;omega
 ·right
  cases hh:(K2 kd g (M1 x p) p 0 (Y1 p)).2 with
  |none=>rw[hh]at B;cases B
  |some s'=>
   rw[hh]at B;obtain⟨d,U⟩:=Zu Z (show A6 g s'=true from B);have D:=Jn kd g (M1 x p) p 0 (Y1 p) s' hh;have J:=Xv (kd:=kd) (g:=g) (M1 x p) p 0 (Y1 p);generalize X:K2 kd g (M1 x p) p 0 (Y1 p)=W at hh D J;have f:Fa kd g (x.size-W.1.1+d) W.1.2.2/\(M0 g W.1.2.2≠ -1\/W.1.2.2=0):=by
    rcases D with e|⟨k,k0,k1,k2,Y⟩
    ·have G:=Xp (kd:=kd) (g:=g) (M1 x p) p 0 (Y1 p) s' d (Pp x p) (zD _) (by rw[X];exact e) (by rw[X];exact hh) U;rw[B8]at G;rw[e];exact⟨G,.inr rfl⟩
    ·have G:=Xp (kd:=kd) (g:=g) ((M1 x p).drop k) (p+k) W.1.2.2 W.1 s' d (by rw[Rp];exact Pp x _) (by omega) (by rw[Y]) (by rw[Y];exact hh) U;rw[Rp,B8,<-k2]at G;refine⟨G,.inl ?_⟩;rcases J with e|e
     ·have:W.1.1=p:=by rw[e]
      omega
     ·exact e
   have M:0<=W.1.2.2/\W.1.2.2<(g.aB.length:Int):=by
    rcases f.2 with e|e
    ·unfold M0 at e;split at e
     ·exact absurd rfl e
     ·omega
    ·rw[e];have:=V.bE;omega
   obtain⟨s,hs⟩:∃s:Nat,W.1.2.2=(s:Int):=⟨W.1.2.2.toNat,by omega⟩;rw[hs]at f M;have:=Qt V K (by omega) (by rcases f.2 with e|e;exact .inl e;exact .inr (by omega)) f.1;omega
def Xe(kd:Nat->Nat)(g:B0):List Int->Int->Bool
 | [],st=>A6 g st
 |b::r,st=>if X0 kd g st b= -1 then false else if M0 g (X0 kd g st b)= -1 then Xe kd g r (X0 kd g st b)else false
theorem ZH{kd:Nat->Nat}{g:B0}{b:Int}{r:List Int}{st:Int}(h:Xe kd g (b::r) st=true):X0 kd g st b≠ -1/\M0 g (X0 kd g st b)= -1/\Xe kd g r (X0 kd g st b)=true:=by
 unfold Xe at h
 by_cases f:X0 kd g st b= -1
 ·rw[if_pos f]at h;cases h
 ·rw[if_neg f]at h
  by_cases B:M0 g (X0 kd g st b)= -1
  ·rw[if_pos B]at h;exact⟨f,B,h⟩
  ·rw[if_neg B]at h;cases h
theorem IB(x:ByteArray)(p:Nat):M1 (x.extract p x.size) 0=M1 x p:=by
 have f:x.data.toList.length=x.size:=by simp
 unfold M1
 congr 1
 simp only[ByteArray.data_extract,Array.toList_extract,List.extract,xG];exact zO (by simp)
structure Aa7(kd:Nat->Nat)(g:B0)(v:F3):Prop where
 le:v.bC<=v.en
 kU:(v.en=v.bC/\v.aB= -1/\v.aQ=0)\/(v.bC<v.en/\M0 g v.aQ=v.aB/\v.aB≠ -1)
 jR:(v.en=v.bC/\v.tail.size=0)\/((v.bC<v.en\/v.tail.size≠0)/\Xe kd g (M1 v.tail 0) v.aQ=true)
def fK(kd:Nat->Nat)(g:B0)(x:ByteArray)(p:Nat):Bool:=Pb g (K2 kd g (M1 x p) p 0 (Y1 p)).2
section
variable{kd:Nat->Nat}{g:B0}{x:ByteArray}{p:Nat}{v:F3}{cY:List V4}
theorem MX(f:N7 kd g)(B:p<=x.size)(h:fK kd g x p=false)(y:ByteArray):fK kd g (x++y) p=false:=by
 unfold fK at h⊢;rw[Pj x y p B,Jf];cases hh:(K2 kd g (M1 x p) p 0 (Y1 p)).2 with
 |none=>simp only;rw[hh];rfl
 |some s'=>
  rw[hh]at h;simp only;cases hy:M1 y 0 with
  |nil=>exact h
  |cons b r=>rw[K7,if_pos (Rn f h)];rfl
theorem MQ(W:N7 kd g)(s:ByteArray):∀(n p:Nat) (f:List V4),p<=s.size->s.size<n+p->∀t∈(E4 kd g false n (L4 p s (Y1 p)) f).1,t∈f\/fK kd g s t.fr=false
 |0,p,f,_,_,t,ht=>.inl ht
 |n+1,p,f,hp,hn,t,ht=>by
  have Z:=S3 s p
  by_cases G:p<s.size
  ·have D:=Wd kd g (M1 s p) p 0 (Y1 p);rw[B8]at D
   by_cases B:Pb g (K2 kd g (M1 s p) p 0 (Y1 p)).2=true
   ·have e:E4 kd g false (n+1) (L4 p s (Y1 p)) f=(f,L4 p s (K2 kd g (M1 s p) p 0 (Y1 p)).1):=by
     unfold E4;rw[if_pos (.inr (by show(s.extract p s.size).size≠0;omega)),Ca kd g s p (Y1 p) hp];show(if Pb g (K2 kd g (M1 s p) p 0 (Y1 p)).2=true/\false=false then _ else _)=_;rw[if_pos ⟨B,rfl⟩]
    rw[e]at ht;exact .inl ht
   ·obtain⟨J,K,X,M⟩:=Uy p s (K2 kd g (M1 s p) p 0 (Y1 p)).1 G (by rcases D with e|⟨U,Y,_⟩;exact .inl e;exact .inr ⟨U,by omega⟩);have e:E4 kd g false (n+1) (L4 p s (Y1 p)) f=E4 kd g false n (L4 (Oc p (K2 kd g (M1 s p) p 0 (Y1 p)).1).tt s (Y1 (Oc p (K2 kd g (M1 s p) p 0 (Y1 p)).1).tt)) (f++ [Oc p (K2 kd g (M1 s p) p 0 (Y1 p)).1]):=by
     rw[<-J,<-K]
     conv=>lhs;unfold E4
     rw[if_pos (.inr (by show(s.extract p s.size).size≠0;omega)),Ca kd g s p (Y1 p) hp];show(if Pb g (K2 kd g (M1 s p) p 0 (Y1 p)).2=true/\false=false then _ else _)=_;rw[if_neg (fun e=>B e.1)]
    rw[e]at ht;rcases MQ W s n _ _ M (by omega) t ht with h|h
    ·rw[zQ,zJ]at h;rcases h with h|h
     ·exact .inl h
     ·right
      have V:t.fr=p:=by rw[h];unfold Oc;split <;>rfl
      rw[V];exact Bool.eq_false_iff.2 B
    ·exact .inr h
  ·have e:p=s.size:=by omega
   subst e;unfold E4 at ht;rw[if_neg (by simp only[not_or];exact⟨by show ¬s.size<s.size;omega,by show ¬(s.extract s.size s.size).size≠0;omega⟩)]at ht;exact .inl ht
structure Aj(kd:Nat->Nat)(g:B0)(x:ByteArray)(p:Nat)(v:F3)(cY:List V4):Prop where
 aK:Zw kd g x p v cY
 kB:∀t∈cY,t.fr<=x.size/\fK kd g x t.fr=false
 lC:p=x.size\/fK kd g x p=true
theorem BC(x:ByteArray):x++(⟨#[]⟩:ByteArray)=x:=by apply ByteArray.ext;simp
theorem Zw.jO(h:Zw kd g x p v cY):J9 kd g x 0 cY p:=by have:=h.jY ⟨#[]⟩;rwa [BC]at this
theorem KG{s:ByteArray}:∀{l:List V4} {p q:Nat},J9 kd g s p l q->∀t∈l,t.fr<s.size
 | [],p,q,_,t,f=>by simp at f
 |t'::l,p,q,⟨h1,h2,h3⟩,t,f=>by
  rw[zU]at f;rcases f with rfl|f
  ·rw[h2,(Ec kd g s p h1).2.2];exact h1
  ·exact KG h3 t f
theorem Aj.start(kd:Nat->Nat)(g:B0):Aj kd g ⟨#[]⟩ 0 (X6 0) []:=⟨Zw.start kd g,fun t f=>by simp at f,.inl rfl⟩
theorem Aj.gY(D:N7 kd g)(h:Aj kd g x p v cY)(y:ByteArray):∃G,Aj kd g (x++y) G (onF kd g v y false).2 (cY++(onF kd g v y false).1):=by
 obtain⟨G,J,K⟩:=h.aK.gY D y;have U:=h.aK.st.le;have V:(x++y).size=x.size+y.size:=zN;refine⟨G,J,fun t f=>?_,K⟩;have M:=KG J.jO t f;refine⟨by omega,?_⟩;rw[zQ]at f;rcases f with f|f
 ·exact MX D (h.kB t f).1 (h.kB t f).2 y
 ·rw[h.aK.st.on y false]at f;rcases MQ D (x++y) ((x++y).size-p+1) p [] (by omega) (by omega) t f with B|B
  ·simp at B
  ·exact B
def Yb(kd:Nat->Nat)(g:B0)(x:ByteArray):Nat:=((U4 kd g x).takeWhile (fun t=>!fK kd g x t.fr)).length
theorem Aj.split(h:Aj kd g x p v cY):∃f,U4 kd g x=cY++f/\J9 kd g x p f x.size:=by
 obtain⟨f,B,D⟩:=h.aK.cut ⟨#[]⟩;rw[BC]at B D;exact⟨f,B,D⟩
theorem Vi{α:Type}(q:α->Bool):∀(l m:List α),(∀t∈l,q t=true)->(l++m).takeWhile q=l++m.takeWhile q
 | [],m,_=>rfl
 |t::l,m,h=>by
  rw[List.cons_append,List.takeWhile_cons,if_pos (h t (by simp)),Vi q l m (fun u f=>h u (by simp[f]))];rfl
theorem Aj.lM(h:Aj kd g x p v cY):Yb kd g x=cY.length:=by
 obtain⟨f,B,D⟩:=h.split;unfold Yb;rw[B,Vi _ cY f (fun t U=>by rw[(h.kB t U).2];rfl)];cases f with
 |nil=>simp
 |cons t r=>
  obtain⟨G,J,_⟩:=D;have K:t.fr=p:=by rw[J];exact(Ec kd g x p G).2.2
  have M:fK kd g x p=true:=by
   rcases h.lC with e|e
   ·omega
   ·exact e
  rw[List.takeWhile_cons,K,M];simp
theorem Aj.eZ(h:Aj kd g x p v cY):U4 kd g x=cY++(onF kd g v ⟨#[]⟩ true).1:=by
 obtain⟨B,f,J⟩:=h.split;have G:(U4 kd g x).drop cY.length=B:=by rw[f,List.drop_append_of_le_length (zD _),List.drop_length,yU]
 obtain⟨M,D⟩:=h.aK.st.eZ (U4 kd g x) cY.length (by rw[f];simp) (by rw[G];exact J);rw[G]at D;have K:B.length=(onF kd g v ⟨#[]⟩ true).1.length:=by
  have:(U4 kd g x).length=cY.length+B.length:=by rw[f];simp
  omega
 rw[f,<-D,<-K,List.take_length]
end
structure Sh where
 a:Nat
 e:Nat
 l:Nat
structure Sh.Ok(r:Sh):Prop where
 le:r.a<=r.e
 z:r.a=r.e↔r.l=0
def Sh.pl(r:Sh)(p:Nat):Nat:=if p=0 then r.a else r.e+p-r.l
def Sh.cT(r:Sh)(v:F3):F3:=⟨r.pl v.bC,r.pl v.en,v.aB,v.aQ,v.tail⟩
def Sh.bM(r:Sh)(t:V4):V4:=⟨t.aB,r.pl t.fr,r.pl t.tt⟩
def Sh.On(r:Sh)(p:Nat):Prop:=p=0\/r.l<=p
section
variable{r:Sh}{p q:Nat}{kd:Nat->Nat}{g:B0}
theorem Sh.dE(h:r.Ok)(f:r.l<=p):r.pl p=r.e+(p-r.l):=by
 unfold Sh.pl;split
 ·have:r.l=0:=by omega
  have:=h.z.2 this;omega
 ·omega
theorem Sh.gG(h:r.Ok)(D:r.On p)(G:r.l<=q):r.pl p<r.pl q↔p<q:=by
 rw[Sh.dE h G]
 by_cases e:r.l<=p
 ·rw[Sh.dE h e];omega
 ·have B:p=0:=by rcases D with f|f;exact f;exact absurd f e
  subst B;have J:=h.le;have K:=h.z;unfold Sh.pl;rw[if_pos rfl];omega
theorem Sh.iO(h:r.Ok)(D:r.On p)(G:r.l<=q):r.pl q=r.pl p↔q=p:=by
 rw[Sh.dE h G]
 by_cases e:r.l<=p
 ·rw[Sh.dE h e];omega
 ·have B:p=0:=by rcases D with f|f;exact f;exact absurd f e
  subst B;have J:=h.le;have K:=h.z;unfold Sh.pl;rw[if_pos rfl];omega
theorem Ki(h:r.Ok)(f:ByteArray){B:Nat}(K:r.l<=B):∀(n i:Nat) (st:Int) (x:F3),T4 kd g f (r.pl B) n i st (r.cT x)=(r.cT (T4 kd g f B n i st x).1,(T4 kd g f B n i st x).2)
 |0,i,st,x=>rfl
 |n+1,i,st,x=>by
  unfold T4
  by_cases D:i<f.size
  ·rw[if_pos D,if_pos D]
   by_cases G:X0 kd g st (F0 f i)= -1
   ·rw[if_pos G,if_pos G]
   ·rw[if_neg G,if_neg G,<-Ki h f K n]
    congr 1
    by_cases J:M0 g (X0 kd g st (F0 f i))= -1
    ·rw[if_pos J,if_pos J]
    ·rw[if_neg J,if_neg J];unfold Sh.cT;rw[Sh.dE h K];simp only;rw[Sh.dE h (show r.l<=B+i+1 by omega)]
     congr 1
     omega
  ·rw[if_neg D,if_neg D]
theorem GA(h:r.Ok){x:F3}(f:r.l<=x.en):S4 kd g (r.cT x)=(r.cT (S4 kd g x).1,(S4 kd g x).2):=Ki h x.tail f _ _ _ _
theorem JN(h:r.Ok){x:F3}(G:r.On x.bC)(f:r.l<=x.en):L9 (r.cT x)=r.cT (L9 x):=by
 unfold L9;have B:=Sh.iO h G f
 by_cases e:x.en=x.bC
 ·rw[if_pos (show(r.cT x).en=(r.cT x).bC from B.2 e),if_pos e];unfold Sh.cT;simp only;rw[Sh.dE h f,Sh.dE h (show r.l<=x.en+1 by omega)]
  congr 1
  omega
 ·rw[if_neg (show ¬(r.cT x).en=(r.cT x).bC from fun D=>e (B.1 D)),if_neg e]
theorem CZ(x:F3):x.en<=(L9 x).en/\(L9 x).bC=x.bC:=by
 unfold L9;split
 ·exact⟨by show x.en<=x.en+1;omega,rfl⟩
 ·exact⟨zD _,rfl⟩
theorem Lr(h:r.Ok)(B:Bool):∀(n:Nat) (x:F3) (f:List V4),r.On x.bC->r.l<=x.en->
  E4 kd g B n (r.cT x) (f.map r.bM)=((E4 kd g B n x f).1.map r.bM,r.cT (E4 kd g B n x f).2)/\r.On (E4 kd g B n x f).2.bC/\r.l<=(E4 kd g B n x f).2.en/\∀t∈(E4 kd g B n x f).1,t∈f\/(r.On t.fr/\r.l<=t.tt)
 |0,x,f,ha,hb=>⟨rfl,ha,hb,fun t G=>.inl G⟩
 |n+1,x,f,ha,hb=>by
  have J:=Zm kd g x;have W:=GA (kd:=kd) (g:=g) h hb;have K:=Sh.gG h ha hb;unfold E4
  by_cases U:x.bC<x.en\/x.tail.size≠0
  ·have D:(r.cT x).bC<(r.cT x).en\/(r.cT x).tail.size≠0:=by
    rcases U with e|e
    ·exact .inl (K.2 e)
    ·exact .inr e
   rw[if_pos U,if_pos D,W];generalize S4 kd g x=y at J;have X:r.On y.1.bC:=by rw[J.bC];exact ha
   have Y:r.l<=y.1.en:=yI hb J.up
   by_cases V:y.2=true/\B=false
   ·rw[if_pos V,if_pos V];exact⟨rfl,X,Y,fun t G=>.inl G⟩
   ·rw[if_neg V,if_neg V];simp only;rw[JN h X Y];obtain⟨z1,z2⟩:=CZ y.1;generalize L9 y.1=z at z1 z2;have Z:r.l<=z.en:=yI Y z1;have M:=Lr h B n ⟨z.en,z.en,-1,0,z.tail⟩ (f++ [⟨z.aB,z.bC,z.en⟩]) (.inr Z) Z;have e1:(f++ [(⟨z.aB,z.bC,z.en⟩:V4)]).map r.bM=f.map r.bM++ [⟨(r.cT z).aB,(r.cT z).bC,(r.cT z).en⟩]:=by simp[Sh.bM,Sh.cT]
    rw[e1]at M;refine⟨M.1,M.2.1,M.2.2.1,fun t G=>?_⟩;rcases M.2.2.2 t G with e|e
    ·rw[zQ,zJ]at e;rcases e with e|e
     ·exact .inl e
     ·right
      rw[e];exact⟨by show r.On z.bC;rw[z2];exact X,Z⟩
    ·exact .inr e
  ·have D:¬((r.cT x).bC<(r.cT x).en\/(r.cT x).tail.size≠0):=fun e=>U (by
    rcases e with e|e
    ·exact .inl (K.1 e)
    ·exact .inr e)
   rw[if_neg U,if_neg D];exact⟨rfl,ha,hb,fun t G=>.inl G⟩
def onM(x:F3):Nat:=x.tail.size+if x.bC<x.en then 1 else 0
theorem FK(U:Bool):∀(k:Nat) (x:F3) (K:List V4) (n m:Nat),onM x<=k->k<n->k<m->x.bC<=x.en->E4 kd g U n x K=E4 kd g U m x K:=by
 intro k
 induction k with
 |zero=>
  intro x K n m B hn Z V;obtain⟨G,rfl⟩:∃G,n=G+1:=⟨n-1,by omega⟩;obtain⟨D,rfl⟩:∃D,m=D+1:=⟨m-1,by omega⟩;unfold onM at B;have h:¬(x.bC<x.en\/x.tail.size≠0):=by
   intro e;rcases e with e|e
   ·rw[if_pos e]at B;omega
   ·split at B <;>omega
  unfold E4;rw[if_neg h,if_neg h]
 |succ k ih=>
  intro x K n m B hn Z V;obtain⟨G,rfl⟩:∃G,n=G+1:=⟨n-1,by omega⟩;obtain⟨D,rfl⟩:∃D,m=D+1:=⟨m-1,by omega⟩;have f:=Zm kd g x;unfold E4
  by_cases h:x.bC<x.en\/x.tail.size≠0
  ·rw[if_pos h,if_pos h];generalize S4 kd g x=y at f
   by_cases M:y.2=true/\U=false
   ·rw[if_pos M,if_pos M]
   ·rw[if_neg M,if_neg M];refine ih _ _ G D ?_ (by omega) (by omega) (zD _);unfold onM at B⊢;rw[if_neg (by show ¬(L9 y.1).en<(L9 y.1).en;omega)];show(L9 y.1).tail.size+0<=k;have a1:=f.bC;have a2:=f.up;have a3:=f.sum;unfold L9
    by_cases e:y.1.en=y.1.bC
    ·rw[if_pos e];have X:y.1.en=x.en:=by omega
     have Y:=f.dH X;show(y.1.tail.extract 1 y.1.tail.size).size+0<=k;rw[S3,Y];have J:¬x.bC<x.en:=by omega
     rw[if_neg J]at B;rcases h with W|W
     ·exact absurd W J
     ·omega
    ·rw[if_neg e];show y.1.tail.size+0<=k
     by_cases J:x.bC<x.en
     ·rw[if_pos J]at B;omega
     ·rw[if_neg J]at B;omega
  ·rw[if_neg h,if_neg h]
theorem JD(h:r.Ok){v:F3}(G:r.On v.bC)(J:r.l<=v.en)(V:v.bC<=v.en)(y:ByteArray)(f:Bool):
  onF kd g (r.cT v) y f=((onF kd g v y f).1.map r.bM,r.cT (onF kd g v y f).2)/\r.On (onF kd g v y f).2.bC/\r.l<=(onF kd g v y f).2.en/\∀t∈(onF kd g v y f).1,r.On t.fr/\r.l<=t.tt:=by
 have B:=Lr (kd:=kd) (g:=g) h f (v.en-v.bC+(v.tail++y).size+1) { v with tail:=v.tail++y } [] G J;have U:r.cT { v with tail:=v.tail++y }={ r.cT v with tail:=(r.cT v).tail++y }:=rfl;have D:(r.cT v).bC<=(r.cT v).en:=by
  have X:=Sh.gG h G J;have Y:=Sh.iO h G J;show r.pl v.bC<=r.pl v.en;omega
 have M:(r.cT v).bC<(r.cT v).en↔v.bC<v.en:=Sh.gG h G J;have K:onF kd g (r.cT v) y f=E4 kd g f (v.en-v.bC+(v.tail++y).size+1) { r.cT v with tail:=(r.cT v).tail++y } []:=by
  unfold onF;refine FK f (onM { r.cT v with tail:=(r.cT v).tail++y }) _ _ _ _ (zD _) ?_ ?_ D
  ·unfold onM;show(v.tail++y).size+(if(r.cT v).bC<(r.cT v).en then 1 else 0)<(r.cT v).en- (r.cT v).bC+(v.tail++y).size+1;split <;>omega
  ·unfold onM;show(v.tail++y).size+(if(r.cT v).bC<(r.cT v).en then 1 else 0)<v.en-v.bC+(v.tail++y).size+1;split
   ·rename_i e;have:=M.1 e;omega
   ·omega
 rw[K,<-U];refine⟨B.1,B.2.1,B.2.2.1,fun t W=>?_⟩;rcases B.2.2.2 t W with e|e
 ·simp at e
 ·exact e
end
structure Nb(kd:Nat->Nat)(g:B0)(r:Sh)(W:ByteArray)(aK:Nat)(x:F3):Prop where
 ok:r.Ok
 ex:∃p v cY,Aj kd g W p v cY/\cY.length=aK/\x=r.cT v/\r.On p/\r.l<=v.en
section
variable{kd:Nat->Nat}{g:B0}{r:Sh}{W:ByteArray}{aK:Nat}{x:F3}
theorem Rf.fX{p:Nat}{v:F3}(h:Rf kd g W p v):v.bC=p:=by rw[h.eq];rfl
theorem Nb.start(kd:Nat->Nat)(g:B0):Nb kd g ⟨0,0,0⟩ ⟨#[]⟩ 0 (X6 0):=
 ⟨⟨zD _,by simp⟩,0,X6 0,[],Aj.start kd g,rfl,rfl,.inl rfl,zD _⟩
theorem Nb.eK(h:Nb kd g r W aK x):x.bC<=x.en/\x.en+x.tail.size=r.e+(W.size-r.l)/\r.l<=W.size/\x.tail.size<=W.size:=by
 obtain⟨p,v,J,B,V,rfl,G,f⟩:=h.ex;obtain⟨X,Y⟩:=B.aK.st.eK;have D:r.On v.bC:=by rw[B.aK.st.fX];exact G
 have K:=Sh.dE h.ok f;have M:=Sh.gG h.ok D f;have U:=Sh.iO h.ok D f;refine⟨?_,?_,by omega,by show v.tail.size<=W.size;omega⟩
 ·show r.pl v.bC<=r.pl v.en;omega
 ·show r.pl v.en+v.tail.size=_;omega
theorem Nb.gY(Z:N7 kd g)(h:Nb kd g r W aK x)(y:ByteArray):Nb kd g r (W++y) (Yb kd g (W++y)) (onF kd g x y false).2/\aK<=Yb kd g (W++y)/\Yb kd g (W++y)<=(U4 kd g (W++y)).length/\
  (onF kd g x y false).1=(((U4 kd g (W++y)).drop aK).take (Yb kd g (W++y)-aK)).map r.bM/\∀t∈((U4 kd g (W++y)).drop aK).take (Yb kd g (W++y)-aK),r.On t.fr/\r.l<=t.tt:=by
 obtain⟨p,v,M,D,G,rfl,V,X⟩:=h.ex;have Y:r.On v.bC:=by rw[D.aK.st.fX];exact V
 obtain⟨p',f⟩:=D.gY Z y;obtain⟨s1,K,s3,s4⟩:=JD (kd:=kd) (g:=g) h.ok Y X D.aK.st.eK.1 y false;have B:=f.lM;obtain⟨m',J,_⟩:=f.split;rw[zL,G]at B;have U:((U4 kd g (W++y)).drop aK).take (Yb kd g (W++y)-aK)=(onF kd g v y false).1:=by
  rw[J,B,yF,List.drop_append_of_le_length (by omega),<-G,List.drop_length,yU,Nat.add_sub_cancel_left,List.take_append_of_le_length (zD _),List.take_length]
 rw[U,s1];refine⟨⟨h.ok,p',(onF kd g v y false).2,M++(onF kd g v y false).1,f,by rw[zL,G,B],rfl,?_,s3⟩,by omega,by rw[J,B];simp;omega,rfl,s4⟩;rw[f.aK.st.fX]at K;exact K
theorem Nb.eZ(h:Nb kd g r W aK x):aK<=(U4 kd g W).length/\(onF kd g x ⟨#[]⟩ true).1=((U4 kd g W).drop aK).map r.bM/\∀t∈(U4 kd g W).drop aK,r.On t.fr/\r.l<=t.tt:=by
 obtain⟨p,v,X,f,B,rfl,J,K⟩:=h.ex;have M:r.On v.bC:=by rw[f.aK.st.fX];exact J
 obtain⟨U,Y,Z,V⟩:=JD (kd:=kd) (g:=g) h.ok M K f.aK.st.eK.1 ⟨#[]⟩ true;have D:=f.eZ;have G:(U4 kd g W).drop aK=(onF kd g v ⟨#[]⟩ true).1:=by rw[D,List.drop_append_of_le_length (by omega),<-B,List.drop_length,yU]
 rw[G,U];exact⟨by rw[D,<-B];simp,rfl,V⟩
def Q4(kd:Nat->Nat)(g:B0)(W:ByteArray)(aK:Nat):Nat:=if aK=0 then 0 else((U4 kd g W).getD (aK-1) ⟨0,0,0⟩).tt
theorem LD{s:ByteArray}:∀{l:List V4} {p q:Nat},J9 kd g s p l q->q=if l.length=0 then p else(l.getD (l.length-1) ⟨0,0,0⟩).tt
 | [],p,q,h=>h.symm
 | [t],p,q,⟨_,_,h⟩=>by have e:t.tt=q:=h;simp[e]
 |t::u::l,p,q,⟨_,_,h⟩=>by
  have:=LD h;rw[this];simp
theorem Nb.iQ(h:Nb kd g r W aK x):aK<=(U4 kd g W).length/\Q4 kd g W aK<=W.size/\r.On (Q4 kd g W aK)/\
    ((Q4 kd g W aK=W.size/\x=⟨r.pl (Q4 kd g W aK),r.pl (Q4 kd g W aK), -1,0,W.extract (Q4 kd g W aK) W.size⟩)\/
     (Q4 kd g W aK<W.size/\(V3 kd g W (Q4 kd g W aK)).aB= -1/\x=⟨r.pl (Q4 kd g W aK),r.pl (Q4 kd g W aK), -1,0,W.extract (Q4 kd g W aK) W.size⟩)\/
     (Q4 kd g W aK<W.size/\(V3 kd g W (Q4 kd g W aK)).aB≠ -1/\r.l<=(V3 kd g W (Q4 kd g W aK)).tt/\∃st,x=⟨r.pl (Q4 kd g W aK),r.pl (V3 kd g W (Q4 kd g W aK)).tt,(V3 kd g W (Q4 kd g W aK)).aB,st,W.extract (V3 kd g W (Q4 kd g W aK)).tt W.size⟩/\st=(K2 kd g (M1 W (Q4 kd g W aK)) (Q4 kd g W aK) 0 (Y1 (Q4 kd g W aK))).1.2.2/\(K2 kd g (M1 W (Q4 kd g W aK)) (Q4 kd g W aK) 0 (Y1 (Q4 kd g W aK))).1.1=(V3 kd g W (Q4 kd g W aK)).tt)):=by
  obtain⟨p,v,cY,J,U,rfl,X,V⟩:=h.ex;obtain⟨m',M,e2⟩:=J.split;have K:Q4 kd g W aK=p:=by
    have:=LD J.aK.jO;rw[U]at this;unfold Q4;rw[this,M];split
    · rfl
    · congr 1
      rw[zC,zC,zR (by omega)]
  rw[K];have D:=J.aK.st.le;have G:=J.aK.st.eq;have f:=Wd kd g (M1 W p) p 0 (Y1 p);rw[B8]at f;have B:=Ng kd g W p D;refine⟨by rw[M,<-U];simp,D,X,?_⟩;generalize K2 kd g (M1 W p) p 0 (Y1 p)=wk at G f B
  by_cases Z:p=W.size
  · left
    refine⟨Z,?_⟩;have Y:wk.1=Y1 p:=by
      rcases f with e|⟨a,b,_⟩
      · exact e
      · omega
    rw[G,Y];rfl
  · right
    rcases f with e|⟨a,b,c⟩
    · left
      refine⟨by omega,?_,by rw[G,e];rfl⟩;rw[B,e];unfold Oc;rw[if_pos rfl]
    · right
      have ht:V3 kd g W p=⟨wk.1.2.1,p,wk.1.1⟩:=by rw[B];unfold Oc;rw[if_neg (by omega)]
      rw[ht];refine⟨by omega,c,?_,wk.1.2.2,?_,rfl,rfl⟩
      · have:v.en=wk.1.1:=by rw[G];rfl
        rw[this]at V;exact V
      · rw[G];rfl
end
def Zh(kd:Nat->Nat)(g:B0)(L:List Int)(st:Int):Int:=L.foldl (X0 kd g) st
section
variable{kd:Nat->Nat}{g:B0}
theorem GD(kd:Nat->Nat)(g:B0)(b:Int):X0 kd g (-1) b= -1:=by unfold X0;rw[if_pos (.inl (by omega))]
theorem DL(kd:Nat->Nat)(g:B0):∀L:List Int,Zh kd g L (-1)= -1
 | []=>rfl
 |b::L=>by show Zh kd g L (X0 kd g (-1) b)= -1;rw[GD];exact DL kd g L
theorem Hu:∀(L:List Int) (q:Nat) (st:Int) (f:Vh),Zh kd g L st≠ -1->(K2 kd g L q st f).2=some (Zh kd g L st)/\(L≠ []->M0 g (Zh kd g L st)≠ -1->(K2 kd g L q st f).1=(q+L.length,M0 g (Zh kd g L st),Zh kd g L st))
 | [],q,st,f,h=>⟨rfl,fun e=>absurd rfl e⟩
 |b::L,q,st,f,h=>by
  have G:Zh kd g L (X0 kd g st b)≠ -1:=h;have M:X0 kd g st b≠ -1:=fun e=>G (by rw[e];exact DL kd g L)
  have K:=Hu L (q+1) (X0 kd g st b) (if M0 g (X0 kd g st b)= -1 then f else(q+1,M0 g (X0 kd g st b),X0 kd g st b)) G;rw[K7,if_neg M];refine⟨K.1,fun _ U=>?_⟩;have B:M0 g (Zh kd g L (X0 kd g st b))≠ -1:=U;show _=(q+(L.length+1),M0 g (Zh kd g L (X0 kd g st b)),Zh kd g L (X0 kd g st b))
  by_cases J:L= []
  ·subst J;have D:M0 g (X0 kd g st b)≠ -1:=B;show(if M0 g (X0 kd g st b)= -1 then f else _)=_;rw[if_neg D];rfl
  ·rw[K.2 J B,show q+1+L.length=q+(L.length+1) by omega]
theorem Zo:∀(L:List Int) (q:Nat) (st:Int) (f:Vh),Xe kd g L st=true->(K2 kd g L q st f).1=f/\Pb g (K2 kd g L q st f).2=true
 | [],q,st,f,h=>⟨rfl,h⟩
 |b::L,q,st,f,h=>by
  obtain⟨B,D,G⟩:=ZH h;rw[K7,if_neg B,if_pos D];exact Zo L (q+1) _ f G
theorem Cv{o:Option Int}(h:Pb g o=true):o≠none:=fun e=>by rw[e]at h;cases h
theorem VR(t x:ByteArray)(h:t.size=0):t++x=x:=by
 have e:t=⟨#[]⟩:=by
  apply ByteArray.ext;apply Array.eq_empty_of_size_eq_zero;exact h
 subst e;apply ByteArray.ext;simp
theorem Vu(x:ByteArray):x.extract 0 x.size=x:=by
 apply ByteArray.ext;simp
theorem NF(x z:ByteArray):(x++z).extract x.size (x++z).size=z:=by
 rw[ByteArray.ext_iff];apply Array.toList_inj.1;have f:x.data.toList.length=x.size:=by simp
 simp only[ByteArray.data_append,ByteArray.data_extract,Array.toList_append,Array.toList_extract,List.extract,zN];rw[List.drop_append_of_le_length (by omega),yY (by omega),yU,zO (by simp)]
theorem JB(ho:N7 kd g){x:F3}(hx:Aa7 kd g x)(h0:M0 g 0= -1){t:ByteArray}(D:Zh kd g (M1 t 0) 0=x.aQ)(hz:x.aQ=0->t.size=0):Nb kd g ⟨x.bC,x.en,t.size⟩ (t++x.tail) 0 x:=by
 obtain⟨B,G,U,h,f⟩:=x;have K:=hx.le;have Y:=hx.kU;have J:=hx.jR;simp only at K Y J D hz⊢;rcases Y with⟨e1,V,e3⟩|⟨e1,V,e3⟩
 ·subst V e3;have a0:=hz rfl;rw[VR t f a0];have hw:(K2 kd g (M1 f 0) 0 0 (Y1 0)).1=Y1 0/\(K2 kd g (M1 f 0) 0 0 (Y1 0)).2≠none/\(0=f.size\/fK kd g f 0=true):=by
   rcases J with⟨_,e⟩|⟨_,e⟩
   ·rw[Ff (by omega)];exact⟨rfl,by show(some (0:Int))≠none;simp,.inl e.symm⟩
   ·obtain⟨a1,W⟩:=Zo (M1 f 0) 0 0 (Y1 0) e;exact⟨a1,Cv W,.inr W⟩
  refine⟨⟨K,by constructor <;>intro _;exact a0;exact e1.symm⟩,0,⟨0,0,-1,0,f⟩,[],⟨⟨⟨yC _,?_,hw.2.1⟩,fun z=>rfl⟩,fun t D=>by simp at D,hw.2.2⟩,rfl,?_,.inl rfl,by show t.size<=0;omega⟩
  ·rw[hw.1];show(⟨0,0,-1,0,f⟩:F3)=⟨0,0,-1,0,f.extract 0 f.size⟩;rw[Vu]
  ·show(⟨B,G,-1,0,f⟩:F3)=⟨B,B,-1,0,f⟩;rw[e1]
 ·have a3:h≠0:=fun e=>by rw[e,h0]at V;exact e3 V.symm
  have a5:0<t.size:=by
   refine Nat.pos_of_ne_zero fun e=>a3 ?_
   rw[Ff (by omega)]at D;exact D.symm
  have hr:M0 g h≠ -1:=by rw[V];exact e3
  have a4:h≠ -1:=fun e=>hr (by rw[e];unfold M0;rw[if_pos (.inl (by omega))])
  have hL:M1 t 0≠ []:=fun e=>by have:=B8 t 0;rw[e]at this;simp at this;omega
  obtain⟨w1,w2⟩:=Hu (kd:=kd) (g:=g) (M1 t 0) 0 0 (Y1 0) (by rw[D];exact a4);rw[D]at w1 w2;have w3:=w2 hL hr;rw[B8,yX,Nat.sub_zero,V]at w3;have X:Xe kd g (M1 f 0) h=true:=by
   rcases J with⟨e,_⟩|⟨_,e⟩
   ·omega
   ·exact e
  have M:K2 kd g (M1 (t++f) 0) 0 0 (Y1 0)=K2 kd g (M1 f 0) t.size h (t.size,U,h):=by
   rw[Pj t f 0 (yC _),Jf,w1,w3];simp only;rw[B8];simp
  obtain⟨a1,W⟩:=Zo (kd:=kd) (g:=g) (M1 f 0) t.size h (t.size,U,h) X;have Z:Sh.Ok ⟨B,G,t.size⟩:=⟨K,by constructor <;>intro e <;>(simp only at e;omega)⟩;refine⟨Z,0,⟨0,t.size,U,h,f⟩,[],⟨⟨⟨yC _,?_,?_⟩,fun z=>rfl⟩,fun t D=>by simp at D,.inr ?_⟩,rfl,?_,.inl rfl,zD _⟩
  ·rw[M,a1];show(⟨0,t.size,U,h,f⟩:F3)=⟨0,t.size,U,h,(t++f).extract t.size (t++f).size⟩;rw[NF]
  ·rw[M];exact Cv W
  ·unfold fK;rw[M];exact W
  ·show(⟨B,G,U,h,f⟩:F3)=⟨Sh.pl ⟨B,G,t.size⟩ 0,Sh.pl ⟨B,G,t.size⟩ t.size,U,h,f⟩;have p1:Sh.pl ⟨B,G,t.size⟩ 0=B:=rfl;have p2:Sh.pl ⟨B,G,t.size⟩ t.size=G:=by rw[Sh.dE Z (zD _)];simp
   rw[p1,p2]
theorem RJ(B:N7 kd g){d:Nat}{s:Int}(h:Fa kd g d s):A6 g s=true:=by
 obtain⟨b,D,f,_⟩:=h;refine Decidable.byContradiction fun e=>f (Rn B (by simpa using e))
def Nf(kd:Nat->Nat)(g:B0):List Int->Int->Bool
 | [],st=>true
 |b::r,st=>if X0 kd g st b= -1 then false else if M0 g (X0 kd g st b)= -1 then Nf kd g r (X0 kd g st b)else false
theorem Lo{R:E0}(G:N3 R=some (kd,g))(K:N7 kd g):∀(L:List Int) (st:Int),(∀b∈L,0<=b/\b<256)->Xe kd g L st=if L= []then A6 g st else Nf kd g L st
 | [],st,_=>rfl
 |b::L,st,hb=>by
  rw[if_neg (by simp)];unfold Xe Nf
  by_cases h:X0 kd g st b= -1
  ·rw[if_pos h,if_pos h]
  ·rw[if_neg h,if_neg h]
   by_cases B:M0 g (X0 kd g st b)= -1
   ·rw[if_pos B,if_pos B,Lo G K L _ (fun x U=>hb x (by simp[U]))]
    by_cases D:L= []
    ·subst D;rw[if_pos rfl];show A6 g (X0 kd g st b)=true;obtain⟨n,M⟩:∃n:Nat,b=(n:Int):=⟨b.toNat,by have:=hb b (by simp);omega⟩;have f:n<256:=by have:=hb b (by simp);omega
     subst M;obtain⟨d,J⟩:=DK G f h;cases d with
     |zero=>exact absurd B J
     |succ d=>exact RJ K J.2
    ·rw[if_neg D]
   ·rw[if_neg B,if_neg B]
end
end Go.Proofs.YtcckhngbdoiikabGreat

namespace Go.Proofs.YtcckhngbdoiikabGreat
open Go.RowKit Go.Deep
abbrev Ai(a e r s:Int)(t:ByteArray):Value:=.agg #[.int .i64 a,.int .i64 e,.int .i64 r,.int .i64 s,.string t]
abbrev La(a e r s:Int)(t:ByteArray):Array Value:=#[.int .i64 a,.int .i64 e,.int .i64 r,.int .i64 s,.string t]
theorem Ls{a e r s:Int}{t:ByteArray}{G:Array Oper}{rest:List Oper}{o:Oper}{f:Act}{w:World}{Q:Exit->Act->World->Prop}(J:o.guard=none)(p q:Operand)(M:o.op=.store 27 p q)
  (g:Nat) (U:f.eval p=.pointer (some ⟨g,0,none⟩)) (V:f.eval q=Ai a e r s t) {D:Array Value} (K:Blk w g D 27) (B:D.size=5)
  (h:wpList Tryz.prog G Q rest (f.put o.dst undef) (w.setRow g (La a e r s t))):wpList Tryz.prog G Q (o::rest) f w:=
 wpList_store_row J 27 p q M g _ U V 27 _ K Tryz.bZ B (by simp[Value.oneCell']) h
theorem Mw{a e r s:Int}{t:ByteArray}{B:Array Oper}{rest:List Oper}{o:Oper}{f:Act}{w:World}{Q:Exit->Act->World->Prop}(D:o.guard=none)(p:Operand)(J:o.op=.load 27 p)
  (g:Nat) (K:f.eval p=.pointer (some ⟨g,0,none⟩)) (G:Blk w g (La a e r s t) 27)
  (h:wpList Tryz.prog B Q rest (f.put o.dst (Ai a e r s t)) w):wpList Tryz.prog B Q (o::rest) f w:=
 wpList_load_row D 27 p J g K 27 _ (0,0) _ G Tryz.underlying27 rfl Tryz.bZ h
theorem Lh{B:Func}{p q:Tmp}(h:B.results=#[.cell p 27,.tmp q]){a e r s:Int}{t:ByteArray}(f:Array Value){w:World}{g:Nat}
  (G:f.getD p undef=.pointer (some ⟨g,0,none⟩)) (D:Blk w g (La a e r s t) 27):(results B f).run Tryz.prog w=.ok (.tuple #[Ai a e r s t,f.getD q undef]) w:=
 G3 h f w g 27 _ (0,0) _ G D Tryz.underlying27 rfl Tryz.bZ
def Nl(a e:Int)(t:ByteArray):Prop:=0<=a/\a<=e/\(t.size:Int)<=1099511627776-e
def Ac6(a e:Int)(t:ByteArray)(w:World)(z:Ending)(w':World):Prop:=∃B,z=.returned (.bool B)/\(B=true↔Nl a e t)/\Bw w w'
def Cq(g:B0)(a e r s:Int):Prop:=(e=a/\r= -1/\s=0)\/(e≠a/\M0 g s≠ -1/\M0 g s=r)
def Kl(kd:Nat->Nat)(g:B0)(a e s:Int)(t:ByteArray):Prop:=(t.size=0/\e=a)\/(¬(t.size=0/\e=a)/\Xe kd g (M1 t 0) s=true)
theorem Yq(s:ByteArray)(h:s.size=0):s.toList.isEmpty=true:=by
 unfold ByteArray.toList;unfold ByteArray.toList.loop;rw[if_neg (by omega)];rfl
def I64(x:Int):Prop:=-9223372036854775808<=x/\x<=9223372036854775807
theorem GJ(a e r s:Int)(t:ByteArray)(w:World)(X:I64 a)(Y:I64 e)(Z:t.size<=4000000):Calls Tryz.prog 109 #[Ai a e r s t] w (Ac6 a e t w):=by
 unfold I64 at*
 by_cases M:a<0
 ·have G:decide (a<0)=true:=by simp[M]
  go_enter Tryz.func109,Tryz.ntmps109;go_wp2_with fail;go_ret;exact⟨false,rfl,⟨fun h=>(by cases h),fun h=>by unfold Nl at h;omega⟩,N0 _ _⟩
 ·have G:decide (a<0)=false:=by simp;omega
  by_cases U:e<a
  ·have J:decide (e<a)=true:=by simp[U]
   go_enter Tryz.func109,Tryz.ntmps109;go_wp2_with fail;go_ret;exact⟨false,rfl,⟨fun h=>(by cases h),fun h=>by unfold Nl at h;omega⟩,N0 _ _⟩
  ·have J:decide (e<a)=false:=by simp;omega
   obtain⟨d,f⟩:∃d:Int,1099511627776-e=d:=⟨_,rfl⟩;have V:IntKind.i64.wrap (1099511627776-e)=d:=(Go.IntWalk.i64_left _).trans (by rw[f];unfold wrap64;omega);have W:wrap64 (1099511627776-e)=d:=by rw[f];unfold wrap64;omega
   have B:Hid ((t.size:Int)<=d↔Nl a e t):=Hd (by unfold Nl;rw[f];exact⟨fun h=>⟨by omega,by omega,h⟩,fun h=>h.2.2⟩);clear f;go_enter Tryz.func109,Tryz.ntmps109
   by_cases D:(t.size:Int)<=d
   ·have K:decide ((t.size:Int)<=d)=true:=by simp[D]
    go_wp2_with fail;go_ret;exact⟨true,rfl,⟨fun _=>B.out.1 D,fun _=>rfl⟩,N0 _ _⟩
   ·have K:decide ((t.size:Int)<=d)=false:=by simp;omega
    go_wp2_with fail;go_ret;exact⟨false,rfl,⟨fun h=>(by cases h),fun h=>absurd (B.out.2 h) (by omega)⟩,N0 _ _⟩
theorem QN(Z:Nat)(kd:Nat->Nat)(g:B0)(a e r s:Int)(t:ByteArray)(w:World)(h:W7 w Z kd g):
  Calls Tryz.prog 110 #[.pointer (some ⟨Z,0,none⟩),Ai a e r s t] w fun z w'=>∃B,z=.returned (.bool B)/\(B=true↔Cq g a e r s)/\Bw w w':=by
 have V:=Hd (fun(W:World) (hb:Bw w W)=>Ad Z kd g s W (h.aA hb));unfold Cq;clear h
 by_cases G:e=a
 ·have e0:(e==a)=true:=by simp[G]
  by_cases f:r= -1
  ·have X:(r== -1)=true:=by simp[f]
   by_cases D:s=0
   ·have Y:(s==0)=true:=by simp[D]
    have J:=Hd3 G f D;clear G f D;go_enter Tryz.func110,Tryz.ntmps110;go_wp2_with fail;go_ret;exact⟨true,rfl,⟨fun _=>.inl J.out,fun _=>rfl⟩,N0 _ _⟩
   ·have Y:(s==0)=false:=by simp[D]
    have J:=Hd3 G f D;clear G f D;go_enter Tryz.func110,Tryz.ntmps110;go_wp2_with fail;go_ret;exact⟨false,rfl,⟨fun h=>(by cases h),fun h=>by rcases h with⟨_,_,h⟩|⟨h,_⟩;exact absurd h J.out.2.2;exact absurd J.out.1 h⟩,N0 _ _⟩
  ·have X:(r== -1)=false:=by simp[f]
   have J:=Hd2 G f;clear G f;go_enter Tryz.func110,Tryz.ntmps110;go_wp2_with fail;go_ret;exact⟨false,rfl,⟨fun h=>(by cases h),fun h=>by rcases h with⟨_,h,_⟩|⟨h,_⟩;exact absurd h J.out.2;exact absurd J.out.1 h⟩,N0 _ _⟩
 ·have e0:(e==a)=false:=by simp[G]
  have K:=Hd G;clear G;generalize M0 g s=q at V;go_enter Tryz.func110,Tryz.ntmps110;go_wp2_with fail;refine(V.out _ (N0 _ _)).mono ?_;rintro z w1 ⟨rfl,rfl⟩;clear V
  by_cases f:q= -1
  ·have X:(q != -1)=false:=by simp[f]
   have M:=Hd f;clear f;go_wp2_with fail;go_ret;exact⟨false,rfl,⟨fun h=>(by cases h),fun h=>by rcases h with⟨h,_⟩|⟨_,h,_⟩;exact absurd h K.out;exact absurd M.out h⟩,N0 _ _⟩
  ·have X:(q != -1)=true:=by simp[f]
   have M:=Hd f;clear f
   by_cases D:q=r
   ·have Y:(q==r)=true:=by simp[D]
    have U:=Hd D;clear D;go_wp2_with fail;go_ret;exact⟨true,rfl,⟨fun _=>.inr ⟨K.out,M.out,U.out⟩,fun _=>rfl⟩,N0 _ _⟩
   ·have Y:(q==r)=false:=by simp[D]
    have U:=Hd D;clear D;go_wp2_with fail;go_ret;exact⟨false,rfl,⟨fun h=>(by cases h),fun h=>by rcases h with⟨h,_⟩|⟨_,_,h⟩;exact absurd h K.out;exact absurd h U.out⟩,N0 _ _⟩
theorem AI(pb:Nat)(kd:Nat->Nat)(g:B0)(a e r s:Int)(t:ByteArray)(w:World)(h:W7 w pb kd g)(ho:N7 kd g)(hz:t.size<=4000000):
  Calls Tryz.prog 111 #[.pointer (some ⟨pb,0,none⟩),Ai a e r s t] w fun z w'=>∃B,z=.returned (.bool B)/\(B=true↔Kl kd g a e s t)/\Bw w w':=by
 have HN:=Hd (fun(W:World) (K:Bw w W) (st b:Int)=>Of pb kd g st b W (h.aA K) ho);have HR:=Hd (fun(W:World) (K:Bw w W) (st:Int)=>Ad pb kd g st W (h.aA K));have HL:=Hd (fun(W:World) (K:Bw w W) (st:Int)=>Py pb kd g st W (h.aA K));clear h ho
 by_cases Z:t.size=0/\e=a
 ·have h1:=Yq t Z.1;have e0:(e==a)=true:=by simp[Z.2]
  have HX:=Hd Z;clear Z;go_enter Tryz.func111,Tryz.ntmps111;go_wp2_with fail;go_ret;exact⟨true,rfl,⟨fun _=>.inl HX.out,fun _=>rfl⟩,N0 _ _⟩
 ·have V:(t.toList.isEmpty=true/\(e==a)=false)\/t.toList.isEmpty=false:=by
   by_cases h1:t.size=0
   ·exact .inl ⟨Yq t h1,by simp;exact fun h=>Z ⟨h1,h⟩⟩
   ·exact .inr (Ih t h1)
  have HX:=Hd Z;obtain⟨A0,Y⟩:∃A0,Xe kd g (M1 t 0) s=A0:=⟨_,rfl⟩;have HC:Hid (∀B:Bool,A0=B->(B=true↔Kl kd g a e s t)):=Hd fun B hB=>by
   unfold Kl;rw[Y,hB];exact⟨fun h=>.inr ⟨HX.out,h⟩,fun h=>by rcases h with h|h;exact absurd h HX.out;exact h.2⟩
  have HS:=Hd Y;clear Z Y;go_enter Tryz.func111,Tryz.ntmps111;go_upto_region 2 with fail
  go_cut[19] (fun cv wx=>cv=.bool false/\wx=w.alloc (.cells (La a e r s t) 27))
  case first=>
   rcases V with⟨e1,e2⟩|e1
   all_goals
    go_wp2_with fail;go_meet;exact⟨rfl,rfl⟩
  case rest=>
   obtain⟨rfl,rfl⟩:=hcut;clear V;go_wp2_with fail
   go_loopg[6,7] t.size (fun G sv iv wr=>∃(i:Nat) (st:Int),sv=.int .i64 st/\iv=.int .i64 i/\i<=t.size/\G=t.size-i/\A0=Xe kd g (M1 t i) st/\Bw w wr)
   case atStart=>exact⟨0,s,rfl,rfl,by omega,rfl,HS.out.symm,N0 _ _⟩
   case round=>
    obtain⟨i,st,rfl,rfl,hi,rfl,D,K⟩:=hrel
    by_cases a2:i<t.size
    ·have e0:decide ((i:Int)<(t.size:Int))=true:=by simp;omega
     rw[Qp a2]at D;unfold Xe at D;have p0:(0:Int)<=(i:Int):=by omega
     have p1:(i:Int)<(t.size:Int):=by omega
     have HB:=Hd K;have J:=Hd D;clear K D;go_wp2_with fail;rw[Vj t i a2];refine(HN.out wr HB.out st _).mono ?_;rintro z w1 ⟨rfl,a1⟩;generalize X0 kd g st (F0 t i)=n at J;have U:=Hd (HB.out.trans (a1.mono HB.out.size));clear a1 HB
     by_cases hn:n= -1
     ·have e1:(n== -1)=true:=by simp[hn]
      have f:=J.out;rw[if_pos hn]at f;have M:=Hd f;clear f J;go_wp2_with fail;go_ret;exact⟨false,rfl,HC.out false M.out,U.out⟩
     ·have e1:(n== -1)=false:=by simp[hn]
      have f:=J.out;rw[if_neg hn]at f;have M:=Hd f;clear f J;go_wp2_with fail;refine(HR.out w1 U.out n).mono ?_;rintro z w2 ⟨rfl,rfl⟩;generalize M0 g n=q at M
      by_cases hq:q= -1
      ·have e2:(q != -1)=false:=by simp[hq]
       have f:=M.out;rw[if_pos hq]at f;have X:=Hd f;clear f M;go_wp2_with fail
       go_roundg (t.size- (i+1))
       case measure=>omega
       case rel=>exact⟨i+1,n,rfl,by go_num,by omega,rfl,X.out,U.out⟩
      ·have e2:(q != -1)=true:=by simp[hq]
       have f:=M.out;rw[if_neg hq]at f;have X:=Hd f;clear f M;go_wp2_with fail;go_ret;exact⟨false,rfl,HC.out false X.out,U.out⟩
    ·have e0:decide ((i:Int)<(t.size:Int))=false:=by simp;omega
     rw[Ff (by omega)]at D;have HB:=Hd K;have hl:A0=A6 g st:=D;have a0:=Hd (HL.out wr K st);generalize A6 g st=B at a0 hl;have M:=Hd hl;clear K D hl;go_wp2_with fail;refine a0.out.mono ?_;rintro z w1 ⟨rfl,rfl⟩;go_wp2_with fail;go_ret;exact⟨B,rfl,HC.out B M.out,HB.out⟩
structure SvP(kd:Nat->Nat)(g:B0)(a e r s:Int)(t:ByteArray):Prop where
 jB:Nl a e t
 name:Cq g a e r s
 gW:Kl kd g a e s t
abbrev Aa3:Value:=Ai 0 0 0 0 ⟨#[]⟩
def OY(kd:Nat->Nat)(g:B0)(a e r s:Int)(t:ByteArray)(w:World)(z:Ending)(w':World):Prop:=
 Bw w w'/\((SvP kd g a e r s t/\z=.returned (.tuple #[Ai a e r s t,.bool true]))\/(¬SvP kd g a e r s t/\z=.returned (.tuple #[Aa3,.bool false])))
theorem Vx(pb:Nat)(kd:Nat->Nat)(g:B0)(a e r s:Int)(t:ByteArray)(w:World)(h:W7 w pb kd g)(ho:N7 kd g)(ha:I64 a)(he:I64 e)(hz:t.size<=4000000):
  Calls Tryz.prog 75 #[.pointer (some ⟨pb,0,none⟩),Ai a e r s t] w (OY kd g a e r s t w):=by
 have a2:=Hd (fun w=>GJ a e r s t w ha he hz);have a3:=Hd (fun(W:World) (hb:Bw w W)=>QN pb kd g a e r s t W (h.aA hb));have a1:=Hd (fun(W:World) (hb:Bw w W)=>AI pb kd g a e r s t W (h.aA hb) ho hz);have a4:=Hd (fun w=>JG t w hz);clear h ho;go_enter Tryz.func75,Tryz.ntmps75;go_wp2_with fail;refine(a2.out _).mono ?_;rintro z w1 ⟨B1,rfl,K,V⟩;have f:Hid (Bw w w1/\Blk w1 w.heap.size (La a e r s t) 27/\Blk w1 (w.heap.size+1) Tb 27):=⟨(F6 _ _ _).trans (V.mono (by simp;omega)),((Blk.aR _ _ _).alloc _).aA V,(Blk.dX _ _ _ _).aA V⟩;clear V a2;cases B1 with
 |false=>
  have HN:Hid (¬SvP kd g a e r s t):=Hd fun hs=>absurd (K.2 hs.jB) (by simp)
  clear K;go_wp2_with(first|refine Ls (a:=0) (e:=0) (r:=0) (s:=0) (t:=⟨#[]⟩) rfl _ _ rfl (w.heap.size+1) rfl rfl f.out.2.2 rfl ?_);exact bodyPost_ret (Lh Tryz.results75 _ rfl (f.out.2.2.setRow _)) rfl ⟨I2 f.out.1 (by omega) _,.inr ⟨HN.out,rfl⟩⟩
 |true=>
 have a6:=Hd (K.1 rfl);clear K;go_wp2_with(first|refine Mw (a:=a) (e:=e) (r:=r) (s:=s) (t:=t) rfl (.tmp 3) rfl w.heap.size rfl f.out.2.1 ?_);refine(a3.out _ f.out.1).mono ?_;rintro z w2 ⟨B2,rfl,M,X⟩;have B:Hid (Bw w w2/\Blk w2 w.heap.size (La a e r s t) 27/\Blk w2 (w.heap.size+1) Tb 27):=⟨f.out.1.trans (X.mono f.out.1.size),f.out.2.1.aA X,f.out.2.2.aA X⟩;clear X a3 f;cases B2 with
 |false=>
  have HN:Hid (¬SvP kd g a e r s t):=Hd fun hs=>absurd (M.2 hs.name) (by simp)
  clear M;go_wp2_with(first|refine Ls (a:=0) (e:=0) (r:=0) (s:=0) (t:=⟨#[]⟩) rfl _ _ rfl (w.heap.size+1) rfl rfl B.out.2.2 rfl ?_);exact bodyPost_ret (Lh Tryz.results75 _ rfl (B.out.2.2.setRow _)) rfl ⟨I2 B.out.1 (by omega) _,.inr ⟨HN.out,rfl⟩⟩
 |true=>
 have a7:=Hd (M.1 rfl);clear M;go_wp2_with(first|refine Mw (a:=a) (e:=e) (r:=r) (s:=s) (t:=t) rfl (.tmp 3) rfl w.heap.size rfl B.out.2.1 ?_);refine(a1.out _ B.out.1).mono ?_;rintro z w3 ⟨B3,rfl,U,Y⟩;have D:Hid (Bw w w3/\Blk w3 w.heap.size (La a e r s t) 27/\Blk w3 (w.heap.size+1) Tb 27):=⟨B.out.1.trans (Y.mono B.out.1.size),B.out.2.1.aA Y,B.out.2.2.aA Y⟩;clear Y a1 B;cases B3 with
 |false=>
  have HN:Hid (¬SvP kd g a e r s t):=Hd fun hs=>absurd (U.2 hs.gW) (by simp)
  clear U;go_wp2_with(first|refine Ls (a:=0) (e:=0) (r:=0) (s:=0) (t:=⟨#[]⟩) rfl _ _ rfl (w.heap.size+1) rfl rfl D.out.2.2 rfl ?_);exact bodyPost_ret (Lh Tryz.results75 _ rfl (D.out.2.2.setRow _)) rfl ⟨I2 D.out.1 (by omega) _,.inr ⟨HN.out,rfl⟩⟩
 |true=>
 have a8:=Hd (U.1 rfl);clear U;have c4:=D.out.2.1.cell 4;go_wp2_with fail;refine(a4.out _).mono ?_;rintro z w4 ⟨rfl,Z⟩;have G:Hid (Bw w w4/\Blk w4 w.heap.size (La a e r s t) 27/\Blk w4 (w.heap.size+1) Tb 27):=⟨D.out.1.trans (Z.mono D.out.1.size),D.out.2.1.aA Z,D.out.2.2.aA Z⟩;clear Z a4 D c4;have c4:=G.out.2.1.cell 4;have f4:=G.out.2.1.frozen 4;go_upto_region 8 with fail;obtain⟨w5,a0⟩:∃w5:World,w4.setCell ⟨w.heap.size,4,none⟩ (.string t)=w5:=⟨_,rfl⟩;have a5:Bw w w5/\Blk w5 w.heap.size (La a e r s t) 27/\Blk w5 (w.heap.size+1) Tb 27:=by
  rw[<-a0];exact⟨G.out.1.setCell (p:=⟨w.heap.size,4,none⟩) (zD _) _,G.out.2.1.set 4 _,G.out.2.2.aG (p:=⟨w.heap.size,4,none⟩) (by simp) _⟩
 rw[a0];have J:=Hd a5;clear a0 a5 G c4 f4;go_wp2_with(first|refine Mw (a:=a) (e:=e) (r:=r) (s:=s) (t:=t) rfl (.tmp 3) rfl w.heap.size rfl J.out.2.1 ?_|refine Ls (a:=a) (e:=e) (r:=r) (s:=s) (t:=t) rfl _ _ rfl (w.heap.size+1) rfl rfl J.out.2.2 rfl ?_);exact bodyPost_ret (Lh Tryz.results75 _ rfl (J.out.2.2.setRow _)) rfl ⟨I2 J.out.1 (by omega) _,.inl ⟨⟨a6.out,a7.out,a8.out⟩,rfl⟩⟩
theorem RF(B X:Nat)(x:F3)(s:ByteArray)(w:World)(h:I4 w B X x false)(J:x.tail.size+s.size<=4000000)(M:1099511627776<x.en+x.tail.size+s.size)(K:x.en<=1099511627776):
  Calls Tryz.prog 34 #[.pointer (some ⟨B,0,none⟩),.string s] w fun e w'=>e=.returned (.tuple #[.slice none 0 0,.int .i64 5])/\Bw w w':=by
 obtain⟨xa,D,xr,xs,G⟩:=x;simp only at J K M;have Z:w.cell? ⟨B,2,none⟩=some (.int .i64 D):=h.cell 2;have c5:w.cell? ⟨B,5,none⟩=some (.string G):=h.cell 5;have c6:w.cell? ⟨B,6,none⟩=some (.bool false):=h.cell 6;have zt:=h.lt;obtain⟨f,V⟩:∃f:Nat,(D:Int)+(G.size:Int)=(f:Int):=⟨D+G.size,by omega⟩;obtain⟨d,U⟩:∃d:Int,(1099511627776:Int)- (f:Int)=d:=⟨_,rfl⟩;have e1:decide (d<(s.size:Int))=true:=by simp;omega
 have W:IntKind.i64.wrap ((D:Int)+(G.size:Int))=(f:Int):=(Go.IntWalk.i64_left _).trans (by rw[V];unfold wrap64;omega);have Y:IntKind.i64.wrap ((1099511627776:Int)- (f:Int))=d:=(Go.IntWalk.i64_left _).trans (by rw[U];unfold wrap64;omega);clear h V U J K M;go_enter Tryz.func34,Tryz.ntmps34;go_wp2_with fail;go_quiet(fail);clear W;go_wp2_with fail
 go_ret2
 exact⟨rfl,C2 (Below.refl _ _) _⟩
theorem JU(f B:Nat)(x:F3)(w:World)(h:I4 w f B x false):
  Calls Tryz.prog 38 #[.pointer (some ⟨f,0,none⟩)] w fun e w'=>e=.returned (.tuple #[Es x,.int .i64 0])/\Bw w w':=by
 obtain⟨D,G,J,K,M⟩:=x;have V:w.cell? ⟨f,0,none⟩=some (.pointer (some ⟨B,0,none⟩)):=h.cell 0;have W:w.cell? ⟨f,1,none⟩=some (.int .i64 D):=h.cell 1;have X:w.cell? ⟨f,2,none⟩=some (.int .i64 G):=h.cell 2;have Y:w.cell? ⟨f,3,none⟩=some (.int .i64 J):=h.cell 3;have Z:w.cell? ⟨f,4,none⟩=some (.int .i64 K):=h.cell 4;have c5:w.cell? ⟨f,5,none⟩=some (.string M):=h.cell 5;have c6:w.cell? ⟨f,6,none⟩=some (.bool false):=h.cell 6;have zt:=h.lt;have U:f≠w.heap.size:=by omega
 clear h;go_enter Tryz.func38,Tryz.ntmps38;go_wp2_with fail;exact bodyPost_ret (Ld (x:=⟨D,G,J,K,M⟩) Tryz.results38 _ rfl (Blk.aR _ _ _)) rfl ⟨rfl,N0 _ _⟩
theorem XG(f D:Nat)(x:F3)(w:World)(h:I4 w f D x true):
  Calls Tryz.prog 38 #[.pointer (some ⟨f,0,none⟩)] w fun e w'=>e=.returned (.tuple #[Aa3,.int .i64 6])/\Bw w w':=by
 have G:w.cell? ⟨f,6,none⟩=some (.bool true):=h.cell 6;have J:=h.lt;have B:f≠w.heap.size:=by omega
 clear h;go_enter Tryz.func38,Tryz.ntmps38;go_wp2_with fail;exact bodyPost_ret (Lh (a:=0) (e:=0) (r:=0) (s:=0) (t:=⟨#[]⟩) Tryz.results38 _ rfl (Blk.aR _ _ _)) rfl ⟨rfl,N0 _ _⟩
abbrev ML(f:Nat)(a e r s:Int)(t:ByteArray):Array Value:=#[.pointer (some ⟨f,0,none⟩),.int .i64 a,.int .i64 e,.int .i64 r,.int .i64 s,.string t,.bool false]
def SV(h:Nat)(kd:Nat->Nat)(g:B0)(a e r s:Int)(t:ByteArray)(w:World)(z:Ending)(w':World):Prop:=
 Bw w w'/\(((V1 kd g).aT=false/\z=.returned (.tuple #[.pointer none,.int .i64 4]))\/
  ((V1 kd g).aT=true/\¬SvP kd g a e r s t/\z=.returned (.tuple #[.pointer none,.int .i64 7]))\/
  ((V1 kd g).aT=true/\SvP kd g a e r s t/\∃f,z=.returned (.tuple #[.pointer (some ⟨f,0,none⟩),.int .i64 0])/\Blk w' f (ML h a e r s t) 155/\w.heap.size<=f))
theorem WK(pb:Nat)(kd:Nat->Nat)(g:B0)(a e r s:Int)(t:ByteArray)(w:World)(h:W7 w pb kd g)(hf:K8 kd g)(ha:I64 a)(he:I64 e)(hz:t.size<=4000000):
  Calls Tryz.prog 44 #[.pointer (some ⟨pb,0,none⟩),Ai a e r s t] w (SV pb kd g a e r s t w):=by
 have HF:=Hd (fun(W:World) (hb:Bw w W)=>Em pb kd g W (h.aA hb) hf.ok hf.cK (by have:=hf.bU;omega) hf.bE);have HC:=Hd (fun(W:World) (hb:Bw w W)=>Vx pb kd g a e r s t W (h.aA hb) hf.ok ha he hz);clear h hf;unfold SV;generalize V1 kd g=X at HF;obtain⟨xb,xk,x1,x2,x3,x4,x5⟩:=X;simp only at HF⊢;obtain⟨w0,a8⟩:∃w0:World,w.alloc (.cells (La a e r s t) 27)=w0:=⟨_,rfl⟩;have ah:Bw w w0:=by rw[<-a8];exact N0 _ _
 have ac:Blk w0 w.heap.size (La a e r s t) 27:=by rw[<-a8];exact Blk.aR _ _ _
 have Z:=Hd2 ah ac;clear ah ac;go_enter Tryz.func44,Tryz.ntmps44;go_wp2_with fail
 try rw[a8]
 clear a8;refine(HF.out _ Z.out.1).mono ?_;rintro z w1 ⟨rfl,a6⟩;obtain⟨D,G⟩:∃D:World,w1.alloc (.cells #[.bool xb,.int .i64 xk,.string x1,.string x2,.string x3,.string x4,.string x5] 113)=D:=⟨_,rfl⟩;have ai:Bw w D:=by rw[<-G];exact(Z.out.1.trans (a6.mono Z.out.1.size)).alloc (by have:=Z.out.1.size;have:=a6.size;omega) _
 have ad:Blk D w.heap.size (La a e r s t) 27:=by rw[<-G];exact(Z.out.2.aA a6).alloc _
 have ae:Blk D w1.heap.size #[.bool xb,.int .i64 xk,.string x1,.string x2,.string x3,.string x4,.string x5] 113:=by rw[<-G];exact Blk.aR _ _ _
 have k0:=ae.cell 0;have f:=Hd2 ai ad;clear a6 ai ad ae;cases xb with
 |false=>
  go_wp2_with fail
  try rw[G]
  go_ret2
  try rw[G]
  first|exact⟨f.out.1,.inl ⟨rfl,rfl⟩⟩|exact⟨f.out.1,.inl ⟨trivial,rfl⟩⟩|exact⟨f.out.1,rfl⟩
 |true=>
 go_wp2_with(first|refine Mw (a:=a) (e:=e) (r:=r) (s:=s) (t:=t) rfl _ rfl w.heap.size rfl f.out.2 ?_)
 try rw[G]
 clear G k0;have k0:=f.out.2.cell 0;have k1:=f.out.2.cell 1;have k2:=f.out.2.cell 2;have k3:=f.out.2.cell 3;have k4:=f.out.2.cell 4;have an:=f.out.2.lt;have a7:Bw w D.drew:=Q6 f.out.1;have aj:Bw w (D.drew.alloc (.cells Tb 27)):=a7.alloc a7.size _;have a4:=Hd a7;have a5:=Hd aj;clear a7 aj
 go_cut[7,8] (fun bv fv wx=>∃sb K M r' V Y,bv=.pointer (some ⟨sb,0,none⟩)/\Blk wx sb (La K M r' V Y) 27/\Bw w wx/\((SvP kd g a e r s t/\fv=.bool true/\K=a/\M=e/\r'=r/\V=s/\Y=t)\/(¬SvP kd g a e r s t/\fv=.bool false)))
 case first=>
  go_region_with (go_at_call 75;refine(HC.out _ (by first|exact a4.out|exact a5.out)).mono ?_;rintro z w3 ⟨a1,af⟩;obtain⟨K,M,r',V,Y,B',rfl,ag⟩:∃K M r' V Y B',z=.returned (.tuple #[Ai K M r' V Y,.bool B'])/\((SvP kd g a e r s t/\(Value.bool B')=.bool true/\K=a/\M=e/\r'=r/\V=s/\Y=t)\/(¬SvP kd g a e r s t/\(Value.bool B')=.bool false)):=(by rcases af with⟨q1,q2⟩|⟨q1,q2⟩;exact⟨_,_,_,_,_,_,q2,.inl ⟨q1,rfl,rfl,rfl,rfl,rfl,rfl⟩⟩;exact⟨_,_,_,_,_,_,q2,.inr ⟨q1,rfl⟩⟩);have ab:=Hd ag;clear af ag;try(have U:Blk w3 D.heap.size Tb 27:=(Blk.aR D.drew Tb 27).aA a1;have q0:=U.cell 0;have q1:=U.cell 1;have q2:=U.cell 2;have q3:=U.cell 3;have q4:=U.cell 4;have f0:=U.frozen 0;have f1:=U.frozen 1;have f2:=U.frozen 2;have f3:=U.frozen 3;have f4:=U.frozen 4))
  all_goals
   first
   |(have a2:Bw w w3:=a4.out.trans (a1.mono a4.out.size);have HH:=Hd a2;clear a2 a1 k0 k1 k2 k3 k4;go_wp2_with fail;go_meet;exact⟨w3.heap.size,K,M,r',V,Y,rfl,Blk.aR _ _ _,HH.out.alloc HH.out.size _,ab.out⟩)
   |(have a2:Bw w w3:=a5.out.trans (a1.mono a5.out.size);have a3:w.heap.size<=D.heap.size:=f.out.1.size;have HH:Hid (Bw w w3/\Blk w3 D.heap.size Tb 27):=⟨a2,U⟩;clear a2 a1 k0 k1 k2 k3 k4 q0 q1 q2 q3 q4 f0 f1 f2 f3 f4 U;go_wp2_with fail;go_meet;exact⟨D.heap.size,K,M,r',V,Y,rfl,((((HH.out.2.set 0 _).set 1 _).set 2 _).set 3 _).set 4 _,((((HH.out.1.setCell (p:=⟨D.heap.size,0,none⟩) a3 _).setCell (p:=⟨D.heap.size,1,none⟩) a3 _).setCell (p:=⟨D.heap.size,2,none⟩) a3 _).setCell (p:=⟨D.heap.size,3,none⟩) a3 _).setCell (p:=⟨D.heap.size,4,none⟩) a3 _,ab.out⟩)
 case rest=>
  obtain⟨sb,K,M,r',V,Y,rfl,B,J,ak⟩:=hcut;clear k0 k1 k2 k3 k4 a4 a5 HC HF;rcases ak with⟨hs,rfl,rfl,rfl,rfl,rfl,rfl⟩|⟨hs,rfl⟩
  ·have c0:=B.cell 0;have c1:=B.cell 1;have c2:=B.cell 2;have c3:=B.cell 3;have c4:=B.cell 4;have am:=B.lt;have a0:=Hd J;have aa:=Hd hs;clear B J hs;go_wp2_with fail;go_region;clear c0 c1 c2 c3 c4;go_wp2_with fail
   go_ret2
   have a9:Bw w (wc.alloc (.cells (ML pb K M r' V Y) 155)).drew/\Blk (wc.alloc (.cells (ML pb K M r' V Y) 155)).drew wc.heap.size (ML pb K M r' V Y) 155/\w.heap.size<=wc.heap.size:=⟨Q6 (a0.out.alloc a0.out.size _),Blk.drew (Blk.aR _ _ _),a0.out.size⟩;exact⟨a9.1,.inr ⟨aa.out,wc.heap.size,rfl,a9.2⟩⟩
  ·have a0:=Hd J;have aa:=Hd hs;clear B J hs;go_wp2_with fail
   go_ret2
   exact⟨a0.out,.inl ⟨aa.out,rfl⟩⟩
end Go.Proofs.YtcckhngbdoiikabGreat
