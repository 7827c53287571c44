import Derived.Test.YtcckhngbdoiikaaGreatS45
import Derived.Test.YtcckhngbdoiikaaGreatS41
set_option maxRecDepth 20000
set_option maxHeartbeats 12800000
set_option linter.unusedVariables false
namespace Go.Proofs.YtcckhngbdoiikaaGreat
theorem DV{s:ByteArray}{kd:Nat->Nat}{g:B0}(h:newF s=.lexer kd g):Fb kd g:=by
 obtain⟨R,f⟩:=Cy h;exact⟨(Po h).1,(O6 f).eP,JG f,(O6 f).bF⟩
theorem El(kd:Nat->Nat)(g:B0)(s:ByteArray):∀(n p:Nat) (h:List S4),p<=s.size->s.size<n+p->∃l,Xf kd g s n p h=h++l/\Y8 kd g s p l s.size
 |0,p,h,hp,hn=>by omega
 |n+1,p,h,hp,hn=>by
  unfold Xf
  by_cases f:p<s.size
  ·rw[if_pos f];obtain⟨J,B,K⟩:=Vb kd g s p f;obtain⟨l,D,G⟩:=El kd g s n (Q3 kd g s p).tt (h++ [Q3 kd g s p]) B (by omega);exact⟨Q3 kd g s p::l,by rw[D];simp,f,rfl,G⟩
  ·rw[if_neg f];exact⟨[],by simp,by show p=s.size;omega⟩
theorem Ks(kd:Nat->Nat)(g:B0)(s:ByteArray):Y8 kd g s 0 (M5 kd g s) s.size:=by
 obtain⟨l,f,h⟩:=El kd g s (s.size+1) 0 [] (yC _) (by omega);unfold M5;rw[f];simpa using h
theorem So{kd:Nat->Nat}{g:B0}{s:ByteArray}:∀{l m:List S4} {p f:Nat},Y8 kd g s p m s.size->Y8 kd g s p l f->∃h,m=l++h/\Y8 kd g s f h s.size
 | [],m,p,f,hm,hl=>⟨m,rfl,by have e:p=f:=hl;rw[<-e];exact hm⟩
 |t::r,[],p,f,hm,⟨h1,_,_⟩=>by have:p=s.size:=hm;omega
 |t::r,G::m,p,f,⟨g1,g2,g3⟩,⟨h1,h2,h3⟩=>by
  have e:t=G:=by rw[h2,g2]
  subst e;obtain⟨h,B,D⟩:=So g3 h3;exact⟨h,by rw[B];rfl,D⟩
theorem DR{kd:Nat->Nat}{g:B0}{s:ByteArray}{p:Nat}{i:Ih}(K:p<=i.1)(M:i.1<=s.size)(G:i.1=p->i=Q1 p)(J:P4 kd g (I4 p s i)=P4 kd g (I4 p s (Q1 p)))(h:Bool)(n:Nat)(f:List S4):
  B4 kd g h (n+1) (I4 p s i) f=B4 kd g h (n+1) (I4 p s (Q1 p)) f:=by
 by_cases e:i.1=p
 ·rw[G e]
 ·have B:(I4 p s i).bA<(I4 p s i).en\/(I4 p s i).tail.size≠0:=.inl (by show p<i.1;omega);have D:(I4 p s (Q1 p)).bA<(I4 p s (Q1 p)).en\/(I4 p s (Q1 p)).tail.size≠0:=.inr (by show(s.extract p s.size).size≠0;rw[M3];omega);unfold B4;rw[if_pos B,if_pos D,J]
theorem Lf.on{kd:Nat->Nat}{g:B0}{x:ByteArray}{p:Nat}{v:D3}(h:Lf kd g x p v)(y:ByteArray)(B:Bool):
  onF kd g v y B=B4 kd g B ((x++y).size-p+1) (I4 p (x++y) (Q1 p)) []:=by
 obtain⟨i,f,K,Y,M,U⟩:=h.more y;have V:=h.le;have W:(x++y).size=x.size+y.size:=zR;unfold onF;rw[f];have X:v.en-v.bA+(v.tail++y).size+1=(x++y).size-p+1:=by
  have D:v.en=i.1:=congrArg D3.en f;have G:v.bA=p:=congrArg D3.bA f;have J:v.tail++y=(x++y).extract i.1 (x++y).size:=congrArg D3.tail f;rw[D,G,J,M3];omega
 rw[X];exact DR K (by omega) M U B _ []
theorem Lf.start(kd:Nat->Nat)(g:B0):Lf kd g ⟨#[]⟩ 0 (Ea 0):=by
 have f:L1 (⟨#[]⟩:ByteArray) 0= []:=rfl;refine⟨zD _,?_,?_⟩
 ·rw[f];show Ea 0=I4 0 ⟨#[]⟩ (Q1 0);unfold Ea I4;rfl
 ·rw[f];show(some (0:Int))≠none;simp
theorem Lf.eK{kd:Nat->Nat}{g:B0}{x:ByteArray}{p:Nat}{v:D3}(h:Lf kd g x p v):v.bA<=v.en/\v.en+v.tail.size=x.size:=by
 obtain⟨B,rfl,_⟩:=h;have f:=Od kd g (L1 x p) p 0 (Q1 p);rw[V7]at f;generalize(C2 kd g (L1 x p) p 0 (Q1 p)).1=i at f;have:p<=i.1/\i.1<=x.size:=by
  rcases f with e|⟨a,b,_⟩
  ·rw[e];exact⟨zD _,B⟩
  ·omega
 refine⟨this.1,?_⟩;show i.1+(x.extract i.1 x.size).size=x.size;rw[M3];omega
theorem Lf.eT{kd:Nat->Nat}{g:B0}{x:ByteArray}{p:Nat}{v:D3}(h:Lf kd g x p v)(m:List S4)(k:Nat)(W:k<=m.length)(V:Y8 kd g x p (m.drop k) x.size):
  k+(onF kd g v ⟨#[]⟩ true).1.length=m.length/\(m.drop k).take (onF kd g v ⟨#[]⟩ true).1.length=(onF kd g v ⟨#[]⟩ true).1:=by
 have f:=h.le;have ex:x++(⟨#[]⟩:ByteArray)=x:=by
  apply ByteArray.ext;simp
 rw[h.on ⟨#[]⟩ true,ex,Su,AM kd g x _ p [] f (by omega)];obtain⟨l,J,K⟩:=El kd g x (x.size-p+1) p [] f (by omega);rw[J,yV];obtain⟨G,D,M⟩:=So V K;have B:G= []:=by
  cases G with
  |nil=>rfl
  |cons t r=>have:=M.1;omega
 subst B;have U:(m.drop k).length=l.length:=by rw[D];simp
 rw[List.length_drop]at U;exact⟨by omega,by rw[D];simp⟩
end Go.Proofs.YtcckhngbdoiikaaGreat

namespace Go.Proofs.YtcckhngbdoiikaaGreat
open Go.RowKit Go.Deep
theorem Uc(kd:Nat->Nat)(g:B0)(s:Nat):∀(n b:Nat) (seen:List Bool) (f:List Q7),∀t∈f,t∈A7 kd g s n b seen f
 |0,b,seen,f,t,ht=>ht
 |n+1,b,seen,f,t,ht=>by
  unfold A7;split
  ·split
   ·exact Uc kd g s n _ _ _ t ht
   ·exact Uc kd g s n _ _ _ t (by simp[ht])
  ·exact ht
theorem Ji{kd:Nat->Nat}{g:B0}(D:X9 kd g)(s:Nat):∀(n b:Nat) (seen:List Bool) (h:List Q7),256<n+b->seen.length=g.aB.length->(∀q,seen.getD q false=true->∃t∈h,t.q=q)->
  ∀c:Nat,b<=c->c<256->X0 kd g (s:Int) (c:Int)≠ -1->∃t∈A7 kd g s n b seen h,t.q=(X0 kd g (s:Int) (c:Int)).toNat
 |0,b,seen,h,hn,hl,hs,c,h1,h2,h3=>by omega
 |n+1,b,seen,h,hn,hl,hs,c,h1,h2,h3=>by
  unfold A7;rw[if_pos (by omega)]
  by_cases e:c=b
  ·subst e;split
   ·rename_i f;rcases f with f|f
    ·exact absurd f h3
    ·obtain⟨t,J,B⟩:=hs _ f;exact⟨t,Uc kd g s n _ _ _ t J,B⟩
   ·exact⟨_,Uc kd g s n _ _ _ ⟨c,(X0 kd g (s:Int) (c:Int)).toNat⟩ (by simp),rfl⟩
  ·split
   ·exact Ji D s n (b+1) seen h (by omega) hl hs c (by omega) h2 h3
   ·rename_i f;have M:=D (s:Int) (b:Int);refine Ji D s n (b+1) _ _ (by omega) (by simp[hl]) (fun q B=>?_) c (by omega) h2 h3;rw[X6 _ _ _ _ (by omega)]at B;split at B
    ·rename_i K;exact⟨_,zO.2 (.inr (zJ.2 rfl)),K.symm⟩
    ·obtain⟨t,J,G⟩:=hs q B;exact⟨t,by simp[J],G⟩
theorem Bz{kd:Nat->Nat}{g:B0}(D:X9 kd g)(s c:Nat)(B:c<256)(h:X0 kd g (s:Int) (c:Int)≠ -1):∃t∈R6 kd g s,t.q=(X0 kd g (s:Int) (c:Int)).toNat:=
 Ji D s 257 0 _ _ (by omega) (by simp) (fun q f=>by simp[yW]at f;split at f <;>cases f) c (yC _) B h
theorem S9(kd:Nat->Nat)(g:B0){s:Nat}(f:s<g.aB.length):(U0 kd g).aF.getD s false=decide (N0 g (s:Int)≠ -1):=by simp[U0,Gc,f]
theorem Fz{kd:Nat->Nat}{g:B0}(G:X9 kd g){s c:Nat}(K:s<g.aB.length)(D:c<256)(h:X0 kd g (s:Int) (c:Int)≠ -1){m:List Bool}(J:m.getD (X0 kd g (s:Int) (c:Int)).toNat false=true):Q8 (U0 kd g) m s=true:=by
 obtain⟨t,f,B⟩:=Bz G s c D h;unfold Q8 Wg;have e:(U0 kd g).aY.getD s []=R6 kd g s:=by simp[U0,J6,K]
 rw[e,List.find?_isSome];exact⟨t,f,by rw[B];exact J⟩
theorem Ns{kd:Nat->Nat}{g:B0}(B:X9 kd g):∀(d s:Nat),s<g.aB.length->GD kd g d (s:Int)->(F3 (U0 kd g) d).getD s false=true
 |0,s,hs,h=>by
  show(U0 kd g).aF.getD s false=true;rw[S9 kd g hs];exact decide_eq_true h
 |d+1,s,hs,⟨h1,b,h2,h3,h4⟩=>by
  have D:=B (s:Int) (b:Int);obtain⟨q,G⟩:∃q:Nat,X0 kd g (s:Int) (b:Int)=(q:Int):=⟨(X0 kd g (s:Int) (b:Int)).toNat,by omega⟩;rw[G]at h4 D;have M:=Ns B d q (by omega) h4;have K:=Fz B hs h2 h3 (m:=F3 (U0 kd g) d) (by rw[G,zH];exact M);have J:=S9 kd g hs;rw[h1]at J;have f:s<(U0 kd g).aF.length:=by simp[U0,C7,hs]
  show(J7 (U0 kd g) (F3 (U0 kd g) d)).getD s false=true;unfold J7;simp[f,K];simpa[f]using J
theorem YG{kd:Nat->Nat}{g:B0}(D:X9 kd g):∀(e d s:Nat),s<g.aB.length->GD kd g (d+e) (s:Int)->∃G:Nat,G<g.aB.length/\GD kd g d (G:Int)
 |0,d,s,hs,h=>⟨s,hs,h⟩
 |e+1,d,s,hs,h=>by
  obtain⟨K,b,M,U,B⟩:GD kd g (d+e+1) (s:Int):=h;have f:=D (s:Int) (b:Int);obtain⟨q,J⟩:∃q:Nat,X0 kd g (s:Int) (b:Int)=(q:Int):=⟨(X0 kd g (s:Int) (b:Int)).toNat,by omega⟩;rw[J]at B f;exact YG D e d q (by omega) B
theorem XG(x:T9)(f:List (List Bool)){d s:Nat}(G:s<x.aF.length)(h:Ib x (f.getD d []) s=true):∀D,d<D->d+1<=(Hc x f D).2
 |0,hD=>by omega
 |D+1,hD=>by
  unfold Hc;split
  ·show d+1<=D+1;omega
  ·rename_i B
   by_cases e:D=d
   ·subst e;rw[List.find?_eq_none]at B;exact absurd h (B s (by simp[G]))
   ·exact XG x f G h D (by omega)
theorem Ss{kd:Nat->Nat}{g:B0}(hf:Fb kd g)(J:(V3 kd g).aW=true){d s:Nat}(U:s<g.aB.length)(ht:N0 g (s:Int)≠ -1\/s=0)(h:Z9 kd g d (s:Int)):d+1<=(V3 kd g).k:=by
 have D:=hf.cY;obtain⟨b,h2,h3,h4⟩:=h;have K:=D (s:Int) (b:Int);obtain⟨q,M⟩:∃q:Nat,X0 kd g (s:Int) (b:Int)=(q:Int):=⟨(X0 kd g (s:Int) (b:Int)).toNat,by omega⟩;have B:=h4;rw[M]at B;rw[M]at K;unfold V3 at J⊢;split at J
 ·simp[L9]at J
 ·rename_i f;have X:d<g.aB.length:=by
   refine Nat.lt_of_not_le fun a0=>?_
   obtain⟨e,rfl⟩:∃e,d=g.aB.length+e:=⟨d-g.aB.length,by omega⟩;obtain⟨Y,W,Z⟩:=YG D e g.aB.length q (by omega) B;have g3:=Ns D _ Y W Z;rw[List.find?_eq_none]at f;exact f Y (by simp[W]) g3
  have hL:=Ns D d q (by omega) B;have hl:=Fz D U h2 h3 (m:=F3 (U0 kd g) d) (by rw[M,zH];exact hL);have G:s<(U0 kd g).aF.length:=by simp[U0,C7,U]
  have V:Ib (U0 kd g) ((X1 (U0 kd g) g.aB.length).getD d []) s=true:=by
   unfold Ib;rw[Ja _ _ _ X,hl,S9 kd g U];rcases ht with e|e <;>simp[e]
  show d+1<=(Hc (U0 kd g) (X1 (U0 kd g) g.aB.length) (X1 (U0 kd g) g.aB.length).length).2;exact XG _ _ G V _ (by rw[P3];exact X)
theorem Ep{kd:Nat->Nat}{g:B0}:∀(L:List Int) (q:Nat) (st:Int) (f:Ih) (B:Int) (d:Nat),(∀b∈L,0<=b/\b<256)->f.1<=q->(C2 kd g L q st f).1=f->(C2 kd g L q st f).2=some B->Z9 kd g d B->Z9 kd g (L.length+d) st
 | [],q,st,f,B,d,_,_,_,h2,hd=>by
  have e:some st=some B:=h2
  injection e with e
  subst e;rw[List.length_nil,yU];exact hd
 |b::r,q,st,f,B,d,hb,hq,h1,h2,hd=>by
  rw[E7]at h1 h2;split at h1
  ·rename_i G;rw[if_pos G]at h2;cases h2
  ·rename_i G;rw[if_neg G]at h2;have h:=Od kd g r (q+1) (X0 kd g st b) (if N0 g (X0 kd g st b)= -1 then f else(q+1,N0 g (X0 kd g st b),X0 kd g st b))
   by_cases J:N0 g (X0 kd g st b)= -1
   ·rw[if_pos J]at h1 h2;have V:=Ep r (q+1) _ f B d (fun c U=>hb c (by simp[U])) (by omega) h1 h2 hd;obtain⟨D,K⟩:∃D:Nat,b=(D:Int):=⟨b.toNat,by have:=hb b (by simp);omega⟩;subst K;have M:=hb (D:Int) (by simp);refine⟨D,by omega,G,?_⟩;rw[yH,show r.length+1+d=(r.length+d)+1 by omega];exact⟨J,V⟩
   ·exfalso
    rw[if_neg J]at h1 h;rw[h1]at h;rcases h with e|⟨e,_⟩
    ·have:f.1=q+1:=congrArg Prod.fst e;omega
    ·omega
theorem Bv{kd:Nat->Nat}{g:B0}:∀(L:List Int) (q:Nat) (st:Int) (f:Ih),(C2 kd g L q st f).1=f\/N0 g (C2 kd g L q st f).1.2.2≠ -1
 | [],q,st,f=>.inl rfl
 |b::r,q,st,f=>by
  rw[E7];split
  ·exact .inl rfl
  ·rcases Bv r (q+1) (X0 kd g st b) (if N0 g (X0 kd g st b)= -1 then f else(q+1,N0 g (X0 kd g st b),X0 kd g st b))with e|e
   ·rw[e];split
    ·exact .inl rfl
    ·rename_i h;exact .inr h
   ·exact .inr e
theorem Xo(s:ByteArray)(p:Nat):∀b∈L1 s p,0<=b/\b<256:=by
 intro b f;unfold L1 at f;rw[List.mem_map]at f;obtain⟨c,_,rfl⟩:=f;have:=c.toNat_lt;omega
theorem Dh{kd:Nat->Nat}{g:B0}(D:X9 kd g)(s:Nat):∀(n b:Nat) (seen:List Bool) (B:List Q7),(∀t∈B,t.b<256/\X0 kd g (s:Int) (t.b:Int)=(t.q:Int))->∀t∈A7 kd g s n b seen B,t.b<256/\X0 kd g (s:Int) (t.b:Int)=(t.q:Int)
 |0,b,seen,B,h,t,ht=>h t ht
 |n+1,b,seen,B,h,t,ht=>by
  unfold A7 at ht;split at ht
  ·rename_i G;split at ht
   ·exact Dh D s n _ _ _ h t ht
   ·rename_i J;have K:=D (s:Int) (b:Int);have M:X0 kd g (s:Int) (b:Int)≠ -1:=fun e=>J (.inl e)
    refine Dh D s n _ _ _ (fun U f=>?_) t ht;rw[zO,zJ]at f;rcases f with f|rfl
    ·exact h U f
    ·refine⟨G,?_⟩;show X0 kd g (s:Int) (b:Int)=(((X0 kd g (s:Int) (b:Int)).toNat:Nat):Int);omega
  ·exact h t ht
theorem Gm{kd:Nat->Nat}{g:B0}(f:X9 kd g)(s:Nat):∀t∈R6 kd g s,t.b<256/\X0 kd g (s:Int) (t.b:Int)=(t.q:Int):=
 Dh f s 257 0 _ _ (fun t h=>by simp at h)
theorem Rx{kd:Nat->Nat}{g:B0}(D:X9 kd g){s:Nat}(M:s<g.aB.length){m:List Bool}(h:Q8 (U0 kd g) m s=true):∃b q:Nat,b<256/\X0 kd g (s:Int) (b:Int)=(q:Int)/\q<g.aB.length/\m.getD q false=true:=by
 unfold Q8 Wg at h;have e:(U0 kd g).aY.getD s []=R6 kd g s:=by simp[U0,J6,M]
 rw[e,List.find?_isSome]at h;obtain⟨t,G,J⟩:=h;obtain⟨K,B⟩:=Gm D s t G;have f:=D (s:Int) (t.b:Int);rw[B]at f;exact⟨t.b,t.q,K,B,by omega,J⟩
theorem PB{kd:Nat->Nat}{g:B0}(G:X9 kd g):∀(d s:Nat),s<g.aB.length->(F3 (U0 kd g) d).getD s false=true->GD kd g d (s:Int)
 |0,s,hs,h=>by
  have f:(U0 kd g).aF.getD s false=true:=h;rw[S9 kd g hs]at f;show N0 g (s:Int)≠ -1;exact of_decide_eq_true f
 |d+1,s,hs,h=>by
  have B:s<(U0 kd g).aF.length:=by simp[U0,C7,hs]
  have f:(J7 (U0 kd g) (F3 (U0 kd g) d)).getD s false=true:=h;have e:(J7 (U0 kd g) (F3 (U0 kd g) d)).getD s false=(Q8 (U0 kd g) (F3 (U0 kd g) d) s && !((U0 kd g).aF.getD s false)):=by
   unfold J7;simp[B]
  rw[e,yL,S9 kd g hs]at f;obtain⟨J,K⟩:=f;have W:N0 g (s:Int)= -1:=by simpa using K
  obtain⟨b,q,M,D,U,V⟩:=Rx G hs J;exact⟨W,b,M,by rw[D];omega,by rw[D];exact PB G d q U V⟩
theorem QN(x:T9)(f:List (List Bool)):∀D,(Hc x f D).2=0\/((Hc x f D).2<=D/\0<(Hc x f D).2/\(Hc x f D).1<x.aF.length/\Ib x (f.getD ((Hc x f D).2-1) []) (Hc x f D).1=true)
 |0=>.inl rfl
 |D+1=>by
  unfold Hc;split
  ·rename_i s G;have B:=List.mem_of_find?_eq_some G;have h:=List.find?_some G;exact .inr ⟨zD _,by show 0<D+1;omega,by simpa using B,h⟩
  ·rcases QN x f D with e|⟨B,h⟩
   ·exact .inl e
   ·exact .inr ⟨by omega,h⟩
theorem AQ{kd:Nat->Nat}{g:B0}(J:Fb kd g)(h:0<(Hc (U0 kd g) (X1 (U0 kd g) g.aB.length) g.aB.length).2):
  ∃s:Nat,s=(Hc (U0 kd g) (X1 (U0 kd g) g.aB.length) g.aB.length).1/\s<g.aB.length/\(N0 g (s:Int)≠ -1\/s=0)/\Z9 kd g ((Hc (U0 kd g) (X1 (U0 kd g) g.aB.length) g.aB.length).2-1) (s:Int):=by
 rcases QN (U0 kd g) (X1 (U0 kd g) g.aB.length) g.aB.length with e|⟨X,Y,K,f⟩
 ·omega
 ·generalize Hc (U0 kd g) (X1 (U0 kd g) g.aB.length) g.aB.length=r at*;have D:r.1<g.aB.length:=by simpa[U0,C7]using K
  rw[Ja _ _ _ (by omega)]at f;unfold Ib at f;rw[yL,S9 kd g D]at f;obtain⟨M,U⟩:=f;obtain⟨b,q,V,G,W,B⟩:=Rx J.cY D M;refine⟨r.1,rfl,D,?_,b,V,by rw[G];omega,by rw[G];exact PB J.cY _ q W B⟩;simpa using U
theorem Io(x y:ByteArray):Q0 (x++y)=Q0 x++Q0 y:=by simp[Q0]
theorem Sw{b:Nat}(h:b<256):Q0 (K1 [b])= [b]:=by
 simp[Q0,K1];omega
theorem Q9(g:B0)(s:Int)(k m:List Nat):G3 g s (k++m)=G3 g (G3 g s k) m:=by simp[G3]
structure D9(kd:Nat->Nat)(g:B0)(bN rest:List Nat)(q:Nat):Prop where
 dM:∀b∈bN++rest,b<256
 jY:bN= []\/V4 g (G3 g 0 (bN.map kd))≠ -1
 run:G3 g 0 ((bN++rest).map kd)=(q:Int)
 jJ:∀k,0<k->k<=rest.length->V4 g (G3 g 0 ((bN++rest.take k).map kd))= -1
theorem D9.zero(kd:Nat->Nat)(g:B0):D9 kd g [] [] 0:=⟨by simp,.inl rfl,rfl,fun k h f=>by simp at f;omega⟩
theorem D9.step{kd:Nat->Nat}{g:B0}(U:Zh kd g){G rest:List Nat}{q b B:Nat}(h:D9 kd g G rest q)(W:q<g.aB.length)(K:b<256)(V:X0 kd g (q:Int) (b:Int)=(B:Int))(J:B<g.aB.length)(X:N0 g (B:Int)= -1):D9 kd g G (rest++ [b]) B:=by
 have f:G3 g 0 ((G++(rest++ [b])).map kd)=(B:Int):=by
  rw[<-yF,yB,Q9,h.run,<-V,Z7 U W K];rfl
 refine⟨fun x D=>?_,h.jY,f,fun k Y Z=>?_⟩
 ·rw[<-yF,zO,zJ]at D;rcases D with D|rfl
  ·exact h.dM x D
  ·exact K
 ·by_cases M:k<=rest.length
  ·rw[List.take_append_of_le_length M];exact h.jJ k Y M
  ·rw[zN (by simp at Z⊢;omega),f,<-Bc J];exact X
theorem D9.aF{kd:Nat->Nat}{g:B0}(M:Zh kd g){G rest:List Nat}{q b B:Nat}(h:D9 kd g G rest q)(V:q<g.aB.length)(K:b<256)(U:X0 kd g (q:Int) (b:Int)=(B:Int))(J:B<g.aB.length)(W:N0 g (B:Int)≠ -1):D9 kd g (G++(rest++ [b])) [] B:=by
 have f:G3 g 0 ((G++(rest++ [b])).map kd)=(B:Int):=by
  rw[<-yF,yB,Q9,h.run,<-U,Z7 M V K];rfl
 refine⟨fun x D=>?_,.inr ?_,by rw[yS];exact f,fun k Y X=>by simp at X;omega⟩
 ·rw[yS,<-yF,zO,zJ]at D;rcases D with D|rfl
  ·exact h.dM x D
  ·exact K
 ·rw[f,<-Bc J];exact W
structure Ds(kd:Nat->Nat)(g:B0)(a:Qd):Prop where
 tl:a.aF.length=g.aB.length
 rl:a.rest.length=g.aB.length
 fl:a.bB.length=g.aB.length
 is:∀q,a.bB.getD q false=true->D9 kd g (Q0 (a.aF.getD q A3)) (Q0 (a.rest.getD q A3)) q
 bN:∀q,a.bB.getD q false=true->N0 g (q:Int)≠ -1\/q=0->a.rest.getD q A3=A3
theorem Yc(l:List Bool)(k i:Nat)(x:Bool):(l.set k x).getD i false=if k=i/\k<l.length then x else l.getD i false:=by
 rw[zC,List.getElem?_set]
 by_cases h:k=i
 ·subst h
  by_cases f:k<l.length
  ·simp[f]
  ·simp[f]
 ·simp[h]
theorem CG{kd:Nat->Nat}{g:B0}(Z:Zh kd g){a:Qd}(h:Ds kd g a){aZ:Nat}(hs:aZ<g.aB.length)(hf:a.bB.getD aZ false=true)(h0:a.bB.getD 0 false=true){t:Q7}(X:t.b<256)(hn:X0 kd g (aZ:Int) (t.b:Int)=(t.q:Int))(J:t.q<g.aB.length):
  Ds kd g (D6 (U0 kd g) aZ a t)/\(D6 (U0 kd g) aZ a t).bB.getD t.q false=true/\∀q,a.bB.getD q false=true->(D6 (U0 kd g) aZ a t).bB.getD q false=true:=by
 have W:=h.is aZ hf;unfold D6
 by_cases U:a.bB.getD t.q false=true
 ·rw[if_pos U];exact⟨h,U,fun q J=>J⟩
 ·rw[if_neg U,S9 kd g J];have G:∀q,a.bB.getD q false=true->(a.bB.set t.q true).getD q false=true:=fun q Y=>by
   rw[Yc];split
   ·rfl
   ·exact Y
  have K:(a.bB.set t.q true).getD t.q false=true:=by rw[Yc,if_pos ⟨rfl,by rw[h.fl];exact J⟩]
  have B:∀q,(a.bB.set t.q true).getD q false=true->q≠t.q->a.bB.getD q false=true:=fun q f M=>by
   rw[Yc,if_neg (fun e=>M e.1.symm)]at f;exact f
  have hz:t.q≠0:=fun e=>U (by rw[e];exact h0)
  by_cases V:N0 g (t.q:Int)= -1
  ·rw[if_neg (by simp[V])];refine⟨⟨by simp[h.tl],by simp[h.rl],by simp[h.fl],fun q f=>?_,fun q f M=>?_⟩,K,G⟩
   ·simp only at f⊢
    by_cases e:q=t.q
    ·subst e;rw[F6,if_pos ⟨rfl,by rw[h.tl];exact J⟩,F6,if_pos ⟨rfl,by rw[h.rl];exact J⟩,Io,Sw X];exact W.step Z hs X hn J V
    ·rw[F6,if_neg (fun D=>e D.1.symm),F6,if_neg (fun D=>e D.1.symm)];exact h.is q (B q f e)
   ·simp only at f⊢;have e:q≠t.q:=fun e=>by
     subst e;rcases M with M|M
     ·exact M V
     ·exact hz M
    rw[F6,if_neg (fun D=>e D.1.symm)];exact h.bN q (B q f e) M
  ·rw[if_pos (by simp[V])];refine⟨⟨by simp[h.tl],by simp[h.rl],by simp[h.fl],fun q f=>?_,fun q f M=>?_⟩,K,G⟩
   ·simp only at f⊢
    by_cases e:q=t.q
    ·subst e;rw[F6,if_pos ⟨rfl,by rw[h.tl];exact J⟩,F6,if_pos ⟨rfl,by rw[h.rl];exact J⟩,Io,Io,Sw X];exact W.aF Z hs X hn J V
    ·rw[F6,if_neg (fun D=>e D.1.symm),F6,if_neg (fun D=>e D.1.symm)];exact h.is q (B q f e)
   ·simp only at f⊢
    by_cases e:q=t.q
    ·subst e;rw[F6,if_pos ⟨rfl,by rw[h.rl];exact J⟩]
    ·rw[F6,if_neg (fun D=>e D.1.symm)];exact h.bN q (B q f e) M
theorem Wp{kd:Nat->Nat}{g:B0}(G:Zh kd g){aZ:Nat}(J:aZ<g.aB.length):∀(l:List Q7) (a:Qd),(∀t∈l,t.b<256/\X0 kd g (aZ:Int) (t.b:Int)=(t.q:Int)/\t.q<g.aB.length)->Ds kd g a->a.bB.getD aZ false=true->a.bB.getD 0 false=true->
  Ds kd g (l.foldl (D6 (U0 kd g) aZ) a)/\(∀t∈l,(l.foldl (D6 (U0 kd g) aZ) a).bB.getD t.q false=true)/\∀q,a.bB.getD q false=true->(l.foldl (D6 (U0 kd g) aZ) a).bB.getD q false=true
 | [],a,_,h,_,_=>⟨h,by simp,fun q B=>B⟩
 |t::r,a,hl,h,hf,h0=>by
  obtain⟨X,Y,Z⟩:=hl t (by simp);obtain⟨V,W,D⟩:=CG G h J hf h0 X Y Z;obtain⟨M,U,K⟩:=Wp G J r _ (fun x f=>hl x (by simp[f])) V (D _ hf) (D _ h0);rw[List.foldl_cons];refine⟨M,fun x f=>?_,fun q B=>K q (D q B)⟩;rw[zU]at f;rcases f with rfl|f
  ·exact K _ W
  ·exact U x f
theorem WA{R:E0}{kd:Nat->Nat}{g:B0}(h:A4 R=some (kd,g)):∀k,k<=g.aB.length->Ds kd g (A6 (U0 kd g) k)/\(A6 (U0 kd g) k).bB.getD 0 false=true/\∀j i b:Nat,i<k->b<256->X0 kd g (i:Int) (b:Int)=(j:Int)->(A6 (U0 kd g) k).bB.getD j false=true
 |0,_=>by
  have U:=O6 h;have J:=U.bF;have X:(U0 kd g).aF.length=g.aB.length:=by simp[U0,C7]
  have B:∀q n,(List.replicate n A3).getD q A3=A3:=fun q n=>by
   rw[zC,yW];split <;>rfl
  have h0:∀q,(Ug g.aB.length).bB.getD q false=true->q=0:=fun q f=>by
   unfold Ug at f;rw[Yc]at f;split at f
   ·rename_i e;exact e.1.symm
   ·rw[zC,yW]at f;split at f <;>cases f
  show Ds kd g (Ug (U0 kd g).aF.length)/\(Ug (U0 kd g).aF.length).bB.getD 0 false=true/\_;rw[X];refine⟨⟨by simp[Ug],by simp[Ug],by simp[Ug],fun q f=>?_,fun q f _=>?_⟩,?_,fun j i b V=>by omega⟩
  ·have e:=h0 q f;subst e;show D9 kd g (Q0 ((List.replicate g.aB.length A3).getD 0 A3)) (Q0 ((List.replicate g.aB.length A3).getD 0 A3)) 0;rw[B];exact D9.zero kd g
  ·exact B q _
  ·unfold Ug;rw[Yc,if_pos ⟨rfl,by simp;exact J⟩]
 |k+1,hk=>by
  have U:=O6 h;have V:=U.eP;obtain⟨a1,K,Y⟩:=WA h k (by omega);have W:(A6 (U0 kd g) k).bB.getD k false=true:=by
   by_cases e:k=0
   ·rw[e]at K⊢;exact K
   ·obtain⟨i,b,M,D,G⟩:=Vt h (j:=k) (by omega) (by omega);exact Y k i b M D G
  have e1:(U0 kd g).aY.getD k []=R6 kd g k:=by
   have:k<g.aB.length:=by omega
   simp[U0,J6,this]
  have hl:∀t∈R6 kd g k,t.b<256/\X0 kd g (k:Int) (t.b:Int)=(t.q:Int)/\t.q<g.aB.length:=fun t ht=>by
   obtain⟨M,D⟩:=Gm V k t ht;have:=V (k:Int) (t.b:Int);exact⟨M,D,by omega⟩
  obtain⟨s1,s2,Z⟩:=Wp U (aZ:=k) (by omega) (R6 kd g k) (A6 (U0 kd g) k) hl a1 W K;have e2:A6 (U0 kd g) (k+1)=(R6 kd g k).foldl (D6 (U0 kd g) k) (A6 (U0 kd g) k):=by
   show QD (U0 kd g) k (A6 (U0 kd g) k)=_;unfold QD;rw[e1]
  rw[e2];refine⟨s1,Z _ K,fun j i b M D G=>?_⟩
  by_cases e:i<k
  ·exact Z _ (Y j i b e D G)
  ·have:i=k:=by omega
   subst this;obtain⟨t,g1,g2⟩:=Bz V i b D (by rw[G];omega);have:=s2 t g1;rw[g2,G,zH]at this;exact this
theorem DG{R:E0}{kd:Nat->Nat}{g:B0}(h:A4 R=some (kd,g)){q:Nat}(U:q<g.aB.length):
  D9 kd g (Q0 (Y4 (U0 kd g) q).1) (Q0 (Y4 (U0 kd g) q).2) q/\(N0 g (q:Int)≠ -1\/q=0->(Y4 (U0 kd g) q).2=A3):=by
 have M:(U0 kd g).aY.length=g.aB.length:=by simp[U0,J6]
 obtain⟨f,D,G⟩:=WA h g.aB.length (zD _);have B:(A6 (U0 kd g) g.aB.length).bB.getD q false=true:=by
  by_cases e:q=0
  ·rw[e];exact D
  ·obtain⟨i,b,V,J,K⟩:=Vt h (j:=q) (by omega) U;exact G q i b (by omega) J K
 unfold Y4;rw[M];exact⟨f.is q B,f.bN q B⟩
theorem YK{kd:Nat->Nat}{g:B0}(J:X9 kd g){s:Nat}(U:s<g.aB.length){m:List Bool}(h:Q8 (U0 kd g) m s=true):∃t:Q7,Wg ((U0 kd g).aY.getD s []) m=some t/\t.b<256/\X0 kd g (s:Int) (t.b:Int)=(t.q:Int)/\t.q<g.aB.length/\m.getD t.q false=true:=by
 unfold Q8 at h;rw[Option.isSome_iff_exists]at h;obtain⟨t,B⟩:=h;have D:=List.mem_of_find?_eq_some B;have K:=List.find?_some B;have e:(U0 kd g).aY.getD s []=R6 kd g s:=by simp[U0,J6,U]
 rw[e]at D;obtain⟨M,G⟩:=Gm J s t D;have f:=J (s:Int) (t.b:Int);rw[G]at f;exact⟨t,B,M,G,by omega,K⟩
theorem Oo{kd:Nat->Nat}{g:B0}{d s:Nat}(D:s<g.aB.length)(h:(F3 (U0 kd g) (d+1)).getD s false=true):Q8 (U0 kd g) (F3 (U0 kd g) d) s=true/\N0 g (s:Int)= -1:=by
 have f:s<(U0 kd g).aF.length:=by simp[U0,C7,D]
 have B:(J7 (U0 kd g) (F3 (U0 kd g) d)).getD s false=true:=h;have e:(J7 (U0 kd g) (F3 (U0 kd g) d)).getD s false=(Q8 (U0 kd g) (F3 (U0 kd g) d) s && !((U0 kd g).aF.getD s false)):=by
  unfold J7;simp[f]
 rw[e,yL,S9 kd g D]at B;exact⟨B.1,by simpa using B.2⟩
structure FK(kd:Nat->Nat)(g:B0)(d bA:Nat)(T V:List Nat):Prop where
 tl:T.length=d
 vl:V.length=d
 dM:∀b∈T,b<256
 cY:∀k,k<=d->(bA::V).getD k 0<g.aB.length
 run:∀k,k<=d->G3 g (bA:Int) ((T.take k).map kd)=(((bA::V).getD k 0:Nat):Int)
 jJ:∀k,0<k->k<d->N0 g (((bA::V).getD k 0:Nat):Int)= -1
 bN:0<d->N0 g (((bA::V).getD d 0:Nat):Int)≠ -1
theorem TJ{kd:Nat->Nat}{g:B0}(Y:Zh kd g)(X:List (List Bool)):∀(d B:Nat) (f:List Nat) (t:ByteArray),B<g.aB.length->(∀G,G<d->X.getD G []=F3 (U0 kd g) G)->(0<d->Q8 (U0 kd g) (F3 (U0 kd g) (d-1)) B=true)->
  ∃T V,Om (U0 kd g) X d B f t=(f++V,t++K1 T)/\FK kd g d B T V
 |0,B,f,t,ha,hL,h=>by
  refine⟨[],[],?_,rfl,rfl,by simp,fun k D=>?_,fun k D=>?_,fun k M h2=>by omega,fun M=>by omega⟩
  ·show(f,t)=(f++ [],t++K1 []);rw[yS]
   congr 1
   apply ByteArray.ext;simp[K1]
  ·have:k=0:=by omega
   subst this;exact ha
  ·have:k=0:=by omega
   subst this;rfl
 |d+1,B,f,t,ha,hL,h=>by
  have hi:=Y.eP;have M:=h (by omega);rw[Nat.add_sub_cancel]at M;obtain⟨s,s1,s2,s3,W,Z⟩:=YK hi ha M;obtain⟨T,V,e,w⟩:=TJ Y X d s.q (f++ [s.q]) (t++K1 [s.b]) W (fun G a0=>hL G (by omega)) (fun hd=>by
   obtain⟨J,rfl⟩:∃J,d=J+1:=⟨d-1,by omega⟩;exact(Oo W Z).1)
  have K:∀k,k<=d->G3 g (B:Int) (((s.b::T).take (k+1)).map kd)=(((s.q::V).getD k 0:Nat):Int):=fun k D=>by
   rw[List.take_succ_cons,List.map_cons];show G3 g (W0 g (B:Int) (kd s.b)) _=_;rw[<-Z7 Y ha s2,s3];exact w.run k D
  refine⟨s.b::T,s.q::V,?_,by simp[w.tl],by simp[w.vl],fun b U=>?_,fun k D=>?_,fun k D=>?_,fun k k0 k1=>?_,fun _=>?_⟩
  ·unfold Om;rw[hL d (by omega),s1];simp only;rw[e,yF,List.singleton_append,ByteArray.append_assoc,Uw,List.singleton_append]
  ·rw[zU]at U;rcases U with rfl|U
   ·exact s2
   ·exact w.dM b U
  ·cases k with
   |zero=>exact ha
   |succ k=>exact w.cY k (by omega)
  ·cases k with
   |zero=>rfl
   |succ k=>exact K k (by omega)
  ·cases k with
   |zero=>omega
   |succ k=>
    show N0 g (((s.q::V).getD k 0:Nat):Int)= -1
    by_cases D:k=0
    ·subst D;obtain⟨J,rfl⟩:∃J,d=J+1:=⟨d-1,by omega⟩;exact(Oo W Z).2
    ·exact w.jJ k (by omega) (by omega)
  ·show N0 g (((s.q::V).getD d 0:Nat):Int)≠ -1
   by_cases hd:d=0
   ·subst hd;have h9:(U0 kd g).aF.getD s.q false=true:=Z;rw[S9 kd g W]at h9;show N0 g (s.q:Int)≠ -1;exact of_decide_eq_true h9
   ·exact w.bN (by omega)
theorem TP{T:List Nat}(h:∀b∈T,b<256):Q0 (K1 T)=T:=by
 unfold Q0 K1;rw[List.map_map]
 conv=>rhs;rw[<-List.map_id T]
 refine List.map_congr_left (fun b f=>?_);have:=h b f;simp;omega
structure BK(kd:Nat->Nat)(g:B0)(u T:List Nat):Prop where
 dM:∀b∈u++T,b<256
 fr:u= []\/V4 g (G3 g 0 (u.map kd))≠ -1
 tt:V4 g (G3 g 0 ((u++T).map kd))≠ -1
 jJ:∀k,0<k->k<T.length->V4 g (G3 g 0 ((u++T.take k).map kd))= -1
theorem D9.dY{kd:Nat->Nat}{g:B0}{u rest W:List Nat}{v D:Nat}(h:D9 kd g u rest v)(G:∀b∈W,b<256)(K:G3 g (v:Int) (W.map kd)=(D:Int))(J:∀k,0<k->k<=W.length->V4 g (G3 g (v:Int) ((W.take k).map kd))= -1):D9 kd g u (rest++W) D:=by
 refine⟨fun b f=>?_,h.jY,?_,fun k M U=>?_⟩
 ·rw[<-yF,zO]at f;rcases f with f|f
  ·exact h.dM b f
  ·exact G b f
 ·rw[<-yF,yB,Q9,h.run];exact K
 ·by_cases B:k<=rest.length
  ·rw[List.take_append_of_le_length B];exact h.jJ k M B
  ·rw[List.take_append,zN (by omega),<-yF,yB,Q9,h.run];rw[zL]at U;exact J (k-rest.length) (by omega) (by omega)
theorem D9.jL{kd:Nat->Nat}{g:B0}{u rest W:List Nat}{v:Nat}(h:D9 kd g u rest v)(f:∀b∈W,b<256)(D:G3 g (v:Int) (W.map kd)=(v:Int))(B:∀k,0<k->k<=W.length->V4 g (G3 g (v:Int) ((W.take k).map kd))= -1):∀i,D9 kd g u (rest++(List.replicate i W).flatten) v
 |0=>by simpa using h
 |i+1=>by
  have G:=D9.jL h f D B i;have:=G.dY f D B;rw[yF]at this;rw[List.replicate_succ',List.flatten_append];simpa using this
theorem D9.tail{kd:Nat->Nat}{g:B0}{u rest W:List Nat}{v:Nat}(h:D9 kd g u rest v)(D:∀b∈W,b<256)(J:V4 g (G3 g (v:Int) (W.map kd))≠ -1)(G:∀k,0<k->k<W.length->V4 g (G3 g (v:Int) ((W.take k).map kd))= -1):BK kd g u (rest++W):=by
 refine⟨fun b f=>?_,h.jY,?_,fun k K M=>?_⟩
 ·rw[<-yF,zO]at f;rcases f with f|f
  ·exact h.dM b f
  ·exact D b f
 ·rw[<-yF,yB,Q9,h.run];exact J
 ·by_cases B:k<=rest.length
  ·rw[List.take_append_of_le_length B];exact h.jJ k K B
  ·rw[List.take_append,zN (by omega),<-yF,yB,Q9,h.run];rw[zL]at M;exact G (k-rest.length) (by omega) (by omega)
theorem FK.piece{kd:Nat->Nat}{g:B0}{d s:Nat}{T V:List Nat}(w:FK kd g d s T V){a k:Nat}(f:a+k<=d):G3 g (((s::V).getD a 0:Nat):Int) (((T.drop a).take k).map kd)=(((s::V).getD (a+k) 0:Nat):Int):=by
 rw[<-w.run a (by omega),<-Q9,<-yB,<-List.take_add];exact w.run (a+k) f
theorem OM{B:List Nat}{n:Nat}(h:∀x∈B,x<n)(hl:n<B.length):(C5 B).1<(C5 B).2/\(C5 B).2<B.length/\B.getD (C5 B).1 0=B.getD (C5 B).2 0:=by
 unfold C5;split
 ·rename_i V
  exfalso
  rw[List.find?_eq_none]at V;have K:B.Nodup:=by
   rw[List.Nodup,List.pairwise_iff_getElem];intro i j hi U J e;have D:=V j (by simp[U]);apply D;unfold Qm;rw[List.find?_isSome];exact⟨i,by simp[J],by simp[hi,U,e]⟩
  have:=Pg n B K h;omega
 ·rename_i s W;have D:=List.mem_of_find?_eq_some W;have M:=List.find?_some W;have X:s<B.length:=by simpa using D
  rw[Option.isSome_iff_exists]at M;obtain⟨f,G⟩:=M;have Y:=WJ G;have Z:=List.find?_some G;rw[G];exact⟨Y,X,by simpa using Z⟩
theorem Xd(x:ByteArray)(a b:Nat):Q0 (x.extract a b)=((Q0 x).drop a).take (b-a):=by
 simp[Q0,ByteArray.data_extract,Array.toList_extract,List.extract,List.map_take,List.map_drop]
theorem UD{R:E0}{kd:Nat->Nat}{g:B0}(h:A4 R=some (kd,g)){s:Nat}(hs:s<g.aB.length)(hl:(F3 (U0 kd g) g.aB.length).getD s false=true)(i:Nat):
  BK kd g (Q0 (L9 (U0 kd g) (X1 (U0 kd g) g.aB.length) s).fr) (Q0 (L9 (U0 kd g) (X1 (U0 kd g) g.aB.length) s).lead++(List.replicate i (Q0 (L9 (U0 kd g) (X1 (U0 kd g) g.aB.length) s).lp)).flatten++Q0 (L9 (U0 kd g) (X1 (U0 kd g) g.aB.length) s).tail)/\
  0<(L9 (U0 kd g) (X1 (U0 kd g) g.aB.length) s).lp.size/\0<(L9 (U0 kd g) (X1 (U0 kd g) g.aB.length) s).tail.size:=by
 have hG:=O6 h;have K:=hG.bF;obtain⟨n1,Y⟩:∃n1,g.aB.length=n1+1:=⟨g.aB.length-1,by omega⟩;have X:=hl;rw[Y]at X;obtain⟨h5,h6⟩:=Oo hs X;obtain⟨T,V,e,w⟩:=TJ hG (X1 (U0 kd g) g.aB.length) g.aB.length s [s] ⟨#[]⟩ hs (fun d' a3=>Ja _ _ _ a3) (fun _=>by rw[Y];exact h5);have ew:P7 (U0 kd g) (X1 (U0 kd g) g.aB.length) s=(s::V,K1 T):=by
  unfold P7;rw[P3,e]
  congr 1
 unfold L9;rw[ew];simp only;have Z:∀x∈s::V,x<g.aB.length:=fun x hx=>by
  obtain⟨k,J,e9⟩:=List.getElem_of_mem hx;have:=w.cY k (by have:=w.vl;simp at J;omega);rw[zC,zF J]at this;rw[<-e9];exact this
 obtain⟨r1,r2,r3⟩:=OM Z (by rw[yH,w.vl];omega);generalize C5 (s::V)=r at*;have a5:=w.vl;rw[yH]at r2;have D:∀k,k<g.aB.length->N0 g (((s::V).getD k 0:Nat):Int)= -1:=fun k J=>by
  by_cases e:k=0
  ·subst e;exact h6
  ·exact w.jJ k (by omega) J
 have hb:r.2<g.aB.length:=by
  refine Nat.lt_of_le_of_ne (by omega) fun e=>?_
  have:=w.bN K;rw[<-e,<-r3]at this;exact this (D r.1 (by omega))
 obtain⟨a1,_⟩:=DG h (w.cY r.1 (by omega));have M:=TP w.dM;have W:=w.tl;have a4:(K1 T).size=g.aB.length:=by rw[Yd,W]
 rw[Xd,Xd,M,a4];have B:∀k,k<=r.2-r.1->G3 g (((s::V).getD r.1 0:Nat):Int) ((((T.drop r.1).take (r.2-r.1)).take k).map kd)=(((s::V).getD (r.1+k) 0:Nat):Int):=fun k J=>by
  rw[List.take_take,Nat.min_eq_left J];exact w.piece (by omega)
 have U:((T.drop r.1).take (r.2-r.1)).length=r.2-r.1:=by simp[W];omega
 have f:((T.drop r.2).take (g.aB.length-r.2)).length=g.aB.length-r.2:=by simp[W]
 have a0:∀b∈(T.drop r.1).take (r.2-r.1),b<256:=fun b hx=>w.dM b (List.mem_of_mem_drop (List.mem_of_mem_take hx))
 have a2:∀b∈(T.drop r.2).take (g.aB.length-r.2),b<256:=fun b hx=>w.dM b (List.mem_of_mem_drop (List.mem_of_mem_take hx))
 have G:∀k,k<=g.aB.length-r.2->G3 g (((s::V).getD r.1 0:Nat):Int) ((((T.drop r.2).take (g.aB.length-r.2)).take k).map kd)=(((s::V).getD (r.2+k) 0:Nat):Int):=fun k J=>by
  rw[List.take_take,Nat.min_eq_left J,r3];exact w.piece (by omega)
 have t1:=D9.jL a1 a0 (by
  have:=B (r.2-r.1) (zD _);rw[zN (by rw[U];exact zD _),show r.1+(r.2-r.1)=r.2 by omega,<-r3]at this;exact this) (fun k k0 k1=>by
  rw[U]at k1;rw[B k k1,<-Bc (w.cY (r.1+k) (by omega))];exact D _ (by omega)) i
 refine⟨t1.tail a2 ?_ (fun k k0 k1=>?_),?_,?_⟩
 ·have:=G (g.aB.length-r.2) (zD _);rw[zN (by rw[f];exact zD _),show r.2+(g.aB.length-r.2)=g.aB.length by omega]at this;rw[this,<-Bc (w.cY _ (zD _))];exact w.bN K
 ·rw[f]at k1;rw[G k (by omega),<-Bc (w.cY (r.2+k) (by omega))];exact D _ (by omega)
 ·rw[<-I1,Xd,M,U];omega
 ·rw[<-I1,Xd,M,f];omega
def Xk(kd:Nat->Nat)(g:B0)(s:Int):Nat->Int->Prop
 |0,u=>u=s
 |k+1,u=>∃m,Xk kd g s k m/\∃b:Nat,b<256/\X0 kd g m (b:Int)=u/\u≠ -1/\N0 g u= -1
theorem Gx{kd:Nat->Nat}{g:B0}{s:Int}:∀(k d:Nat) (m:Int),Xk kd g s k m->Z9 kd g d m->Z9 kd g (d+k) s
 |0,d,m,h,hl=>by
  have e:m=s:=h;rw[<-e];exact hl
 |k+1,d,m,⟨m',h1,b,h2,h3,h4,h5⟩,hl=>by
  have f:Z9 kd g (d+1) m':=⟨b,h2,by rw[h3];exact h4,by rw[h3];exact⟨h5,hl⟩⟩;have:=Gx k (d+1) m' h1 f;rw[show d+(k+1)=d+1+k by omega];exact this
theorem AH{kd:Nat->Nat}{g:B0}{s f:Int}{b:Nat}(D:b<256)(G:X0 kd g s (b:Int)=f)(B:f≠ -1)(J:N0 g f= -1):∀(k:Nat) (m:Int),Xk kd g f k m->Xk kd g s (k+1) m
 |0,m,h=>by
  have e:m=f:=h;subst e;exact⟨s,rfl,b,D,G,B,J⟩
 |k+1,m,⟨m',g1,g2⟩=>⟨m',AH D G B J k m' g1,g2⟩
theorem Qx{kd:Nat->Nat}{g:B0}:∀(d:Nat) (s:Int),Z9 kd g d s->∃m,Xk kd g s d m/\∃b:Nat,b<256/\X0 kd g m (b:Int)≠ -1/\N0 g (X0 kd g m (b:Int))≠ -1
 |0,s,⟨b,h1,h2,h3⟩=>⟨s,rfl,b,h1,h2,h3⟩
 |d+1,s,⟨b,h1,h2,h3⟩=>by
  obtain⟨B,D⟩:N0 g (X0 kd g s (b:Int))= -1/\Z9 kd g d (X0 kd g s (b:Int)):=h3;obtain⟨m,f,h⟩:=Qx d _ D;exact⟨m,AH h1 rfl h2 B d m f,h⟩
theorem BI{R:E0}{kd:Nat->Nat}{g:B0}(h:A4 R=some (kd,g)){s:Int}{b:Nat}(B:b<256)(K:X0 kd g s (b:Int)≠ -1):∃d,GD kd g d (X0 kd g s (b:Int)):=by
 have f:=O6 h;have Z:¬(s<0\/(g.next.length:Int)<=s\/(b:Int)<0\/256<=(b:Int)):=fun e=>K (by unfold X0;rw[if_pos e])
 have M:=f.len;obtain⟨j,rfl⟩:∃j:Nat,s=(j:Int):=⟨s.toNat,by omega⟩;have D:j<g.aB.length:=by omega
 have J:kd=Z2 R.aJ:=by obtain⟨_,_,e,_⟩:=J8 h;exact e
 have W:=(Ue R.aJ b 256 B).1;rw[Z7 f D B]at K⊢;rcases f.step j b D B with e|⟨X,e,G⟩
 ·exact absurd e K
 ·rw[e];rw[J]at e;obtain⟨Y,U,V⟩:=Ut h D W e;exact Us h Y X U G V
theorem RN{R:E0}{kd:Nat->Nat}{g:B0}(h:A4 R=some (kd,g)){s u:Int}{k:Nat}(G:Xk kd g s (k+1) u):∃d,k+1<=d/\Z9 kd g d s:=by
 have B:=G;obtain⟨m,V,b,J,D,K,M⟩:=G;obtain⟨d,f⟩:=BI h J (by rw[D];exact K);rw[D]at f;cases d with
 |zero=>exact absurd M f
 |succ d=>
  obtain⟨_,U⟩:N0 g u= -1/\Z9 kd g d u:=f;exact⟨d+(k+1),by omega,Gx (k+1) d u B U⟩
theorem MU{R:E0}{kd:Nat->Nat}{g:B0}(h:A4 R=some (kd,g))(D:Fb kd g)(B:(V3 kd g).aW=true){s:Nat}(G:s<g.aB.length)(J:N0 g (s:Int)≠ -1\/s=0){u:Int}{k:Nat}(K:Xk kd g (s:Int) (k+1) u):k+1<(V3 kd g).k:=by
 obtain⟨d,M,f⟩:=RN h K;have:=Ss D B G J f;omega
theorem Fm(g:B0)(f:List Nat):G3 g (-1) f= -1:=by
 rw[I9 g f (-1) (by omega)];split <;>rfl
theorem BF{kd:Nat->Nat}{g:B0}(h:Zh kd g):∀(L:List Nat) (s:Nat),(∀b∈L,b<256)->s<g.aB.length->G3 g (s:Int) (L.map kd)= -1\/∃j:Nat,j<g.aB.length/\G3 g (s:Int) (L.map kd)=(j:Int)
 | [],s,_,hs=>.inr ⟨s,hs,rfl⟩
 |b::L,s,hb,hs=>by
  have e:G3 g (s:Int) ((b::L).map kd)=G3 g (W0 g (s:Int) (kd b)) (L.map kd):=rfl;rw[e];rcases h.step s b hs (hb b (by simp))with f|⟨j,f,B⟩
  ·rw[f];exact .inl (Fm g _)
  ·rw[f];exact BF h L j (fun x D=>hb x (by simp[D])) B
theorem FI{kd:Nat->Nat}{g:B0}(K:Zh kd g){u W:List Nat}(h:BK kd g u W){s:Nat}(M:s<g.aB.length)(U:G3 g 0 (u.map kd)=(s:Int)):∀k,k<W.length->Xk kd g (s:Int) k (G3 g (s:Int) ((W.take k).map kd))/\∃j:Nat,j<g.aB.length/\G3 g (s:Int) ((W.take k).map kd)=(j:Int)
 |0,_=>⟨rfl,s,M,rfl⟩
 |k+1,hk=>by
  obtain⟨ih,j,hj,V⟩:=FI K h M U k (by omega);have D:∀b∈W,b<256:=fun b J=>h.dM b (by simp[J])
  have J:W[k]<256:=D _ (zG _);have X:W.take (k+1)=W.take k++ [W[k]]:=(yJ (by omega)).symm;have Y:G3 g (s:Int) ((W.take (k+1)).map kd)=X0 kd g (j:Int) (W[k]:Int):=by
   rw[X,yB,Q9,V,Z7 K hj J];rfl
  have B:V4 g (G3 g (s:Int) (W.map kd))≠ -1:=by
   have:=h.tt;rw[yB,Q9,U]at this;exact this
  rcases BF K (W.take (k+1)) s (fun b hx=>D b (List.mem_of_mem_take hx)) M with f|⟨j',G,f⟩
  ·exfalso
   apply B;have Z:W.map kd=(W.take (k+1)).map kd++(W.drop (k+1)).map kd:=by rw[<-yB,yT]
   rw[Z,Q9,f,Fm];rfl
  ·refine⟨⟨_,ih,W[k],J,by rw[V,Y],by rw[f];omega,?_⟩,j',G,f⟩;have:=h.jJ (k+1) (by omega) hk;rw[yB,Q9,U,f,<-Bc G]at this;rw[f];exact this
theorem RG{R:E0}{kd:Nat->Nat}{g:B0}(h:A4 R=some (kd,g))(J:(V3 kd g).aW=false):∃s:Nat,s<g.aB.length/\(N0 g (s:Int)≠ -1\/s=0)/\∀k,∃u:Nat,u<g.aB.length/\Xk kd g (s:Int) k (u:Int):=by
 have G:=O6 h;unfold V3 at J;split at J
 ·rename_i W B;have h1:=List.mem_of_find?_eq_some B;have h2:W<g.aB.length:=by simpa using h1
  have h3:=List.find?_some B;have M:=fun i=>UD h h2 h3 i
  generalize L9 (U0 kd g) (X1 (U0 kd g) g.aB.length) W=E at M;have f:=(M 0).1;have K:∀b∈Q0 E.fr,b<256:=fun b hx=>f.dM b (by simp[hx])
  obtain⟨s,U,D⟩:∃s:Nat,s<g.aB.length/\G3 g 0 ((Q0 E.fr).map kd)=(s:Int):=by
   rcases BF G (Q0 E.fr) 0 K G.bF with e|e
   ·exfalso
    have:=f.tt;rw[yB,Q9]at this;have X:G3 g 0 ((Q0 E.fr).map kd)= -1:=e;rw[X,Fm]at this;exact this rfl
   ·obtain⟨s,h5,h6⟩:=e;exact⟨s,h5,h6⟩
  refine⟨s,U,?_,fun k=>?_⟩
  ·rcases f.fr with e|e
   ·right
    rw[e]at D;have:(0:Int)=(s:Int):=D;omega
   ·left
    rw[D,<-Bc U]at e;exact e
  ·obtain⟨p,q1,q2⟩:=M (k+1);have hl:k<(Q0 E.lead++(List.replicate (k+1) (Q0 E.lp)).flatten++Q0 E.tail).length:=by
    have:(List.replicate (k+1) (Q0 E.lp)).flatten.length=(k+1)*E.lp.size:=by simp[I1]
    rw[zL,zL,this];have:(k+1)*1<=(k+1)*E.lp.size:=Nat.mul_le_mul_left _ q1;omega
   obtain⟨V,j,Y,Z⟩:=FI G p U D k hl;rw[Z]at V;exact⟨j,Y,V⟩
 ·simp[Nf]at J
def Em(kd:Nat->Nat)(g:B0)(s:Nat):List Int:=(List.range 256).map (fun(b:Nat)=>X0 kd g (s:Int) (b:Int))
theorem YI(kd:Nat->Nat)(g:B0)(s:Nat):(Em kd g s).length=256:=by simp[Em]
structure Vv where
 next:List Bool
 any:Bool
 bW:Nat
def Jb(g:B0)(k:Nat)(st:Vv)(u:Int):Vv:=
 if 0<=u/\N0 g u≠ -1 then⟨st.next,st.any,k⟩else if 0<=u then⟨st.next.set u.toNat true,true,st.bW⟩else st
theorem GB(g:B0)(k:Nat)(st:Vv)(u:Int):(Jb g k st u).next.length=st.next.length:=by
 unfold Jb;split
 ·rfl
 ·split
  ·simp
  ·rfl
theorem Tj(g:B0)(k:Nat):∀(l:List Int) (st:Vv),(l.foldl (Jb g k) st).next.length=st.next.length
 | [],st=>rfl
 |u::l,st=>by rw[List.foldl_cons,Tj g k l,GB]
theorem Zt(g:B0)(k:Nat):∀(l:List Int) (st:Vv) (v:Nat),(∀u∈l,u<(st.next.length:Int))->((l.foldl (Jb g k) st).next.getD v false=true↔st.next.getD v false=true\/((v:Int)∈l/\N0 g (v:Int)= -1))
 | [],st,v,_=>by simp
 |u::l,st,v,h=>by
  have V:=h u (by simp);rw[List.foldl_cons,Zt g k l (Jb g k st u) v (fun x U=>by rw[GB];exact h x (by simp[U]))];have M:(Jb g k st u).next.getD v false=true↔st.next.getD v false=true\/((v:Int)=u/\N0 g (v:Int)= -1):=by
   unfold Jb
   by_cases G:0<=u/\N0 g u≠ -1
   ·rw[if_pos G];constructor
    ·exact .inl
    ·rintro(e|⟨f,B⟩)
     ·exact e
     ·rw[f]at B;exact absurd B G.2
   ·rw[if_neg G]
    by_cases J:0<=u
    ·have K:N0 g u= -1:=Classical.byContradiction fun e=>G ⟨J,e⟩
     rw[if_pos J];show(st.next.set u.toNat true).getD v false=true↔_;rw[Yc]
     by_cases e:u.toNat=v
     ·have D:(v:Int)=u:=by omega
      rw[if_pos ⟨e,by omega⟩];simp[D,K]
     ·rw[if_neg (fun x=>e x.1)];have D:¬(v:Int)=u:=by omega
      simp[D]
    ·rw[if_neg J];have D:¬(v:Int)=u:=by omega
     simp[D]
  rw[M,zU];constructor
  ·rintro((e|⟨f,B⟩)|⟨f,B⟩)
   ·exact .inl e
   ·exact .inr ⟨.inl f,B⟩
   ·exact .inr ⟨.inr f,B⟩
  ·rintro(e|⟨f|f,B⟩)
   ·exact .inl (.inl e)
   ·exact .inl (.inr ⟨f,B⟩)
   ·exact .inr ⟨f,B⟩
theorem Ex(g:B0)(k:Nat):∀(l:List Int) (st:Vv),((l.foldl (Jb g k) st).any=true↔st.any=true\/∃u∈l,0<=u/\N0 g u= -1)
 | [],st=>by simp
 |u::l,st=>by
  rw[List.foldl_cons,Ex g k l];have G:(Jb g k st u).any=true↔st.any=true\/(0<=u/\N0 g u= -1):=by
   unfold Jb
   by_cases h:0<=u/\N0 g u≠ -1
   ·rw[if_pos h];constructor
    ·exact .inl
    ·rintro(e|⟨_,B⟩)
     ·exact e
     ·exact absurd B h.2
   ·rw[if_neg h]
    by_cases f:0<=u
    ·have D:N0 g u= -1:=Classical.byContradiction fun e=>h ⟨f,e⟩
     rw[if_pos f];simp[f,D]
    ·rw[if_neg f];simp[f]
  rw[G];simp only[zU,exists_eq_or_imp];rw[or_assoc]
theorem Fx(g:B0)(k:Nat):∀(l:List Int) (st:Vv),((∃u∈l,0<=u/\N0 g u≠ -1)/\(l.foldl (Jb g k) st).bW=k)\/((¬ ∃u∈l,0<=u/\N0 g u≠ -1)/\(l.foldl (Jb g k) st).bW=st.bW)
 | [],st=>by simp
 |u::l,st=>by
  rw[List.foldl_cons];simp only[zU,exists_eq_or_imp];rcases Fx g k l (Jb g k st u)with⟨h,B⟩|⟨h,B⟩
  ·exact .inl ⟨.inr h,B⟩
  ·rw[B]
   by_cases f:0<=u/\N0 g u≠ -1
   ·left
    refine⟨.inl f,?_⟩;unfold Jb;rw[if_pos f]
   ·right
    refine⟨fun e=>?_,?_⟩
    ·rcases e with e|e
     ·exact f e
     ·exact h e
    ·unfold Jb;rw[if_neg f];split <;>rfl
def Ke(kd:Nat->Nat)(g:B0)(f:List Bool)(n:Nat):List Int:=(List.range n).flatMap (fun i=>if f.getD i false=true then Em kd g i else [])
theorem Ru(kd:Nat->Nat)(g:B0)(f:List Bool)(n:Nat):Ke kd g f (n+1)=Ke kd g f n++if f.getD n false=true then Em kd g n else []:=by
 unfold Ke;rw[List.range_succ,List.flatMap_append];simp
theorem Yx{kd:Nat->Nat}{g:B0}{G:List Bool}{n:Nat}{u:Int}:u∈Ke kd g G n↔∃i:Nat,i<n/\G.getD i false=true/\∃b:Nat,b<256/\X0 kd g (i:Int) (b:Int)=u:=by
 unfold Ke;rw[List.mem_flatMap];constructor
 ·rintro⟨i,h,f⟩;split at f
  ·rename_i B;unfold Em at f;rw[List.mem_map]at f;obtain⟨b,D,J⟩:=f;exact⟨i,List.mem_range.1 h,B,b,List.mem_range.1 D,J⟩
  ·simp at f
 ·rintro⟨i,h,f,b,B,D⟩;refine⟨i,List.mem_range.2 h,?_⟩;rw[if_pos f];unfold Em;exact List.mem_map.2 ⟨b,List.mem_range.2 B,D⟩
structure QF(kd:Nat->Nat)(g:B0)(s k:Nat)(bQ:List Bool)(bW:Nat):Prop where
 len:bQ.length=g.aB.length
 bQ:∀u:Nat,u<g.aB.length->(bQ.getD u false=true↔Xk kd g (s:Int) k (u:Int))
 gI:∀d,d<k->Z9 kd g d (s:Int)->d+1<=bW
 eL:bW=0\/Z9 kd g (bW-1) (s:Int)
 le:bW<=k
theorem QF.start{kd:Nat->Nat}{g:B0}{s:Nat}(B:s<g.aB.length):QF kd g s 0 ((List.replicate g.aB.length false).set s true) 0:=by
 refine⟨by simp,fun u f=>?_,fun d h=>by omega,.inl rfl,zD _⟩;rw[Yc];show _↔(u:Int)=(s:Int)
 by_cases e:s=u
 ·rw[if_pos ⟨e,by simp;omega⟩];simp[e]
 ·rw[if_neg (fun x=>e x.1)];simp[f];omega
theorem QF.round{kd:Nat->Nat}{g:B0}(hf:Fb kd g){s k:Nat}{V:List Bool}{bW:Nat}(h:QF kd g s k V bW)(hl:g.next.length=g.aB.length)(st:Vv)(a8:(Ke kd g V g.aB.length).foldl (Jb g (k+1)) ⟨List.replicate g.aB.length false,false,bW⟩=st):
  QF kd g s (k+1) st.next st.bW/\(st.any=false->∀d,Z9 kd g d (s:Int)->d+1<=st.bW)/\(st.any=true->∃u,Xk kd g (s:Int) (k+1) u):=by
 have a7:∀u∈Ke kd g V g.aB.length,u<(g.aB.length:Int):=fun u hu=>by
  obtain⟨i,_,_,b,_,e⟩:=Yx.1 hu;have:=hf.cY (i:Int) (b:Int);have hp:=hf.bF;rw[e]at this;omega
 have D:∀u:Int,(∃m,Xk kd g (s:Int) k m/\∃b:Nat,b<256/\X0 kd g m (b:Int)=u/\u≠ -1)↔(u∈Ke kd g V g.aB.length/\0<=u):=fun u=>by
  rw[Yx];constructor
  ·rintro⟨m,K,b,W,M,f⟩;have hc:¬(m<0\/(g.next.length:Int)<=m\/(b:Int)<0\/256<=(b:Int)):=fun e=>f (by rw[<-M];unfold X0;rw[if_pos e])
   obtain⟨i,rfl⟩:∃i:Nat,m=(i:Int):=⟨m.toNat,by omega⟩;have hi:i<g.aB.length:=by omega
   refine⟨⟨i,hi,(h.bQ i hi).2 K,b,W,M⟩,?_⟩;have:=hf.cY (i:Int) (b:Int);rw[M]at this;omega
  ·rintro⟨⟨i,K,W,b,M,f⟩,G⟩;exact⟨(i:Int),(h.bQ i K).1 W,b,M,f,by omega⟩
 have a2:Z9 kd g k (s:Int)↔∃u∈Ke kd g V g.aB.length,0<=u/\N0 g u≠ -1:=by
  constructor
  ·intro hL;obtain⟨m,K,b,W,M,f⟩:=Qx k _ hL;obtain⟨G,J⟩:=(D (X0 kd g m (b:Int))).1 ⟨m,K,b,W,rfl,M⟩;exact⟨_,G,J,f⟩
  ·rintro⟨u,K,W,M⟩;obtain⟨m,f,b,G,J,X⟩:=(D u).2 ⟨K,W⟩;have:=Gx k 0 m f ⟨b,G,by rw[J];exact X,by rw[J];exact M⟩
   rwa [yU]at this
 have a4:=fun v=>Zt g (k+1) (Ke kd g V g.aB.length) ⟨List.replicate g.aB.length false,false,bW⟩ v (fun u hu=>by simpa using a7 u hu)
 have Y:=Ex g (k+1) (Ke kd g V g.aB.length) ⟨List.replicate g.aB.length false,false,bW⟩;have B:=Fx g (k+1) (Ke kd g V g.aB.length) ⟨List.replicate g.aB.length false,false,bW⟩;have a3:=Tj g (k+1) (Ke kd g V g.aB.length) ⟨List.replicate g.aB.length false,false,bW⟩;rw[a8]at a4 Y B a3;simp only[zV,false_or]at Y;rw[<-a2]at B;simp only at B;have U:∀d,d<k+1->Z9 kd g d (s:Int)->d+1<=st.bW:=fun d hd hL=>by
  rcases B with⟨_,e⟩|⟨e1,e2⟩
  ·omega
  ·have a6:d<k:=by
    rcases yE d k with e|e
    ·exact e
    ·have:d=k:=by omega
     subst this;exact absurd hL e1
   have:=h.gI d a6 hL;omega
 have a0:st.bW=0\/Z9 kd g (st.bW-1) (s:Int):=by
  rcases B with⟨e1,e2⟩|⟨_,e2⟩
  ·right;rw[e2];exact e1
  ·rw[e2];exact h.eL
 have Z:st.bW<=k+1:=by
  have:=h.le;rcases B with⟨_,e⟩|⟨_,e⟩ <;>omega
 refine⟨⟨by simpa using a3,fun u hu=>?_,U,a0,Z⟩,fun ha d hL=>?_,fun ha=>?_⟩
 ·rw[a4 u];have e0:¬(List.replicate g.aB.length false).getD u false=true:=by simp[hu]
  constructor
  ·rintro(e|⟨e1,e2⟩)
   ·exact absurd e e0
   ·obtain⟨m,f,b,G,J,X⟩:=(D (u:Int)).2 ⟨e1,by omega⟩;exact⟨m,f,b,G,J,X,e2⟩
  ·rintro⟨m,f,b,G,J,X,h8⟩;exact .inr ⟨((D (u:Int)).1 ⟨m,f,b,G,J,X⟩).1,h8⟩
 ·rcases yE d (k+1)with e|e
  ·exact U d e hL
  ·exfalso
   obtain⟨m,K,_⟩:=Qx d _ hL;have a1:∀j,k+1<=j->∀m,Xk kd g (s:Int) j m->∃m',Xk kd g (s:Int) (k+1) m':=by
    intro j hj
    induction j with
    |zero=>omega
    |succ j ih=>
     intro m hm;rcases yE j (k+1)with e|e
     ·have:j+1=k+1:=by omega
      rw[this]at hm;exact⟨m,hm⟩
     ·obtain⟨m',h',_⟩:=hm;exact ih e m' h'
   obtain⟨m',m0,f,b,G,J,X,h8⟩:=a1 d e m K;obtain⟨h9,a5⟩:=(D m').1 ⟨m0,f,b,G,J,X⟩;have:=Y.2 ⟨m',h9,a5,h8⟩;rw[ha]at this;cases this
 ·obtain⟨u,K,W,M⟩:=Y.1 ha;obtain⟨m,f,b,G,J,X⟩:=(D u).2 ⟨K,W⟩;exact⟨u,m,f,b,G,J,X,M⟩
def VW(kd:Nat->Nat)(g:B0)(s:Nat)(f:Int):Prop:=
 (∃h:Nat,f=(h:Int)/\h<=g.aB.length+1/\(∀d,Z9 kd g d (s:Int)->d+1<=h)/\(h=0\/Z9 kd g (h-1) (s:Int)))\/(f= -1/\∃u,Xk kd g (s:Int) (g.aB.length+1) u)
structure Nk(kd:Nat->Nat)(g:B0)(s k:Nat):Prop where
 gI:∀s':Nat,s'<s->(N0 g (s':Int)≠ -1\/s'=0)->∀d,Z9 kd g d (s':Int)->d+1<=k
 eL:k=0\/∃s':Nat,s'<g.aB.length/\(N0 g (s':Int)≠ -1\/s'=0)/\Z9 kd g (k-1) (s':Int)
 le:k<=g.aB.length+1
theorem Nk.start(kd:Nat->Nat)(g:B0):Nk kd g 0 0:=⟨fun f h=>by omega,.inl rfl,by omega⟩
theorem Nk.skip{kd:Nat->Nat}{g:B0}{s k:Nat}(h:Nk kd g s k)(K:0<s)(G:N0 g (s:Int)= -1):Nk kd g (s+1) k:=by
 refine⟨fun f J B d D=>?_,h.eL,h.le⟩;rcases yE f s with e|e
 ·exact h.gI f e B d D
 ·have:f=s:=by omega
  subst this;rcases B with e|e
  ·exact absurd G e
  ·omega
theorem Nk.step{kd:Nat->Nat}{g:B0}{s k f:Nat}(h:Nk kd g s k)(U:s<g.aB.length)(W:N0 g (s:Int)≠ -1\/s=0)(X:f<=g.aB.length+1)(J:∀d,Z9 kd g d (s:Int)->d+1<=f)(K:f=0\/Z9 kd g (f-1) (s:Int)):Nk kd g (s+1) (if k<f then f else k):=by
 refine⟨fun D V B d G=>?_,?_,?_⟩
 ·rcases yE D s with e|e
  ·have:=h.gI D e B d G;split <;>omega
  ·have:D=s:=by omega
   subst this;have:=J d G;split <;>omega
 ·split
  ·rename_i M;rcases K with e|e
   ·omega
   ·exact .inr ⟨s,U,W,e⟩
  ·exact h.eL
 ·have:=h.le;split <;>omega
theorem PU{kd:Nat->Nat}{g:B0}(f:(V3 kd g).aW=true):V3 kd g=Nf (U0 kd g) (X1 (U0 kd g) g.aB.length):=by
 unfold V3 at f⊢;split
 ·rename_i s h;rw[h]at f;cases f
 ·rfl
theorem GY{kd:Nat->Nat}{g:B0}(f:(V3 kd g).aW=true):(V3 kd g).k=(Hc (U0 kd g) (X1 (U0 kd g) g.aB.length) g.aB.length).2:=by
 rw[PU f];show(Hc (U0 kd g) (X1 (U0 kd g) g.aB.length) (X1 (U0 kd g) g.aB.length).length).2=_;rw[P3]
theorem Nk.done{R:E0}{kd:Nat->Nat}{g:B0}(M:A4 R=some (kd,g))(U:Fb kd g){k:Nat}(h:Nk kd g g.aB.length k):(V3 kd g).aW=true/\k=(V3 kd g).k:=by
 have J:(V3 kd g).aW=true:=by
  cases hbb:(V3 kd g).aW with
  |true=>rfl
  |false=>
   exfalso
   obtain⟨s,B,D,f⟩:=RG M hbb;obtain⟨u,_,G⟩:=f (k+1);obtain⟨d,K,V⟩:=RN M G;have:=h.gI s B D d V;omega
 refine⟨J,?_⟩;have B:k<=(V3 kd g).k:=by
  rcases h.eL with e|⟨W,B,D,f⟩
  ·omega
  ·have:=Ss U J B D f;omega
 have D:(V3 kd g).k<=k:=by
  rw[GY J];rcases Nat.eq_zero_or_pos (Hc (U0 kd g) (X1 (U0 kd g) g.aB.length) g.aB.length).2 with e|e
  ·omega
  ·obtain⟨s,_,f,G,K⟩:=AQ U e;have:=h.gI s f G _ K;omega
 omega
theorem FQ{R:E0}{kd:Nat->Nat}{g:B0}(D:A4 R=some (kd,g))(G:Fb kd g){s:Nat}(J:s<g.aB.length)(K:N0 g (s:Int)≠ -1\/s=0)(h:∃u,Xk kd g (s:Int) (g.aB.length+1) u):(V3 kd g).aW=false:=by
 cases hbb:(V3 kd g).aW with
 |false=>rfl
 |true=>
  exfalso
  obtain⟨u,f⟩:=h;have B:=MU D G hbb J K f;rw[GY hbb]at B;have:=(Ov (U0 kd g) (X1 (U0 kd g) g.aB.length) g.aB.length).1;omega
end Go.Proofs.YtcckhngbdoiikaaGreat
