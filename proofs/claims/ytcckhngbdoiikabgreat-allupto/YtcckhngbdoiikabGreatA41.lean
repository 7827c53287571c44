import Derived.Test.YtcckhngbdoiikabGreatA40
import Derived.Test.YtcckhngbdoiikabGreatA36
set_option maxRecDepth 20000
set_option maxHeartbeats 12800000
set_option linter.unusedVariables false
namespace Go.Proofs.YtcckhngbdoiikabGreat
theorem EX{s:ByteArray}{kd:Nat->Nat}{g:B0}(h:newF s=.lexer kd g):K8 kd g:=by
 obtain⟨R,f⟩:=Bz h;exact⟨(Hp h).1,(I5 f).eT,DI f,(I5 f).bE⟩
theorem Rl(kd:Nat->Nat)(g:B0)(s:ByteArray):∀(n p:Nat) (h:List V4),p<=s.size->s.size<n+p->∃l,Dg kd g s n p h=h++l/\J9 kd g s p l s.size
 |0,p,h,hp,hn=>by omega
 |n+1,p,h,hp,hn=>by
  unfold Dg
  by_cases f:p<s.size
  ·rw[if_pos f];obtain⟨J,B,K⟩:=Ec kd g s p f;obtain⟨l,D,G⟩:=Rl kd g s n (V3 kd g s p).tt (h++ [V3 kd g s p]) B (by omega);exact⟨V3 kd g s p::l,by rw[D];simp,f,rfl,G⟩
  ·rw[if_neg f];exact⟨[],by simp,by show p=s.size;omega⟩
theorem It(kd:Nat->Nat)(g:B0)(s:ByteArray):J9 kd g s 0 (U4 kd g s) s.size:=by
 obtain⟨l,f,h⟩:=Rl kd g s (s.size+1) 0 [] (yC _) (by omega);unfold U4;rw[f];simpa using h
theorem Kp{kd:Nat->Nat}{g:B0}{s:ByteArray}:∀{l m:List V4} {p f:Nat},J9 kd g s p m s.size->J9 kd g s p l f->∃h,m=l++h/\J9 kd g s f h s.size
 | [],m,p,f,hm,hl=>⟨m,rfl,by have e:p=f:=hl;rw[<-e];exact hm⟩
 |t::r,[],p,f,hm,⟨h1,_,_⟩=>by have:p=s.size:=hm;omega
 |t::r,G::m,p,f,⟨g1,g2,g3⟩,⟨h1,h2,h3⟩=>by
  have e:t=G:=by rw[h2,g2]
  subst e;obtain⟨h,B,D⟩:=Kp g3 h3;exact⟨h,by rw[B];rfl,D⟩
theorem OT{kd:Nat->Nat}{g:B0}{s:ByteArray}{p:Nat}{i:Vh}(K:p<=i.1)(M:i.1<=s.size)(G:i.1=p->i=Y1 p)(J:S4 kd g (L4 p s i)=S4 kd g (L4 p s (Y1 p)))(h:Bool)(n:Nat)(f:List V4):
  E4 kd g h (n+1) (L4 p s i) f=E4 kd g h (n+1) (L4 p s (Y1 p)) f:=by
 by_cases e:i.1=p
 ·rw[G e]
 ·have B:(L4 p s i).bC<(L4 p s i).en\/(L4 p s i).tail.size≠0:=.inl (by show p<i.1;omega);have D:(L4 p s (Y1 p)).bC<(L4 p s (Y1 p)).en\/(L4 p s (Y1 p)).tail.size≠0:=.inr (by show(s.extract p s.size).size≠0;rw[S3];omega);unfold E4;rw[if_pos B,if_pos D,J]
theorem Rf.on{kd:Nat->Nat}{g:B0}{x:ByteArray}{p:Nat}{v:F3}(h:Rf kd g x p v)(y:ByteArray)(B:Bool):
  onF kd g v y B=E4 kd g B ((x++y).size-p+1) (L4 p (x++y) (Y1 p)) []:=by
 obtain⟨i,f,K,Y,M,U⟩:=h.more y;have V:=h.le;have W:(x++y).size=x.size+y.size:=zN;unfold onF;rw[f];have X:v.en-v.bC+(v.tail++y).size+1=(x++y).size-p+1:=by
  have D:v.en=i.1:=congrArg F3.en f;have G:v.bC=p:=congrArg F3.bC f;have J:v.tail++y=(x++y).extract i.1 (x++y).size:=congrArg F3.tail f;rw[D,G,J,S3];omega
 rw[X];exact OT K (by omega) M U B _ []
theorem Rf.start(kd:Nat->Nat)(g:B0):Rf kd g ⟨#[]⟩ 0 (X6 0):=by
 have f:M1 (⟨#[]⟩:ByteArray) 0= []:=rfl;refine⟨zD _,?_,?_⟩
 ·rw[f];show X6 0=L4 0 ⟨#[]⟩ (Y1 0);unfold X6 L4;rfl
 ·rw[f];show(some (0:Int))≠none;simp
theorem Rf.eK{kd:Nat->Nat}{g:B0}{x:ByteArray}{p:Nat}{v:F3}(h:Rf kd g x p v):v.bC<=v.en/\v.en+v.tail.size=x.size:=by
 obtain⟨B,rfl,_⟩:=h;have f:=Wd kd g (M1 x p) p 0 (Y1 p);rw[B8]at f;generalize(K2 kd g (M1 x p) p 0 (Y1 p)).1=i at f;have:p<=i.1/\i.1<=x.size:=by
  rcases f with e|⟨a,b,_⟩
  ·rw[e];exact⟨zD _,B⟩
  ·omega
 refine⟨this.1,?_⟩;show i.1+(x.extract i.1 x.size).size=x.size;rw[S3];omega
theorem Rf.eZ{kd:Nat->Nat}{g:B0}{x:ByteArray}{p:Nat}{v:F3}(h:Rf kd g x p v)(m:List V4)(k:Nat)(W:k<=m.length)(V:J9 kd g x p (m.drop k) x.size):
  k+(onF kd g v ⟨#[]⟩ true).1.length=m.length/\(m.drop k).take (onF kd g v ⟨#[]⟩ true).1.length=(onF kd g v ⟨#[]⟩ true).1:=by
 have f:=h.le;have ex:x++(⟨#[]⟩:ByteArray)=x:=by
  apply ByteArray.ext;simp
 rw[h.on ⟨#[]⟩ true,ex,Nv,IG kd g x _ p [] f (by omega)];obtain⟨l,J,K⟩:=Rl kd g x (x.size-p+1) p [] f (by omega);rw[J,yU];obtain⟨G,D,M⟩:=Kp V K;have B:G= []:=by
  cases G with
  |nil=>rfl
  |cons t r=>have:=M.1;omega
 subst B;have U:(m.drop k).length=l.length:=by rw[D];simp
 rw[List.length_drop]at U;exact⟨by omega,by rw[D];simp⟩
end Go.Proofs.YtcckhngbdoiikabGreat

namespace Go.Proofs.YtcckhngbdoiikabGreat
open Go.RowKit Go.Deep
theorem Cd(kd:Nat->Nat)(g:B0)(s:Nat):∀(n b:Nat) (seen:List Bool) (f:List A7),∀t∈f,t∈G7 kd g s n b seen f
 |0,b,seen,f,t,ht=>ht
 |n+1,b,seen,f,t,ht=>by
  unfold G7;split
  ·split
   ·exact Cd kd g s n _ _ _ t ht
   ·exact Cd kd g s n _ _ _ t (by simp[ht])
  ·exact ht
theorem Ui{kd:Nat->Nat}{g:B0}(D:Da kd g)(s:Nat):∀(n b:Nat) (seen:List Bool) (h:List A7),256<n+b->seen.length=g.aB.length->(∀q,seen.getD q false=true->∃t∈h,t.q=q)->
  ∀c:Nat,b<=c->c<256->X0 kd g (s:Int) (c:Int)≠ -1->∃t∈G7 kd g s n b seen h,t.q=(X0 kd g (s:Int) (c:Int)).toNat
 |0,b,seen,h,hn,hl,hs,c,h1,h2,h3=>by omega
 |n+1,b,seen,h,hn,hl,hs,c,h1,h2,h3=>by
  unfold G7;rw[if_pos (by omega)]
  by_cases e:c=b
  ·subst e;split
   ·rename_i f;rcases f with f|f
    ·exact absurd f h3
    ·obtain⟨t,J,B⟩:=hs _ f;exact⟨t,Cd kd g s n _ _ _ t J,B⟩
   ·exact⟨_,Cd kd g s n _ _ _ ⟨c,(X0 kd g (s:Int) (c:Int)).toNat⟩ (by simp),rfl⟩
  ·split
   ·exact Ui D s n (b+1) seen h (by omega) hl hs c (by omega) h2 h3
   ·rename_i f;have M:=D (s:Int) (b:Int);refine Ui D s n (b+1) _ _ (by omega) (by simp[hl]) (fun q B=>?_) c (by omega) h2 h3;rw[C7 _ _ _ _ (by omega)]at B;split at B
    ·rename_i K;exact⟨_,zQ.2 (.inr (zJ.2 rfl)),K.symm⟩
    ·obtain⟨t,J,G⟩:=hs q B;exact⟨t,by simp[J],G⟩
theorem FA{kd:Nat->Nat}{g:B0}(D:Da kd g)(s c:Nat)(B:c<256)(h:X0 kd g (s:Int) (c:Int)≠ -1):∃t∈U6 kd g s,t.q=(X0 kd g (s:Int) (c:Int)).toNat:=
 Ui D s 257 0 _ _ (by omega) (by simp) (fun q f=>by simp[yM]at f;split at f <;>cases f) c (yC _) B h
theorem X8(kd:Nat->Nat)(g:B0){s:Nat}(f:s<g.aB.length):(J0 kd g).aF.getD s false=decide (M0 g (s:Int)≠ -1):=by simp[J0,Pc,f]
theorem LA{kd:Nat->Nat}{g:B0}(G:Da kd g){s c:Nat}(K:s<g.aB.length)(D:c<256)(h:X0 kd g (s:Int) (c:Int)≠ -1){m:List Bool}(J:m.getD (X0 kd g (s:Int) (c:Int)).toNat false=true):A9 (J0 kd g) m s=true:=by
 obtain⟨t,f,B⟩:=FA G s c D h;unfold A9 Gh;have e:(J0 kd g).aZ.getD s []=U6 kd g s:=by simp[J0,U5,K]
 rw[e,List.find?_isSome];exact⟨t,f,by rw[B];exact J⟩
theorem Mt{kd:Nat->Nat}{g:B0}(B:Da kd g):∀(d s:Nat),s<g.aB.length->SE kd g d (s:Int)->(J3 (J0 kd g) d).getD s false=true
 |0,s,hs,h=>by
  show(J0 kd g).aF.getD s false=true;rw[X8 kd g hs];exact decide_eq_true h
 |d+1,s,hs,⟨h1,b,h2,h3,h4⟩=>by
  have D:=B (s:Int) (b:Int);obtain⟨q,G⟩:∃q:Nat,X0 kd g (s:Int) (b:Int)=(q:Int):=⟨(X0 kd g (s:Int) (b:Int)).toNat,by omega⟩;rw[G]at h4 D;have M:=Mt B d q (by omega) h4;have K:=LA B hs h2 h3 (m:=J3 (J0 kd g) d) (by rw[G,zH];exact M);have J:=X8 kd g hs;rw[h1]at J;have f:s<(J0 kd g).aF.length:=by simp[J0,G6,hs]
  show(P7 (J0 kd g) (J3 (J0 kd g) d)).getD s false=true;unfold P7;simp[f,K];simpa[f]using J
theorem UI{kd:Nat->Nat}{g:B0}(D:Da kd g):∀(e d s:Nat),s<g.aB.length->SE kd g (d+e) (s:Int)->∃G:Nat,G<g.aB.length/\SE kd g d (G:Int)
 |0,d,s,hs,h=>⟨s,hs,h⟩
 |e+1,d,s,hs,h=>by
  obtain⟨K,b,M,U,B⟩:SE kd g (d+e+1) (s:Int):=h;have f:=D (s:Int) (b:Int);obtain⟨q,J⟩:∃q:Nat,X0 kd g (s:Int) (b:Int)=(q:Int):=⟨(X0 kd g (s:Int) (b:Int)).toNat,by omega⟩;rw[J]at B f;exact UI D e d q (by omega) B
theorem TI(x:K9)(f:List (List Bool)){d s:Nat}(G:s<x.aF.length)(h:Za x (f.getD d []) s=true):∀D,d<D->d+1<=(Na x f D).2
 |0,hD=>by omega
 |D+1,hD=>by
  unfold Na;split
  ·show d+1<=D+1;omega
  ·rename_i B
   by_cases e:D=d
   ·subst e;rw[List.find?_eq_none]at B;exact absurd h (B s (by simp[G]))
   ·exact TI x f G h D (by omega)
theorem Qt{kd:Nat->Nat}{g:B0}(hf:K8 kd g)(J:(V1 kd g).aT=true){d s:Nat}(U:s<g.aB.length)(ht:M0 g (s:Int)≠ -1\/s=0)(h:Fa kd g d (s:Int)):d+1<=(V1 kd g).k:=by
 have D:=hf.cK;obtain⟨b,h2,h3,h4⟩:=h;have K:=D (s:Int) (b:Int);obtain⟨q,M⟩:∃q:Nat,X0 kd g (s:Int) (b:Int)=(q:Int):=⟨(X0 kd g (s:Int) (b:Int)).toNat,by omega⟩;have B:=h4;rw[M]at B;rw[M]at K;unfold V1 at J⊢;split at J
 ·simp[G9]at J
 ·rename_i f;have X:d<g.aB.length:=by
   refine Nat.lt_of_not_le fun a0=>?_
   obtain⟨e,rfl⟩:∃e,d=g.aB.length+e:=⟨d-g.aB.length,by omega⟩;obtain⟨Y,W,Z⟩:=UI D e g.aB.length q (by omega) B;have g3:=Mt D _ Y W Z;rw[List.find?_eq_none]at f;exact f Y (by simp[W]) g3
  have hL:=Mt D d q (by omega) B;have hl:=LA D U h2 h3 (m:=J3 (J0 kd g) d) (by rw[M,zH];exact hL);have G:s<(J0 kd g).aF.length:=by simp[J0,G6,U]
  have V:Za (J0 kd g) ((L1 (J0 kd g) g.aB.length).getD d []) s=true:=by
   unfold Za;rw[T8 _ _ _ X,hl,X8 kd g U];rcases ht with e|e <;>simp[e]
  show d+1<=(Na (J0 kd g) (L1 (J0 kd g) g.aB.length) (L1 (J0 kd g) g.aB.length).length).2;exact TI _ _ G V _ (by rw[E3];exact X)
theorem Xp{kd:Nat->Nat}{g:B0}:∀(L:List Int) (q:Nat) (st:Int) (f:Vh) (B:Int) (d:Nat),(∀b∈L,0<=b/\b<256)->f.1<=q->(K2 kd g L q st f).1=f->(K2 kd g L q st f).2=some B->Fa kd g d B->Fa kd g (L.length+d) st
 | [],q,st,f,B,d,_,_,_,h2,hd=>by
  have e:some st=some B:=h2
  injection e with e
  subst e;rw[List.length_nil,yX];exact hd
 |b::r,q,st,f,B,d,hb,hq,h1,h2,hd=>by
  rw[K7]at h1 h2;split at h1
  ·rename_i G;rw[if_pos G]at h2;cases h2
  ·rename_i G;rw[if_neg G]at h2;have h:=Wd kd g r (q+1) (X0 kd g st b) (if M0 g (X0 kd g st b)= -1 then f else(q+1,M0 g (X0 kd g st b),X0 kd g st b))
   by_cases J:M0 g (X0 kd g st b)= -1
   ·rw[if_pos J]at h1 h2;have V:=Xp r (q+1) _ f B d (fun c U=>hb c (by simp[U])) (by omega) h1 h2 hd;obtain⟨D,K⟩:∃D:Nat,b=(D:Int):=⟨b.toNat,by have:=hb b (by simp);omega⟩;subst K;have M:=hb (D:Int) (by simp);refine⟨D,by omega,G,?_⟩;rw[yH,show r.length+1+d=(r.length+d)+1 by omega];exact⟨J,V⟩
   ·exfalso
    rw[if_neg J]at h1 h;rw[h1]at h;rcases h with e|⟨e,_⟩
    ·have:f.1=q+1:=congrArg Prod.fst e;omega
    ·omega
theorem Xv{kd:Nat->Nat}{g:B0}:∀(L:List Int) (q:Nat) (st:Int) (f:Vh),(K2 kd g L q st f).1=f\/M0 g (K2 kd g L q st f).1.2.2≠ -1
 | [],q,st,f=>.inl rfl
 |b::r,q,st,f=>by
  rw[K7];split
  ·exact .inl rfl
  ·rcases Xv r (q+1) (X0 kd g st b) (if M0 g (X0 kd g st b)= -1 then f else(q+1,M0 g (X0 kd g st b),X0 kd g st b))with e|e
   ·rw[e];split
    ·exact .inl rfl
    ·rename_i h;exact .inr h
   ·exact .inr e
theorem Pp(s:ByteArray)(p:Nat):∀b∈M1 s p,0<=b/\b<256:=by
 intro b f;unfold M1 at f;rw[List.mem_map]at f;obtain⟨c,_,rfl⟩:=f;have:=c.toNat_lt;omega
theorem Ph{kd:Nat->Nat}{g:B0}(D:Da kd g)(s:Nat):∀(n b:Nat) (seen:List Bool) (B:List A7),(∀t∈B,t.b<256/\X0 kd g (s:Int) (t.b:Int)=(t.q:Int))->∀t∈G7 kd g s n b seen B,t.b<256/\X0 kd g (s:Int) (t.b:Int)=(t.q:Int)
 |0,b,seen,B,h,t,ht=>h t ht
 |n+1,b,seen,B,h,t,ht=>by
  unfold G7 at ht;split at ht
  ·rename_i G;split at ht
   ·exact Ph D s n _ _ _ h t ht
   ·rename_i J;have K:=D (s:Int) (b:Int);have M:X0 kd g (s:Int) (b:Int)≠ -1:=fun e=>J (.inl e)
    refine Ph D s n _ _ _ (fun U f=>?_) t ht;rw[zQ,zJ]at f;rcases f with f|rfl
    ·exact h U f
    ·refine⟨G,?_⟩;show X0 kd g (s:Int) (b:Int)=(((X0 kd g (s:Int) (b:Int)).toNat:Nat):Int);omega
  ·exact h t ht
theorem Xm{kd:Nat->Nat}{g:B0}(f:Da kd g)(s:Nat):∀t∈U6 kd g s,t.b<256/\X0 kd g (s:Int) (t.b:Int)=(t.q:Int):=
 Ph f s 257 0 _ _ (fun t h=>by simp at h)
theorem Ry{kd:Nat->Nat}{g:B0}(D:Da kd g){s:Nat}(M:s<g.aB.length){m:List Bool}(h:A9 (J0 kd g) m s=true):∃b q:Nat,b<256/\X0 kd g (s:Int) (b:Int)=(q:Int)/\q<g.aB.length/\m.getD q false=true:=by
 unfold A9 Gh at h;have e:(J0 kd g).aZ.getD s []=U6 kd g s:=by simp[J0,U5,M]
 rw[e,List.find?_isSome]at h;obtain⟨t,G,J⟩:=h;obtain⟨K,B⟩:=Xm D s t G;have f:=D (s:Int) (t.b:Int);rw[B]at f;exact⟨t.b,t.q,K,B,by omega,J⟩
theorem XC{kd:Nat->Nat}{g:B0}(G:Da kd g):∀(d s:Nat),s<g.aB.length->(J3 (J0 kd g) d).getD s false=true->SE kd g d (s:Int)
 |0,s,hs,h=>by
  have f:(J0 kd g).aF.getD s false=true:=h;rw[X8 kd g hs]at f;show M0 g (s:Int)≠ -1;exact of_decide_eq_true f
 |d+1,s,hs,h=>by
  have B:s<(J0 kd g).aF.length:=by simp[J0,G6,hs]
  have f:(P7 (J0 kd g) (J3 (J0 kd g) d)).getD s false=true:=h;have e:(P7 (J0 kd g) (J3 (J0 kd g) d)).getD s false=(A9 (J0 kd g) (J3 (J0 kd g) d) s && !((J0 kd g).aF.getD s false)):=by
   unfold P7;simp[B]
  rw[e,yK,X8 kd g hs]at f;obtain⟨J,K⟩:=f;have W:M0 g (s:Int)= -1:=by simpa using K
  obtain⟨b,q,M,D,U,V⟩:=Ry G hs J;exact⟨W,b,M,by rw[D];omega,by rw[D];exact XC G d q U V⟩
theorem OF(x:K9)(f:List (List Bool)):∀D,(Na x f D).2=0\/((Na x f D).2<=D/\0<(Na x f D).2/\(Na x f D).1<x.aF.length/\Za x (f.getD ((Na x f D).2-1) []) (Na x f D).1=true)
 |0=>.inl rfl
 |D+1=>by
  unfold Na;split
  ·rename_i s G;have B:=yW G;have h:=List.find?_some G;exact .inr ⟨zD _,by show 0<D+1;omega,by simpa using B,h⟩
  ·rcases OF x f D with e|⟨B,h⟩
   ·exact .inl e
   ·exact .inr ⟨by omega,h⟩
theorem YR{kd:Nat->Nat}{g:B0}(J:K8 kd g)(h:0<(Na (J0 kd g) (L1 (J0 kd g) g.aB.length) g.aB.length).2):
  ∃s:Nat,s=(Na (J0 kd g) (L1 (J0 kd g) g.aB.length) g.aB.length).1/\s<g.aB.length/\(M0 g (s:Int)≠ -1\/s=0)/\Fa kd g ((Na (J0 kd g) (L1 (J0 kd g) g.aB.length) g.aB.length).2-1) (s:Int):=by
 rcases OF (J0 kd g) (L1 (J0 kd g) g.aB.length) g.aB.length with e|⟨X,Y,K,f⟩
 ·omega
 ·generalize Na (J0 kd g) (L1 (J0 kd g) g.aB.length) g.aB.length=r at*;have D:r.1<g.aB.length:=by simpa[J0,G6]using K
  rw[T8 _ _ _ (by omega)]at f;unfold Za at f;rw[yK,X8 kd g D]at f;obtain⟨M,U⟩:=f;obtain⟨b,q,V,G,W,B⟩:=Ry J.cK D M;refine⟨r.1,rfl,D,?_,b,V,by rw[G];omega,by rw[G];exact XC J.cK _ q W B⟩;simpa using U
theorem Dh(x y:ByteArray):Q0 (x++y)=Q0 x++Q0 y:=by simp[Q0]
theorem Qx{b:Nat}(h:b<256):Q0 (K1 [b])= [b]:=by
 simp[Q0,K1];omega
theorem T7(g:B0)(s:Int)(k m:List Nat):A3 g s (k++m)=A3 g (A3 g s k) m:=by simp[A3]
structure C8(kd:Nat->Nat)(g:B0)(bM rest:List Nat)(q:Nat):Prop where
 dF:∀b∈bM++rest,b<256
 jE:bM= []\/Z4 g (A3 g 0 (bM.map kd))≠ -1
 run:A3 g 0 ((bM++rest).map kd)=(q:Int)
 gU:∀k,0<k->k<=rest.length->Z4 g (A3 g 0 ((bM++rest.take k).map kd))= -1
theorem C8.zero(kd:Nat->Nat)(g:B0):C8 kd g [] [] 0:=⟨by simp,.inl rfl,rfl,fun k h f=>by simp at f;omega⟩
theorem C8.step{kd:Nat->Nat}{g:B0}(U:We kd g){G rest:List Nat}{q b B:Nat}(h:C8 kd g G rest q)(W:q<g.aB.length)(K:b<256)(V:X0 kd g (q:Int) (b:Int)=(B:Int))(J:B<g.aB.length)(X:M0 g (B:Int)= -1):C8 kd g G (rest++ [b]) B:=by
 have f:A3 g 0 ((G++(rest++ [b])).map kd)=(B:Int):=by
  rw[<-yF,zV,T7,h.run,<-V,G8 U W K];rfl
 refine⟨fun x D=>?_,h.jE,f,fun k Y Z=>?_⟩
 ·rw[<-yF,zQ,zJ]at D;rcases D with D|rfl
  ·exact h.dF x D
  ·exact K
 ·by_cases M:k<=rest.length
  ·rw[List.take_append_of_le_length M];exact h.gU k Y M
  ·rw[zO (by simp at Z⊢;omega),f,<-F7 J];exact X
theorem C8.aF{kd:Nat->Nat}{g:B0}(M:We kd g){G rest:List Nat}{q b B:Nat}(h:C8 kd g G rest q)(V:q<g.aB.length)(K:b<256)(U:X0 kd g (q:Int) (b:Int)=(B:Int))(J:B<g.aB.length)(W:M0 g (B:Int)≠ -1):C8 kd g (G++(rest++ [b])) [] B:=by
 have f:A3 g 0 ((G++(rest++ [b])).map kd)=(B:Int):=by
  rw[<-yF,zV,T7,h.run,<-U,G8 M V K];rfl
 refine⟨fun x D=>?_,.inr ?_,by rw[yP];exact f,fun k Y X=>by simp at X;omega⟩
 ·rw[yP,<-yF,zQ,zJ]at D;rcases D with D|rfl
  ·exact h.dF x D
  ·exact K
 ·rw[f,<-F7 J];exact W
structure Zs(kd:Nat->Nat)(g:B0)(a:Ub):Prop where
 tl:a.aF.length=g.aB.length
 rl:a.rest.length=g.aB.length
 fl:a.bA.length=g.aB.length
 is:∀q,a.bA.getD q false=true->C8 kd g (Q0 (a.aF.getD q N1)) (Q0 (a.rest.getD q N1)) q
 bM:∀q,a.bA.getD q false=true->M0 g (q:Int)≠ -1\/q=0->a.rest.getD q N1=N1
theorem Ab(l:List Bool)(k i:Nat)(x:Bool):(l.set k x).getD i false=if k=i/\k<l.length then x else l.getD i false:=by
 rw[zC,List.getElem?_set]
 by_cases h:k=i
 ·subst h
  by_cases f:k<l.length
  ·simp[f]
  ·simp[f]
 ·simp[h]
theorem XH{kd:Nat->Nat}{g:B0}(Z:We kd g){a:Ub}(h:Zs kd g a){aQ:Nat}(hs:aQ<g.aB.length)(hf:a.bA.getD aQ false=true)(h0:a.bA.getD 0 false=true){t:A7}(X:t.b<256)(hn:X0 kd g (aQ:Int) (t.b:Int)=(t.q:Int))(J:t.q<g.aB.length):
  Zs kd g (Q3 (J0 kd g) aQ a t)/\(Q3 (J0 kd g) aQ a t).bA.getD t.q false=true/\∀q,a.bA.getD q false=true->(Q3 (J0 kd g) aQ a t).bA.getD q false=true:=by
 have W:=h.is aQ hf;unfold Q3
 by_cases U:a.bA.getD t.q false=true
 ·rw[if_pos U];exact⟨h,U,fun q J=>J⟩
 ·rw[if_neg U,X8 kd g J];have G:∀q,a.bA.getD q false=true->(a.bA.set t.q true).getD q false=true:=fun q Y=>by
   rw[Ab];split
   ·rfl
   ·exact Y
  have K:(a.bA.set t.q true).getD t.q false=true:=by rw[Ab,if_pos ⟨rfl,by rw[h.fl];exact J⟩]
  have B:∀q,(a.bA.set t.q true).getD q false=true->q≠t.q->a.bA.getD q false=true:=fun q f M=>by
   rw[Ab,if_neg (fun e=>M e.1.symm)]at f;exact f
  have hz:t.q≠0:=fun e=>U (by rw[e];exact h0)
  by_cases V:M0 g (t.q:Int)= -1
  ·rw[if_neg (by simp[V])];refine⟨⟨by simp[h.tl],by simp[h.rl],by simp[h.fl],fun q f=>?_,fun q f M=>?_⟩,K,G⟩
   ·simp only at f⊢
    by_cases e:q=t.q
    ·subst e;rw[U3,if_pos ⟨rfl,by rw[h.tl];exact J⟩,U3,if_pos ⟨rfl,by rw[h.rl];exact J⟩,Dh,Qx X];exact W.step Z hs X hn J V
    ·rw[U3,if_neg (fun D=>e D.1.symm),U3,if_neg (fun D=>e D.1.symm)];exact h.is q (B q f e)
   ·simp only at f⊢;have e:q≠t.q:=fun e=>by
     subst e;rcases M with M|M
     ·exact M V
     ·exact hz M
    rw[U3,if_neg (fun D=>e D.1.symm)];exact h.bM q (B q f e) M
  ·rw[if_pos (by simp[V])];refine⟨⟨by simp[h.tl],by simp[h.rl],by simp[h.fl],fun q f=>?_,fun q f M=>?_⟩,K,G⟩
   ·simp only at f⊢
    by_cases e:q=t.q
    ·subst e;rw[U3,if_pos ⟨rfl,by rw[h.tl];exact J⟩,U3,if_pos ⟨rfl,by rw[h.rl];exact J⟩,Dh,Dh,Qx X];exact W.aF Z hs X hn J V
    ·rw[U3,if_neg (fun D=>e D.1.symm),U3,if_neg (fun D=>e D.1.symm)];exact h.is q (B q f e)
   ·simp only at f⊢
    by_cases e:q=t.q
    ·subst e;rw[U3,if_pos ⟨rfl,by rw[h.rl];exact J⟩]
    ·rw[U3,if_neg (fun D=>e D.1.symm)];exact h.bM q (B q f e) M
theorem Nq{kd:Nat->Nat}{g:B0}(G:We kd g){aQ:Nat}(J:aQ<g.aB.length):∀(l:List A7) (a:Ub),(∀t∈l,t.b<256/\X0 kd g (aQ:Int) (t.b:Int)=(t.q:Int)/\t.q<g.aB.length)->Zs kd g a->a.bA.getD aQ false=true->a.bA.getD 0 false=true->
  Zs kd g (l.foldl (Q3 (J0 kd g) aQ) a)/\(∀t∈l,(l.foldl (Q3 (J0 kd g) aQ) a).bA.getD t.q false=true)/\∀q,a.bA.getD q false=true->(l.foldl (Q3 (J0 kd g) aQ) a).bA.getD q false=true
 | [],a,_,h,_,_=>⟨h,by simp,fun q B=>B⟩
 |t::r,a,hl,h,hf,h0=>by
  obtain⟨X,Y,Z⟩:=hl t (by simp);obtain⟨V,W,D⟩:=XH G h J hf h0 X Y Z;obtain⟨M,U,K⟩:=Nq G J r _ (fun x f=>hl x (by simp[f])) V (D _ hf) (D _ h0);rw[List.foldl_cons];refine⟨M,fun x f=>?_,fun q B=>K q (D q B)⟩;rw[zU]at f;rcases f with rfl|f
  ·exact K _ W
  ·exact U x f
theorem Pn{R:E0}{kd:Nat->Nat}{g:B0}(h:N3 R=some (kd,g)):∀k,k<=g.aB.length->Zs kd g (C5 (J0 kd g) k)/\(C5 (J0 kd g) k).bA.getD 0 false=true/\∀j i b:Nat,i<k->b<256->X0 kd g (i:Int) (b:Int)=(j:Int)->(C5 (J0 kd g) k).bA.getD j false=true
 |0,_=>by
  have U:=I5 h;have J:=U.bE;have X:(J0 kd g).aF.length=g.aB.length:=by simp[J0,G6]
  have B:∀q n,(List.replicate n N1).getD q N1=N1:=fun q n=>by
   rw[zC,yM];split <;>rfl
  have h0:∀q,(Bh g.aB.length).bA.getD q false=true->q=0:=fun q f=>by
   unfold Bh at f;rw[Ab]at f;split at f
   ·rename_i e;exact e.1.symm
   ·rw[zC,yM]at f;split at f <;>cases f
  show Zs kd g (Bh (J0 kd g).aF.length)/\(Bh (J0 kd g).aF.length).bA.getD 0 false=true/\_;rw[X];refine⟨⟨by simp[Bh],by simp[Bh],by simp[Bh],fun q f=>?_,fun q f _=>?_⟩,?_,fun j i b V=>by omega⟩
  ·have e:=h0 q f;subst e;show C8 kd g (Q0 ((List.replicate g.aB.length N1).getD 0 N1)) (Q0 ((List.replicate g.aB.length N1).getD 0 N1)) 0;rw[B];exact C8.zero kd g
  ·exact B q _
  ·unfold Bh;rw[Ab,if_pos ⟨rfl,by simp;exact J⟩]
 |k+1,hk=>by
  have U:=I5 h;have V:=U.eT;obtain⟨a1,K,Y⟩:=Pn h k (by omega);have W:(C5 (J0 kd g) k).bA.getD k false=true:=by
   by_cases e:k=0
   ·rw[e]at K⊢;exact K
   ·obtain⟨i,b,M,D,G⟩:=Xl h (j:=k) (by omega) (by omega);exact Y k i b M D G
  have e1:(J0 kd g).aZ.getD k []=U6 kd g k:=by
   have:k<g.aB.length:=by omega
   simp[J0,U5,this]
  have hl:∀t∈U6 kd g k,t.b<256/\X0 kd g (k:Int) (t.b:Int)=(t.q:Int)/\t.q<g.aB.length:=fun t ht=>by
   obtain⟨M,D⟩:=Xm V k t ht;have:=V (k:Int) (t.b:Int);exact⟨M,D,by omega⟩
  obtain⟨s1,s2,Z⟩:=Nq U (aQ:=k) (by omega) (U6 kd g k) (C5 (J0 kd g) k) hl a1 W K;have e2:C5 (J0 kd g) (k+1)=(U6 kd g k).foldl (Q3 (J0 kd g) k) (C5 (J0 kd g) k):=by
   show GF (J0 kd g) k (C5 (J0 kd g) k)=_;unfold GF;rw[e1]
  rw[e2];refine⟨s1,Z _ K,fun j i b M D G=>?_⟩
  by_cases e:i<k
  ·exact Z _ (Y j i b e D G)
  ·have:i=k:=by omega
   subst this;obtain⟨t,g1,g2⟩:=FA V i b D (by rw[G];omega);have:=s2 t g1;rw[g2,G,zH]at this;exact this
theorem Ul{R:E0}{kd:Nat->Nat}{g:B0}(h:N3 R=some (kd,g)){q:Nat}(U:q<g.aB.length):
  C8 kd g (Q0 (K3 (J0 kd g) q).1) (Q0 (K3 (J0 kd g) q).2) q/\(M0 g (q:Int)≠ -1\/q=0->(K3 (J0 kd g) q).2=N1):=by
 have M:(J0 kd g).aZ.length=g.aB.length:=by simp[J0,U5]
 obtain⟨f,D,G⟩:=Pn h g.aB.length (zD _);have B:(C5 (J0 kd g) g.aB.length).bA.getD q false=true:=by
  by_cases e:q=0
  ·rw[e];exact D
  ·obtain⟨i,b,V,J,K⟩:=Xl h (j:=q) (by omega) U;exact G q i b (by omega) J K
 unfold K3;rw[M];exact⟨f.is q B,f.bM q B⟩
theorem YM{kd:Nat->Nat}{g:B0}(J:Da kd g){s:Nat}(U:s<g.aB.length){m:List Bool}(h:A9 (J0 kd g) m s=true):∃t:A7,Gh ((J0 kd g).aZ.getD s []) m=some t/\t.b<256/\X0 kd g (s:Int) (t.b:Int)=(t.q:Int)/\t.q<g.aB.length/\m.getD t.q false=true:=by
 unfold A9 at h;rw[Option.isSome_iff_exists]at h;obtain⟨t,B⟩:=h;have D:=yW B;have K:=List.find?_some B;have e:(J0 kd g).aZ.getD s []=U6 kd g s:=by simp[J0,U5,U]
 rw[e]at D;obtain⟨M,G⟩:=Xm J s t D;have f:=J (s:Int) (t.b:Int);rw[G]at f;exact⟨t,B,M,G,by omega,K⟩
theorem Gp{kd:Nat->Nat}{g:B0}{d s:Nat}(D:s<g.aB.length)(h:(J3 (J0 kd g) (d+1)).getD s false=true):A9 (J0 kd g) (J3 (J0 kd g) d) s=true/\M0 g (s:Int)= -1:=by
 have f:s<(J0 kd g).aF.length:=by simp[J0,G6,D]
 have B:(P7 (J0 kd g) (J3 (J0 kd g) d)).getD s false=true:=h;have e:(P7 (J0 kd g) (J3 (J0 kd g) d)).getD s false=(A9 (J0 kd g) (J3 (J0 kd g) d) s && !((J0 kd g).aF.getD s false)):=by
  unfold P7;simp[f]
 rw[e,yK,X8 kd g D]at B;exact⟨B.1,by simpa using B.2⟩
structure AF(kd:Nat->Nat)(g:B0)(d bC:Nat)(T V:List Nat):Prop where
 tl:T.length=d
 vl:V.length=d
 dF:∀b∈T,b<256
 cK:∀k,k<=d->(bC::V).getD k 0<g.aB.length
 run:∀k,k<=d->A3 g (bC:Int) ((T.take k).map kd)=(((bC::V).getD k 0:Nat):Int)
 gU:∀k,0<k->k<d->M0 g (((bC::V).getD k 0:Nat):Int)= -1
 bM:0<d->M0 g (((bC::V).getD d 0:Nat):Int)≠ -1
theorem IA{kd:Nat->Nat}{g:B0}(Y:We kd g)(X:List (List Bool)):∀(d B:Nat) (f:List Nat) (t:ByteArray),B<g.aB.length->(∀G,G<d->X.getD G []=J3 (J0 kd g) G)->(0<d->A9 (J0 kd g) (J3 (J0 kd g) (d-1)) B=true)->
  ∃T V,Hn (J0 kd g) X d B f t=(f++V,t++K1 T)/\AF kd g d B T V
 |0,B,f,t,ha,hL,h=>by
  refine⟨[],[],?_,rfl,rfl,by simp,fun k D=>?_,fun k D=>?_,fun k M h2=>by omega,fun M=>by omega⟩
  ·show(f,t)=(f++ [],t++K1 []);rw[yP]
   congr 1
   apply ByteArray.ext;simp[K1]
  ·have:k=0:=by omega
   subst this;exact ha
  ·have:k=0:=by omega
   subst this;rfl
 |d+1,B,f,t,ha,hL,h=>by
  have hi:=Y.eT;have M:=h (by omega);rw[Nat.add_sub_cancel]at M;obtain⟨s,s1,s2,s3,W,Z⟩:=YM hi ha M;obtain⟨T,V,e,w⟩:=IA Y X d s.q (f++ [s.q]) (t++K1 [s.b]) W (fun G a0=>hL G (by omega)) (fun hd=>by
   obtain⟨J,rfl⟩:∃J,d=J+1:=⟨d-1,by omega⟩;exact(Gp W Z).1)
  have K:∀k,k<=d->A3 g (B:Int) (((s.b::T).take (k+1)).map kd)=(((s.q::V).getD k 0:Nat):Int):=fun k D=>by
   rw[List.take_succ_cons,List.map_cons];show A3 g (W0 g (B:Int) (kd s.b)) _=_;rw[<-G8 Y ha s2,s3];exact w.run k D
  refine⟨s.b::T,s.q::V,?_,by simp[w.tl],by simp[w.vl],fun b U=>?_,fun k D=>?_,fun k D=>?_,fun k k0 k1=>?_,fun _=>?_⟩
  ·unfold Hn;rw[hL d (by omega),s1];simp only;rw[e,yF,List.singleton_append,ByteArray.append_assoc,Rx,List.singleton_append]
  ·rw[zU]at U;rcases U with rfl|U
   ·exact s2
   ·exact w.dF b U
  ·cases k with
   |zero=>exact ha
   |succ k=>exact w.cK k (by omega)
  ·cases k with
   |zero=>rfl
   |succ k=>exact K k (by omega)
  ·cases k with
   |zero=>omega
   |succ k=>
    show M0 g (((s.q::V).getD k 0:Nat):Int)= -1
    by_cases D:k=0
    ·subst D;obtain⟨J,rfl⟩:∃J,d=J+1:=⟨d-1,by omega⟩;exact(Gp W Z).2
    ·exact w.gU k (by omega) (by omega)
  ·show M0 g (((s.q::V).getD d 0:Nat):Int)≠ -1
   by_cases hd:d=0
   ·subst hd;have h9:(J0 kd g).aF.getD s.q false=true:=Z;rw[X8 kd g W]at h9;show M0 g (s.q:Int)≠ -1;exact of_decide_eq_true h9
   ·exact w.bM (by omega)
theorem FC{T:List Nat}(h:∀b∈T,b<256):Q0 (K1 T)=T:=by
 unfold Q0 K1;rw[List.map_map]
 conv=>rhs;rw[<-List.map_id T]
 refine List.map_congr_left (fun b f=>?_);have:=h b f;simp;omega
structure Ml(kd:Nat->Nat)(g:B0)(u T:List Nat):Prop where
 dF:∀b∈u++T,b<256
 fr:u= []\/Z4 g (A3 g 0 (u.map kd))≠ -1
 tt:Z4 g (A3 g 0 ((u++T).map kd))≠ -1
 gU:∀k,0<k->k<T.length->Z4 g (A3 g 0 ((u++T.take k).map kd))= -1
theorem C8.lS{kd:Nat->Nat}{g:B0}{u:List Nat}{s d:Nat}{T V:List Nat}(h:C8 kd g u [] s)(w:AF kd g d s T V)(G:0<d):Ml kd g u T:=by
 have K:A3 g 0 (u.map kd)=(s:Int):=by have:=h.run;rwa [yP]at this
 have f:∀k,k<=d->A3 g 0 ((u++T.take k).map kd)=(((s::V).getD k 0:Nat):Int):=fun k J=>by
  rw[zV,T7,K];exact w.run k J
 refine⟨fun b B=>?_,h.jE,?_,fun k M D=>?_⟩
 ·rw[zQ]at B;rcases B with B|B
  ·exact h.dF b (by simp[B])
  ·exact w.dF b B
 ·have e:=f d (zD _);rw[zO (by rw[w.tl];exact zD _)]at e;rw[e,<-F7 (w.cK d (zD _))];exact w.bM G
 ·rw[w.tl]at D;rw[f k (by omega),<-F7 (w.cK k (by omega))];exact w.gU k M D
theorem JF{R:E0}{kd:Nat->Nat}{g:B0}(h:N3 R=some (kd,g))(hf:K8 kd g)(G:0<(I8 (J0 kd g) (L1 (J0 kd g) g.aB.length)).k):
  ∃T,T.length=(I8 (J0 kd g) (L1 (J0 kd g) g.aB.length)).k/\(I8 (J0 kd g) (L1 (J0 kd g) g.aB.length)).tt=(I8 (J0 kd g) (L1 (J0 kd g) g.aB.length)).fr++K1 T/\Ml kd g (Q0 (I8 (J0 kd g) (L1 (J0 kd g) g.aB.length)).fr) T:=by
 have Z:=I5 h;unfold I8 at G⊢;simp only[E3]at G⊢;rcases OF (J0 kd g) (L1 (J0 kd g) g.aB.length) g.aB.length with e|⟨h1,h2,W,f⟩
 ·omega
 ·generalize Na (J0 kd g) (L1 (J0 kd g) g.aB.length) g.aB.length=r at*;have J:r.1<g.aB.length:=by simpa[J0,G6]using W
  rw[T8 _ _ _ (by omega)]at f;unfold Za at f;rw[yK,X8 kd g J]at f;obtain⟨X,Y⟩:=f;have B:M0 g (r.1:Int)≠ -1\/r.1=0:=by simpa using Y
  obtain⟨K,M⟩:=Ul h J;rw[M B]at K;have hl:((L1 (J0 kd g) g.aB.length).take r.2).length=r.2:=by rw[List.length_take,E3];omega
  obtain⟨T,V,e,w⟩:=IA Z ((L1 (J0 kd g) g.aB.length).take r.2) r.2 r.1 [r.1] ⟨#[]⟩ J (fun d' D=>by
   rw[zC,List.getElem?_take,if_pos D,<-zC,T8 _ _ _ (by omega)]) (fun _=>X)
  have U:(P6 (J0 kd g) ((L1 (J0 kd g) g.aB.length).take r.2) r.1).2=K1 T:=by
   unfold P6;rw[hl,e];apply ByteArray.ext;simp
  exact⟨T,w.tl,by rw[U],C8.lS K w G⟩
theorem C8.dY{kd:Nat->Nat}{g:B0}{u rest W:List Nat}{v D:Nat}(h:C8 kd g u rest v)(G:∀b∈W,b<256)(K:A3 g (v:Int) (W.map kd)=(D:Int))(J:∀k,0<k->k<=W.length->Z4 g (A3 g (v:Int) ((W.take k).map kd))= -1):C8 kd g u (rest++W) D:=by
 refine⟨fun b f=>?_,h.jE,?_,fun k M U=>?_⟩
 ·rw[<-yF,zQ]at f;rcases f with f|f
  ·exact h.dF b f
  ·exact G b f
 ·rw[<-yF,zV,T7,h.run];exact K
 ·by_cases B:k<=rest.length
  ·rw[List.take_append_of_le_length B];exact h.gU k M B
  ·rw[List.take_append,zO (by omega),<-yF,zV,T7,h.run];rw[zL]at U;exact J (k-rest.length) (by omega) (by omega)
theorem C8.jP{kd:Nat->Nat}{g:B0}{u rest W:List Nat}{v:Nat}(h:C8 kd g u rest v)(f:∀b∈W,b<256)(D:A3 g (v:Int) (W.map kd)=(v:Int))(B:∀k,0<k->k<=W.length->Z4 g (A3 g (v:Int) ((W.take k).map kd))= -1):∀i,C8 kd g u (rest++(List.replicate i W).flatten) v
 |0=>by simpa using h
 |i+1=>by
  have G:=C8.jP h f D B i;have:=G.dY f D B;rw[yF]at this;rw[List.replicate_succ',List.flatten_append];simpa using this
theorem C8.tail{kd:Nat->Nat}{g:B0}{u rest W:List Nat}{v:Nat}(h:C8 kd g u rest v)(D:∀b∈W,b<256)(J:Z4 g (A3 g (v:Int) (W.map kd))≠ -1)(G:∀k,0<k->k<W.length->Z4 g (A3 g (v:Int) ((W.take k).map kd))= -1):Ml kd g u (rest++W):=by
 refine⟨fun b f=>?_,h.jE,?_,fun k K M=>?_⟩
 ·rw[<-yF,zQ]at f;rcases f with f|f
  ·exact h.dF b f
  ·exact D b f
 ·rw[<-yF,zV,T7,h.run];exact J
 ·by_cases B:k<=rest.length
  ·rw[List.take_append_of_le_length B];exact h.gU k K B
  ·rw[List.take_append,zO (by omega),<-yF,zV,T7,h.run];rw[zL]at M;exact G (k-rest.length) (by omega) (by omega)
theorem AF.piece{kd:Nat->Nat}{g:B0}{d s:Nat}{T V:List Nat}(w:AF kd g d s T V){a k:Nat}(f:a+k<=d):A3 g (((s::V).getD a 0:Nat):Int) (((T.drop a).take k).map kd)=(((s::V).getD (a+k) 0:Nat):Int):=by
 rw[<-w.run a (by omega),<-T7,<-zV,<-List.take_add];exact w.run (a+k) f
theorem NO{B:List Nat}{n:Nat}(h:∀x∈B,x<n)(hl:n<B.length):(B5 B).1<(B5 B).2/\(B5 B).2<B.length/\B.getD (B5 B).1 0=B.getD (B5 B).2 0:=by
 unfold B5;split
 ·rename_i V
  exfalso
  rw[List.find?_eq_none]at V;have K:B.Nodup:=by
   rw[List.Nodup,List.pairwise_iff_getElem];intro i j hi U J e;have D:=V j (by simp[U]);apply D;unfold Kn;rw[List.find?_isSome];exact⟨i,by simp[J],by simp[hi,U,e]⟩
  have:=Wg n B K h;omega
 ·rename_i s W;have D:=yW W;have M:=List.find?_some W;have X:s<B.length:=by simpa using D
  rw[Option.isSome_iff_exists]at M;obtain⟨f,G⟩:=M;have Y:=UL G;have Z:=List.find?_some G;rw[G];exact⟨Y,X,by simpa using Z⟩
theorem Xb(x:ByteArray)(a b:Nat):Q0 (x.extract a b)=((Q0 x).drop a).take (b-a):=by
 simp[Q0,ByteArray.data_extract,Array.toList_extract,List.extract,List.map_take,List.map_drop]
theorem Uq{R:E0}{kd:Nat->Nat}{g:B0}(h:N3 R=some (kd,g)){s:Nat}(hs:s<g.aB.length)(hl:(J3 (J0 kd g) g.aB.length).getD s false=true)(i:Nat):
  Ml kd g (Q0 (G9 (J0 kd g) (L1 (J0 kd g) g.aB.length) s).fr) (Q0 (G9 (J0 kd g) (L1 (J0 kd g) g.aB.length) s).lead++(List.replicate i (Q0 (G9 (J0 kd g) (L1 (J0 kd g) g.aB.length) s).lp)).flatten++Q0 (G9 (J0 kd g) (L1 (J0 kd g) g.aB.length) s).tail)/\
  0<(G9 (J0 kd g) (L1 (J0 kd g) g.aB.length) s).lp.size/\0<(G9 (J0 kd g) (L1 (J0 kd g) g.aB.length) s).tail.size:=by
 have hG:=I5 h;have K:=hG.bE;obtain⟨n1,Y⟩:∃n1,g.aB.length=n1+1:=⟨g.aB.length-1,by omega⟩;have X:=hl;rw[Y]at X;obtain⟨h5,h6⟩:=Gp hs X;obtain⟨T,V,e,w⟩:=IA hG (L1 (J0 kd g) g.aB.length) g.aB.length s [s] ⟨#[]⟩ hs (fun d' a3=>T8 _ _ _ a3) (fun _=>by rw[Y];exact h5);have ew:P6 (J0 kd g) (L1 (J0 kd g) g.aB.length) s=(s::V,K1 T):=by
  unfold P6;rw[E3,e]
  congr 1
 unfold G9;rw[ew];simp only;have Z:∀x∈s::V,x<g.aB.length:=fun x hx=>by
  obtain⟨k,J,e9⟩:=List.getElem_of_mem hx;have:=w.cK k (by have:=w.vl;simp at J;omega);rw[zC,zF J]at this;rw[<-e9];exact this
 obtain⟨r1,r2,r3⟩:=NO Z (by rw[yH,w.vl];omega);generalize B5 (s::V)=r at*;have a5:=w.vl;rw[yH]at r2;have D:∀k,k<g.aB.length->M0 g (((s::V).getD k 0:Nat):Int)= -1:=fun k J=>by
  by_cases e:k=0
  ·subst e;exact h6
  ·exact w.gU k (by omega) J
 have hb:r.2<g.aB.length:=by
  refine Nat.lt_of_le_of_ne (by omega) fun e=>?_
  have:=w.bM K;rw[<-e,<-r3]at this;exact this (D r.1 (by omega))
 obtain⟨a1,_⟩:=Ul h (w.cK r.1 (by omega));have M:=FC w.dF;have W:=w.tl;have a4:(K1 T).size=g.aB.length:=by rw[Qc,W]
 rw[Xb,Xb,M,a4];have B:∀k,k<=r.2-r.1->A3 g (((s::V).getD r.1 0:Nat):Int) ((((T.drop r.1).take (r.2-r.1)).take k).map kd)=(((s::V).getD (r.1+k) 0:Nat):Int):=fun k J=>by
  rw[List.take_take,Nat.min_eq_left J];exact w.piece (by omega)
 have U:((T.drop r.1).take (r.2-r.1)).length=r.2-r.1:=by simp[W];omega
 have f:((T.drop r.2).take (g.aB.length-r.2)).length=g.aB.length-r.2:=by simp[W]
 have a0:∀b∈(T.drop r.1).take (r.2-r.1),b<256:=fun b hx=>w.dF b (List.mem_of_mem_drop (List.mem_of_mem_take hx))
 have a2:∀b∈(T.drop r.2).take (g.aB.length-r.2),b<256:=fun b hx=>w.dF b (List.mem_of_mem_drop (List.mem_of_mem_take hx))
 have G:∀k,k<=g.aB.length-r.2->A3 g (((s::V).getD r.1 0:Nat):Int) ((((T.drop r.2).take (g.aB.length-r.2)).take k).map kd)=(((s::V).getD (r.2+k) 0:Nat):Int):=fun k J=>by
  rw[List.take_take,Nat.min_eq_left J,r3];exact w.piece (by omega)
 have t1:=C8.jP a1 a0 (by
  have:=B (r.2-r.1) (zD _);rw[zO (by rw[U];exact zD _),show r.1+(r.2-r.1)=r.2 by omega,<-r3]at this;exact this) (fun k k0 k1=>by
  rw[U]at k1;rw[B k k1,<-F7 (w.cK (r.1+k) (by omega))];exact D _ (by omega)) i
 refine⟨t1.tail a2 ?_ (fun k k0 k1=>?_),?_,?_⟩
 ·have:=G (g.aB.length-r.2) (zD _);rw[zO (by rw[f];exact zD _),show r.2+(g.aB.length-r.2)=g.aB.length by omega]at this;rw[this,<-F7 (w.cK _ (zD _))];exact w.bM K
 ·rw[f]at k1;rw[G k (by omega),<-F7 (w.cK (r.2+k) (by omega))];exact D _ (by omega)
 ·rw[<-I1,Xb,M,U];omega
 ·rw[<-I1,Xb,M,f];omega
def Il(kd:Nat->Nat)(g:B0)(s:Int):Nat->Int->Prop
 |0,u=>u=s
 |k+1,u=>∃m,Il kd g s k m/\∃b:Nat,b<256/\X0 kd g m (b:Int)=u/\u≠ -1/\M0 g u= -1
theorem Fy{kd:Nat->Nat}{g:B0}{s:Int}:∀(k d:Nat) (m:Int),Il kd g s k m->Fa kd g d m->Fa kd g (d+k) s
 |0,d,m,h,hl=>by
  have e:m=s:=h;rw[<-e];exact hl
 |k+1,d,m,⟨m',h1,b,h2,h3,h4,h5⟩,hl=>by
  have f:Fa kd g (d+1) m':=⟨b,h2,by rw[h3];exact h4,by rw[h3];exact⟨h5,hl⟩⟩;have:=Fy k (d+1) m' h1 f;rw[show d+(k+1)=d+1+k by omega];exact this
theorem XI{kd:Nat->Nat}{g:B0}{s f:Int}{b:Nat}(D:b<256)(G:X0 kd g s (b:Int)=f)(B:f≠ -1)(J:M0 g f= -1):∀(k:Nat) (m:Int),Il kd g f k m->Il kd g s (k+1) m
 |0,m,h=>by
  have e:m=f:=h;subst e;exact⟨s,rfl,b,D,G,B,J⟩
 |k+1,m,⟨m',g1,g2⟩=>⟨m',XI D G B J k m' g1,g2⟩
theorem Qy{kd:Nat->Nat}{g:B0}:∀(d:Nat) (s:Int),Fa kd g d s->∃m,Il kd g s d m/\∃b:Nat,b<256/\X0 kd g m (b:Int)≠ -1/\M0 g (X0 kd g m (b:Int))≠ -1
 |0,s,⟨b,h1,h2,h3⟩=>⟨s,rfl,b,h1,h2,h3⟩
 |d+1,s,⟨b,h1,h2,h3⟩=>by
  obtain⟨B,D⟩:M0 g (X0 kd g s (b:Int))= -1/\Fa kd g d (X0 kd g s (b:Int)):=h3;obtain⟨m,f,h⟩:=Qy d _ D;exact⟨m,XI h1 rfl h2 B d m f,h⟩
theorem DK{R:E0}{kd:Nat->Nat}{g:B0}(h:N3 R=some (kd,g)){s:Int}{b:Nat}(B:b<256)(K:X0 kd g s (b:Int)≠ -1):∃d,SE kd g d (X0 kd g s (b:Int)):=by
 have f:=I5 h;have Z:¬(s<0\/(g.next.length:Int)<=s\/(b:Int)<0\/256<=(b:Int)):=fun e=>K (by unfold X0;rw[if_pos e])
 have M:=f.len;obtain⟨j,rfl⟩:∃j:Nat,s=(j:Int):=⟨s.toNat,by omega⟩;have D:j<g.aB.length:=by omega
 have J:kd=D3 R.aJ:=by obtain⟨_,_,e,_⟩:=R8 h;exact e
 have W:=(Af R.aJ b 256 B).1;rw[G8 f D B]at K⊢;rcases f.step j b D B with e|⟨X,e,G⟩
 ·exact absurd e K
 ·rw[e];rw[J]at e;obtain⟨Y,U,V⟩:=Su h D W e;exact Rt h Y X U G V
theorem VP{R:E0}{kd:Nat->Nat}{g:B0}(h:N3 R=some (kd,g)){s u:Int}{k:Nat}(G:Il kd g s (k+1) u):∃d,k+1<=d/\Fa kd g d s:=by
 have B:=G;obtain⟨m,V,b,J,D,K,M⟩:=G;obtain⟨d,f⟩:=DK h J (by rw[D];exact K);rw[D]at f;cases d with
 |zero=>exact absurd M f
 |succ d=>
  obtain⟨_,U⟩:M0 g u= -1/\Fa kd g d u:=f;exact⟨d+(k+1),by omega,Fy (k+1) d u B U⟩
theorem NW{R:E0}{kd:Nat->Nat}{g:B0}(h:N3 R=some (kd,g))(D:K8 kd g)(B:(V1 kd g).aT=true){s:Nat}(G:s<g.aB.length)(J:M0 g (s:Int)≠ -1\/s=0){u:Int}{k:Nat}(K:Il kd g (s:Int) (k+1) u):k+1<(V1 kd g).k:=by
 obtain⟨d,M,f⟩:=VP h K;have:=Qt D B G J f;omega
theorem Rj(g:B0)(f:List Nat):A3 g (-1) f= -1:=by
 rw[S9 g f (-1) (by omega)];split <;>rfl
theorem WG{kd:Nat->Nat}{g:B0}(h:We kd g):∀(L:List Nat) (s:Nat),(∀b∈L,b<256)->s<g.aB.length->A3 g (s:Int) (L.map kd)= -1\/∃j:Nat,j<g.aB.length/\A3 g (s:Int) (L.map kd)=(j:Int)
 | [],s,_,hs=>.inr ⟨s,hs,rfl⟩
 |b::L,s,hb,hs=>by
  have e:A3 g (s:Int) ((b::L).map kd)=A3 g (W0 g (s:Int) (kd b)) (L.map kd):=rfl;rw[e];rcases h.step s b hs (hb b (by simp))with f|⟨j,f,B⟩
  ·rw[f];exact .inl (Rj g _)
  ·rw[f];exact WG h L j (fun x D=>hb x (by simp[D])) B
theorem Dz{kd:Nat->Nat}{g:B0}(K:We kd g){u W:List Nat}(h:Ml kd g u W){s:Nat}(M:s<g.aB.length)(U:A3 g 0 (u.map kd)=(s:Int)):∀k,k<W.length->Il kd g (s:Int) k (A3 g (s:Int) ((W.take k).map kd))/\∃j:Nat,j<g.aB.length/\A3 g (s:Int) ((W.take k).map kd)=(j:Int)
 |0,_=>⟨rfl,s,M,rfl⟩
 |k+1,hk=>by
  obtain⟨ih,j,hj,V⟩:=Dz K h M U k (by omega);have D:∀b∈W,b<256:=fun b J=>h.dF b (by simp[J])
  have J:W[k]<256:=D _ (zG _);have X:W.take (k+1)=W.take k++ [W[k]]:=(yL (by omega)).symm;have Y:A3 g (s:Int) ((W.take (k+1)).map kd)=X0 kd g (j:Int) (W[k]:Int):=by
   rw[X,zV,T7,V,G8 K hj J];rfl
  have B:Z4 g (A3 g (s:Int) (W.map kd))≠ -1:=by
   have:=h.tt;rw[zV,T7,U]at this;exact this
  rcases WG K (W.take (k+1)) s (fun b hx=>D b (List.mem_of_mem_take hx)) M with f|⟨j',G,f⟩
  ·exfalso
   apply B;have Z:W.map kd=(W.take (k+1)).map kd++(W.drop (k+1)).map kd:=by rw[<-zV,yV]
   rw[Z,T7,f,Rj];rfl
  ·refine⟨⟨_,ih,W[k],J,by rw[V,Y],by rw[f];omega,?_⟩,j',G,f⟩;have:=h.gU (k+1) (by omega) hk;rw[zV,T7,U,f,<-F7 G]at this;rw[f];exact this
theorem MI{R:E0}{kd:Nat->Nat}{g:B0}(h:N3 R=some (kd,g))(J:(V1 kd g).aT=false):∃s:Nat,s<g.aB.length/\(M0 g (s:Int)≠ -1\/s=0)/\∀k,∃u:Nat,u<g.aB.length/\Il kd g (s:Int) k (u:Int):=by
 have G:=I5 h;unfold V1 at J;split at J
 ·rename_i W B;have h1:=yW B;have h2:W<g.aB.length:=by simpa using h1
  have h3:=List.find?_some B;have M:=fun i=>Uq h h2 h3 i
  generalize G9 (J0 kd g) (L1 (J0 kd g) g.aB.length) W=E at M;have f:=(M 0).1;have K:∀b∈Q0 E.fr,b<256:=fun b hx=>f.dF b (by simp[hx])
  obtain⟨s,U,D⟩:∃s:Nat,s<g.aB.length/\A3 g 0 ((Q0 E.fr).map kd)=(s:Int):=by
   rcases WG G (Q0 E.fr) 0 K G.bE with e|e
   ·exfalso
    have:=f.tt;rw[zV,T7]at this;have X:A3 g 0 ((Q0 E.fr).map kd)= -1:=e;rw[X,Rj]at this;exact this rfl
   ·obtain⟨s,h5,h6⟩:=e;exact⟨s,h5,h6⟩
  refine⟨s,U,?_,fun k=>?_⟩
  ·rcases f.fr with e|e
   ·right
    rw[e]at D;have:(0:Int)=(s:Int):=D;omega
   ·left
    rw[D,<-F7 U]at e;exact e
  ·obtain⟨p,q1,q2⟩:=M (k+1);have hl:k<(Q0 E.lead++(List.replicate (k+1) (Q0 E.lp)).flatten++Q0 E.tail).length:=by
    have:(List.replicate (k+1) (Q0 E.lp)).flatten.length=(k+1)*E.lp.size:=by simp[I1]
    rw[zL,zL,this];have:(k+1)*1<=(k+1)*E.lp.size:=Nat.mul_le_mul_left _ q1;omega
   obtain⟨V,j,Y,Z⟩:=Dz G p U D k hl;rw[Z]at V;exact⟨j,Y,V⟩
 ·simp[I8]at J
def Wm(kd:Nat->Nat)(g:B0)(s:Nat):List Int:=(List.range 256).map (fun(b:Nat)=>X0 kd g (s:Int) (b:Int))
theorem YK(kd:Nat->Nat)(g:B0)(s:Nat):(Wm kd g s).length=256:=by simp[Wm]
structure Rw where
 next:List Bool
 any:Bool
 bW:Nat
def Qb(g:B0)(k:Nat)(st:Rw)(u:Int):Rw:=
 if 0<=u/\M0 g u≠ -1 then⟨st.next,st.any,k⟩else if 0<=u then⟨st.next.set u.toNat true,true,st.bW⟩else st
theorem PC(g:B0)(k:Nat)(st:Rw)(u:Int):(Qb g k st u).next.length=st.next.length:=by
 unfold Qb;split
 ·rfl
 ·split
  ·simp
  ·rfl
theorem Dk(g:B0)(k:Nat):∀(l:List Int) (st:Rw),(l.foldl (Qb g k) st).next.length=st.next.length
 | [],st=>rfl
 |u::l,st=>by rw[List.foldl_cons,Dk g k l,PC]
theorem Wu(g:B0)(k:Nat):∀(l:List Int) (st:Rw) (v:Nat),(∀u∈l,u<(st.next.length:Int))->((l.foldl (Qb g k) st).next.getD v false=true↔st.next.getD v false=true\/((v:Int)∈l/\M0 g (v:Int)= -1))
 | [],st,v,_=>by simp
 |u::l,st,v,h=>by
  have V:=h u (by simp);rw[List.foldl_cons,Wu g k l (Qb g k st u) v (fun x U=>by rw[PC];exact h x (by simp[U]))];have M:(Qb g k st u).next.getD v false=true↔st.next.getD v false=true\/((v:Int)=u/\M0 g (v:Int)= -1):=by
   unfold Qb
   by_cases G:0<=u/\M0 g u≠ -1
   ·rw[if_pos G];constructor
    ·exact .inl
    ·rintro(e|⟨f,B⟩)
     ·exact e
     ·rw[f]at B;exact absurd B G.2
   ·rw[if_neg G]
    by_cases J:0<=u
    ·have K:M0 g u= -1:=Classical.byContradiction fun e=>G ⟨J,e⟩
     rw[if_pos J];show(st.next.set u.toNat true).getD v false=true↔_;rw[Ab]
     by_cases e:u.toNat=v
     ·have D:(v:Int)=u:=by omega
      rw[if_pos ⟨e,by omega⟩];simp[D,K]
     ·rw[if_neg (fun x=>e x.1)];have D:¬(v:Int)=u:=by omega
      simp[D]
    ·rw[if_neg J];have D:¬(v:Int)=u:=by omega
     simp[D]
  rw[M,zU];constructor
  ·rintro((e|⟨f,B⟩)|⟨f,B⟩)
   ·exact .inl e
   ·exact .inr ⟨.inl f,B⟩
   ·exact .inr ⟨.inr f,B⟩
  ·rintro(e|⟨f|f,B⟩)
   ·exact .inl (.inl e)
   ·exact .inl (.inr ⟨f,B⟩)
   ·exact .inr ⟨f,B⟩
theorem Dy(g:B0)(k:Nat):∀(l:List Int) (st:Rw),((l.foldl (Qb g k) st).any=true↔st.any=true\/∃u∈l,0<=u/\M0 g u= -1)
 | [],st=>by simp
 |u::l,st=>by
  rw[List.foldl_cons,Dy g k l];have G:(Qb g k st u).any=true↔st.any=true\/(0<=u/\M0 g u= -1):=by
   unfold Qb
   by_cases h:0<=u/\M0 g u≠ -1
   ·rw[if_pos h];constructor
    ·exact .inl
    ·rintro(e|⟨_,B⟩)
     ·exact e
     ·exact absurd B h.2
   ·rw[if_neg h]
    by_cases f:0<=u
    ·have D:M0 g u= -1:=Classical.byContradiction fun e=>h ⟨f,e⟩
     rw[if_pos f];simp[f,D]
    ·rw[if_neg f];simp[f]
  rw[G];simp only[zU,exists_eq_or_imp];rw[or_assoc]
theorem Ey(g:B0)(k:Nat):∀(l:List Int) (st:Rw),((∃u∈l,0<=u/\M0 g u≠ -1)/\(l.foldl (Qb g k) st).bW=k)\/((¬ ∃u∈l,0<=u/\M0 g u≠ -1)/\(l.foldl (Qb g k) st).bW=st.bW)
 | [],st=>by simp
 |u::l,st=>by
  rw[List.foldl_cons];simp only[zU,exists_eq_or_imp];rcases Ey g k l (Qb g k st u)with⟨h,B⟩|⟨h,B⟩
  ·exact .inl ⟨.inr h,B⟩
  ·rw[B]
   by_cases f:0<=u/\M0 g u≠ -1
   ·left
    refine⟨.inl f,?_⟩;unfold Qb;rw[if_pos f]
   ·right
    refine⟨fun e=>?_,?_⟩
    ·rcases e with e|e
     ·exact f e
     ·exact h e
    ·unfold Qb;rw[if_neg f];split <;>rfl
def Pe(kd:Nat->Nat)(g:B0)(f:List Bool)(n:Nat):List Int:=(List.range n).flatMap (fun i=>if f.getD i false=true then Wm kd g i else [])
theorem Mv(kd:Nat->Nat)(g:B0)(f:List Bool)(n:Nat):Pe kd g f (n+1)=Pe kd g f n++if f.getD n false=true then Wm kd g n else []:=by
 unfold Pe;rw[List.range_succ,List.flatMap_append];simp
theorem Yy{kd:Nat->Nat}{g:B0}{G:List Bool}{n:Nat}{u:Int}:u∈Pe kd g G n↔∃i:Nat,i<n/\G.getD i false=true/\∃b:Nat,b<256/\X0 kd g (i:Int) (b:Int)=u:=by
 unfold Pe;rw[List.mem_flatMap];constructor
 ·rintro⟨i,h,f⟩;split at f
  ·rename_i B;unfold Wm at f;rw[List.mem_map]at f;obtain⟨b,D,J⟩:=f;exact⟨i,List.mem_range.1 h,B,b,List.mem_range.1 D,J⟩
  ·simp at f
 ·rintro⟨i,h,f,b,B,D⟩;refine⟨i,List.mem_range.2 h,?_⟩;rw[if_pos f];unfold Wm;exact List.mem_map.2 ⟨b,List.mem_range.2 B,D⟩
structure KH(kd:Nat->Nat)(g:B0)(s k:Nat)(bQ:List Bool)(bW:Nat):Prop where
 len:bQ.length=g.aB.length
 bQ:∀u:Nat,u<g.aB.length->(bQ.getD u false=true↔Il kd g (s:Int) k (u:Int))
 gO:∀d,d<k->Fa kd g d (s:Int)->d+1<=bW
 eL:bW=0\/Fa kd g (bW-1) (s:Int)
 le:bW<=k
theorem KH.start{kd:Nat->Nat}{g:B0}{s:Nat}(B:s<g.aB.length):KH kd g s 0 ((List.replicate g.aB.length false).set s true) 0:=by
 refine⟨by simp,fun u f=>?_,fun d h=>by omega,.inl rfl,zD _⟩;rw[Ab];show _↔(u:Int)=(s:Int)
 by_cases e:s=u
 ·rw[if_pos ⟨e,by simp;omega⟩];simp[e]
 ·rw[if_neg (fun x=>e x.1)];simp[f];omega
theorem KH.round{kd:Nat->Nat}{g:B0}(hf:K8 kd g){s k:Nat}{V:List Bool}{bW:Nat}(h:KH kd g s k V bW)(hl:g.next.length=g.aB.length)(st:Rw)(a8:(Pe kd g V g.aB.length).foldl (Qb g (k+1)) ⟨List.replicate g.aB.length false,false,bW⟩=st):
  KH kd g s (k+1) st.next st.bW/\(st.any=false->∀d,Fa kd g d (s:Int)->d+1<=st.bW)/\(st.any=true->∃u,Il kd g (s:Int) (k+1) u):=by
 have a7:∀u∈Pe kd g V g.aB.length,u<(g.aB.length:Int):=fun u hu=>by
  obtain⟨i,_,_,b,_,e⟩:=Yy.1 hu;have:=hf.cK (i:Int) (b:Int);have hp:=hf.bE;rw[e]at this;omega
 have D:∀u:Int,(∃m,Il kd g (s:Int) k m/\∃b:Nat,b<256/\X0 kd g m (b:Int)=u/\u≠ -1)↔(u∈Pe kd g V g.aB.length/\0<=u):=fun u=>by
  rw[Yy];constructor
  ·rintro⟨m,K,b,W,M,f⟩;have hc:¬(m<0\/(g.next.length:Int)<=m\/(b:Int)<0\/256<=(b:Int)):=fun e=>f (by rw[<-M];unfold X0;rw[if_pos e])
   obtain⟨i,rfl⟩:∃i:Nat,m=(i:Int):=⟨m.toNat,by omega⟩;have hi:i<g.aB.length:=by omega
   refine⟨⟨i,hi,(h.bQ i hi).2 K,b,W,M⟩,?_⟩;have:=hf.cK (i:Int) (b:Int);rw[M]at this;omega
  ·rintro⟨⟨i,K,W,b,M,f⟩,G⟩;exact⟨(i:Int),(h.bQ i K).1 W,b,M,f,by omega⟩
 have a2:Fa kd g k (s:Int)↔∃u∈Pe kd g V g.aB.length,0<=u/\M0 g u≠ -1:=by
  constructor
  ·intro hL;obtain⟨m,K,b,W,M,f⟩:=Qy k _ hL;obtain⟨G,J⟩:=(D (X0 kd g m (b:Int))).1 ⟨m,K,b,W,rfl,M⟩;exact⟨_,G,J,f⟩
  ·rintro⟨u,K,W,M⟩;obtain⟨m,f,b,G,J,X⟩:=(D u).2 ⟨K,W⟩;have:=Fy k 0 m f ⟨b,G,by rw[J];exact X,by rw[J];exact M⟩
   rwa [yX]at this
 have a4:=fun v=>Wu g (k+1) (Pe kd g V g.aB.length) ⟨List.replicate g.aB.length false,false,bW⟩ v (fun u hu=>by simpa using a7 u hu)
 have Y:=Dy g (k+1) (Pe kd g V g.aB.length) ⟨List.replicate g.aB.length false,false,bW⟩;have B:=Ey g (k+1) (Pe kd g V g.aB.length) ⟨List.replicate g.aB.length false,false,bW⟩;have a3:=Dk g (k+1) (Pe kd g V g.aB.length) ⟨List.replicate g.aB.length false,false,bW⟩;rw[a8]at a4 Y B a3;simp only[zX,false_or]at Y;rw[<-a2]at B;simp only at B;have U:∀d,d<k+1->Fa kd g d (s:Int)->d+1<=st.bW:=fun d hd hL=>by
  rcases B with⟨_,e⟩|⟨e1,e2⟩
  ·omega
  ·have a6:d<k:=by
    rcases yE d k with e|e
    ·exact e
    ·have:d=k:=by omega
     subst this;exact absurd hL e1
   have:=h.gO d a6 hL;omega
 have a0:st.bW=0\/Fa kd g (st.bW-1) (s:Int):=by
  rcases B with⟨e1,e2⟩|⟨_,e2⟩
  ·right;rw[e2];exact e1
  ·rw[e2];exact h.eL
 have Z:st.bW<=k+1:=by
  have:=h.le;rcases B with⟨_,e⟩|⟨_,e⟩ <;>omega
 refine⟨⟨by simpa using a3,fun u hu=>?_,U,a0,Z⟩,fun ha d hL=>?_,fun ha=>?_⟩
 ·rw[a4 u];have e0:¬(List.replicate g.aB.length false).getD u false=true:=by simp[hu]
  constructor
  ·rintro(e|⟨e1,e2⟩)
   ·exact absurd e e0
   ·obtain⟨m,f,b,G,J,X⟩:=(D (u:Int)).2 ⟨e1,by omega⟩;exact⟨m,f,b,G,J,X,e2⟩
  ·rintro⟨m,f,b,G,J,X,h8⟩;exact .inr ⟨((D (u:Int)).1 ⟨m,f,b,G,J,X⟩).1,h8⟩
 ·rcases yE d (k+1)with e|e
  ·exact U d e hL
  ·exfalso
   obtain⟨m,K,_⟩:=Qy d _ hL;have a1:∀j,k+1<=j->∀m,Il kd g (s:Int) j m->∃m',Il kd g (s:Int) (k+1) m':=by
    intro j hj
    induction j with
    |zero=>omega
    |succ j ih=>
     intro m hm;rcases yE j (k+1)with e|e
     ·have:j+1=k+1:=by omega
      rw[this]at hm;exact⟨m,hm⟩
     ·obtain⟨m',h',_⟩:=hm;exact ih e m' h'
   obtain⟨m',m0,f,b,G,J,X,h8⟩:=a1 d e m K;obtain⟨h9,a5⟩:=(D m').1 ⟨m0,f,b,G,J,X⟩;have:=Y.2 ⟨m',h9,a5,h8⟩;rw[ha]at this;cases this
 ·obtain⟨u,K,W,M⟩:=Y.1 ha;obtain⟨m,f,b,G,J,X⟩:=(D u).2 ⟨K,W⟩;exact⟨u,m,f,b,G,J,X,M⟩
def QY(kd:Nat->Nat)(g:B0)(s:Nat)(f:Int):Prop:=
 (∃h:Nat,f=(h:Int)/\h<=g.aB.length+1/\(∀d,Fa kd g d (s:Int)->d+1<=h)/\(h=0\/Fa kd g (h-1) (s:Int)))\/(f= -1/\∃u,Il kd g (s:Int) (g.aB.length+1) u)
structure Zk(kd:Nat->Nat)(g:B0)(s k:Nat):Prop where
 gO:∀s':Nat,s'<s->(M0 g (s':Int)≠ -1\/s'=0)->∀d,Fa kd g d (s':Int)->d+1<=k
 eL:k=0\/∃s':Nat,s'<g.aB.length/\(M0 g (s':Int)≠ -1\/s'=0)/\Fa kd g (k-1) (s':Int)
 le:k<=g.aB.length+1
theorem Zk.start(kd:Nat->Nat)(g:B0):Zk kd g 0 0:=⟨fun f h=>by omega,.inl rfl,by omega⟩
theorem Zk.skip{kd:Nat->Nat}{g:B0}{s k:Nat}(h:Zk kd g s k)(K:0<s)(G:M0 g (s:Int)= -1):Zk kd g (s+1) k:=by
 refine⟨fun f J B d D=>?_,h.eL,h.le⟩;rcases yE f s with e|e
 ·exact h.gO f e B d D
 ·have:f=s:=by omega
  subst this;rcases B with e|e
  ·exact absurd G e
  ·omega
theorem Zk.step{kd:Nat->Nat}{g:B0}{s k f:Nat}(h:Zk kd g s k)(U:s<g.aB.length)(W:M0 g (s:Int)≠ -1\/s=0)(X:f<=g.aB.length+1)(J:∀d,Fa kd g d (s:Int)->d+1<=f)(K:f=0\/Fa kd g (f-1) (s:Int)):Zk kd g (s+1) (if k<f then f else k):=by
 refine⟨fun D V B d G=>?_,?_,?_⟩
 ·rcases yE D s with e|e
  ·have:=h.gO D e B d G;split <;>omega
  ·have:D=s:=by omega
   subst this;have:=J d G;split <;>omega
 ·split
  ·rename_i M;rcases K with e|e
   ·omega
   ·exact .inr ⟨s,U,W,e⟩
  ·exact h.eL
 ·have:=h.le;split <;>omega
theorem AJ{kd:Nat->Nat}{g:B0}(f:(V1 kd g).aT=true):V1 kd g=I8 (J0 kd g) (L1 (J0 kd g) g.aB.length):=by
 unfold V1 at f⊢;split
 ·rename_i s h;rw[h]at f;cases f
 ·rfl
theorem XZ{kd:Nat->Nat}{g:B0}(f:(V1 kd g).aT=true):(V1 kd g).k=(Na (J0 kd g) (L1 (J0 kd g) g.aB.length) g.aB.length).2:=by
 rw[AJ f];show(Na (J0 kd g) (L1 (J0 kd g) g.aB.length) (L1 (J0 kd g) g.aB.length).length).2=_;rw[E3]
theorem Zk.done{R:E0}{kd:Nat->Nat}{g:B0}(M:N3 R=some (kd,g))(U:K8 kd g){k:Nat}(h:Zk kd g g.aB.length k):(V1 kd g).aT=true/\k=(V1 kd g).k:=by
 have J:(V1 kd g).aT=true:=by
  cases hbb:(V1 kd g).aT with
  |true=>rfl
  |false=>
   exfalso
   obtain⟨s,B,D,f⟩:=MI M hbb;obtain⟨u,_,G⟩:=f (k+1);obtain⟨d,K,V⟩:=VP M G;have:=h.gO s B D d V;omega
 refine⟨J,?_⟩;have B:k<=(V1 kd g).k:=by
  rcases h.eL with e|⟨W,B,D,f⟩
  ·omega
  ·have:=Qt U J B D f;omega
 have D:(V1 kd g).k<=k:=by
  rw[XZ J];rcases Nat.eq_zero_or_pos (Na (J0 kd g) (L1 (J0 kd g) g.aB.length) g.aB.length).2 with e|e
  ·omega
  ·obtain⟨s,_,f,G,K⟩:=YR U e;have:=h.gO s f G _ K;omega
 omega
theorem DS{R:E0}{kd:Nat->Nat}{g:B0}(D:N3 R=some (kd,g))(G:K8 kd g){s:Nat}(J:s<g.aB.length)(K:M0 g (s:Int)≠ -1\/s=0)(h:∃u,Il kd g (s:Int) (g.aB.length+1) u):(V1 kd g).aT=false:=by
 cases hbb:(V1 kd g).aT with
 |false=>rfl
 |true=>
  exfalso
  obtain⟨u,f⟩:=h;have B:=NW D G hbb J K f;rw[XZ hbb]at B;have:=(Kw (J0 kd g) (L1 (J0 kd g) g.aB.length) g.aB.length).1;omega
abbrev WH(a:Ub)(i:Nat):Nat:=(a.aF.getD i N1).size+(a.rest.getD i N1).size
theorem Jk:N1.size=0:=rfl
theorem YH{x:K9}{aQ c:Nat}{a:Ub}{s:A7}(B:a.aF.length=a.rest.length)(U:a.bA.getD aQ false=true)(J:WH a aQ<=c)(K:∀i,WH a i<=c+1):
  (Q3 x aQ a s).aF.length=(Q3 x aQ a s).rest.length/\(Q3 x aQ a s).bA.getD aQ false=true/\WH (Q3 x aQ a s) aQ<=c/\∀i,WH (Q3 x aQ a s) i<=c+1:=by
 unfold Q3
 by_cases M:a.bA.getD s.q false=true
 ·rw[if_pos M];exact⟨B,U,J,K⟩
 ·rw[if_neg M];have f:¬s.q=aQ:=fun e=>M (by rw[e];exact U)
  have G:(a.bA.set s.q true).getD aQ false=true:=by rw[Ab,if_neg (fun e=>f e.1)];exact U
  have W:=Pa s.b;have V:(a.aF.getD aQ N1).size+(a.rest.getD aQ N1).size<=c:=J;split
  ·refine⟨by simp[B],G,?_,fun i=>?_⟩
   ·show((a.aF.set s.q _).getD aQ N1).size+((a.rest.set s.q N1).getD aQ N1).size<=c;rw[U3,if_neg (fun e=>f e.1),U3,if_neg (fun e=>f e.1)];exact J
   ·show((a.aF.set s.q _).getD i N1).size+((a.rest.set s.q N1).getD i N1).size<=c+1;have h:(a.aF.getD i N1).size+(a.rest.getD i N1).size<=c+1:=K i;rw[U3,U3]
    by_cases e:s.q=i/\s.q<a.aF.length
    ·rw[if_pos e,if_pos ⟨e.1,by rw[<-B];exact e.2⟩];simp only[zN,Jk];omega
    ·rw[if_neg e,if_neg (fun D=>e ⟨D.1,by rw[B];exact D.2⟩)];exact h
  ·refine⟨by simp[B],G,?_,fun i=>?_⟩
   ·show((a.aF.set s.q _).getD aQ N1).size+((a.rest.set s.q _).getD aQ N1).size<=c;rw[U3,if_neg (fun e=>f e.1),U3,if_neg (fun e=>f e.1)];exact J
   ·show((a.aF.set s.q _).getD i N1).size+((a.rest.set s.q _).getD i N1).size<=c+1;have h:(a.aF.getD i N1).size+(a.rest.getD i N1).size<=c+1:=K i;rw[U3,U3]
    by_cases e:s.q=i/\s.q<a.aF.length
    ·rw[if_pos e,if_pos ⟨e.1,by rw[<-B];exact e.2⟩];simp only[zN];omega
    ·rw[if_neg e,if_neg (fun D=>e ⟨D.1,by rw[B];exact D.2⟩)];exact h
theorem Oq{x:K9}{aQ c:Nat}:∀(l:List A7) (a:Ub),a.aF.length=a.rest.length->a.bA.getD aQ false=true->WH a aQ<=c->(∀i,WH a i<=c+1)->∀i,WH (l.foldl (Q3 x aQ) a) i<=c+1
 | [],a,_,_,_,h2=>h2
 |s::l,a,hl,hf,h1,h2=>by
  obtain⟨f,h,B,D⟩:=YH (x:=x) (s:=s) hl hf h1 h2;rw[List.foldl_cons];exact Oq l _ f h B D
theorem DC{R:E0}{kd:Nat->Nat}{g:B0}(h:N3 R=some (kd,g)):∀k,k<=g.aB.length->∀i,WH (C5 (J0 kd g) k) i<=k
 |0,_,i=>by
  have f:∀q n,(List.replicate n N1).getD q N1=N1:=fun q n=>by
   rw[zC,yM];split <;>rfl
  show((List.replicate (J0 kd g).aF.length N1).getD i N1).size+((List.replicate (J0 kd g).aF.length N1).getD i N1).size<=0;rw[f];exact zD _
 |k+1,hk,i=>by
  obtain⟨D,G,K⟩:=Pn h k (by omega);have B:(C5 (J0 kd g) k).bA.getD k false=true:=by
   by_cases e:k=0
   ·rw[e]at G⊢;exact G
   ·obtain⟨i,b,M,U,V⟩:=Xl h (j:=k) (by omega) (by omega);exact K k i b M U V
  have J:=DC h k (by omega);exact Oq _ _ (by rw[D.tl,D.rl]) B (J k) (fun i=>by have:=J i;omega) i
theorem Vl{R:E0}{kd:Nat->Nat}{g:B0}(h:N3 R=some (kd,g))(q:Nat):(K3 (J0 kd g) q).1.size+(K3 (J0 kd g) q).2.size<=g.aB.length:=by
 have f:(J0 kd g).aZ.length=g.aB.length:=by simp[J0,U5]
 have:=DC h g.aB.length (zD _) q;unfold K3;rw[f];exact this
theorem Zx(x:ByteArray)(a b:Nat):(x.extract a b).size<=x.size:=by
 rw[ByteArray.size_extract];omega
theorem FS{R:E0}{kd:Nat->Nat}{g:B0}(h:N3 R=some (kd,g))(B:K8 kd g):(V1 kd g).fr.size<=g.aB.length/\(V1 kd g).lead.size<=g.aB.length/\(V1 kd g).lp.size<=g.aB.length/\(V1 kd g).tail.size<=g.aB.length:=by
 have D:=B.bU;have M:=VL kd g B.cK (by omega);unfold V1;split
 ·rename_i s U;have G:=yW U;have J:s<g.aB.length:=by simpa using G
  have f:=(KA M (L1 (J0 kd g) g.aB.length) s (by simpa[J0,G6]using J)).2.1;rw[E3]at f;unfold G9;have K:=Vl h ((P6 (J0 kd g) (L1 (J0 kd g) g.aB.length) s).1.getD (B5 (P6 (J0 kd g) (L1 (J0 kd g) g.aB.length) s).1).1 0);refine⟨by show(K3 _ _).1.size<=_;omega,by show(K3 _ _).2.size<=_;omega,?_,?_⟩
  ·exact yI (Zx _ _ _) f
  ·exact yI (Zx _ _ _) f
 ·have K:=Vl h (Na (J0 kd g) (L1 (J0 kd g) g.aB.length) (L1 (J0 kd g) g.aB.length).length).1;unfold I8;exact⟨by show(K3 _ _).1.size<=_;omega,by show N1.size<=_;rw[Jk];omega,by show N1.size<=_;rw[Jk];omega,by show N1.size<=_;rw[Jk];omega⟩
def Ma(x y:ByteArray):Nat->ByteArray
 |0=>x
 |i+1=>Ma x y i++y
theorem Rs(x y:ByteArray):∀i,Q0 (Ma x y i)=Q0 x++(List.replicate i (Q0 y)).flatten
 |0=>by simp[Ma]
 |i+1=>by
  unfold Ma;rw[Dh,Rs x y i,List.replicate_succ',List.flatten_append];simp
theorem Uv(x y:ByteArray):∀i,(Ma x y i).size=x.size+i*y.size
 |0=>by simp[Ma]
 |i+1=>by
  unfold Ma;rw[zN,Uv x y i,Nat.add_mul];omega
theorem Tl{x:K9}{aQ:Nat}:∀(l:List A7) (a:Ub),a.bA.getD 0 false=true->(l.foldl (Q3 x aQ) a).aF.getD 0 N1=a.aF.getD 0 N1/\(l.foldl (Q3 x aQ) a).bA.getD 0 false=true
 | [],a,h=>⟨rfl,h⟩
 |s::l,a,h=>by
  rw[List.foldl_cons];have G:(Q3 x aQ a s).aF.getD 0 N1=a.aF.getD 0 N1/\(Q3 x aQ a s).bA.getD 0 false=true:=by
   unfold Q3
   by_cases D:a.bA.getD s.q false=true
   ·rw[if_pos D];exact⟨rfl,h⟩
   ·rw[if_neg D];have f:¬s.q=0:=fun e=>D (by rw[e];exact h)
    have B:(a.bA.set s.q true).getD 0 false=true:=by rw[Ab,if_neg (fun e=>f e.1)];exact h
    split
    ·refine⟨?_,B⟩;show(a.aF.set s.q _).getD 0 N1=_;rw[U3,if_neg (fun e=>f e.1)]
    ·refine⟨?_,B⟩;show(a.aF.set s.q _).getD 0 N1=_;rw[U3,if_neg (fun e=>f e.1)]
  obtain⟨J,K⟩:=Tl l (Q3 x aQ a s) G.2;exact⟨by rw[J,G.1],K⟩
theorem Qu{R:E0}{kd:Nat->Nat}{g:B0}(h:N3 R=some (kd,g)):∀k,k<=g.aB.length->(C5 (J0 kd g) k).aF.getD 0 N1=N1
 |0,_=>by
  show(List.replicate (J0 kd g).aF.length N1).getD 0 N1=N1;rw[zC,yM];split <;>rfl
 |k+1,hk=>by
  obtain⟨_,f,_⟩:=Pn h k (by omega);have B:(C5 (J0 kd g) (k+1)).aF.getD 0 N1=(C5 (J0 kd g) k).aF.getD 0 N1:=(Tl _ _ f).1;rw[B];exact Qu h k (by omega)
theorem Fm{R:E0}{kd:Nat->Nat}{g:B0}(h:N3 R=some (kd,g))(f:(V1 kd g).aT=false)(i:Nat):Ml kd g (Q0 (V1 kd g).fr) (Q0 (Ma (V1 kd g).lead (V1 kd g).lp i++(V1 kd g).tail))/\0<(V1 kd g).lp.size/\0<(V1 kd g).tail.size/\(V1 kd g).tt.size=0/\(V1 kd g).k=0:=by
 unfold V1 at f⊢;split at f
 ·rename_i s B;have D:=yW B;have G:s<g.aB.length:=by simpa using D
  have J:=List.find?_some B;obtain⟨K,M,U⟩:=Uq h G J i;rw[Dh,Rs];exact⟨K,M,U,rfl,rfl⟩
 ·cases f
theorem ZI{R:E0}{kd:Nat->Nat}{g:B0}(h:N3 R=some (kd,g))(V:K8 kd g)(K:(V1 kd g).aT=true):(V1 kd g).lead.size=0/\(V1 kd g).lp.size=0/\(V1 kd g).tail.size=0/\
  ((V1 kd g).k=0->(V1 kd g).fr.size=0/\(V1 kd g).tt.size=0)/\(0<(V1 kd g).k->∃z:ByteArray,z.size=(V1 kd g).k/\(V1 kd g).tt=(V1 kd g).fr++z/\Ml kd g (Q0 (V1 kd g).fr) (Q0 z)):=by
 rw[AJ K];refine⟨rfl,rfl,rfl,fun M=>?_,fun M=>?_⟩
 ·have B:(Na (J0 kd g) (L1 (J0 kd g) g.aB.length) (L1 (J0 kd g) g.aB.length).length).2=0:=M;have Y:∀D f,(Na (J0 kd g) f D).2=0->(Na (J0 kd g) f D).1=0:=by
   intro D
   induction D with
   |zero=>intro f _;rfl
   |succ D ih=>
    intro f G;unfold Na at G⊢;split at G
    ·cases G
    ·rename_i h8;exact ih f G
  have J:=Y _ _ B;obtain⟨X,a2⟩:=Ul h (q:=0) V.bE;have W:=X.run;have h5:(K3 (J0 kd g) 0).1=N1:=by
   have hs:=Qu h g.aB.length (zD _);have hl:(J0 kd g).aZ.length=g.aB.length:=by simp[J0,U5]
   unfold K3;rw[hl];exact hs
  unfold I8;rw[B,J];show(K3 (J0 kd g) 0).1.size=0/\((K3 (J0 kd g) 0).1++(P6 (J0 kd g) ((L1 (J0 kd g) g.aB.length).take 0) 0).2).size=0;rw[h5,List.take_zero];exact⟨rfl,rfl⟩
 ·obtain⟨T,J,Z,U⟩:=JF h V M;have hT:∀b∈T,b<256:=fun b K=>U.dF b (by simp[K])
  exact⟨K1 T,by rw[Qc,J],Z,by rw[FC hT];exact U⟩
end Go.Proofs.YtcckhngbdoiikabGreat

namespace Go.Proofs.YtcckhngbdoiikabGreat
theorem LQ{kd:Nat->Nat}{g:B0}(U:N7 kd g)(s:ByteArray):∀(n p:Nat) (f:List V4),p<=s.size->s.size<n+p->
  (E4 kd g false n (L4 p s (Y1 p)) f).2.bC=s.size\/Pb g (K2 kd g (M1 s (E4 kd g false n (L4 p s (Y1 p)) f).2.bC) (E4 kd g false n (L4 p s (Y1 p)) f).2.bC 0 (Y1 (E4 kd g false n (L4 p s (Y1 p)) f).2.bC)).2=true
 |0,p,f,_,_=>by omega
 |n+1,p,f,hp,hn=>by
  have X:=S3 s p
  by_cases D:p<s.size
  ·have B:=Wd kd g (M1 s p) p 0 (Y1 p);rw[B8]at B
   by_cases h:Pb g (K2 kd g (M1 s p) p 0 (Y1 p)).2=true
   ·have e:E4 kd g false (n+1) (L4 p s (Y1 p)) f=(f,L4 p s (K2 kd g (M1 s p) p 0 (Y1 p)).1):=by
     unfold E4;rw[if_pos (.inr (by show(s.extract p s.size).size≠0;omega)),Ca kd g s p (Y1 p) hp];show(if Pb g (K2 kd g (M1 s p) p 0 (Y1 p)).2=true/\false=false then _ else _)=_;rw[if_pos ⟨h,rfl⟩]
    rw[e];exact .inr h
   ·obtain⟨G,J,V,K⟩:=Uy p s (K2 kd g (M1 s p) p 0 (Y1 p)).1 D (by rcases B with e|⟨M,W,_⟩;exact .inl e;exact .inr ⟨M,by omega⟩);have e:E4 kd g false (n+1) (L4 p s (Y1 p)) f=E4 kd g false n (L4 (Oc p (K2 kd g (M1 s p) p 0 (Y1 p)).1).tt s (Y1 (Oc p (K2 kd g (M1 s p) p 0 (Y1 p)).1).tt)) (f++ [Oc p (K2 kd g (M1 s p) p 0 (Y1 p)).1]):=by
     rw[<-G,<-J]
     conv=>lhs;unfold E4
     rw[if_pos (.inr (by show(s.extract p s.size).size≠0;omega)),Ca kd g s p (Y1 p) hp];show(if Pb g (K2 kd g (M1 s p) p 0 (Y1 p)).2=true/\false=false then _ else _)=_;rw[if_neg (fun e=>h e.1)]
    rw[e];exact LQ U s n _ _ K (by omega)
  ·left
   unfold E4;have e:p=s.size:=by omega
   subst e;rw[if_neg (by simp only[not_or];exact⟨by show ¬s.size<s.size;omega,by show ¬(s.extract s.size s.size).size≠0;omega⟩)];rfl
theorem KK{kd:Nat->Nat}{g:B0}{s:ByteArray}:∀{l m:List V4} {p q r:Nat},J9 kd g s p l q->J9 kd g s q m r->J9 kd g s p (l++m) r
 | [],m,p,q,r,hl,hm=>by have e:p=q:=hl;rw[e];exact hm
 |t::l,m,p,q,r,⟨h1,h2,h3⟩,hm=>⟨h1,h2,KK h3 hm⟩
structure Zw(kd:Nat->Nat)(g:B0)(x:ByteArray)(p:Nat)(v:F3)(cY:List V4):Prop where
 st:Rf kd g x p v
 jY:∀z,J9 kd g (x++z) 0 cY p
theorem Zw.start(kd:Nat->Nat)(g:B0):Zw kd g ⟨#[]⟩ 0 (X6 0) []:=⟨Rf.start kd g,fun z=>rfl⟩
theorem Zw.gY{kd:Nat->Nat}{g:B0}(M:N7 kd g){x:ByteArray}{p:Nat}{v:F3}{D:List V4}(h:Zw kd g x p v D)(y:ByteArray):
  ∃f,Zw kd g (x++y) f (onF kd g v y false).2 (D++(onF kd g v y false).1)/\(f=(x++y).size\/Pb g (K2 kd g (M1 (x++y) f) f 0 (Y1 f)).2=true):=by
 have W:=h.st.le;have X:(x++y).size=x.size+y.size:=zN;obtain⟨l,f,Y,G,J,Z,V⟩:=NQ M (x++y) ((x++y).size-p+1) p [] (by omega) (by omega);have B:=LQ M (x++y) ((x++y).size-p+1) p [] (by omega) (by omega);rw[G]at B;rw[h.st.on y false,G];have U:Y.bC=f:=by rw[J.eq];rfl
 simp only[yU]at B⊢;rw[U]at B;refine⟨f,⟨J,fun z=>?_⟩,B⟩;have K:=h.jY (y++z);rw[<-ByteArray.append_assoc]at K;exact KK K (V z)
theorem Zw.cut{kd:Nat->Nat}{g:B0}{x:ByteArray}{p:Nat}{v:F3}{f:List V4}(h:Zw kd g x p v f)(z:ByteArray):
  ∃B,U4 kd g (x++z)=f++B/\J9 kd g (x++z) p B (x++z).size:=Kp (It kd g (x++z)) (h.jY z)
theorem QQ{kd:Nat->Nat}{g:B0}{s:ByteArray}:∀{l:List V4} {p:Nat},J9 kd g s p l s.size->∀t∈l,t.fr<=s.size/\t.tt<=s.size
 | [],p,_,t,f=>by simp at f
 |t'::l,p,⟨h1,h2,h3⟩,t,f=>by
  rw[zU]at f;rcases f with rfl|f
  ·have h:=Ec kd g s p h1;have B:=Ng kd g s p (by omega);rw[h2];refine⟨?_,h.2.1⟩;rw[B];unfold Oc;split <;>(show p<=s.size;omega)
  ·exact QQ h3 t f
end Go.Proofs.YtcckhngbdoiikabGreat
