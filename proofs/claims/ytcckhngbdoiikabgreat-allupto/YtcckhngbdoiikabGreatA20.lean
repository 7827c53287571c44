import Derived.Test.YtcckhngbdoiikabGreatA19
set_option maxRecDepth 20000
set_option maxHeartbeats 12800000
set_option linter.unusedVariables false
namespace Go.Proofs.YtcckhngbdoiikabGreat
theorem K4{l:List Int}{k:Nat}(h:k<l.length)(d:Int):l.getD k d∈l:=by simp[h]
theorem Hy(f:Int->Int)(l:List Int)(k:Nat)(h:k<l.length):(l.map f).getD k 0=f (l.getD k 0):=by simp[h]
theorem J8{g:B0}{K:Nat}(f:GOk g K){s:Int}(D:0<=s)(G:s<(g.aB.length:Int)){k:Nat}(B:k<K):W0 g s k= -1\/(0<=W0 g s k/\W0 g s k<(g.aB.length:Int)):=by
 unfold W0;rw[if_neg (by omega)];have h:=f.row s.toNat (by rw[f.len];omega);exact h.2 _ (K4 (by rw[h.1];exact B) 0)
theorem KD(g:B0)(al:List Bool):∀k,(O6 g al k).2=false->(O6 g al k).1=al/\∀i,i<k->Fg (g.next.getD i []) al=true->al.getD i false=true
 |0,_=>⟨rfl,fun i J=>by omega⟩
 |k+1,h=>by
  unfold O6 at h⊢;split at h
  ·cases h
  ·rename_i f;rw[if_neg f];obtain⟨B,G⟩:=KD g al k h;refine⟨B,fun i J D=>?_⟩
   by_cases e:i<k
   ·exact G i e D
   ·have:i=k:=by omega
    subst this;rw[B]at f;cases e2:al.getD i false
    ·exact absurd ⟨e2,D⟩ f
    ·rfl
theorem Qm(g:B0)(al:List Bool):∀k i,al.getD i false=true->(O6 g al k).1.getD i false=true
 |0,i,h=>h
 |k+1,i,h=>by
  unfold O6;split
  ·have f:=Qm g al k i h;rw[zC]at f⊢;rw[List.getElem?_set];split
   ·split
    ·rfl
    ·rename_i B D;subst B;rw[yJ (by omega)]at f;cases f
   ·exact f
  ·exact Qm g al k i h
theorem Fo(g:B0):∀(n:Nat) (al:List Bool),g.next.length<=al.length->Wx al<n->
  (∀i,i<g.next.length->Fg (g.next.getD i []) (Ha g n al)=true->(Ha g n al).getD i false=true)/\(∀i,al.getD i false=true->(Ha g n al).getD i false=true)/\(Ha g n al).length=al.length
 |0,al,_,h=>by omega
 |n+1,al,hl,h=>by
  unfold Ha;have M:=Jp g al g.next.length hl;split
  ·rename_i f;have:=M.2 f;have G:=Fo g n (O6 g al g.next.length).1 (by rw[Df];exact hl) (by omega);exact⟨G.1,fun i D=>G.2.1 i (Qm g al _ i D),by rw[G.2.2,Df]⟩
  ·rename_i f;have B:(O6 g al g.next.length).2=false:=by simpa using f
   obtain⟨J,K⟩:=KD g al _ B;rw[J];exact⟨K,fun i D=>D,rfl⟩
theorem Cx{g:B0}{K:Nat}(B:GOk g K):(∀i,i<g.aB.length->Fg (g.next.getD i []) (Ua g)=true->(Ua g).getD i false=true)/\(∀i,i<g.aB.length->g.aB.getD i 0≠ -1->(Ua g).getD i false=true)/\(Ua g).length=g.aB.length:=by
 have J:g.next.length=(g.aB.map (fun r=>r != -1)).length:=by simp[B.len]
 have G:=TP (g.aB.map (fun r=>r != -1));have h:=Fo g (g.aB.length+1) (g.aB.map (fun r=>r != -1)) (by omega) (by simp at G;omega);refine⟨fun i f=>h.1 i (by rw[B.len];exact f),fun i f D=>h.2.1 i ?_,?_⟩
 ·simp[f]at D⊢;exact D
 ·have:=h.2.2;simpa[Ua]using this
theorem Xj{g:B0}{K:Nat}(B:GOk g K):∀(D:List Nat) (s:Nat),(∀k∈D,k<K)->s<g.aB.length->Z4 g (A3 g (s:Int) D)≠ -1->(Ua g).getD s false=true
 | [],s,_,hs,h=>by
  have:g.aB.getD s 0≠ -1:=by
   have f:Z4 g (s:Int)≠ -1:=h;unfold Z4 at f;rw[if_neg (by omega),zH]at f;exact f
  exact(Cx B).2.1 s hs this
 |k::D,s,hk,hs,h=>by
  have f:Z4 g (A3 g (W0 g (s:Int) k) D)≠ -1:=h;rcases J8 B (s:=(s:Int)) (by omega) (by omega) (hk k (by simp))with e|e
  ·exfalso
   rw[e,S9 g D (-1) (by omega)]at f;apply f;split <;>rfl
  ·obtain⟨t,J⟩:∃t:Nat,W0 g (s:Int) k=(t:Int):=⟨(W0 g (s:Int) k).toNat,by omega⟩;rw[J]at f e;have U:=Xj B D t (fun k G=>hk k (by simp[G])) (by omega) f;refine(Cx B).1 s hs ?_;unfold Fg;rw[List.any_eq_true];have M:=B.row s (by rw[B.len];exact hs);refine⟨(t:Int),?_,?_⟩
   ·rw[<-J];unfold W0;rw[if_neg (by omega),zH];exact K4 (by rw[M.1];exact hk k (by simp)) 0
   ·rw[zH,U];simp
theorem Jh{g:B0}{K:Nat}(h:GOk g K){s:Nat}(B:s<g.aB.length){k:Nat}(J:k<K):
  W0 (G0 g) (s:Int) k=if W0 g (s:Int) k != -1 && (Ua g).getD (W0 g (s:Int) k).toNat false then W0 g (s:Int) k else -1:=by
 have U:=h.row s (by rw[h.len];exact B);have M:s<g.next.length:=by rw[h.len];exact B
 have D:(G0 g).next.getD s []=R4 (Ua g) (g.next.getD s []):=by simp[G0,M]
 have G:k<(g.next.getD s []).length:=by rw[U.1];exact J
 have f:¬((s:Int)<0):=by omega
 simp only[W0,if_neg f,zH,D];unfold R4;rw[Hy _ _ _ G]
theorem R9{g:B0}{K:Nat}(D:GOk g K):∀(h:List Nat) (s:Nat),(∀k∈h,k<K)->s<g.aB.length->Z4 (G0 g) (A3 (G0 g) (s:Int) h)=Z4 g (A3 g (s:Int) h)
 | [],s,_,hs=>rfl
 |k::h,s,hk,hs=>by
  show Z4 (G0 g) (A3 (G0 g) (W0 (G0 g) (s:Int) k) h)=Z4 g (A3 g (W0 g (s:Int) k) h);rw[Jh D hs (hk k (by simp))];have f:∀g:B0,Z4 g (A3 g (-1) h)= -1:=fun g=>by rw[S9 g h (-1) (by omega)];split <;>rfl
  rcases J8 D (s:=(s:Int)) (by omega) (by omega) (hk k (by simp))with e|e
  ·rw[e];simp[f]
  ·obtain⟨t,J⟩:∃t:Nat,W0 g (s:Int) k=(t:Int):=⟨(W0 g (s:Int) k).toNat,by omega⟩;rw[J]at e⊢;rw[zH];cases ha:(Ua g).getD t false with
   |true=>
    rw[if_pos (by simp)];exact R9 D h t (fun k B=>hk k (by simp[B])) (by omega)
   |false=>
    rw[if_neg (by simp),f];refine Classical.byContradiction fun G=>?_
    have:=Xj D h t (fun k B=>hk k (by simp[B])) (by omega) (fun e=>G e.symm);rw[ha]at this;cases this
def Xo(g:B0)(K:Nat)(aE:List Int):Prop:=∀a b,a<g.aB.length->b<g.aB.length->aE.getD a 0=aE.getD b 0->
 g.aB.getD a 0=g.aB.getD b 0/\∀k,k<K->N4 aE ((g.next.getD a []).getD k 0) ((g.next.getD b []).getD k 0)=true
theorem Bs(aE:List Int):∀(l m:List Int),l.length=m.length->Oe aE l m=true->∀k,k<l.length->N4 aE (l.getD k 0) (m.getD k 0)=true
 | [],m,_,_,k,hk=>by simp at hk
 |x::l,[],hl,_,k,hk=>by simp at hl
 |x::l,y::m,hl,h,k,hk=>by
  unfold Oe at h;simp only[List.headD_cons,List.tail_cons,yK]at h;cases k with
  |zero=>simpa using h.1
  |succ k=>simpa using Bs aE l m (by simpa using hl) h.2 k (by simpa using hk)
theorem Wi{g:B0}{K:Nat}(f:GOk g K){aE:List Int}{a b:Nat}(M:a<g.aB.length)(U:b<g.aB.length)(h:I7 g aE a b=true):
  aE.getD a 0=aE.getD b 0/\g.aB.getD a 0=g.aB.getD b 0/\∀k,k<K->N4 aE ((g.next.getD a []).getD k 0) ((g.next.getD b []).getD k 0)=true:=by
 unfold I7 at h;split at h
 ·cases h
 ·rename_i B;have G:aE.getD a 0=aE.getD b 0:=Decidable.not_not.1 fun e=>B (.inl e)
  have J:g.aB.getD a 0=g.aB.getD b 0:=Decidable.not_not.1 fun e=>B (.inr e)
  have D:=f.row a (by rw[f.len];exact M);have W:=f.row b (by rw[f.len];exact U);exact⟨G,J,fun k V=>Bs aE _ _ (by rw[D.1,W.1]) h k (by rw[D.1];exact V)⟩
theorem Hk(g:B0)(aE:List Int)(n:Nat):∀(f k e:Nat),Rb g aE n f k=some e->e<n/\I7 g aE e n=true
 |0,k,e,h=>by simp[Rb]at h
 |f+1,k,e,h=>by
  unfold Rb at h;split at h
  ·rename_i B;split at h
   ·rename_i D
    injection h with h
    subst h;exact⟨B,D⟩
   ·exact Hk g aE n f (k+1) e h
  ·cases h
theorem DA{aE:List Int}{a b c:Int}(f:N4 aE a b=true)(h:N4 aE b c=true):N4 aE a c=true:=by
 unfold N4 at*
 by_cases B:a= -1
 ·subst B;simp at f;subst f;exact h
 ·by_cases D:b= -1
  ·subst D;simp at f;exact absurd f B
  ·by_cases G:c= -1
   ·subst G;simp at h;exact absurd h D
   ·simp[B,D,G]at f h⊢;rw[f,h]
theorem QB{aE:List Int}{a b:Int}(f:N4 aE a b=true):N4 aE b a=true:=by
 unfold N4 at*
 by_cases h:a= -1
 ·subst h;simp at f;subst f;simp
 ·by_cases B:b= -1
  ·subst B;simp at f;exact absurd f h
  ·simp[h,B]at f⊢;rw[f]
theorem PB{aE:List Int}(a:Int):N4 aE a a=true:=by unfold N4;split <;>simp
def Md(g:B0)(K:Nat)(aE:List Int)(a b:Nat):Prop:=aE.getD a 0=aE.getD b 0/\g.aB.getD a 0=g.aB.getD b 0/\∀k,k<K->N4 aE ((g.next.getD a []).getD k 0) ((g.next.getD b []).getD k 0)=true
theorem Md.refl{g:B0}{K:Nat}{aE:List Int}(a:Nat):Md g K aE a a:=⟨rfl,rfl,fun k _=>PB _⟩
theorem Md.symm{g:B0}{K:Nat}{aE:List Int}{a b:Nat}(h:Md g K aE a b):Md g K aE b a:=⟨h.1.symm,h.2.1.symm,fun k f=>QB (h.2.2 k f)⟩
theorem Md.trans{g:B0}{K:Nat}{aE:List Int}{a b c:Nat}(h:Md g K aE a b)(f:Md g K aE b c):Md g K aE a c:=⟨h.1.trans f.1,h.2.1.trans f.2.1,fun k B=>DA (h.2.2 k B) (f.2.2 k B)⟩
theorem Qi{g:B0}{K:Nat}(ho:GOk g K)(aE:List Int):∀n,n<=g.aB.length->(∀a b,a<n->b<n->(U0 g aE n).1.getD a 0=(U0 g aE n).1.getD b 0->Md g K aE a b)/\(∀c:Nat,c<(U0 g aE n).2->∃a,a<n/\(U0 g aE n).1.getD a 0=(c:Int))
 |0,_=>⟨fun a b J=>by omega,fun c W=>by simp[U0]at W⟩
 |n+1,hn=>by
  obtain⟨U,V⟩:=Qi ho aE n (by omega);have h:=X3 g aE n;have Y:=Y9 g aE n;unfold U0;split
  ·rename_i e he;obtain⟨a0,a1⟩:=Hk g aE n _ _ _ he;have X:Md g K aE e n:=Wi ho (by omega) (by omega) a1;generalize U0 g aE n=r at*;simp only;have hg:∀a,a<n+1->∃G,G<n/\(r.1++ [r.1.getD e 0]).getD a 0=r.1.getD G 0/\Md g K aE a G:=by
    intro a J;rw[M5,h];split
    ·exact⟨a,by omega,rfl,.refl a⟩
    ·rw[if_pos (by omega)];have:a=n:=by omega
     subst this;exact⟨e,a0,rfl,X.symm⟩
   refine⟨fun a b J hb f=>?_,fun c W=>?_⟩
   ·obtain⟨G,B,D,h3⟩:=hg a J;obtain⟨b',h4,h5,h6⟩:=hg b hb;rw[D,h5]at f;exact h3.trans ((U G b' B h4 f).trans h6.symm)
   ·obtain⟨a,B,D⟩:=V c W;refine⟨a,by omega,?_⟩;rw[M5,h,if_pos B];exact D
  ·generalize U0 g aE n=r at*;simp only;refine⟨fun a b J hb f=>?_,fun c W=>?_⟩
   ·rw[M5,M5,h]at f;have M:∀a,a<n->r.1.getD a 0<(r.2:Int):=fun a J=>(Y.1 _ (K4 (by omega) 0)).2
    by_cases B:a<n <;>by_cases D:b<n
    ·rw[if_pos B,if_pos D]at f;exact U a b B D f
    ·rw[if_pos B,if_neg D,if_pos (by omega)]at f;have:=M a B;omega
    ·rw[if_neg B,if_pos D,if_pos (by omega)]at f;have:=M b D;omega
    ·have e1:a=n:=by omega
     have e2:b=n:=by omega
     subst e1 e2;exact .refl _
   ·by_cases Z:c<r.2
    ·obtain⟨a,B,D⟩:=V c Z;refine⟨a,by omega,?_⟩;rw[M5,h,if_pos B];exact D
    ·refine⟨n,by omega,?_⟩;rw[M5,h,if_neg (by omega),if_pos rfl];have:c=r.2:=by omega
     rw[this]
theorem JX(n:Nat)(f:Nat->Nat)(hf:∀x,x<n->f x<n)(ho:∀y,y<n->∃x,x<n/\f x=y)(a b:Nat)(ha:a<n)(hb:b<n)(h:f a=f b):a=b:=by
 refine Classical.byContradiction fun V=>?_
 have M:∀y,∃x,y<n->(x<n/\f x=y/\x≠(if f a=y then b else n)):=by
  intro y
  by_cases B:y<n
  ·by_cases e:f a=y
   ·exact⟨a,fun _=>⟨ha,e,by rw[if_pos e];exact V⟩⟩
   ·obtain⟨x,G,D⟩:=ho y B;exact⟨x,fun _=>⟨G,D,by rw[if_neg e];omega⟩⟩
  ·exact⟨0,fun h=>absurd h B⟩
 obtain⟨c,J⟩:=Classical.axiomOfChoice M;have U:(b::(List.range n).map c).Nodup:=by
  rw[List.nodup_cons];refine⟨?_,?_⟩
  ·rw[List.mem_map];rintro⟨y,B,e⟩;have X:y<n:=by simpa using B
   obtain⟨G,D,Z⟩:=J y X
   by_cases Y:f a=y
   ·rw[if_pos Y]at Z;exact Z e
   ·apply Y;rw[h,<-e,D]
  ·rw[List.Nodup,List.pairwise_map];refine List.Pairwise.imp_of_mem (R:=fun x y=>x≠y) (fun{x y} K B W=>?_) List.nodup_range;intro e;apply W;have G:=(J x (by simpa using K)).2.1;have D:=(J y (by simpa using B)).2.1;rw[<-G,<-D,e]
 have:=Wg n _ U (fun x K=>by
  rw[zU,List.mem_map]at K;rcases K with e|⟨y,B,e⟩
  ·rw[e];exact hb
  ·rw[<-e];exact(J y (by simpa using B)).1)
 simp at this;omega
theorem GB{g:B0}{K:Nat}(Z:GOk g K)(aE:List Int)(f:Nat)(hb:∀a,a<g.aB.length->0<=aE.getD a 0/\aE.getD a 0<(f:Int))(a3:∀c:Nat,c<f->∃a,a<g.aB.length/\aE.getD a 0=(c:Int))
  (hc:(U0 g aE g.aB.length).2=f):Xo g K (U0 g aE g.aB.length).1:=by
 obtain⟨h1,h2⟩:=Qi Z aE g.aB.length (zD _);have a4:=X3 g aE g.aB.length;have a1:=Y9 g aE g.aB.length;generalize U0 g aE g.aB.length=r at*;have hr:∀a,a<g.aB.length->0<=r.1.getD a 0/\r.1.getD a 0<(r.2:Int):=fun a W=>a1.1 _ (K4 (by omega) 0)
 have a2:∀c:Nat,∃a:Nat,c<f->a<g.aB.length/\r.1.getD a 0=(c:Int):=by
  intro c
  by_cases U:c<f
  ·obtain⟨a,h3,h4⟩:=h2 c (by omega);exact⟨a,fun _=>⟨h3,h4⟩⟩
  ·exact⟨0,fun h=>absurd h U⟩
 obtain⟨jA,B⟩:=Classical.axiomOfChoice a2;have Y:=JX f (fun c=>(aE.getD (jA c) 0).toNat) (fun c U=>by
   have:=hb (jA c) (B c U).1;show(aE.getD (jA c) 0).toNat<f;omega)
  (fun y hy=>by
   obtain⟨a,h3,h4⟩:=a3 y hy;have h5:=hr a h3;refine⟨(r.1.getD a 0).toNat,by omega,?_⟩;have h6:=B (r.1.getD a 0).toNat (by omega);have h7:=h1 (jA (r.1.getD a 0).toNat) a h6.1 h3 (by rw[h6.2];omega);show(aE.getD (jA (r.1.getD a 0).toNat) 0).toNat=y;rw[h7.1,h4];rfl)
 have V:∀a b,a<g.aB.length->b<g.aB.length->aE.getD a 0=aE.getD b 0->r.1.getD a 0=r.1.getD b 0:=by
  intro a b W D M;have h5:=hr a W;have h6:=hr b D;have h7:=B (r.1.getD a 0).toNat (by omega);have h8:=B (r.1.getD b 0).toNat (by omega);have h9:=h1 _ a h7.1 W (by rw[h7.2];omega);have a0:=h1 _ b h8.1 D (by rw[h8.2];omega);have:=Y (r.1.getD a 0).toNat (r.1.getD b 0).toNat (by omega) (by omega) (by show(aE.getD _ 0).toNat=(aE.getD _ 0).toNat;rw[h9.1,a0.1,M]);omega
 intro a b W D M;have X:=h1 a b W D M;refine⟨X.2.1,fun k hk=>?_⟩;have J:=X.2.2 k hk;have ra:=Z.row a (by rw[Z.len];exact W);have rb:=Z.row b (by rw[Z.len];exact D);have ia:=ra.2 _ (K4 (by rw[ra.1];exact hk) 0);have ib:=rb.2 _ (K4 (by rw[rb.1];exact hk) 0);generalize(g.next.getD a []).getD k 0=x at J ia⊢;generalize(g.next.getD b []).getD k 0=y at J ib⊢;unfold N4 at J⊢;split
 ·rename_i G;rw[if_pos G]at J;exact J
 ·rename_i G;rw[if_neg G]at J;simp at G J⊢;exact V x.toNat y.toNat (by omega) (by omega) (by simpa using J)
theorem Kj{g:B0}{K:Nat}(M:GOk g K)(B:0<g.aB.length):∀(f:Nat) (aE:List Int) (h:Nat),g.aB.length+1<=f+h->h<=g.aB.length->h<=(U0 g aE g.aB.length).2->
  (h=0\/((∀a,a<g.aB.length->0<=aE.getD a 0/\aE.getD a 0<(h:Int))/\∀c:Nat,c<h->∃a,a<g.aB.length/\aE.getD a 0=(c:Int)))->Xo g K (C9 g f aE h)
 |0,aE,h,h1,h2,_,_=>by omega
 |f+1,aE,h,h1,h2,h3,G=>by
  have D:=Y9 g aE g.aB.length;have W:=X3 g aE g.aB.length;have U:=Qi M aE g.aB.length (zD _);have J:=Oi g aE g.aB.length g.aB.length (zD _);have X:∀a,a<g.aB.length->0<=(U0 g aE g.aB.length).1.getD a 0/\(U0 g aE g.aB.length).1.getD a 0<((U0 g aE g.aB.length).2:Int):=fun a Z=>D.1 _ (K4 (by omega) 0)
  unfold C9;split
  ·rename_i V;rcases G with G|⟨G,Y⟩
   ·have:=X 0 B;omega
   ·exact GB M aE h G Y V
  ·rename_i V;exact Kj M B f _ _ (by omega) D.2 J (.inr ⟨X,U.2⟩)
theorem Yc{g:B0}{K:Nat}(h:GOk g K)(f:0<g.aB.length):Xo g K (U1 g):=
 Kj h f _ _ 0 (by omega) (by omega) (by omega) (.inl rfl)
theorem Oo(g:B0):∀(f:Nat) (aE:List Int) (B:Nat),aE.length=g.aB.length->(C9 g f aE B).length=g.aB.length
 |0,aE,_,h=>h
 |f+1,aE,B,h=>by
  unfold C9;split
  ·exact X3 _ _ _
  ·exact Oo g f _ _ (X3 _ _ _)
theorem F8(g:B0):(U1 g).length=g.aB.length:=Oo g _ _ _ (by simp)
structure Gq(N:Nat)(aE:List Int)(st:List Int×List Int):Prop where
 ok:VOk N st
 bE:0<st.1.length/\st.1.getD 0 0=0
 num:∀j,j<st.1.length->st.2.getD (aE.getD (st.1.getD j 0).toNat 0).toNat 0=(j:Int)
 aE:∀c:Nat,c<N->st.2.getD c 0= -1\/(0<=st.2.getD c 0/\st.2.getD c 0<(st.1.length:Int)/\aE.getD (st.1.getD (st.2.getD c 0).toNat 0).toNat 0=(c:Int))
def Fq(st f:List Int×List Int):Prop:=st.1<+:f.1/\∀c:Nat,st.2.getD c 0≠ -1->f.2.getD c 0=st.2.getD c 0
theorem Fq.refl(st:List Int×List Int):Fq st st:=⟨List.prefix_refl _,fun _ _=>rfl⟩
theorem Fq.trans{a b c:List Int×List Int}(h:Fq a b)(g:Fq b c):Fq a c:=⟨h.1.trans g.1,fun x f=>by rw[g.2 x (by rw[h.2 x f];exact f),h.2 x f]⟩
theorem Hc{l m:List Int}(h:l<+:m){k:Nat}(f:k<l.length):m.getD k 0=l.getD k 0:=by
 obtain⟨r,rfl⟩:=h;rw[zC,zR f,<-zC]
theorem Ib(l:List Int)(k i:Nat)(x:Int)(f:k<l.length):(l.set k x).getD i 0=if i=k then x else l.getD i 0:=by
 rw[zC,List.getElem?_set]
 by_cases h:k=i
 ·subst h;simp[f]
 ·rw[if_neg h,if_neg (fun e=>h e.symm),zC]
theorem Yi{N:Nat}{aE:List Int}(U:aE.length=N)(Y:∀x∈aE,0<=x/\x<(N:Int)){st:List Int×List Int}(h:Gq N aE st){tt:Int}(ht:tt= -1\/(0<=tt/\tt<(N:Int))):
  Gq N aE (Y2 aE st tt)/\Fq st (Y2 aE st tt)/\(tt≠ -1->(Y2 aE st tt).2.getD (aE.getD tt.toNat 0).toNat 0≠ -1):=by
 have G:=Ys U Y h.ok ht;unfold Y2 at G⊢;split at G
 ·rename_i B;rw[if_pos B];simp only[yK,bne_iff_ne,ne_eq,beq_iff_eq]at B;obtain⟨h1,W⟩:=B;have a1:0<=tt/\tt<(N:Int):=by rcases ht with e|e;exact absurd e h1;exact e
  have hx:=Y _ (K4 (l:=aE) (k:=tt.toNat) (by omega) 0);generalize J:aE.getD tt.toNat 0=c at W G hx⊢;have a0:=h.ok.len;have D:c.toNat<st.2.length:=by omega
  have f:st.1<+:st.1++ [tt]:=List.prefix_append _ _;refine⟨⟨G,⟨by simp,?_⟩,fun j Z=>?_,fun d M=>?_⟩,⟨f,fun d M=>?_⟩,fun _=>?_⟩
  ·rw[Hc f h.bE.1];exact h.bE.2
  ·simp only at Z⊢;rw[Ib _ _ _ _ D];simp only[zL,yH,List.length_nil]at Z
   by_cases K:j<st.1.length
   ·rw[Hc f K];have X:=h.num j K;rw[if_neg (fun e=>by rw[e]at X;omega)];exact X
   ·have:j=st.1.length:=by omega
    subst this;have e9:(st.1++ [tt]).getD st.1.length 0=tt:=by simp
    rw[e9,J,if_pos rfl]
  ·simp only;rw[Ib _ _ _ _ D];simp only[zL,yH,List.length_nil];split
   ·rename_i e
    right
    refine⟨by omega,by omega,?_⟩;rw[zH,M5,if_neg (by omega),if_pos rfl,J];omega
   ·rcases h.aE d M with e|⟨e1,e2,e3⟩
    ·exact .inl e
    ·exact .inr ⟨e1,by omega,by rw[Hc f (by omega)];exact e3⟩
  ·simp only;rw[Ib _ _ _ _ D,if_neg (fun e=>by rw[e]at M;exact M W)]
  ·simp only;rw[Ib _ _ _ _ D,if_pos rfl];omega
 ·rename_i B;rw[if_neg B];refine⟨h,Fq.refl _,fun V he=>B ?_⟩;simp only[yK,bne_iff_ne,ne_eq,beq_iff_eq];exact⟨V,he⟩
theorem Gb{N:Nat}{aE:List Int}(D:aE.length=N)(K:∀x∈aE,0<=x/\x<(N:Int)):∀(f:List Int) (st:List Int×List Int),Gq N aE st->Al N f->
  Gq N aE (L3 aE f st)/\Fq st (L3 aE f st)/\∀tt∈f,tt≠ -1->(L3 aE f st).2.getD (aE.getD tt.toNat 0).toNat 0≠ -1
 | [],st,h,_=>⟨h,Fq.refl _,fun tt V=>by simp at V⟩
 |x::r,st,h,hr=>by
  have e:L3 aE (x::r) st=L3 aE r (Y2 aE st x):=rfl;rw[e];obtain⟨Z,s2,U⟩:=Yi D K h (hr x (by simp));obtain⟨X,M,Y⟩:=Gb D K r _ Z (fun y W=>hr y (by simp[W]));refine⟨X,s2.trans M,fun tt G B=>?_⟩;rw[zU]at G;rcases G with J|J
  ·subst J;rw[M.2 _ (U B)];exact U B
  ·exact Y tt J B
theorem Ro{g:B0}{K:Nat}(V:GOk g K){aE:List Int}(D:aE.length=g.aB.length)(X:∀x∈aE,0<=x/\x<(g.aB.length:Int)):∀(f i:Nat) (st:List Int×List Int),f+i=g.aB.length+1->i<=st.1.length->Gq g.aB.length aE st->
  (∀j,j<i->∀tt∈g.next.getD (st.1.getD j 0).toNat [],tt≠ -1->st.2.getD (aE.getD tt.toNat 0).toNat 0≠ -1)->
  Gq g.aB.length aE (V5 g aE f i st)/\∀j,j<(V5 g aE f i st).1.length->∀tt∈g.next.getD ((V5 g aE f i st).1.getD j 0).toNat [],tt≠ -1->(V5 g aE f i st).2.getD (aE.getD tt.toNat 0).toNat 0≠ -1
 |0,i,st,hf,hi,h,_=>by have:=h.ok.sum;omega
 |f+1,i,st,hf,hi,h,hd=>by
  unfold V5;split
  ·rename_i G;have Y:=h.ok.ok _ (K4 (l:=st.1) G 0);have M:=(V.row (st.1.getD i 0).toNat (by rw[V.len];omega)).2;obtain⟨r1,W,r3⟩:=Gb D X _ st h M;refine Ro V D X f (i+1) _ (by omega) (by have:=W.1.length_le;omega) r1 (fun j Z tt B J=>?_);rw[Hc W.1 (by omega)]at B
   by_cases U:j<i
   ·have:=hd j U tt B J;rw[W.2 _ this];exact this
   ·have:j=i:=by omega
    subst this;exact r3 tt B J
  ·rename_i G;exact⟨h,fun j Z=>hd j (by omega)⟩
theorem J7{g:B0}{K:Nat}(V:GOk g K)(M:0<g.aB.length){aE:List Int}(B:aE.length=g.aB.length)(D:∀x∈aE,0<=x/\x<(g.aB.length:Int)):
  Gq g.aB.length aE (A2 g aE)/\∀j,j<(A2 g aE).1.length->∀tt∈g.next.getD ((A2 g aE).1.getD j 0).toNat [],tt≠ -1->(A2 g aE).2.getD (aE.getD tt.toNat 0).toNat 0≠ -1:=by
 have U:=D _ (K4 (l:=aE) (k:=0) (by omega) 0);have h:(aE.getD 0 0).toNat<(List.replicate aE.length (-1:Int)).length:=by rw[yD];omega
 have f:∀d,d<aE.length->(List.replicate aE.length (-1:Int)).getD d 0= -1:=fun d G=>by simp[G]
 refine Ro V B D _ 0 _ (by omega) (by simp) ⟨⟨?_,by simp[B],fun x U=>by simp at U;omega⟩,⟨by simp,rfl⟩,fun j J=>?_,fun d G=>?_⟩ (fun j J=>by omega)
 ·have W:=Lj (List.replicate aE.length (-1:Int)) (aE.getD 0 0).toNat 0 h (by rw[f _ (by omega)]) (by omega);have X:Tt (List.replicate aE.length (-1:Int))=aE.length:=by simp[Tt]
  simp only[yH,List.length_nil];omega
 ·simp only[yH,List.length_nil]at J;have:j=0:=by omega
  subst this;simp only[List.getD_cons_zero,Int.toNat_zero];rw[Ib _ _ _ _ h,if_pos rfl];rfl
 ·simp only;rw[Ib _ _ _ _ h];split
  ·rename_i e
   right
   refine⟨by omega,by simp,?_⟩;simp only[Int.toNat_zero,List.getD_cons_zero];omega
  ·exact .inl (f d (by omega))
theorem Ii{g:B0}{K:Nat}(V:GOk g K)(W:0<g.aB.length){aE:List Int}(Z:aE.length=g.aB.length)(hc:∀x∈aE,0<=x/\x<(g.aB.length:Int))(a4:Xo g K aE)
  {j a:Nat} (hj:j<(A2 g aE).1.length) (ha:a<g.aB.length) (he:aE.getD ((A2 g aE).1.getD j 0).toNat 0=aE.getD a 0) {k:Nat} (J:k<K):
  (W0 (E1 g aE) (j:Int) k= -1/\W0 g (a:Int) k= -1)\/∃j' X:Nat,W0 (E1 g aE) (j:Int) k=(j':Int)/\W0 g (a:Int) k=(X:Int)/\j'<(A2 g aE).1.length/\X<g.aB.length/\aE.getD ((A2 g aE).1.getD j' 0).toNat 0=aE.getD X 0:=by
 obtain⟨hv,hd⟩:=J7 V W Z hc;have hF:=hv.ok.ok _ (K4 (l:=(A2 g aE).1) hj 0);have a1:=hd j hj;have e1:(E1 g aE).next.getD j []=J2 aE (A2 g aE).2 (g.next.getD ((A2 g aE).1.getD j 0).toNat []):=by simp[E1,hj]
 generalize hb:((A2 g aE).1.getD j 0).toNat=b at*;have G:b<g.aB.length:=by omega
 have rb:=V.row b (by rw[V.len];exact G);have f:=(a4 b a G ha he).2 k J;have ib:=J8 V (s:=(b:Int)) (by omega) (by omega) J;have ia:=J8 V (s:=(a:Int)) (by omega) (by omega) J;have Y:W0 g (b:Int) k=(g.next.getD b []).getD k 0:=by unfold W0;rw[if_neg (by omega),zH]
 have ea:W0 g (a:Int) k=(g.next.getD a []).getD k 0:=by unfold W0;rw[if_neg (by omega),zH]
 rw[<-Y,<-ea]at f;have M:W0 g (b:Int) k∈g.next.getD b []:=by rw[Y];exact K4 (by rw[rb.1];exact J) 0
 have en:W0 (E1 g aE) (j:Int) k=if W0 g (b:Int) k != -1 then(A2 g aE).2.getD (aE.getD (W0 g (b:Int) k).toNat 0).toNat 0 else -1:=by
  have U:¬((j:Int)<0):=by omega
  have ej:W0 (E1 g aE) (j:Int) k=((E1 g aE).next.getD j []).getD k 0:=by simp only[W0,if_neg U,zH]
  rw[ej,e1,Y];have a2:k<(g.next.getD b []).length:=by rw[rb.1];exact J
  unfold J2;rw[Hy _ _ _ a2]
 rw[en];unfold N4 at f;rcases ib with e|e
 ·rw[e]at f⊢;simp at f
  left
  exact⟨by simp,f.symm⟩
 ·have h:W0 g (b:Int) k≠ -1:=by omega
  have B:W0 g (a:Int) k≠ -1:=by
   intro D;rw[D]at f;simp at f;exact h f
  simp[h,B]at f
  right
  have a0:=a1 _ M h;generalize W0 g (b:Int) k=x at*;have a5:0<=W0 g (a:Int) k/\W0 g (a:Int) k<(g.aB.length:Int):=by rcases ia with D|D;exact absurd D B;exact D
  generalize W0 g (a:Int) k=y at*;have hx:=hc _ (K4 (l:=aE) (k:=x.toNat) (by omega) 0);rcases hv.aE (aE.getD x.toNat 0).toNat (by omega)with e3|⟨e3,e4,e5⟩
  ·exact absurd e3 a0
  ·rw[if_pos (by simpa using h)];generalize(A2 g aE).2.getD (aE.getD x.toNat 0).toNat 0=m at*;refine⟨m.toNat,y.toNat,by omega,by omega,by omega,by omega,?_⟩;rw[e5];have a3:aE.getD x.toNat 0=aE.getD y.toNat 0:=by simpa using f
   rw[<-a3];omega
theorem Ip{g:B0}{K:Nat}(W:GOk g K)(h:0<g.aB.length){aE:List Int}(D:aE.length=g.aB.length)(U:∀x∈aE,0<=x/\x<(g.aB.length:Int))(G:Xo g K aE):∀(B:List Nat) (j a:Nat),(∀k∈B,k<K)->j<(A2 g aE).1.length->a<g.aB.length->aE.getD ((A2 g aE).1.getD j 0).toNat 0=aE.getD a 0->
  Z4 (E1 g aE) (A3 (E1 g aE) (j:Int) B)=Z4 g (A3 g (a:Int) B)
 | [],j,a,_,hj,ha,he=>by
  show Z4 (E1 g aE) (j:Int)=Z4 g (a:Int);obtain⟨hv,_⟩:=J7 W h D U;have hF:=hv.ok.ok _ (K4 (l:=(A2 g aE).1) hj 0);have hs:=(G ((A2 g aE).1.getD j 0).toNat a (by omega) ha he).1;unfold Z4;rw[if_neg (by omega),if_neg (by omega),zH,zH,<-hs];simp[E1,hj]
 |k::B,j,a,hk,hj,ha,he=>by
  show Z4 (E1 g aE) (A3 (E1 g aE) (W0 (E1 g aE) (j:Int) k) B)=Z4 g (A3 g (W0 g (a:Int) k) B);have f:∀g:B0,Z4 g (A3 g (-1) B)= -1:=fun g=>by rw[S9 g B (-1) (by omega)];split <;>rfl
  rcases Ii W h D U G hj ha he (hk k (by simp))with⟨J,M⟩|⟨j',X,J,M,Y,Z,h5⟩
  ·rw[J,M,f,f]
  ·rw[J,M];exact Ip W h D U G B j' X (fun k V=>hk k (by simp[V])) Y Z h5
theorem R8{R:E0}{kd:Nat->Nat}{g:B0}(h:N3 R=some (kd,g)):∃f,J6 R (V0 R.aJ 256)=some f/\kd=D3 R.aJ/\g=E1 (G0 f) (U1 (G0 f)):=by
 unfold N3 at h;generalize V0 R.aJ 256=ks at h⊢;cases hx:J6 R ks with
 |none=>rw[hx]at h;cases h
 |some f=>
  rw[hx]at h;simp only[Option.some.injEq,Prod.mk.injEq]at h;exact⟨f,rfl,h.1.symm,h.2.symm⟩
theorem Ij(al:Nat->I0):∀n k,k<(V0 al n).length->∃b,b<n/\D3 al b=k
 |0,k,h=>by simp[V0]at h
 |n+1,k,h=>by
  unfold V0 at h
  by_cases B:k<(V0 al n).length
  ·obtain⟨b,D,f⟩:=Ij al n k B;exact⟨b,by omega,f⟩
  ·split at h
   ·rename_i G;simp only[zL,yH,List.length_nil]at h;exact⟨n,by omega,by unfold D3;omega⟩
   ·omega
def R6(g:B0)(K:Nat)(s:Int):Prop:=∃f:List Nat,(∀k∈f,k<K)/\Z4 g (A3 g s f)≠ -1
theorem SJ{g:B0}{K:Nat}(U:GOk g K){al:List Bool}(h:∀i:Nat,i<g.aB.length->al.getD i false=true->R6 g K (i:Int)){i:Nat}(hi:i<g.aB.length)(B:Fg (g.next.getD i []) al=true):R6 g K (i:Int):=by
 unfold Fg at B;rw[List.any_eq_true]at B;obtain⟨tt,G,J⟩:=B;simp only[yK,bne_iff_ne,ne_eq]at J;obtain⟨h3,h4⟩:=J;have V:=U.row i (by rw[U.len];exact hi);have a0:=V.2 tt G;obtain⟨k,M,e⟩:=List.getElem_of_mem G;obtain⟨W,Z,D⟩:=h tt.toNat (by omega) h4;have X:W0 g (i:Int) k=tt:=by
  unfold W0;rw[if_neg (by omega),zH,zC,zF M];exact e
 have Y:((tt.toNat:Nat):Int)=tt:=by omega
 rw[Y]at D;refine⟨k::W,fun x f=>?_,?_⟩
 ·rw[zU]at f;rcases f with rfl|f
  ·rw[<-V.1];exact M
  ·exact Z x f
 ·show Z4 g (A3 g (W0 g (i:Int) k) W)≠ -1;rw[X];exact D
theorem Ev{g:B0}{K:Nat}(B:GOk g K){al:List Bool}(h:∀i:Nat,i<g.aB.length->al.getD i false=true->R6 g K (i:Int)):∀k,k<=g.aB.length->∀i:Nat,i<g.aB.length->(O6 g al k).1.getD i false=true->R6 g K (i:Int)
 |0,_,i,hi,hx=>h i hi hx
 |k+1,hk,i,hi,hx=>by
  have f:=Ev B h k (by omega);unfold O6 at hx;split at hx
  ·rename_i G
   by_cases e:i=k
   ·subst e;exact SJ B f hi G.2
   ·refine f i hi ?_;simp only[zC]at hx⊢;rw[List.getElem?_set_ne (fun D=>e D.symm)]at hx;exact hx
  ·exact f i hi hx
theorem Cl{g:B0}{K:Nat}(f:GOk g K):∀(n:Nat) (al:List Bool),(∀i:Nat,i<g.aB.length->al.getD i false=true->R6 g K (i:Int))->∀i:Nat,i<g.aB.length->(Ha g n al).getD i false=true->R6 g K (i:Int)
 |0,al,h,i,hi,hx=>h i hi hx
 |n+1,al,h,i,hi,hx=>by
  have B:=Ev f h g.next.length (by rw[f.len];exact zD _);unfold Ha at hx;split at hx
  ·exact Cl f n _ B i hi hx
  ·exact B i hi hx
theorem Lq{g:B0}{K:Nat}(D:GOk g K){i:Nat}(f:i<g.aB.length)(G:(Ua g).getD i false=true):R6 g K (i:Int):=by
 refine Cl D _ _ (fun i f h=>⟨[],fun k B=>by simp at B,?_⟩) i f G;show Z4 g (i:Int)≠ -1;unfold Z4;rw[if_neg (by omega),zH];simpa[f]using h
theorem Rm{g:B0}{K:Nat}(f:GOk g K){s t k:Nat}(U:s<g.aB.length)(G:k<K)(h:W0 (G0 g) (s:Int) k=(t:Int)):R6 (G0 g) K (t:Int):=by
 rw[Jh f U G]at h;rcases J8 f (s:=(s:Int)) (by omega) (by omega) G with e|e
 ·rw[e]at h;simp at h
 ·split at h
  ·rename_i B;rw[h]at B e;simp only[yK,zH]at B;obtain⟨J,D,M⟩:=Lq f (i:=t) (by omega) B.2;exact⟨J,D,by rw[R9 f J t D (by omega)];exact M⟩
  ·omega
theorem Lv(aE:List Int):∀(l m:List Int),l.length=m.length->(∀k,k<l.length->N4 aE (l.getD k 0) (m.getD k 0)=true)->Oe aE l m=true
 | [],m,_,_=>rfl
 |x::l,[],hl,_=>by simp at hl
 |x::l,y::m,hl,h=>by
  unfold Oe;simp only[List.headD_cons,List.tail_cons,yK];refine⟨by have:=h 0 (by simp);simpa using this,Lv aE l m (by simpa using hl) (fun k f=>?_)⟩;have:=h (k+1) (by simp;omega);simpa using this
theorem Cn{g:B0}{K:Nat}(f:GOk g K){aE:List Int}{a b:Nat}(D:a<g.aB.length)(G:b<g.aB.length)(h:Md g K aE a b):I7 g aE a b=true:=by
 have B:=f.row a (by rw[f.len];exact D);have M:=f.row b (by rw[f.len];exact G);unfold I7;rw[if_neg (by
  rintro(e|e)
  ·exact e h.1
  ·exact e h.2.1)]
 exact Lv aE _ _ (by rw[B.1,M.1]) (fun k J=>h.2.2 k (by rw[<-B.1];exact J))
theorem Km(g:B0)(aE:List Int)(n:Nat):∀(f k a:Nat),n<f+k->k<=a->a<n->I7 g aE a n=true->∃e,Rb g aE n f k=some e/\k<=e/\e<=a/\∀j,k<=j->j<e->I7 g aE j n=false
 |0,k,a,hf,h1,h2,_=>by omega
 |f+1,k,a,hf,h1,h2,h3=>by
  unfold Rb;rw[if_pos (by omega)];cases hk:I7 g aE k n with
  |true=>exact⟨k,by simp,zD _,h1,fun j K h=>by omega⟩
  |false=>
   have M:k≠a:=fun e=>by rw[e,h3]at hk;cases hk
   obtain⟨e,D,U,G,J⟩:=Km g aE n f (k+1) a (by omega) (by omega) h2 h3;refine⟨e,by simpa using D,by omega,G,fun j K h=>?_⟩
   by_cases B:j=k
   ·rw[B];exact hk
   ·exact J j (by omega) h
theorem Iv{g:B0}{aE:List Int}{b e:Nat}(h:Rb g aE b (b+1) 0=some e)(G:b<g.aB.length):(U0 g aE g.aB.length).1.getD b 0=(U0 g aE g.aB.length).1.getD e 0:=by
 have B:=Wy g aE b _ _ _ h;rw[Og g aE g.aB.length (b+1) b (by omega) (by omega),Og g aE g.aB.length b e (by omega) B];have f:(U0 g aE (b+1)).1=(U0 g aE b).1++ [(U0 g aE b).1.getD e 0]:=by
  conv=>lhs;unfold U0
  rw[h]
 have D:=X3 g aE b;rw[f,zC,zY (by omega),D,yS];simp
theorem Wr{g:B0}{K:Nat}(B:GOk g K){aE:List Int}{a b:Nat}(G:a<b)(D:b<g.aB.length)(h:Md g K aE a b):(U0 g aE g.aB.length).1.getD a 0=(U0 g aE g.aB.length).1.getD b 0:=by
 obtain⟨e,Z,e2,e3,e4⟩:=Km g aE b (b+1) 0 a (by omega) (yC _) G (Cn B (by omega) D h);rw[Iv Z D]
 by_cases M:e=a
 ·rw[M]
 ·have U:=Wi B (a:=e) (b:=b) (by omega) D (Hk g aE b _ _ _ Z).2;have J:Md g K aE e a:=Md.trans U (Md.symm h);obtain⟨f,f1,f2,f3,f4⟩:=Km g aE a (a+1) 0 e (by omega) (yC _) (by omega) (Cn B (by omega) (by omega) J);rw[Iv f1 (by omega)];have X:f=e:=by
   refine Nat.le_antisymm f3 (xE fun Y=>?_);have V:=Wi B (a:=f) (b:=a) (by omega) (by omega) (Hk g aE a _ _ _ f1).2;have W:Md g K aE f b:=Md.trans V h;have:=e4 f (yC _) Y;rw[Cn B (by omega) D W]at this;cases this
  rw[X]
def Fl:List Int->Nat->Option Nat
 | [],k=>some k
 |x::r,k=>if(k:Int)<x then none else Fl r (if x=(k:Int)then k+1 else k)
theorem So{N:Nat}{aE:List Int}(G:aE.length=N)(V:∀x∈aE,0<=x/\x<(N:Int)):∀(B:List Int) (st f:List Int×List Int),Gq N aE st->Al N B->Fq (L3 aE B st) f->
  Fl (J2 aE f.2 B) st.1.length=some (L3 aE B st).1.length
 | [],st,f,_,_,_=>rfl
 |x::r,st,f,h,hr,hx=>by
  have e:L3 aE (x::r) st=L3 aE r (Y2 aE st x):=rfl;rw[e]at hx⊢;have Z:=hr x (by simp);obtain⟨s1,s2,s3⟩:=Yi G V h Z;obtain⟨r1,r2,r3⟩:=Gb G V r _ s1 (fun y hy=>hr y (by simp[hy]));have M:=So G V r (Y2 aE st x) f s1 (fun y hy=>hr y (by simp[hy])) hx;have e2:J2 aE f.2 (x::r)=(if x != -1 then f.2.getD (aE.getD x.toNat 0).toNat 0 else -1)::J2 aE f.2 r:=rfl;rw[e2];unfold Fl
  by_cases K:x= -1
  ·have e3:Y2 aE st x=st:=by unfold Y2;rw[if_neg (by simp[K])]
   have W:(if(x != -1)=true then f.2.getD (aE.getD x.toNat 0).toNat 0 else -1)= -1:=by rw[if_neg (by simp[K])]
   rw[W,if_neg (by omega),if_neg (by omega)];rw[e3]at M⊢;exact M
  ·have W:(if(x != -1)=true then f.2.getD (aE.getD x.toNat 0).toNat 0 else -1)=f.2.getD (aE.getD x.toNat 0).toNat 0:=by rw[if_pos (by simp[K])]
   have a0:=V _ (K4 (l:=aE) (k:=x.toNat) (by omega) 0);have J:f.2.getD (aE.getD x.toNat 0).toNat 0=(Y2 aE st x).2.getD (aE.getD x.toNat 0).toNat 0:=by
    have X:=s3 K;rw[hx.2 _ (by rw[r2.2 _ X];exact X),r2.2 _ X]
   rw[W,J]
   by_cases Y:st.2.getD (aE.getD x.toNat 0).toNat 0= -1
   ·have D:(x != -1 && st.2.getD (aE.getD x.toNat 0).toNat 0== -1)=true:=by simp only[yK,bne_iff_ne,ne_eq,beq_iff_eq];exact⟨K,Y⟩
    have U:Y2 aE st x=(st.1++ [x],st.2.set (aE.getD x.toNat 0).toNat (st.1.length:Int)):=by unfold Y2;rw[if_pos D]
    have hl:=h.ok.len;have e6:(Y2 aE st x).2.getD (aE.getD x.toNat 0).toNat 0=(st.1.length:Int):=by
     rw[U];show(st.2.set _ _).getD _ 0=_;rw[Ib _ _ _ _ (by omega),if_pos rfl]
    have e7:(Y2 aE st x).1.length=st.1.length+1:=by rw[U];simp
    rw[e6,if_neg (by omega),if_pos rfl,<-e7];exact M
   ·have D:¬(x != -1 && st.2.getD (aE.getD x.toNat 0).toNat 0== -1)=true:=by simp only[yK,bne_iff_ne,ne_eq,beq_iff_eq];exact fun e=>Y e.2
    have U:Y2 aE st x=st:=by unfold Y2;rw[if_neg D]
    rw[U]at M⊢;rcases h.aE (aE.getD x.toNat 0).toNat (by omega)with e|⟨e,e',_⟩
    ·exact absurd e Y
    ·rw[if_neg (by omega),if_neg (by omega)];exact M
def I9:List (List Int)->Nat->Nat->Option Nat
 | [],s,k=>some k
 |r::rs,s,k=>if k<=s then none else(Fl r k).bind (fun f=>I9 rs (s+1) f)
theorem Xi{g:B0}{K:Nat}(J:GOk g K){aE:List Int}(B:aE.length=g.aB.length)(M:∀x∈aE,0<=x/\x<(g.aB.length:Int)):∀(f i:Nat) (st:List Int×List Int),Gq g.aB.length aE st->Fq st (V5 g aE f i st)
 |0,i,st,_=>Fq.refl _
 |f+1,i,st,h=>by
  unfold V5;split
  ·rename_i G;have U:=h.ok.ok _ (K4 (l:=st.1) G 0);have D:=(J.row (st.1.getD i 0).toNat (by rw[J.len];omega)).2;obtain⟨V,W,X⟩:=Gb B M _ st h D;exact W.trans (Xi J B M f (i+1) _ V)
  ·exact Fq.refl _
theorem En{g:B0}{K:Nat}(Y:GOk g K){aE:List Int}(D:aE.length=g.aB.length)(V:∀x∈aE,0<=x/\x<(g.aB.length:Int)):∀(f i:Nat) (st B:List Int×List Int),f+i=g.aB.length+1->i<=st.1.length->Gq g.aB.length aE st->V5 g aE f i st=B->
  I9 ((B.1.drop i).map (fun n=>J2 aE B.2 (g.next.getD n.toNat []))) i st.1.length=some B.1.length
 |0,i,st,B,hf,hi,h,_=>by have:=h.ok.sum;omega
 |f+1,i,st,B,hf,hi,h,hfin=>by
  have G:=Xi Y D V (f+1) i st h;rw[hfin]at G;unfold V5 at hfin
  by_cases M:i<st.1.length
  ·rw[if_pos M]at hfin;have a0:=h.ok.ok _ (K4 (l:=st.1) M 0);have U:=(Y.row (st.1.getD i 0).toNat (by rw[Y.len];omega)).2;obtain⟨Z,r2,r3⟩:=Gb D V _ st h U;have a1:=r2.1.length_le;have ih:=En Y D V f (i+1) _ B (by omega) (by omega) Z hfin;have J:=Xi Y D V f (i+1) _ Z;rw[hfin]at J;have W:i<B.1.length:=by have:=G.1.length_le;omega
   have X:B.1[i]=st.1.getD i 0:=by
    have:=Hc G.1 M;rw[<-this];simp[W]
   rw[yA W,List.map_cons,X];unfold I9;rw[if_neg (by omega),So D V _ st B h U J];exact ih
  ·rw[if_neg M]at hfin;subst hfin;rw[List.drop_eq_nil_of_le (by omega)];rfl
theorem SL{g:B0}{K:Nat}(X:GOk g K)(G:0<g.aB.length){aE:List Int}(B:aE.length=g.aB.length)(M:∀x∈aE,0<=x/\x<(g.aB.length:Int)):Gq g.aB.length aE ([0],(List.replicate aE.length (-1:Int)).set (aE.getD 0 0).toNat 0):=by
 have J:=M _ (K4 (l:=aE) (k:=0) (by omega) 0);have h:(aE.getD 0 0).toNat<(List.replicate aE.length (-1:Int)).length:=by rw[yD];omega
 have f:∀d,d<aE.length->(List.replicate aE.length (-1:Int)).getD d 0= -1:=fun d D=>by simp[D]
 refine⟨⟨?_,by simp[B],fun x J=>by simp at J;omega⟩,⟨by simp,rfl⟩,fun j U=>?_,fun d D=>?_⟩
 ·have V:=Lj (List.replicate aE.length (-1:Int)) (aE.getD 0 0).toNat 0 h (by rw[f _ (by omega)]) (by omega);have W:Tt (List.replicate aE.length (-1:Int))=aE.length:=by simp[Tt]
  simp only[yH,List.length_nil];omega
 ·simp only[yH,List.length_nil]at U;have:j=0:=by omega
  subst this;simp only[List.getD_cons_zero,Int.toNat_zero];rw[Ib _ _ _ _ h,if_pos rfl];rfl
 ·simp only;rw[Ib _ _ _ _ h];split
  ·rename_i e
   right
   refine⟨by omega,by simp,?_⟩;simp only[Int.toNat_zero,List.getD_cons_zero];omega
  ·exact .inl (f d (by omega))
theorem Vv{g:B0}{K:Nat}(J:GOk g K)(D:0<g.aB.length){aE:List Int}(f:aE.length=g.aB.length)(G:∀x∈aE,0<=x/\x<(g.aB.length:Int)):
  I9 (E1 g aE).next 0 1=some (E1 g aE).aB.length:=by
 have X:=G _ (K4 (l:=aE) (k:=0) (by omega) 0);have V:(aE.getD 0 0).toNat<(List.replicate aE.length (-1:Int)).length:=by rw[yD];omega
 have M:∀d,d<aE.length->(List.replicate aE.length (-1:Int)).getD d 0= -1:=fun d W=>by simp[W]
 have B:Gq g.aB.length aE ([0],(List.replicate aE.length (-1:Int)).set (aE.getD 0 0).toNat 0):=SL J D f G;have h:=En J f G (aE.length+1) 0 ([0],(List.replicate aE.length (-1:Int)).set (aE.getD 0 0).toNat 0) (A2 g aE) (by omega) (by simp) B rfl;rw[xG]at h;have U:(E1 g aE).aB.length=(A2 g aE).1.length:=by simp[E1]
 rw[U];exact h
def R5(g:B0)(K:Nat)(a b:Int):Prop:=∀f:List Nat,(∀k∈f,k<K)->Z4 g (A3 g a f)=Z4 g (A3 g b f)
theorem R5.symm{g:B0}{K:Nat}{a b:Int}(h:R5 g K a b):R5 g K b a:=fun B f=>(h B f).symm
theorem R5.trans{g:B0}{K:Nat}{a b c:Int}(h:R5 g K a b)(D:R5 g K b c):R5 g K a c:=fun B f=>(h B f).trans (D B f)
theorem R5.step{g:B0}{K:Nat}{a b:Int}(h:R5 g K a b){k:Nat}(D:k<K):R5 g K (W0 g a k) (W0 g b k):=fun G B=>h (k::G) (fun x f=>by
 rw[zU]at f;rcases f with rfl|f
 ·exact D
 ·exact B x f)
theorem Ax(g:B0)(f:List Nat):Z4 g (A3 g (-1) f)= -1:=by rw[S9 g f (-1) (by omega)];split <;>rfl
theorem Ks{g:B0}{K:Nat}(J:GOk g K){aE:List Int}(f:Xo g K aE):∀(h:List Nat) (a b:Nat),(∀k∈h,k<K)->a<g.aB.length->b<g.aB.length->aE.getD a 0=aE.getD b 0->Z4 g (A3 g (a:Int) h)=Z4 g (A3 g (b:Int) h)
 | [],a,b,_,ha,hb,he=>by
  show Z4 g (a:Int)=Z4 g (b:Int);unfold Z4;rw[if_neg (by omega),if_neg (by omega),zH,zH];exact(f a b ha hb he).1
 |k::h,a,b,hk,ha,hb,he=>by
  show Z4 g (A3 g (W0 g (a:Int) k) h)=Z4 g (A3 g (W0 g (b:Int) k) h);have B:=(f a b ha hb he).2 k (hk k (by simp));have X:=J8 J (s:=(a:Int)) (by omega) (by omega) (hk k (by simp));have Y:=J8 J (s:=(b:Int)) (by omega) (by omega) (hk k (by simp));have V:W0 g (a:Int) k=(g.next.getD a []).getD k 0:=by unfold W0;rw[if_neg (by omega),zH]
  have W:W0 g (b:Int) k=(g.next.getD b []).getD k 0:=by unfold W0;rw[if_neg (by omega),zH]
  rw[<-V,<-W]at B;generalize W0 g (a:Int) k=x at*;generalize W0 g (b:Int) k=y at*;unfold N4 at B
  by_cases D:(x== -1 || y== -1)=true
  ·rw[if_pos D]at B;have:x=y:=by simpa using B
   rw[this]
  ·rw[if_neg D]at B;simp only[yZ,beq_iff_eq,not_or]at D;obtain⟨M,rfl⟩:∃M:Nat,x=(M:Int):=⟨x.toNat,by omega⟩;obtain⟨U,rfl⟩:∃U:Nat,y=(U:Int):=⟨y.toNat,by omega⟩;exact Ks J f h M U (fun k G=>hk k (by simp[G])) (by omega) (by omega) (by simpa using B)
def Iw(g:B0)(K:Nat):Prop:=∀s t k:Nat,s<g.aB.length->k<K->W0 g (s:Int) k=(t:Int)->R6 g K (t:Int)
theorem Kq{g:B0}{K:Nat}(U:GOk g K)(hl:Iw g K){aE:List Int}(hc:∀a b:Nat,a<g.aB.length->b<g.aB.length->R5 g K (a:Int) (b:Int)->aE.getD a 0=aE.getD b 0):
  ∀a b:Nat,a<g.aB.length->b<g.aB.length->R5 g K (a:Int) (b:Int)->(U0 g aE g.aB.length).1.getD a 0=(U0 g aE g.aB.length).1.getD b 0:=by
 have M:∀a b:Nat,a<g.aB.length->b<g.aB.length->R5 g K (a:Int) (b:Int)->Md g K aE a b:=by
  intro a b G J h;refine⟨hc a b G J h,?_,fun k f=>?_⟩
  ·have:=h [] (fun k f=>by simp at f);have W:Z4 g (a:Int)=Z4 g (b:Int):=this;unfold Z4 at W;rw[if_neg (by omega),if_neg (by omega),zH,zH]at W;exact W
  ·have X:=h.step f;have ia:=J8 U (s:=(a:Int)) (by omega) (by omega) f;have ib:=J8 U (s:=(b:Int)) (by omega) (by omega) f;have ea:W0 g (a:Int) k=(g.next.getD a []).getD k 0:=by unfold W0;rw[if_neg (by omega),zH]
   have eb:W0 g (b:Int) k=(g.next.getD b []).getD k 0:=by unfold W0;rw[if_neg (by omega),zH]
   have la:=fun t=>hl a t k G f
   have lb:=fun t=>hl b t k J f
   rw[<-ea,<-eb];generalize W0 g (a:Int) k=x at*;generalize W0 g (b:Int) k=y at*;unfold N4
   by_cases hx:x= -1
   ·subst hx
    by_cases V:y= -1
    ·subst V;simp
    ·exfalso
     obtain⟨D,rfl⟩:∃D:Nat,y=(D:Int):=⟨y.toNat,by omega⟩;obtain⟨ks,Y,Z⟩:=lb D rfl;have:=X ks Y;rw[Ax]at this;exact Z this.symm
   ·by_cases V:y= -1
    ·exfalso
     subst V;obtain⟨B,rfl⟩:∃B:Nat,x=(B:Int):=⟨x.toNat,by omega⟩;obtain⟨ks,Y,Z⟩:=la B rfl;have:=X ks Y;rw[Ax]at this;exact Z this
    ·rw[if_neg (by simp[hx,V])];obtain⟨B,rfl⟩:∃B:Nat,x=(B:Int):=⟨x.toNat,by omega⟩;obtain⟨D,rfl⟩:∃D:Nat,y=(D:Int):=⟨y.toNat,by omega⟩;simp only[zH,beq_iff_eq];exact hc B D (by omega) (by omega) X
 intro a b G J h;rcases Nat.lt_trichotomy a b with e|e|e
 ·exact Wr U e J (M a b G J h)
 ·rw[e]
 ·exact(Wr U e G (M b a J G h.symm)).symm
theorem Bl{g:B0}{K:Nat}(G:GOk g K)(D:Iw g K):∀(f:Nat) (aE:List Int) (B:Nat),(∀a b:Nat,a<g.aB.length->b<g.aB.length->R5 g K (a:Int) (b:Int)->aE.getD a 0=aE.getD b 0)->
  ∀a b:Nat,a<g.aB.length->b<g.aB.length->R5 g K (a:Int) (b:Int)->(C9 g f aE B).getD a 0=(C9 g f aE B).getD b 0
 |0,aE,B,h=>h
 |f+1,aE,B,h=>by
  unfold C9;split
  ·exact Kq G D h
  ·exact Bl G D f _ _ (Kq G D h)
theorem BJ(n k:Nat):(List.replicate n (0:Int)).getD k 0=0:=by
 rw[zC,yM];split <;>rfl
theorem BK{g:B0}{K:Nat}(B:GOk g K)(f:0<g.aB.length)(M:Iw g K){a b:Nat}(D:a<g.aB.length)(G:b<g.aB.length):(U1 g).getD a 0=(U1 g).getD b 0↔R5 g K (a:Int) (b:Int):=by
 constructor
 ·intro h U J;exact Ks B (Yc B f) U a b J D G h
 ·exact Bl B M _ _ _ (fun a b _ _ _=>by rw[BJ,BJ]) a b D G
theorem XT{g:B0}{K:Nat}(B:GOk g K):Iw (G0 g) K:=fun s t k D f h=>Rm B D f h
theorem ZB{g:B0}{K:Nat}(h:GOk g K){i:Nat}(f:i<g.aB.length):(Ua g).getD i false=true↔R6 g K (i:Int):=by
 constructor
 ·exact Lq h f
 ·rintro⟨G,B,D⟩;exact Xj h G i B f D
def Occ(f:List (List Int))(c:Nat)(p k:Nat):Prop:=p<f.length/\k<(f.getD p []).length/\(f.getD p []).getD k 0=(c:Int)
def UZ(p k f h:Nat):Prop:=p<f\/(p=f/\k<h)
theorem Uk:∀(l:List Int) (k f c:Nat),Fl l k=some f->k<=c->c<f->∃i,i<l.length/\l.getD i 0=(c:Int)
 | [],k,f,c,h,h1,h2=>by cases h;omega
 |x::l,k,f,c,h,h1,h2=>by
  unfold Fl at h;split at h
  ·cases h
  ·by_cases B:x=(k:Int)
   ·rw[if_pos B]at h
    by_cases G:c=k
    ·exact⟨0,by simp,by simp[B,G]⟩
    ·obtain⟨i,J,D⟩:=Uk l (k+1) f c h (by omega) h2;exact⟨i+1,by simp;omega,by simpa using D⟩
   ·rw[if_neg B]at h;obtain⟨i,J,D⟩:=Uk l k f c h h1 h2;exact⟨i+1,by simp;omega,by simpa using D⟩
theorem Ov:∀(l:List Int) (k G:Nat),Fl l k=some G->∀j c B:Nat,j<l.length->l.getD j 0=(B:Int)->c<B->c<k\/∃i,i<j/\l.getD i 0=(c:Int)
 | [],k,G,h,j,c,B,hj,_,_=>by simp at hj
 |x::l,k,G,h,j,c,B,hj,he,hc=>by
  unfold Fl at h;split at h
  ·cases h
  ·rename_i K;cases j with
   |zero=>
    left
    simp at he;omega
   |succ j=>
    simp only[List.getD_cons_succ,yH]at he hj;rcases Ov l _ _ h j c B (by omega) he hc with e|⟨i,M,J⟩
    ·by_cases f:x=(k:Int)
     ·rw[if_pos f]at e
      by_cases D:c=k
      ·exact .inr ⟨0,by omega,by simp[f,D]⟩
      ·exact .inl (by omega)
     ·rw[if_neg f]at e;exact .inl e
    ·exact .inr ⟨i+1,by omega,by simpa using J⟩
theorem Qe:∀(J:List (List Int)) (s k n:Nat),I9 J s k=some n->∀f j c B:Nat,Occ J B f j->c<B->c<k\/∃p i,Occ J c p i/\UZ p i f j
 | [],s,k,n,h,f,j,c,B,ho,hc=>by have:=ho.1;simp at this
 |r::rs,s,k,n,h,f,j,c,B,ho,hc=>by
  unfold I9 at h;split at h
  ·cases h
  ·cases hr:Fl r k with
   |none=>rw[hr]at h;cases h
   |some k1=>
    rw[hr]at h;have V:I9 rs (s+1) k1=some n:=h;obtain⟨Y,D,G⟩:=ho;cases f with
    |zero=>
     simp only[List.getD_cons_zero]at D G;rcases Ov r k k1 hr j c B D G hc with e|⟨i,K,M⟩
     ·exact .inl e
     ·exact .inr ⟨0,i,⟨by simp,by simp;omega,by simpa using M⟩,.inr ⟨rfl,K⟩⟩
    |succ f=>
     simp only[List.getD_cons_succ,yH]at Y D G;rcases Qe rs (s+1) k1 n V f j c B ⟨by omega,D,G⟩ hc with e|⟨p,i,⟨q1,Z,q3⟩,X⟩
     ·by_cases W:c<k
      ·exact .inl W
      ·obtain⟨i,K,M⟩:=Uk r k k1 c hr (by omega) e;exact .inr ⟨0,i,⟨by simp,by simpa using K,by simpa using M⟩,.inl (by omega)⟩
     ·refine .inr ⟨p+1,i,⟨by simp;omega,by simpa using Z,by simpa using q3⟩,?_⟩;rcases X with e|⟨e1,U⟩
      ·exact .inl (by omega)
      ·exact .inr ⟨by omega,U⟩
theorem Mf:∀(f:List (List Int)) (s k n:Nat),I9 f s k=some n->∀c,k<=c->c<n->∃p i,Occ f c p i/\p+s<c
 | [],s,k,n,h,c,h1,h2=>by cases h;omega
 |r::rs,s,k,n,h,c,h1,h2=>by
  unfold I9 at h;split at h
  ·cases h
  ·rename_i V;cases hr:Fl r k with
   |none=>rw[hr]at h;cases h
   |some k1=>
    rw[hr]at h;have B:I9 rs (s+1) k1=some n:=h
    by_cases D:c<k1
    ·obtain⟨i,G,J⟩:=Uk r k k1 c hr h1 D;exact⟨0,i,⟨by simp,by simpa using G,by simpa using J⟩,by omega⟩
    ·obtain⟨p,i,⟨W,K,M⟩,U⟩:=Mf rs (s+1) k1 n B c (by omega) h2;exact⟨p+1,i,⟨by simp;omega,by simpa using K,by simpa using M⟩,by omega⟩
theorem PD(f:I0):∀(K S:List I0),Fl (P8 f K S).1 S.length=some (P8 f K S).2.length
 | [],S=>rfl
 |x::K,S=>by
  unfold P8;simp only;have B:C6 S (f.and x)<=(S.length:Int):=by
   unfold C6;split
   ·omega
   ·have:=Fi S (f.and x);omega
  show(if(S.length:Int)<C6 S (f.and x)then none else Fl _ (if C6 S (f.and x)=(S.length:Int)then S.length+1 else S.length))=_;rw[if_neg (by omega)];have h:=PD f K (if C6 S (f.and x)=(S.length:Int)then S++ [f.and x]else S)
  by_cases e:C6 S (f.and x)=(S.length:Int)
  ·rw[if_pos e]at h⊢;rw[if_pos e];simpa using h
  ·rw[if_neg e]at h⊢;rw[if_neg e];exact h
theorem Vq(R:E0)(f:List I0):∀(n i:Nat) (S:List I0) (g B:B0),F4 R f n i S g=some B->g.next.length=i->i<=S.length->∃J,B.next=g.next++J/\I9 J i S.length=some B.next.length
 |0,i,S,g,B,h,_,_=>by simp[F4]at h
 |n+1,i,S,g,B,h,hl,hi=>by
  unfold F4 at h
  by_cases D:i<S.length
  ·rw[if_pos D]at h;simp only at h;generalize K:(if 0<i then R.after (S.getD i I0.none)else R.first)=aft at h;have M:=Xg aft f S;have G:=PD aft f S;generalize U:P8 aft f S=r at h M G;split at h
   ·cases h
   ·have X:=M.1.length_le;obtain⟨J,V,W⟩:=Vq R f n (i+1) r.2 _ B h (by simp[hl]) (by omega);refine⟨r.1::J,by rw[V];simp,?_⟩;unfold I9;rw[if_neg (by omega),G];exact W
  ·rw[if_neg D]at h;cases h;exact⟨[],by simp,by unfold I9;rw[hl,show i=S.length by omega]⟩
theorem UA{R:E0}{f:List I0}{g:B0}(h:J6 R f=some g):I9 g.next 0 1=some g.next.length:=by
 obtain⟨G,D,B⟩:=Vq R f 63 0 [I0.none] B0.aR g h rfl (by simp);have:g.next=G:=by rw[D];rfl
 rw[this]at B⊢;exact B
theorem Bk{P:Nat->Prop}:∀a,P a->∃m,m<=a/\P m/\∀j,j<m->¬P j:=by
 intro a
 induction a using Nat.strongRecOn with
 |ind a ih=>
  intro h
  by_cases D:∃j,j<a/\P j
  ·obtain⟨j,f,B⟩:=D;obtain⟨m,M,G,J⟩:=ih j f B;exact⟨m,by omega,G,J⟩
  ·exact⟨a,zD _,h,fun j f B=>D ⟨j,f,B⟩⟩
theorem Occ.first{B:List (List Int)}{c p k:Nat}(h:Occ B c p k):∃f G,f<=p/\Occ B c f G/\∀J D,Occ B c J D->¬UZ J D f G:=by
 obtain⟨f,W,⟨k1,X⟩,Y⟩:=Bk (P:=fun p=>∃k,Occ B c p k) p ⟨k,h⟩;obtain⟨G,_,Z,h5⟩:=Bk (P:=fun k=>Occ B c f k) k1 X;refine⟨f,G,W,Z,fun J D M hl=>?_⟩;rcases hl with e|⟨U,V⟩
 ·exact Y J e ⟨D,M⟩
 ·subst U;exact h5 D V M
structure Ga(g:B0)(K:Nat):Prop where
 ok:GOk g K
 bE:0<g.aB.length
 jC:I9 g.next 0 1=some g.next.length
 up:∀(s k:Nat),s<g.aB.length->k<K->W0 g (s:Int) k≠0
def Zv(g:B0)(K:Nat)(a:Nat):Prop:=a<g.aB.length/\(a=0\/R6 g K (a:Int))
structure Ea(g:B0)(K:Nat)(F:List Nat):Prop where
 mem:∀a,a∈F↔(Zv g K a/\∀b,b<a->¬R5 (G0 g) K (b:Int) (a:Int))
 bJ:F.Pairwise (·< ·)
section
variable{g:B0}{K:Nat}{F:List Nat}
theorem Ji(h:Ga g K){s k:Nat}(B:s<g.aB.length)(f:k<K):W0 (G0 g) (s:Int) k= -1\/∃t:Nat,t<g.aB.length/\W0 (G0 g) (s:Int) k=(t:Int)/\W0 g (s:Int) k=(t:Int)/\R6 g K (t:Int):=by
 rw[Jh h.ok B f];rcases J8 h.ok (s:=(s:Int)) (by omega) (by omega) f with e|e
 ·rw[e];exact .inl (by simp)
 ·obtain⟨t,D⟩:∃t:Nat,W0 g (s:Int) k=(t:Int):=⟨(W0 g (s:Int) k).toNat,by omega⟩;rw[D]at e⊢;rw[zH];cases ha:(Ua g).getD t false with
  |false=>exact .inl (by simp)
  |true=>exact .inr ⟨t,by omega,by rw[if_pos (by simp)],rfl,(ZB h.ok (by omega)).1 ha⟩
theorem Nk(h:Ga g K){s k t:Nat}(B:s<g.aB.length)(f:k<K)(e:W0 g (s:Int) k=(t:Int))(D:R6 g K (t:Int)):W0 (G0 g) (s:Int) k=(t:Int):=by
 have G:=J8 h.ok (s:=(s:Int)) (by omega) (by omega) f;rw[Jh h.ok B f,e,zH,(ZB h.ok (by omega)).2 D,if_pos (by simp)]
theorem ZC(h:Ga g K){s k t:Nat}(J:k<K)(e:W0 g (s:Int) k=(t:Int))(M:R6 g K (t:Int)):R6 g K (s:Int):=by
 obtain⟨B,D,G⟩:=M;refine⟨k::B,fun x f=>?_,?_⟩
 ·rw[zU]at f;rcases f with rfl|f
  ·exact J
  ·exact D x f
 ·show Z4 g (A3 g (W0 g (s:Int) k) B)≠ -1;rw[e];exact G
theorem Im(h:Ga g K){a b:Nat}(J:a<g.aB.length)(M:b<g.aB.length)(D:R5 (G0 g) K (a:Int) (b:Int))(U:R6 g K (a:Int)):R6 g K (b:Int):=by
 obtain⟨B,f,G⟩:=U;refine⟨B,f,?_⟩;rw[<-R9 h.ok B b f M,<-D B f,R9 h.ok B a f J];exact G
theorem Mm(h:Ga g K){c p k:Nat}:Occ g.next c p k↔(p<g.aB.length/\k<K/\W0 g (p:Int) k=(c:Int)):=by
 have e:∀p:Nat,W0 g (p:Int) k=(g.next.getD p []).getD k 0:=fun p=>by unfold W0;rw[if_neg (by omega),zH]
 rw[e];constructor
 ·rintro⟨f,B,D⟩;have:=h.ok.row p f;rw[h.ok.len]at f;exact⟨f,by rw[<-this.1];exact B,D⟩
 ·rintro⟨f,B,D⟩;rw[<-h.ok.len]at f;exact⟨f,by rw[(h.ok.row p f).1];exact B,D⟩
theorem Ea.jA(J:Ea g K F)(h:Ga g K){a:Nat}(f:Zv g K a):∃b,b∈F/\b<=a/\R5 (G0 g) K (b:Int) (a:Int):=by
 obtain⟨b,D,B,G⟩:=Bk (P:=fun b=>R5 (G0 g) K (b:Int) (a:Int)) a (fun W V=>rfl);refine⟨b,(J.mem b).2 ⟨⟨by have:=f.1;omega,?_⟩,fun j M U=>G j M (U.trans B)⟩,D,B⟩;rcases f.2 with e|e
 ·left;omega
 ·exact .inr (Im h f.1 (by have:=f.1;omega) B.symm e)
theorem Ea.dR(B:Ea g K F){a b:Nat}(D:a∈F)(f:R5 (G0 g) K (b:Int) (a:Int)):a<=b:=by
 refine xE fun h=>((B.mem a).1 D).2 b h f
theorem E9{l:List Nat}(h:l.Pairwise (·< ·)){i j:Nat}(f:i<l.length)(B:j<l.length):l[i]<l[j]↔i<j:=by
 constructor
 ·intro G;refine Nat.lt_of_not_le fun D=>?_
  rcases yE j i with e|e
  ·have:=List.pairwise_iff_getElem.1 h j i B f e;omega
  ·have:i=j:=by omega
   subst this;omega
 ·exact fun e=>List.pairwise_iff_getElem.1 h i j f B e
end
structure Ad2(g:B0)(K:Nat)(aE:List Int):Prop where
 fQ:aE.length=g.aB.length
 jU:∀x∈aE,0<=x/\x<(g.aB.length:Int)
 ca:∀a b:Nat,a<g.aB.length->b<g.aB.length->(aE.getD a 0=aE.getD b 0↔R5 (G0 g) K (a:Int) (b:Int))
theorem Vg{g:B0}{K:Nat}(h:Ga g K):Ad2 g K (U1 (G0 g)):=by
 have G:=E5 h.ok;have f:0<(G0 g).aB.length:=h.bE;exact⟨F8 _,B9 _ f,fun a b B D=>BK G f (XT h.ok) B D⟩
def L5(g:B0)(K:Nat)(j a:Nat):Prop:=j<(A2 (G0 g) (U1 (G0 g))).1.length/\R5 (G0 g) K ((((A2 (G0 g) (U1 (G0 g))).1.getD j 0).toNat:Nat):Int) (a:Int)
section
variable{g:B0}{K:Nat}{F:List Nat}
theorem Gi(h:Ga g K){j:Nat}(B:j<(A2 (G0 g) (U1 (G0 g))).1.length):((A2 (G0 g) (U1 (G0 g))).1.getD j 0).toNat<g.aB.length:=by
 have f:=Vg h;obtain⟨D,_⟩:=J7 (E5 h.ok) h.bE f.fQ f.jU;have:=D.ok.ok _ (K4 (l:=(A2 (G0 g) (U1 (G0 g))).1) B 0);have e:(G0 g).aB.length=g.aB.length:=rfl;omega
theorem L5.bX(h:Ga g K){i j a:Nat}(V:a<g.aB.length)(f:L5 g K i a)(B:L5 g K j a):i=j:=by
 have D:=Vg h;obtain⟨G,_⟩:=J7 (E5 h.ok) h.bE D.fQ D.jU;have U:=(D.ca _ _ (Gi h f.1) (Gi h B.1)).2 (f.2.trans B.2.symm);have J:=G.num i f.1;have M:=G.num j B.1;rw[U,M]at J;omega
theorem L5.gV(h:Ga g K){i a b:Nat}(f:L5 g K i a)(B:L5 g K i b):R5 (G0 g) K (a:Int) (b:Int):=f.2.symm.trans B.2
theorem L5.step(h:Ga g K){j a k:Nat}(U:a<g.aB.length)(G:L5 g K j a)(Z:k<K):
  (W0 (E1 (G0 g) (U1 (G0 g))) (j:Int) k= -1/\W0 (G0 g) (a:Int) k= -1)\/∃D f:Nat,W0 (E1 (G0 g) (U1 (G0 g))) (j:Int) k=(D:Int)/\W0 (G0 g) (a:Int) k=(f:Int)/\f<g.aB.length/\L5 g K D f:=by
 have B:=Vg h;have V:=E5 h.ok;rcases Ii V h.bE B.fQ B.jU (Yc V h.bE) G.1 U ((B.ca _ _ (Gi h G.1) U).2 G.2) Z with e|⟨D,f,W,X,J,M,Y⟩
 ·exact .inl e
 ·exact .inr ⟨D,f,W,X,M,J,(B.ca _ _ (Gi h J) M).1 Y⟩
theorem L5.zero(h:Ga g K):L5 g K 0 0:=by
 have f:=Vg h;obtain⟨B,_⟩:=J7 (E5 h.ok) h.bE f.fQ f.jU;exact⟨B.bE.1,by rw[B.bE.2];exact fun G D=>rfl⟩
theorem L5.all(h:Ga g K):∀a,Zv g K a->∃j,L5 g K j a:=by
 intro a
 induction a using Nat.strongRecOn with
 |ind a ih=>
  intro J
  by_cases G:a=0
  ·subst G;exact⟨0,L5.zero h⟩
  ·have M:R6 g K (a:Int):=by rcases J.2 with e|e;exact absurd e G;exact e
   obtain⟨p,k,Y,hp⟩:=Mf g.next 0 1 _ h.jC a (by omega) (by rw[h.ok.len];exact J.1);obtain⟨B,D,U⟩:=(Mm h).1 Y;obtain⟨j,X⟩:=ih p (by omega) ⟨B,.inr (ZC h D U M)⟩;have e:=Nk h B D U M;rcases X.step h B D with⟨_,f⟩|⟨Z,V,_,f,_,W⟩
   ·rw[e]at f;omega
   ·rw[e]at f;have:a=V:=by omega
    subst this;exact⟨Z,W⟩
theorem L5.kO(h:Ga g K){j:Nat}(J:j<(A2 (G0 g) (U1 (G0 g))).1.length):∃a,Zv g K a/\L5 g K j a:=by
 have D:=Vg h;have B:=Gi h J;refine⟨_,⟨B,?_⟩,J,fun ks hk=>rfl⟩
 by_cases h0:j=0
 ·left
  obtain⟨hv,_⟩:=J7 (E5 h.ok) h.bE D.fQ D.jU;rw[h0,hv.bE.2];rfl
 ·right
  have M:=Vv (E5 h.ok) h.bE D.fQ D.jU;have el:(E1 (G0 g) (U1 (G0 g))).aB.length=(A2 (G0 g) (U1 (G0 g))).1.length:=by simp[E1]
  have en:(E1 (G0 g) (U1 (G0 g))).next.length=(A2 (G0 g) (U1 (G0 g))).1.length:=by simp[E1]
  obtain⟨p,k,⟨G,o2,o3⟩,hp⟩:=Mf _ 0 1 _ M j (by omega) (by rw[el];exact J);rw[en]at G;have f:=Gi h G;have U:L5 g K p ((A2 (G0 g) (U1 (G0 g))).1.getD p 0).toNat:=⟨G,fun ks hk=>rfl⟩;have Y:((E1 (G0 g) (U1 (G0 g))).next.getD p []).length=K:=by
   have:(E1 (G0 g) (U1 (G0 g))).next.getD p []=J2 (U1 (G0 g)) (A2 (G0 g) (U1 (G0 g))).2 ((G0 g).next.getD ((A2 (G0 g) (U1 (G0 g))).1.getD p 0).toNat []):=by simp[E1,G]
   rw[this];unfold J2;rw[yB];have X:=E5 h.ok;exact(X.row _ (by rw[X.len];exact f)).1
  have W:W0 (E1 (G0 g) (U1 (G0 g))) (p:Int) k=(j:Int):=by unfold W0;rw[if_neg (by omega),zH];exact o3
  rcases U.step h f (by omega) (k:=k)with⟨e,_⟩|⟨j',Z,e,V,e4,e5⟩
  ·rw[W]at e;omega
  ·rw[W]at e;have:j=j':=by omega
   subst this;rcases Ji h f (k:=k) (by omega)with e6|⟨t,t1,t2,t3,t4⟩
   ·rw[V]at e6;omega
   ·rw[V]at t2;have:Z=t:=by omega
    subst this;exact Im h e4 B e5.2.symm t4
theorem KQ(h:Ga g K){c p k:Nat}(G:p<(A2 (G0 g) (U1 (G0 g))).1.length):Occ (E1 (G0 g) (U1 (G0 g))).next c p k↔(k<K/\W0 (E1 (G0 g) (U1 (G0 g))) (p:Int) k=(c:Int)):=by
 have V:(E1 (G0 g) (U1 (G0 g))).next.length=(A2 (G0 g) (U1 (G0 g))).1.length:=by simp[E1]
 have f:=Gi h G;have J:((E1 (G0 g) (U1 (G0 g))).next.getD p []).length=K:=by
  have:(E1 (G0 g) (U1 (G0 g))).next.getD p []=J2 (U1 (G0 g)) (A2 (G0 g) (U1 (G0 g))).2 ((G0 g).next.getD ((A2 (G0 g) (U1 (G0 g))).1.getD p 0).toNat []):=by simp[E1,G]
  rw[this];unfold J2;rw[yB];have D:=E5 h.ok;exact(D.row _ (by rw[D.len];exact f)).1
 have M:W0 (E1 (G0 g) (U1 (G0 g))) (p:Int) k=((E1 (G0 g) (U1 (G0 g))).next.getD p []).getD k 0:=by unfold W0;rw[if_neg (by omega),zH]
 rw[M];constructor
 ·rintro⟨_,U,B⟩;exact⟨by omega,B⟩
 ·rintro⟨U,B⟩;exact⟨by omega,by omega,B⟩
theorem Ea.aQ(D:Ea g K F)(h:Ga g K):∀s,(V:s<F.length)->L5 g K s F[s]:=by
 have hn:=Vg h;have ao:=Vv (E5 h.ok) h.bE hn.fQ hn.jU;intro s
 induction s using Nat.strongRecOn with
 |ind s ih=>
  intro V;have f:=(D.mem F[s]).1 (zG V)
  by_cases h0:F[s]=0
  ·
   have:s=0:=by
    refine Nat.eq_zero_of_not_pos fun hp=>?_
    have:=(E9 D.bJ (i:=0) (j:=s) (by omega) V).2 hp;omega
   subst this;rw[h0];exact L5.zero h
  ·obtain⟨i,hi⟩:=L5.all h F[s] f.1;have b0:0<s:=by
    refine Nat.pos_of_ne_zero fun e=>?_
    subst e;have ab:(0:Nat)∈F:=(D.mem 0).2 ⟨⟨h.bE,.inl rfl⟩,fun b hb=>by omega⟩;obtain⟨j,hj,e⟩:=List.getElem_of_mem ab;have:=(E9 D.bJ V hj).1;rcases Nat.eq_zero_or_pos j with ej|ej
    ·subst ej;exact h0 e
    ·have:=(E9 D.bJ V hj).2 ej;omega
   have au:s<=i:=by
    refine xE fun W=>?_
    have ae:=ih i W (by omega);have:=D.dR (zG V) (b:=F[i]) (ae.gV h hi);have:=(E9 D.bJ (i:=i) (j:=s) (by omega) V).2 W;omega
   rcases yE s i with W|a0
   ·exfalso
    obtain⟨a,ha,aa⟩:=L5.kO h (j:=s) (by have:=hi.1;omega);obtain⟨b,hb,_,ad⟩:=D.jA h ha;obtain⟨s2,a9,e2⟩:=List.getElem_of_mem hb;have ac:=(D.mem b).1 hb;have Y:L5 g K s b:=⟨aa.1,aa.2.trans ad.symm⟩;have ar:F[s]<b:=by
     rw[<-e2,E9 D.bJ V a9];refine Nat.lt_of_not_le fun a0=>?_
     rcases yE s2 s with e|e
     ·have:=ih s2 e a9;rw[e2]at this;have:=L5.bX h ac.1.1 this Y;omega
     ·have:s2=s:=by omega
      subst this;rw[<-e2]at Y;have:=L5.bX h f.1.1 Y hi;omega
    have hl:R6 g K (F[s]:Int):=by rcases f.1.2 with e|e;exact absurd e h0;exact e
    obtain⟨p9,k9,ai,aw⟩:=Mf g.next 0 1 _ h.jC F[s] (by omega) (by rw[h.ok.len];exact f.1.1);obtain⟨p,k0,ax,ho,B⟩:=ai.first
    obtain⟨o1,o2,o3⟩:=(Mm h).1 ho;have ak:Zv g K p:=⟨o1,.inr (ZC h o2 o3 hl)⟩;obtain⟨q,hq,az,am⟩:=D.jA h ak;obtain⟨s0,M,e0⟩:=List.getElem_of_mem hq;have a3:=(D.mem q).1 hq;have e4:=Nk h o1 o2 o3 hl;have U:=am.step o2;rw[e4]at U;have an:W0 g (q:Int) k0=(F[s]:Int):=by
     rcases Ji h a3.1.1 o2 with e6|⟨t,t1,t2,t3,t4⟩
     ·exfalso
      rw[e6]at U;obtain⟨ks,k1,k2⟩:=hl;have:=U ks k1;rw[Ax,R9 h.ok ks F[s] k1 f.1.1]at this;exact k2 this.symm
     ·rw[t2]at U;have a0:=D.dR (zG V) U;rcases yE F[s] t with J|ap
      ·exfalso
       have af:Occ g.next t q k0:=(Mm h).2 ⟨a3.1.1,o2,t3⟩;rcases Qe g.next 0 1 _ h.jC q k0 F[s] t af J with e|⟨p2,k2,a1,X⟩
       ·omega
       ·refine B p2 k2 a1 ?_;rcases X with e|⟨e1,e2⟩
        ·exact .inl (by omega)
        ·rcases yE q p with e3|e3
         ·exact .inl (by omega)
         ·exact .inr ⟨by omega,e2⟩
      ·rw[t3,show t=F[s] by omega]
    have ay:p<=q:=by
     refine xE fun J=>?_
     exact B q k0 ((Mm h).2 ⟨a3.1.1,o2,an⟩) (.inl J)
    have aj:p=q:=by omega
    subst aj;have a8:s0<s:=by
     rw[<-E9 D.bJ M V,e0];omega
    have a2:=ih s0 a8 M;rw[e0]at a2;have hG:W0 (E1 (G0 g) (U1 (G0 g))) (s0:Int) k0=(i:Int):=by
     rcases a2.step h o1 o2 with⟨_,e⟩|⟨j',a',e5,e6,e7,e8⟩
     ·rw[e4]at e;omega
     ·rw[e4]at e6;have:F[s]=a':=by omega
      rw[<-this]at e8;rw[e5,L5.bX h f.1.1 e8 hi]
    rcases Qe _ 0 1 _ ao s0 k0 s i ((KQ h a2.1).2 ⟨o2,hG⟩) W with e|⟨j1,k1,a1,X⟩
    ·omega
    ·have av:j1<=s0:=by rcases X with e|⟨e,_⟩ <;>omega
     have Z:=ih j1 (by omega) (by omega);have G:=(D.mem F[j1]).1 (zG (by omega));obtain⟨a4,a5⟩:=(KQ h Z.1).1 a1;rcases Z.step h G.1.1 a4 with⟨e,_⟩|⟨j',a',e5,e6,e7,e8⟩
     ·rw[a5]at e;omega
     ·rw[a5]at e5;have:s=j':=by omega
      subst this;have a0:=D.dR hb (e8.gV h Y);rcases Ji h G.1.1 a4 with e9|⟨t,t1,t2,t3,t4⟩
      ·rw[e6]at e9;omega
      ·rw[e6]at t2;have:a'=t:=by omega
       subst this;have ag:Occ g.next a' F[j1] k1:=(Mm h).2 ⟨G.1.1,a4,t3⟩;rcases Qe g.next 0 1 _ h.jC F[j1] k1 F[s] a' ag (by omega)with e|⟨p2,k2,ah,a7⟩
       ·omega
       ·refine B p2 k2 ah ?_;have a6:F[j1]<p\/(F[j1]=p/\k1<k0):=by
         rcases X with e|⟨e,e'⟩
         ·left;rw[<-e0];exact(E9 D.bJ (by omega) M).2 e
         ·right;subst e;exact⟨e0,e'⟩
        rcases a7 with e|⟨e1,aq⟩
        ·left;omega
        ·rcases a6 with e|⟨e,e'⟩
         ·left;omega
         ·right;exact⟨by omega,by omega⟩
   ·have:i=s:=by omega
    subst this;exact hi
theorem Ea.len(D:Ea g K F)(h:Ga g K):F.length=(E1 (G0 g) (U1 (G0 g))).aB.length:=by
 have V:(E1 (G0 g) (U1 (G0 g))).aB.length=(A2 (G0 g) (U1 (G0 g))).1.length:=by simp[E1]
 rw[V];refine Nat.le_antisymm (xE fun f=>?_) (xE fun f=>?_)
 ·have:=(D.aQ h _ f).1;omega
 ·obtain⟨a,W,B⟩:=L5.kO h f;obtain⟨b,M,_,G⟩:=D.jA h W;obtain⟨X,J,U⟩:=List.getElem_of_mem M;have:=D.aQ h X J;rw[U]at this;have:=L5.bX h ((D.mem b).1 M).1.1 this ⟨B.1,B.2.trans G.symm⟩;omega
theorem Ea.aB(G:Ea g K F)(h:Ga g K){s:Nat}(J:s<F.length):(E1 (G0 g) (U1 (G0 g))).aB.getD s 0=g.aB.getD F[s] 0:=by
 have f:=G.aQ h s J;have U:=Gi h f.1;have V:=((G.mem F[s]).1 (zG J)).1.1;have D:Z4 (G0 g) ((((A2 (G0 g) (U1 (G0 g))).1.getD s 0).toNat:Nat):Int)=Z4 (G0 g) (F[s]:Int):=f.2 [] (fun k M=>by simp at M);unfold Z4 at D;rw[if_neg (by omega),if_neg (by omega),zH,zH]at D;have B:=f.1;rw[<-(show(G0 g).aB=g.aB from rfl),<-D];simp[E1,B]
theorem Ea.next(D:Ea g K F)(h:Ga g K){s k:Nat}(Z:s<F.length)(G:k<K):
  (W0 (E1 (G0 g) (U1 (G0 g))) (s:Int) k= -1/\(W0 g (F[s]:Int) k= -1\/∃t:Nat,W0 g (F[s]:Int) k=(t:Int)/\¬R6 g K (t:Int)))\/
  ∃t W:Nat,∃a0:W<F.length,W0 g (F[s]:Int) k=(t:Int)/\R6 g K (t:Int)/\t<g.aB.length/\W0 (E1 (G0 g) (U1 (G0 g))) (s:Int) k=(W:Int)/\R5 (G0 g) K (F[W]:Int) (t:Int):=by
 have U:=D.aQ h s Z;have M:=((D.mem F[s]).1 (zG Z)).1.1;rcases U.step h M G with⟨J,B⟩|⟨V,X,J,B,e3,Y⟩
 ·left
  refine⟨J,?_⟩;rcases J8 h.ok (s:=(F[s]:Int)) (by omega) (by omega) G with e|e
  ·exact .inl e
  ·right
   refine⟨(W0 g (F[s]:Int) k).toNat,by omega,fun hl=>?_⟩;have:=Nk h M G (t:=(W0 g (F[s]:Int) k).toNat) (by omega) hl;rw[B]at this;omega
 ·right
  rcases Ji h M G with e9|⟨t,t1,t2,t3,t4⟩
  ·rw[B]at e9;omega
  ·rw[B]at t2;have:X=t:=by omega
   subst this;have f:V<F.length:=by
    rw[D.len h];have el:(E1 (G0 g) (U1 (G0 g))).aB.length=(A2 (G0 g) (U1 (G0 g))).1.length:=by simp[E1]
    rw[el];exact Y.1
   exact⟨X,V,f,t3,t4,t1,J,(D.aQ h V f).gV h Y⟩
end
end Go.Proofs.YtcckhngbdoiikabGreat
