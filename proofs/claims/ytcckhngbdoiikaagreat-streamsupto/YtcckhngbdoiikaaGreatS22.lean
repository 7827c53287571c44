import Derived.Test.YtcckhngbdoiikaaGreatS21
import Derived.Test.YtcckhngbdoiikaaGreatS18
set_option maxRecDepth 20000
set_option maxHeartbeats 12800000
set_option linter.unusedVariables false
namespace Go.Proofs.YtcckhngbdoiikaaGreat
def L5(g:B0)(K:Nat)(a b:Int):Prop:=∀f:List Nat,(∀k∈f,k<K)->V4 g (G3 g a f)=V4 g (G3 g b f)
theorem L5.symm{g:B0}{K:Nat}{a b:Int}(h:L5 g K a b):L5 g K b a:=fun B f=>(h B f).symm
theorem L5.trans{g:B0}{K:Nat}{a b c:Int}(h:L5 g K a b)(D:L5 g K b c):L5 g K a c:=fun B f=>(h B f).trans (D B f)
theorem L5.step{g:B0}{K:Nat}{a b:Int}(h:L5 g K a b){k:Nat}(D:k<K):L5 g K (W0 g a k) (W0 g b k):=fun G B=>h (k::G) (fun x f=>by
 rw[zU]at f;rcases f with rfl|f
 ·exact D
 ·exact B x f)
theorem Cw(g:B0)(f:List Nat):V4 g (G3 g (-1) f)= -1:=by rw[I9 g f (-1) (by omega)];split <;>rfl
theorem Qr{g:B0}{K:Nat}(J:GOk g K){aE:List Int}(f:Co g K aE):∀(h:List Nat) (a b:Nat),(∀k∈h,k<K)->a<g.aB.length->b<g.aB.length->aE.getD a 0=aE.getD b 0->V4 g (G3 g (a:Int) h)=V4 g (G3 g (b:Int) h)
 | [],a,b,_,ha,hb,he=>by
  show V4 g (a:Int)=V4 g (b:Int);unfold V4;rw[if_neg (by omega),if_neg (by omega),zH,zH];exact(f a b ha hb he).1
 |k::h,a,b,hk,ha,hb,he=>by
  show V4 g (G3 g (W0 g (a:Int) k) h)=V4 g (G3 g (W0 g (b:Int) k) h);have B:=(f a b ha hb he).2 k (hk k (by simp));have X:=C8 J (s:=(a:Int)) (by omega) (by omega) (hk k (by simp));have Y:=C8 J (s:=(b:Int)) (by omega) (by omega) (hk k (by simp));have V:W0 g (a:Int) k=(g.next.getD a []).getD k 0:=by unfold W0;rw[if_neg (by omega),zH]
  have W:W0 g (b:Int) k=(g.next.getD b []).getD k 0:=by unfold W0;rw[if_neg (by omega),zH]
  rw[<-V,<-W]at B;generalize W0 g (a:Int) k=x at*;generalize W0 g (b:Int) k=y at*;unfold K4 at B
  by_cases D:(x== -1 || y== -1)=true
  ·rw[if_pos D]at B;have:x=y:=by simpa using B
   rw[this]
  ·rw[if_neg D]at B;simp only[yX,beq_iff_eq,not_or]at D;obtain⟨M,rfl⟩:∃M:Nat,x=(M:Int):=⟨x.toNat,by omega⟩;obtain⟨U,rfl⟩:∃U:Nat,y=(U:Int):=⟨y.toNat,by omega⟩;exact Qr J f h M U (fun k G=>hk k (by simp[G])) (by omega) (by omega) (by simpa using B)
def Mv(g:B0)(K:Nat):Prop:=∀s t k:Nat,s<g.aB.length->k<K->W0 g (s:Int) k=(t:Int)->M6 g K (t:Int)
theorem Tp{g:B0}{K:Nat}(U:GOk g K)(hl:Mv g K){aE:List Int}(hc:∀a b:Nat,a<g.aB.length->b<g.aB.length->L5 g K (a:Int) (b:Int)->aE.getD a 0=aE.getD b 0):
  ∀a b:Nat,a<g.aB.length->b<g.aB.length->L5 g K (a:Int) (b:Int)->(M0 g aE g.aB.length).1.getD a 0=(M0 g aE g.aB.length).1.getD b 0:=by
 have M:∀a b:Nat,a<g.aB.length->b<g.aB.length->L5 g K (a:Int) (b:Int)->Dd g K aE a b:=by
  intro a b G J h;refine⟨hc a b G J h,?_,fun k f=>?_⟩
  ·have:=h [] (fun k f=>by simp at f);have W:V4 g (a:Int)=V4 g (b:Int):=this;unfold V4 at W;rw[if_neg (by omega),if_neg (by omega),zH,zH]at W;exact W
  ·have X:=h.step f;have ia:=C8 U (s:=(a:Int)) (by omega) (by omega) f;have ib:=C8 U (s:=(b:Int)) (by omega) (by omega) f;have ea:W0 g (a:Int) k=(g.next.getD a []).getD k 0:=by unfold W0;rw[if_neg (by omega),zH]
   have eb:W0 g (b:Int) k=(g.next.getD b []).getD k 0:=by unfold W0;rw[if_neg (by omega),zH]
   have la:=fun t=>hl a t k G f
   have lb:=fun t=>hl b t k J f
   rw[<-ea,<-eb];generalize W0 g (a:Int) k=x at*;generalize W0 g (b:Int) k=y at*;unfold K4
   by_cases hx:x= -1
   ·subst hx
    by_cases V:y= -1
    ·subst V;simp
    ·exfalso
     obtain⟨D,rfl⟩:∃D:Nat,y=(D:Int):=⟨y.toNat,by omega⟩;obtain⟨ks,Y,Z⟩:=lb D rfl;have:=X ks Y;rw[Cw]at this;exact Z this.symm
   ·by_cases V:y= -1
    ·exfalso
     subst V;obtain⟨B,rfl⟩:∃B:Nat,x=(B:Int):=⟨x.toNat,by omega⟩;obtain⟨ks,Y,Z⟩:=la B rfl;have:=X ks Y;rw[Cw]at this;exact Z this
    ·rw[if_neg (by simp[hx,V])];obtain⟨B,rfl⟩:∃B:Nat,x=(B:Int):=⟨x.toNat,by omega⟩;obtain⟨D,rfl⟩:∃D:Nat,y=(D:Int):=⟨y.toNat,by omega⟩;simp only[zH,beq_iff_eq];exact hc B D (by omega) (by omega) X
 intro a b G J h;rcases Nat.lt_trichotomy a b with e|e|e
 ·exact Br U e J (M a b G J h)
 ·rw[e]
 ·exact(Br U e G (M b a J G h.symm)).symm
theorem Qk{g:B0}{K:Nat}(G:GOk g K)(D:Mv g K):∀(f:Nat) (aE:List Int) (B:Nat),(∀a b:Nat,a<g.aB.length->b<g.aB.length->L5 g K (a:Int) (b:Int)->aE.getD a 0=aE.getD b 0)->
  ∀a b:Nat,a<g.aB.length->b<g.aB.length->L5 g K (a:Int) (b:Int)->(S8 g f aE B).getD a 0=(S8 g f aE B).getD b 0
 |0,aE,B,h=>h
 |f+1,aE,B,h=>by
  unfold S8;split
  ·exact Tp G D h
  ·exact Qk G D f _ _ (Tp G D h)
theorem BH(n k:Nat):(List.replicate n (0:Int)).getD k 0=0:=by
 rw[zC,yW];split <;>rfl
theorem ZH{g:B0}{K:Nat}(B:GOk g K)(f:0<g.aB.length)(M:Mv g K){a b:Nat}(D:a<g.aB.length)(G:b<g.aB.length):(N1 g).getD a 0=(N1 g).getD b 0↔L5 g K (a:Int) (b:Int):=by
 constructor
 ·intro h U J;exact Qr B (Qc B f) U a b J D G h
 ·exact Qk B M _ _ _ (fun a b _ _ _=>by rw[BH,BH]) a b D G
theorem KR{g:B0}{K:Nat}(B:GOk g K):Mv (G0 g) K:=fun s t k D f h=>Zl B D f h
theorem RA{g:B0}{K:Nat}(h:GOk g K){i:Nat}(f:i<g.aB.length):(Oa g).getD i false=true↔M6 g K (i:Int):=by
 constructor
 ·exact Up h f
 ·rintro⟨G,B,D⟩;exact Nj h G i B f D
def Occ(f:List (List Int))(c:Nat)(p k:Nat):Prop:=p<f.length/\k<(f.getD p []).length/\(f.getD p []).getD k 0=(c:Int)
def DY(p k f h:Nat):Prop:=p<f\/(p=f/\k<h)
theorem Ik:∀(l:List Int) (k f c:Nat),Uk l k=some f->k<=c->c<f->∃i,i<l.length/\l.getD i 0=(c:Int)
 | [],k,f,c,h,h1,h2=>by cases h;omega
 |x::l,k,f,c,h,h1,h2=>by
  unfold Uk at h;split at h
  ·cases h
  ·by_cases B:x=(k:Int)
   ·rw[if_pos B]at h
    by_cases G:c=k
    ·exact⟨0,by simp,by simp[B,G]⟩
    ·obtain⟨i,J,D⟩:=Ik l (k+1) f c h (by omega) h2;exact⟨i+1,by simp;omega,by simpa using D⟩
   ·rw[if_neg B]at h;obtain⟨i,J,D⟩:=Ik l k f c h h1 h2;exact⟨i+1,by simp;omega,by simpa using D⟩
theorem Tu:∀(l:List Int) (k G:Nat),Uk l k=some G->∀j c B:Nat,j<l.length->l.getD j 0=(B:Int)->c<B->c<k\/∃i,i<j/\l.getD i 0=(c:Int)
 | [],k,G,h,j,c,B,hj,_,_=>by simp at hj
 |x::l,k,G,h,j,c,B,hj,he,hc=>by
  unfold Uk at h;split at h
  ·cases h
  ·rename_i K;cases j with
   |zero=>
    left
    simp at he;omega
   |succ j=>
    simp only[List.getD_cons_succ,yH]at he hj;rcases Tu l _ _ h j c B (by omega) he hc with e|⟨i,M,J⟩
    ·by_cases f:x=(k:Int)
     ·rw[if_pos f]at e
      by_cases D:c=k
      ·exact .inr ⟨0,by omega,by simp[f,D]⟩
      ·exact .inl (by omega)
     ·rw[if_neg f]at e;exact .inl e
    ·exact .inr ⟨i+1,by omega,by simpa using J⟩
theorem Le:∀(J:List (List Int)) (s k n:Nat),X8 J s k=some n->∀f j c B:Nat,Occ J B f j->c<B->c<k\/∃p i,Occ J c p i/\DY p i f j
 | [],s,k,n,h,f,j,c,B,ho,hc=>by have:=ho.1;simp at this
 |r::rs,s,k,n,h,f,j,c,B,ho,hc=>by
  unfold X8 at h;split at h
  ·cases h
  ·cases hr:Uk r k with
   |none=>rw[hr]at h;cases h
   |some k1=>
    rw[hr]at h;have V:X8 rs (s+1) k1=some n:=h;obtain⟨Y,D,G⟩:=ho;cases f with
    |zero=>
     simp only[List.getD_cons_zero]at D G;rcases Tu r k k1 hr j c B D G hc with e|⟨i,K,M⟩
     ·exact .inl e
     ·exact .inr ⟨0,i,⟨by simp,by simp;omega,by simpa using M⟩,.inr ⟨rfl,K⟩⟩
    |succ f=>
     simp only[List.getD_cons_succ,yH]at Y D G;rcases Le rs (s+1) k1 n V f j c B ⟨by omega,D,G⟩ hc with e|⟨p,i,⟨q1,Z,q3⟩,X⟩
     ·by_cases W:c<k
      ·exact .inl W
      ·obtain⟨i,K,M⟩:=Ik r k k1 c hr (by omega) e;exact .inr ⟨0,i,⟨by simp,by simpa using K,by simpa using M⟩,.inl (by omega)⟩
     ·refine .inr ⟨p+1,i,⟨by simp;omega,by simpa using Z,by simpa using q3⟩,?_⟩;rcases X with e|⟨e1,U⟩
      ·exact .inl (by omega)
      ·exact .inr ⟨by omega,U⟩
theorem Ff:∀(f:List (List Int)) (s k n:Nat),X8 f s k=some n->∀c,k<=c->c<n->∃p i,Occ f c p i/\p+s<c
 | [],s,k,n,h,c,h1,h2=>by cases h;omega
 |r::rs,s,k,n,h,c,h1,h2=>by
  unfold X8 at h;split at h
  ·cases h
  ·rename_i V;cases hr:Uk r k with
   |none=>rw[hr]at h;cases h
   |some k1=>
    rw[hr]at h;have B:X8 rs (s+1) k1=some n:=h
    by_cases D:c<k1
    ·obtain⟨i,G,J⟩:=Ik r k k1 c hr h1 D;exact⟨0,i,⟨by simp,by simpa using G,by simpa using J⟩,by omega⟩
    ·obtain⟨p,i,⟨W,K,M⟩,U⟩:=Ff rs (s+1) k1 n B c (by omega) h2;exact⟨p+1,i,⟨by simp;omega,by simpa using K,by simpa using M⟩,by omega⟩
theorem IC(f:I0):∀(K S:List I0),Uk (H8 f K S).1 S.length=some (H8 f K S).2.length
 | [],S=>rfl
 |x::K,S=>by
  unfold H8;simp only;have B:W5 S (f.and x)<=(S.length:Int):=by
   unfold W5;split
   ·omega
   ·have:=Th S (f.and x);omega
  show(if(S.length:Int)<W5 S (f.and x)then none else Uk _ (if W5 S (f.and x)=(S.length:Int)then S.length+1 else S.length))=_;rw[if_neg (by omega)];have h:=IC f K (if W5 S (f.and x)=(S.length:Int)then S++ [f.and x]else S)
  by_cases e:W5 S (f.and x)=(S.length:Int)
  ·rw[if_pos e]at h⊢;rw[if_pos e];simpa using h
  ·rw[if_neg e]at h⊢;rw[if_neg e];exact h
theorem Cq(R:E0)(f:List I0):∀(n i:Nat) (S:List I0) (g B:B0),C4 R f n i S g=some B->g.next.length=i->i<=S.length->∃J,B.next=g.next++J/\X8 J i S.length=some B.next.length
 |0,i,S,g,B,h,_,_=>by simp[C4]at h
 |n+1,i,S,g,B,h,hl,hi=>by
  unfold C4 at h
  by_cases D:i<S.length
  ·rw[if_pos D]at h;simp only at h;generalize K:(if 0<i then R.after (S.getD i I0.none)else R.first)=aft at h;have M:=Qg aft f S;have G:=IC aft f S;generalize U:H8 aft f S=r at h M G;split at h
   ·cases h
   ·have X:=M.1.length_le;obtain⟨J,V,W⟩:=Cq R f n (i+1) r.2 _ B h (by simp[hl]) (by omega);refine⟨r.1::J,by rw[V];simp,?_⟩;unfold X8;rw[if_neg (by omega),G];exact W
  ·rw[if_neg D]at h;cases h;exact⟨[],by simp,by unfold X8;rw[hl,show i=S.length by omega]⟩
theorem Nz{R:E0}{f:List I0}{g:B0}(h:E6 R f=some g):X8 g.next 0 1=some g.next.length:=by
 obtain⟨G,D,B⟩:=Cq R f 63 0 [I0.none] B0.aQ g h rfl (by simp);have:g.next=G:=by rw[D];rfl
 rw[this]at B⊢;exact B
theorem Rj{P:Nat->Prop}:∀a,P a->∃m,m<=a/\P m/\∀j,j<m->¬P j:=by
 intro a
 induction a using Nat.strongRecOn with
 |ind a ih=>
  intro h
  by_cases D:∃j,j<a/\P j
  ·obtain⟨j,f,B⟩:=D;obtain⟨m,M,G,J⟩:=ih j f B;exact⟨m,by omega,G,J⟩
  ·exact⟨a,zD _,h,fun j f B=>D ⟨j,f,B⟩⟩
theorem Occ.first{B:List (List Int)}{c p k:Nat}(h:Occ B c p k):∃f G,f<=p/\Occ B c f G/\∀J D,Occ B c J D->¬DY J D f G:=by
 obtain⟨f,W,⟨k1,X⟩,Y⟩:=Rj (P:=fun p=>∃k,Occ B c p k) p ⟨k,h⟩;obtain⟨G,_,Z,h5⟩:=Rj (P:=fun k=>Occ B c f k) k1 X;refine⟨f,G,W,Z,fun J D M hl=>?_⟩;rcases hl with e|⟨U,V⟩
 ·exact Y J e ⟨D,M⟩
 ·subst U;exact h5 D V M
structure Aa(g:B0)(K:Nat):Prop where
 ok:GOk g K
 bF:0<g.aB.length
 iY:X8 g.next 0 1=some g.next.length
 up:∀(s k:Nat),s<g.aB.length->k<K->W0 g (s:Int) k≠0
def Dv(g:B0)(K:Nat)(a:Nat):Prop:=a<g.aB.length/\(a=0\/M6 g K (a:Int))
structure Y9(g:B0)(K:Nat)(F:List Nat):Prop where
 mem:∀a,a∈F↔(Dv g K a/\∀b,b<a->¬L5 (G0 g) K (b:Int) (a:Int))
 bJ:F.Pairwise (·< ·)
section
variable{g:B0}{K:Nat}{F:List Nat}
theorem Xh(h:Aa g K){s k:Nat}(B:s<g.aB.length)(f:k<K):W0 (G0 g) (s:Int) k= -1\/∃t:Nat,t<g.aB.length/\W0 (G0 g) (s:Int) k=(t:Int)/\W0 g (s:Int) k=(t:Int)/\M6 g K (t:Int):=by
 rw[Yg h.ok B f];rcases C8 h.ok (s:=(s:Int)) (by omega) (by omega) f with e|e
 ·rw[e];exact .inl (by simp)
 ·obtain⟨t,D⟩:∃t:Nat,W0 g (s:Int) k=(t:Int):=⟨(W0 g (s:Int) k).toNat,by omega⟩;rw[D]at e⊢;rw[zH];cases ha:(Oa g).getD t false with
  |false=>exact .inl (by simp)
  |true=>exact .inr ⟨t,by omega,by rw[if_pos (by simp)],rfl,(RA h.ok (by omega)).1 ha⟩
theorem Ck(h:Aa g K){s k t:Nat}(B:s<g.aB.length)(f:k<K)(e:W0 g (s:Int) k=(t:Int))(D:M6 g K (t:Int)):W0 (G0 g) (s:Int) k=(t:Int):=by
 have G:=C8 h.ok (s:=(s:Int)) (by omega) (by omega) f;rw[Yg h.ok B f,e,zH,(RA h.ok (by omega)).2 D,if_pos (by simp)]
theorem RB(h:Aa g K){s k t:Nat}(J:k<K)(e:W0 g (s:Int) k=(t:Int))(M:M6 g K (t:Int)):M6 g K (s:Int):=by
 obtain⟨B,D,G⟩:=M;refine⟨k::B,fun x f=>?_,?_⟩
 ·rw[zU]at f;rcases f with rfl|f
  ·exact J
  ·exact D x f
 ·show V4 g (G3 g (W0 g (s:Int) k) B)≠ -1;rw[e];exact G
theorem Ql(h:Aa g K){a b:Nat}(J:a<g.aB.length)(M:b<g.aB.length)(D:L5 (G0 g) K (a:Int) (b:Int))(U:M6 g K (a:Int)):M6 g K (b:Int):=by
 obtain⟨B,f,G⟩:=U;refine⟨B,f,?_⟩;rw[<-H9 h.ok B b f M,<-D B f,H9 h.ok B a f J];exact G
theorem Ul(h:Aa g K){c p k:Nat}:Occ g.next c p k↔(p<g.aB.length/\k<K/\W0 g (p:Int) k=(c:Int)):=by
 have e:∀p:Nat,W0 g (p:Int) k=(g.next.getD p []).getD k 0:=fun p=>by unfold W0;rw[if_neg (by omega),zH]
 rw[e];constructor
 ·rintro⟨f,B,D⟩;have:=h.ok.row p f;rw[h.ok.len]at f;exact⟨f,by rw[<-this.1];exact B,D⟩
 ·rintro⟨f,B,D⟩;rw[<-h.ok.len]at f;exact⟨f,by rw[(h.ok.row p f).1];exact B,D⟩
theorem Y9.iW(J:Y9 g K F)(h:Aa g K){a:Nat}(f:Dv g K a):∃b,b∈F/\b<=a/\L5 (G0 g) K (b:Int) (a:Int):=by
 obtain⟨b,D,B,G⟩:=Rj (P:=fun b=>L5 (G0 g) K (b:Int) (a:Int)) a (fun W V=>rfl);refine⟨b,(J.mem b).2 ⟨⟨by have:=f.1;omega,?_⟩,fun j M U=>G j M (U.trans B)⟩,D,B⟩;rcases f.2 with e|e
 ·left;omega
 ·exact .inr (Ql h f.1 (by have:=f.1;omega) B.symm e)
theorem Y9.dR(B:Y9 g K F){a b:Nat}(D:a∈F)(f:L5 (G0 g) K (b:Int) (a:Int)):a<=b:=by
 refine xC fun h=>((B.mem a).1 D).2 b h f
theorem U8{l:List Nat}(h:l.Pairwise (·< ·)){i j:Nat}(f:i<l.length)(B:j<l.length):l[i]<l[j]↔i<j:=by
 constructor
 ·intro G;refine Nat.lt_of_not_le fun D=>?_
  rcases yE j i with e|e
  ·have:=List.pairwise_iff_getElem.1 h j i B f e;omega
  ·have:i=j:=by omega
   subst this;omega
 ·exact fun e=>List.pairwise_iff_getElem.1 h i j f B e
end
structure SZ(g:B0)(K:Nat)(aE:List Int):Prop where
 fI:aE.length=g.aB.length
 jQ:∀x∈aE,0<=x/\x<(g.aB.length:Int)
 ca:∀a b:Nat,a<g.aB.length->b<g.aB.length->(aE.getD a 0=aE.getD b 0↔L5 (G0 g) K (a:Int) (b:Int))
theorem Og{g:B0}{K:Nat}(h:Aa g K):SZ g K (N1 (G0 g)):=by
 have G:=Z4 h.ok;have f:0<(G0 g).aB.length:=h.bF;exact⟨Y7 _,R8 _ f,fun a b B D=>ZH G f (KR h.ok) B D⟩
def F5(g:B0)(K:Nat)(j a:Nat):Prop:=j<(V1 (G0 g) (N1 (G0 g))).1.length/\L5 (G0 g) K ((((V1 (G0 g) (N1 (G0 g))).1.getD j 0).toNat:Nat):Int) (a:Int)
section
variable{g:B0}{K:Nat}{F:List Nat}
theorem Uh(h:Aa g K){j:Nat}(B:j<(V1 (G0 g) (N1 (G0 g))).1.length):((V1 (G0 g) (N1 (G0 g))).1.getD j 0).toNat<g.aB.length:=by
 have f:=Og h;obtain⟨D,_⟩:=D7 (Z4 h.ok) h.bF f.fI f.jQ;have:=D.ok.ok _ (G4 (l:=(V1 (G0 g) (N1 (G0 g))).1) B 0);have e:(G0 g).aB.length=g.aB.length:=rfl;omega
theorem F5.bX(h:Aa g K){i j a:Nat}(V:a<g.aB.length)(f:F5 g K i a)(B:F5 g K j a):i=j:=by
 have D:=Og h;obtain⟨G,_⟩:=D7 (Z4 h.ok) h.bF D.fI D.jQ;have U:=(D.ca _ _ (Uh h f.1) (Uh h B.1)).2 (f.2.trans B.2.symm);have J:=G.num i f.1;have M:=G.num j B.1;rw[U,M]at J;omega
theorem F5.gP(h:Aa g K){i a b:Nat}(f:F5 g K i a)(B:F5 g K i b):L5 (G0 g) K (a:Int) (b:Int):=f.2.symm.trans B.2
theorem F5.step(h:Aa g K){j a k:Nat}(U:a<g.aB.length)(G:F5 g K j a)(Z:k<K):
  (W0 (E1 (G0 g) (N1 (G0 g))) (j:Int) k= -1/\W0 (G0 g) (a:Int) k= -1)\/∃D f:Nat,W0 (E1 (G0 g) (N1 (G0 g))) (j:Int) k=(D:Int)/\W0 (G0 g) (a:Int) k=(f:Int)/\f<g.aB.length/\F5 g K D f:=by
 have B:=Og h;have V:=Z4 h.ok;rcases Wh V h.bF B.fI B.jQ (Qc V h.bF) G.1 U ((B.ca _ _ (Uh h G.1) U).2 G.2) Z with e|⟨D,f,W,X,J,M,Y⟩
 ·exact .inl e
 ·exact .inr ⟨D,f,W,X,M,J,(B.ca _ _ (Uh h J) M).1 Y⟩
theorem F5.zero(h:Aa g K):F5 g K 0 0:=by
 have f:=Og h;obtain⟨B,_⟩:=D7 (Z4 h.ok) h.bF f.fI f.jQ;exact⟨B.bF.1,by rw[B.bF.2];exact fun G D=>rfl⟩
theorem F5.all(h:Aa g K):∀a,Dv g K a->∃j,F5 g K j a:=by
 intro a
 induction a using Nat.strongRecOn with
 |ind a ih=>
  intro J
  by_cases G:a=0
  ·subst G;exact⟨0,F5.zero h⟩
  ·have M:M6 g K (a:Int):=by rcases J.2 with e|e;exact absurd e G;exact e
   obtain⟨p,k,Y,hp⟩:=Ff g.next 0 1 _ h.iY a (by omega) (by rw[h.ok.len];exact J.1);obtain⟨B,D,U⟩:=(Ul h).1 Y;obtain⟨j,X⟩:=ih p (by omega) ⟨B,.inr (RB h D U M)⟩;have e:=Ck h B D U M;rcases X.step h B D with⟨_,f⟩|⟨Z,V,_,f,_,W⟩
   ·rw[e]at f;omega
   ·rw[e]at f;have:a=V:=by omega
    subst this;exact⟨Z,W⟩
theorem F5.kL(h:Aa g K){j:Nat}(J:j<(V1 (G0 g) (N1 (G0 g))).1.length):∃a,Dv g K a/\F5 g K j a:=by
 have D:=Og h;have B:=Uh h J;refine⟨_,⟨B,?_⟩,J,fun ks hk=>rfl⟩
 by_cases h0:j=0
 ·left
  obtain⟨hv,_⟩:=D7 (Z4 h.ok) h.bF D.fI D.jQ;rw[h0,hv.bF.2];rfl
 ·right
  have M:=Zu (Z4 h.ok) h.bF D.fI D.jQ;have el:(E1 (G0 g) (N1 (G0 g))).aB.length=(V1 (G0 g) (N1 (G0 g))).1.length:=by simp[E1]
  have en:(E1 (G0 g) (N1 (G0 g))).next.length=(V1 (G0 g) (N1 (G0 g))).1.length:=by simp[E1]
  obtain⟨p,k,⟨G,o2,o3⟩,hp⟩:=Ff _ 0 1 _ M j (by omega) (by rw[el];exact J);rw[en]at G;have f:=Uh h G;have U:F5 g K p ((V1 (G0 g) (N1 (G0 g))).1.getD p 0).toNat:=⟨G,fun ks hk=>rfl⟩;have Y:((E1 (G0 g) (N1 (G0 g))).next.getD p []).length=K:=by
   have:(E1 (G0 g) (N1 (G0 g))).next.getD p []=Z1 (N1 (G0 g)) (V1 (G0 g) (N1 (G0 g))).2 ((G0 g).next.getD ((V1 (G0 g) (N1 (G0 g))).1.getD p 0).toNat []):=by simp[E1,G]
   rw[this];unfold Z1;rw[yA];have X:=Z4 h.ok;exact(X.row _ (by rw[X.len];exact f)).1
  have W:W0 (E1 (G0 g) (N1 (G0 g))) (p:Int) k=(j:Int):=by unfold W0;rw[if_neg (by omega),zH];exact o3
  rcases U.step h f (by omega) (k:=k)with⟨e,_⟩|⟨j',Z,e,V,e4,e5⟩
  ·rw[W]at e;omega
  ·rw[W]at e;have:j=j':=by omega
   subst this;rcases Xh h f (k:=k) (by omega)with e6|⟨t,t1,t2,t3,t4⟩
   ·rw[V]at e6;omega
   ·rw[V]at t2;have:Z=t:=by omega
    subst this;exact Ql h e4 B e5.2.symm t4
theorem FO(h:Aa g K){c p k:Nat}(G:p<(V1 (G0 g) (N1 (G0 g))).1.length):Occ (E1 (G0 g) (N1 (G0 g))).next c p k↔(k<K/\W0 (E1 (G0 g) (N1 (G0 g))) (p:Int) k=(c:Int)):=by
 have V:(E1 (G0 g) (N1 (G0 g))).next.length=(V1 (G0 g) (N1 (G0 g))).1.length:=by simp[E1]
 have f:=Uh h G;have J:((E1 (G0 g) (N1 (G0 g))).next.getD p []).length=K:=by
  have:(E1 (G0 g) (N1 (G0 g))).next.getD p []=Z1 (N1 (G0 g)) (V1 (G0 g) (N1 (G0 g))).2 ((G0 g).next.getD ((V1 (G0 g) (N1 (G0 g))).1.getD p 0).toNat []):=by simp[E1,G]
  rw[this];unfold Z1;rw[yA];have D:=Z4 h.ok;exact(D.row _ (by rw[D.len];exact f)).1
 have M:W0 (E1 (G0 g) (N1 (G0 g))) (p:Int) k=((E1 (G0 g) (N1 (G0 g))).next.getD p []).getD k 0:=by unfold W0;rw[if_neg (by omega),zH]
 rw[M];constructor
 ·rintro⟨_,U,B⟩;exact⟨by omega,B⟩
 ·rintro⟨U,B⟩;exact⟨by omega,by omega,B⟩
theorem Y9.aZ(D:Y9 g K F)(h:Aa g K):∀s,(V:s<F.length)->F5 g K s F[s]:=by
 have hn:=Og h;have ao:=Zu (Z4 h.ok) h.bF hn.fI hn.jQ;intro s
 induction s using Nat.strongRecOn with
 |ind s ih=>
  intro V;have f:=(D.mem F[s]).1 (zG V)
  by_cases h0:F[s]=0
  ·
   have:s=0:=by
    refine Nat.eq_zero_of_not_pos fun hp=>?_
    have:=(U8 D.bJ (i:=0) (j:=s) (by omega) V).2 hp;omega
   subst this;rw[h0];exact F5.zero h
  ·obtain⟨i,hi⟩:=F5.all h F[s] f.1;have b0:0<s:=by
    refine Nat.pos_of_ne_zero fun e=>?_
    subst e;have ab:(0:Nat)∈F:=(D.mem 0).2 ⟨⟨h.bF,.inl rfl⟩,fun b hb=>by omega⟩;obtain⟨j,hj,e⟩:=List.getElem_of_mem ab;have:=(U8 D.bJ V hj).1;rcases Nat.eq_zero_or_pos j with ej|ej
    ·subst ej;exact h0 e
    ·have:=(U8 D.bJ V hj).2 ej;omega
   have au:s<=i:=by
    refine xC fun W=>?_
    have ae:=ih i W (by omega);have:=D.dR (zG V) (b:=F[i]) (ae.gP h hi);have:=(U8 D.bJ (i:=i) (j:=s) (by omega) V).2 W;omega
   rcases yE s i with W|a0
   ·exfalso
    obtain⟨a,ha,aa⟩:=F5.kL h (j:=s) (by have:=hi.1;omega);obtain⟨b,hb,_,ad⟩:=D.iW h ha;obtain⟨s2,a9,e2⟩:=List.getElem_of_mem hb;have ac:=(D.mem b).1 hb;have Y:F5 g K s b:=⟨aa.1,aa.2.trans ad.symm⟩;have ar:F[s]<b:=by
     rw[<-e2,U8 D.bJ V a9];refine Nat.lt_of_not_le fun a0=>?_
     rcases yE s2 s with e|e
     ·have:=ih s2 e a9;rw[e2]at this;have:=F5.bX h ac.1.1 this Y;omega
     ·have:s2=s:=by omega
      subst this;rw[<-e2]at Y;have:=F5.bX h f.1.1 Y hi;omega
    have hl:M6 g K (F[s]:Int):=by rcases f.1.2 with e|e;exact absurd e h0;exact e
    obtain⟨p9,k9,ai,aw⟩:=Ff g.next 0 1 _ h.iY F[s] (by omega) (by rw[h.ok.len];exact f.1.1);obtain⟨p,k0,ax,ho,B⟩:=ai.first
    obtain⟨o1,o2,o3⟩:=(Ul h).1 ho;have ak:Dv g K p:=⟨o1,.inr (RB h o2 o3 hl)⟩;obtain⟨q,hq,az,am⟩:=D.iW h ak;obtain⟨s0,M,e0⟩:=List.getElem_of_mem hq;have a3:=(D.mem q).1 hq;have e4:=Ck h o1 o2 o3 hl;have U:=am.step o2;rw[e4]at U;have an:W0 g (q:Int) k0=(F[s]:Int):=by
     rcases Xh h a3.1.1 o2 with e6|⟨t,t1,t2,t3,t4⟩
     ·exfalso
      rw[e6]at U;obtain⟨ks,k1,k2⟩:=hl;have:=U ks k1;rw[Cw,H9 h.ok ks F[s] k1 f.1.1]at this;exact k2 this.symm
     ·rw[t2]at U;have a0:=D.dR (zG V) U;rcases yE F[s] t with J|ap
      ·exfalso
       have af:Occ g.next t q k0:=(Ul h).2 ⟨a3.1.1,o2,t3⟩;rcases Le g.next 0 1 _ h.iY q k0 F[s] t af J with e|⟨p2,k2,a1,X⟩
       ·omega
       ·refine B p2 k2 a1 ?_;rcases X with e|⟨e1,e2⟩
        ·exact .inl (by omega)
        ·rcases yE q p with e3|e3
         ·exact .inl (by omega)
         ·exact .inr ⟨by omega,e2⟩
      ·rw[t3,show t=F[s] by omega]
    have ay:p<=q:=by
     refine xC fun J=>?_
     exact B q k0 ((Ul h).2 ⟨a3.1.1,o2,an⟩) (.inl J)
    have aj:p=q:=by omega
    subst aj;have a8:s0<s:=by
     rw[<-U8 D.bJ M V,e0];omega
    have a2:=ih s0 a8 M;rw[e0]at a2;have hG:W0 (E1 (G0 g) (N1 (G0 g))) (s0:Int) k0=(i:Int):=by
     rcases a2.step h o1 o2 with⟨_,e⟩|⟨j',a',e5,e6,e7,e8⟩
     ·rw[e4]at e;omega
     ·rw[e4]at e6;have:F[s]=a':=by omega
      rw[<-this]at e8;rw[e5,F5.bX h f.1.1 e8 hi]
    rcases Le _ 0 1 _ ao s0 k0 s i ((FO h a2.1).2 ⟨o2,hG⟩) W with e|⟨j1,k1,a1,X⟩
    ·omega
    ·have av:j1<=s0:=by rcases X with e|⟨e,_⟩ <;>omega
     have Z:=ih j1 (by omega) (by omega);have G:=(D.mem F[j1]).1 (zG (by omega));obtain⟨a4,a5⟩:=(FO h Z.1).1 a1;rcases Z.step h G.1.1 a4 with⟨e,_⟩|⟨j',a',e5,e6,e7,e8⟩
     ·rw[a5]at e;omega
     ·rw[a5]at e5;have:s=j':=by omega
      subst this;have a0:=D.dR hb (e8.gP h Y);rcases Xh h G.1.1 a4 with e9|⟨t,t1,t2,t3,t4⟩
      ·rw[e6]at e9;omega
      ·rw[e6]at t2;have:a'=t:=by omega
       subst this;have ag:Occ g.next a' F[j1] k1:=(Ul h).2 ⟨G.1.1,a4,t3⟩;rcases Le g.next 0 1 _ h.iY F[j1] k1 F[s] a' ag (by omega)with e|⟨p2,k2,ah,a7⟩
       ·omega
       ·refine B p2 k2 ah ?_;have a6:F[j1]<p\/(F[j1]=p/\k1<k0):=by
         rcases X with e|⟨e,e'⟩
         ·left;rw[<-e0];exact(U8 D.bJ (by omega) M).2 e
         ·right;subst e;exact⟨e0,e'⟩
        rcases a7 with e|⟨e1,aq⟩
        ·left;omega
        ·rcases a6 with e|⟨e,e'⟩
         ·left;omega
         ·right;exact⟨by omega,by omega⟩
   ·have:i=s:=by omega
    subst this;exact hi
theorem Y9.len(D:Y9 g K F)(h:Aa g K):F.length=(E1 (G0 g) (N1 (G0 g))).aB.length:=by
 have V:(E1 (G0 g) (N1 (G0 g))).aB.length=(V1 (G0 g) (N1 (G0 g))).1.length:=by simp[E1]
 rw[V];refine Nat.le_antisymm (xC fun f=>?_) (xC fun f=>?_)
 ·have:=(D.aZ h _ f).1;omega
 ·obtain⟨a,W,B⟩:=F5.kL h f;obtain⟨b,M,_,G⟩:=D.iW h W;obtain⟨X,J,U⟩:=List.getElem_of_mem M;have:=D.aZ h X J;rw[U]at this;have:=F5.bX h ((D.mem b).1 M).1.1 this ⟨B.1,B.2.trans G.symm⟩;omega
theorem Y9.aB(G:Y9 g K F)(h:Aa g K){s:Nat}(J:s<F.length):(E1 (G0 g) (N1 (G0 g))).aB.getD s 0=g.aB.getD F[s] 0:=by
 have f:=G.aZ h s J;have U:=Uh h f.1;have V:=((G.mem F[s]).1 (zG J)).1.1;have D:V4 (G0 g) ((((V1 (G0 g) (N1 (G0 g))).1.getD s 0).toNat:Nat):Int)=V4 (G0 g) (F[s]:Int):=f.2 [] (fun k M=>by simp at M);unfold V4 at D;rw[if_neg (by omega),if_neg (by omega),zH,zH]at D;have B:=f.1;rw[<-(show(G0 g).aB=g.aB from rfl),<-D];simp[E1,B]
theorem Y9.next(D:Y9 g K F)(h:Aa g K){s k:Nat}(Z:s<F.length)(G:k<K):
  (W0 (E1 (G0 g) (N1 (G0 g))) (s:Int) k= -1/\(W0 g (F[s]:Int) k= -1\/∃t:Nat,W0 g (F[s]:Int) k=(t:Int)/\¬M6 g K (t:Int)))\/
  ∃t W:Nat,∃a0:W<F.length,W0 g (F[s]:Int) k=(t:Int)/\M6 g K (t:Int)/\t<g.aB.length/\W0 (E1 (G0 g) (N1 (G0 g))) (s:Int) k=(W:Int)/\L5 (G0 g) K (F[W]:Int) (t:Int):=by
 have U:=D.aZ h s Z;have M:=((D.mem F[s]).1 (zG Z)).1.1;rcases U.step h M G with⟨J,B⟩|⟨V,X,J,B,e3,Y⟩
 ·left
  refine⟨J,?_⟩;rcases C8 h.ok (s:=(F[s]:Int)) (by omega) (by omega) G with e|e
  ·exact .inl e
  ·right
   refine⟨(W0 g (F[s]:Int) k).toNat,by omega,fun hl=>?_⟩;have:=Ck h M G (t:=(W0 g (F[s]:Int) k).toNat) (by omega) hl;rw[B]at this;omega
 ·right
  rcases Xh h M G with e9|⟨t,t1,t2,t3,t4⟩
  ·rw[B]at e9;omega
  ·rw[B]at t2;have:X=t:=by omega
   subst this;have f:V<F.length:=by
    rw[D.len h];have el:(E1 (G0 g) (N1 (G0 g))).aB.length=(V1 (G0 g) (N1 (G0 g))).1.length:=by simp[E1]
    rw[el];exact Y.1
   exact⟨X,V,f,t3,t4,t1,J,(D.aZ h V f).gP h Y⟩
end
end Go.Proofs.YtcckhngbdoiikaaGreat

namespace Go.Proofs.YtcckhngbdoiikaaGreat
open Go.RowKit Go.Deep
theorem Mn(s:ByteArray):∀(n:Nat) (r:Bool×Nat×E0),r.2.1<=s.size/\r.2.2.aC.length<=r.2.1/\r.2.2.last.length<=r.2.1->
  (J3 s n r).2.1<=s.size/\(J3 s n r).2.2.aC.length<=(J3 s n r).2.1/\(J3 s n r).2.2.last.length<=(J3 s n r).2.1
 |0,r,h=>h
 |n+1,r,h=>by
  unfold J3;split
  ·rename_i f;have B:=A1 (s:=s) (p:=r.2.1) (by rw[f.2];decide);have g:=Gk s (r.2.1+1) r.2.2 (by omega) (by omega) (by omega);exact Mn s n _ ⟨g.cT,g.bV,g.last⟩
  ·exact h
theorem LP(s:ByteArray):(Pa s).2.1<=s.size/\(Pa s).2.2.aC.length<=s.size/\(Pa s).2.2.last.length<=s.size:=by
 have g:=Gk s 0 E0.aQ (by omega) (by simp[E0.aQ]) (by simp[E0.aQ]);have:=Mn s (s.size+1) (X5 s 0 E0.aQ) ⟨g.cT,g.bV,g.last⟩;unfold Pa;simp only;omega
inductive CP where
 |bad (e bC:Nat)
 |lexer (kd:Nat->Nat) (g:B0)
def newF(s:ByteArray):CP:=
 if 120<s.size then .bad 1 0
 else if(Pa s).1=false then .bad 2 (Pa s).2.1
 else match A4 (Pa s).2.2 with
  |none=>.bad 3 0
  |some (kd,g)=>.lexer kd g
def A9(w:World)(B:Nat)(kd:Nat->Nat)(g:B0):Prop:=∃h f,Blk w B (S6 kd h f) 67/\U6 w h f g
def PY(w':World)(e:Ending):CP->Prop
 |.bad c a=>e=.returned (.tuple #[.pointer none,.int .i64 c,.int .i64 a])
 |.lexer kd g=>∃f,e=.returned (.tuple #[.pointer (some ⟨f,0,none⟩),.int .i64 0,.int .i64 0])/\A9 w' f kd g
theorem NX(s:ByteArray)(hm:s.size<=maxLen)(w:World):
  Calls Tryz.prog 11 #[.string s] w fun e w'=>Bw w w'/\PY w' e (newF s):=by
 by_cases hs:120<s.size
 ·have e1:newF s=.bad 1 0:=by unfold newF;rw[if_pos hs]
  rw[e1];have HC:=Hd (OR s hs hm);clear e1 hm;go_enter Tryz.func11,Tryz.ntmps11;go_wp2_with fail;refine(HC.out _).mono ?_;rintro e w1 ⟨rfl,rfl⟩;go_wp2_with fail
  go_ret3
  exact⟨Below.refl _ _,rfl⟩
 ·have HC:=Hd (OV s (by omega));have a0:=LP s;generalize hX:newF s=X;unfold newF at hX;rw[if_neg hs]at hX;generalize Pa s=F at HC a0 hX;obtain⟨ok,p,R⟩:=F;have HX:=Hd hX;clear hX hm;go_enter Tryz.func11,Tryz.ntmps11;go_wp2_with fail;refine(HC.out _).mono ?_;rintro e w1 ⟨Z,f⟩;rcases f with⟨a1,rfl⟩|⟨a1,gb,rfl,O,fv,lv,a2,hO⟩
  ·subst a1;have J:=HX.out;simp only[if_true]at J;subst J;go_wp2_with fail
   go_ret3
   exact⟨Z,rfl⟩
  ·subst a1;have a4:=Hd (QP R gb O fv lv w1 a2 (by omega) (by omega));have V:=Hd Z;clear Z a2 hO;go_wp2_with fail;refine a4.out.mono ?_;rintro e G ⟨K,f⟩;have M:Bw w G:=V.out.trans (K.mono V.out.size);have hz:=V.out.size;have a7:=K.size;rcases f with⟨h,rfl⟩|⟨kd,g,D,B,h,rfl,Y⟩
   ·have J:=HX.out;simp only[h]at J;simp only[yP,if_false]at J;subst J;have W:=Hd M;clear K M h;go_wp2_with(first|refine GF rfl (.tmp 8) (.tmp 22) rfl G.heap.size rfl rfl (Blk.aQ _ _ _) ZO ⟨rfl,rfl⟩ ?_)
    go_ret3
    exact⟨I2 (W.out.alloc (by omega) _) (by omega) _,rfl⟩
   ·have J:=HX.out;simp only[h]at J;simp only[yP,if_false]at J;subst J;have U:=Y.bX;have W:=Hd M;have a5:=Hd Y;have a6:=Hd U;clear K M h Y U;go_wp2_with(first|refine GF rfl (.tmp 8) (.tmp 22) rfl G.heap.size rfl rfl (Blk.aQ _ _ _) ZO a6.out ?_|refine QZ rfl (.tmp 8) rfl G.heap.size rfl ((Blk.aQ _ _ _).setRow _) ?_|refine WY rfl (.tmp 27) rfl rfl ?_)
    go_ret3
    have a3:Bw G (((G.alloc (.cells Tryz.zeroCells65 65)).setRow G.heap.size (S6 kd D B)).alloc (.cells (S6 kd D B) 67)):=(I2 (P0 _ _) (zD _) _).alloc (by simp) _;refine⟨W.out.trans (a3.mono (by omega)),G.heap.size+1,rfl,D,B,?_,a5.out.aA a3⟩;have:=Blk.aQ ((G.alloc (.cells Tryz.zeroCells65 65)).setRow G.heap.size (S6 kd D B)) (S6 kd D B) 67;simpa using this
theorem A9.aA{w w':World}{D:Nat}{kd:Nat->Nat}{g:B0}(h:A9 w D kd g)(k:Bw w w'):A9 w' D kd g:=by
 obtain⟨B,f,G,J⟩:=h;exact⟨B,f,G.aA k,J.aA k⟩
theorem Cp(f:Nat->Nat)(h B:Value):(S6 f h B)[256]?=some h:=by
 rw[S6,Array.getElem?_append_right (by rw[Y6];omega),Y6];rfl
theorem Dp(f:Nat->Nat)(B h:Value):(S6 f B h)[257]?=some h:=by
 rw[S6,Array.getElem?_append_right (by rw[Y6];omega),Y6];rfl
theorem WP(B:Nat)(f:Value)(l:List Int)(w:World)(J:w.cell? ⟨B,256,none⟩=some f)(h:O2 w f l):
  Calls Tryz.prog 20 #[.pointer (some ⟨B,0,none⟩)] w fun e w'=>e=.returned (.int .i64 (l.length:Int))/\w'=w:=by
 obtain⟨G,D,rfl,_⟩:=h.aT;clear h;go_enter Tryz.func20,Tryz.ntmps20;go_wp2_with fail;go_ret;exact⟨rfl,rfl⟩
theorem XM(f:Nat)(kd:Nat->Nat)(g:B0)(w:World)(h:A9 w f kd g):
  Calls Tryz.prog 10 #[.pointer (some ⟨f,0,none⟩)] w fun e w'=>e=.returned (.int .i64 (g.aB.length:Int))/\w'=w:=by
 obtain⟨B,K,D,G⟩:=h;have J:=Hd (WP f B g.aB w (by rw[D.cell];exact Cp _ _ _) G.aB);clear D G;go_enter Tryz.func10,Tryz.ntmps10;go_wp2_with fail;refine J.out.mono ?_;rintro e M ⟨rfl,rfl⟩;go_wp2_with fail;go_ret;exact⟨rfl,rfl⟩
def X0(kd:Nat->Nat)(g:B0)(s b:Int):Int:=if s<0\/(g.next.length:Int)<=s\/b<0\/256<=b then -1 else(g.next.getD s.toNat []).getD (kd b.toNat) 0
def N0(g:B0)(s:Int):Int:=if s<0\/(g.aB.length:Int)<=s then -1 else g.aB.getD s.toNat 0
def B8(kd:Nat->Nat)(g:B0):Prop:=∀i,i<g.next.length->∀b,b<256->kd b<(g.next.getD i []).length
theorem OJ(f:Nat->Nat)(D B:Value)(b:Nat)(h:b<256):(S6 f D B)[b]?=some (.int .i64 (f b:Int)):=by
 rw[S6,Array.getElem?_append_left (by rw[Y6];omega),Ng _ _ h]
theorem Hf(U:Nat)(kd:Nat->Nat)(g:B0)(s:Int)(w:World)(h:A9 w U kd g):
  Calls Tryz.prog 100 #[.pointer (some ⟨U,0,none⟩),.int .i64 s] w fun e w'=>e=.returned (.int .i64 (N0 g s))/\w'=w:=by
 obtain⟨V,a0,K,M⟩:=h;have B:=M.aB;have c0:w.cell? ⟨U,256,none⟩=some V:=by rw[K.cell];exact Cp _ _ _
 obtain⟨ad,Y,rfl,D⟩:=B.aT;generalize f:N0 g s=F;unfold N0 at f
 by_cases G:s<0
 ·have Z:decide (s<0)=true:=by simp[G]
  rw[if_pos (.inl G)]at f;subst f;clear K M B;go_enter Tryz.func100,Tryz.ntmps100;go_wp2_with fail;go_ret;exact⟨rfl,rfl⟩
 ·have Z:decide (s<0)=false:=by simp;omega
  by_cases J:(g.aB.length:Int)<=s
  ·have e1:decide ((g.aB.length:Int)<=s)=true:=by simp[J]
   rw[if_pos (.inr J)]at f;subst f;clear K M B;go_enter Tryz.func100,Tryz.ntmps100;go_wp2_with fail;go_ret;exact⟨rfl,rfl⟩
  ·have e1:decide ((g.aB.length:Int)<=s)=false:=by simp;omega
   rw[if_neg (by omega)]at f;obtain⟨j,rfl⟩:∃j:Nat,s=(j:Int):=⟨s.toNat,by omega⟩;have X:j<g.aB.length:=by omega
   rcases D with h0|⟨rg,rfl⟩
   ·omega
   have r0:=B.cell j X;have W:g.aB.getD j 0=g.aB[j]:=by simp[X]
   rw[zH,W]at f;generalize g.aB[j]=rj at r0 f;subst f;have i0:(0:Int)<=(j:Int):=by omega
   have i1:(j:Int)<(g.aB.length:Int):=by omega
   clear K M B W;go_enter Tryz.func100,Tryz.ntmps100;go_wp2_with fail;go_ret;exact⟨rfl,rfl⟩
theorem Ki(pb:Nat)(kd:Nat->Nat)(g:B0)(s b:Int)(w:World)(h:A9 w pb kd g)(X:B8 kd g):
  Calls Tryz.prog 132 #[.pointer (some ⟨pb,0,none⟩),.int .i64 s,.int .i64 b] w fun e w'=>e=.returned (.int .i64 (X0 kd g s b))/\Bw w w':=by
 obtain⟨a6,a3,K,W⟩:=h;obtain⟨V,M,B,D⟩:=W.next;have c0:w.cell? ⟨pb,257,none⟩=some a3:=by rw[K.cell];exact Dp _ _ _
 obtain⟨ad,a5,rfl,a0⟩:=M.aT;generalize f:X0 kd g s b=F;unfold X0 at f;rw[<-B]at f
 by_cases a1:s<0
 ·have e0:decide (s<0)=true:=by simp[a1]
  rw[if_pos (.inl a1)]at f;subst f;clear K W M B D X;go_enter Tryz.func132,Tryz.ntmps132;go_wp2_with fail;go_ret;exact⟨rfl,Below.refl _ _⟩
 ·have e0:decide (s<0)=false:=by simp;omega
  by_cases a2:(V.length:Int)<=s
  ·have e1:decide ((V.length:Int)<=s)=true:=by simp[a2]
   rw[if_pos (.inr (.inl a2))]at f;subst f;clear K W M B D X;go_enter Tryz.func132,Tryz.ntmps132;go_wp2_with fail;go_ret;exact⟨rfl,Below.refl _ _⟩
  ·have e1:decide ((V.length:Int)<=s)=false:=by simp;omega
   by_cases Y:b<0
   ·have e2:decide (b<0)=true:=by simp[Y]
    rw[if_pos (.inr (.inr (.inl Y)))]at f;subst f;clear K W M B D X;go_enter Tryz.func132,Tryz.ntmps132;go_wp2_with fail;go_ret;exact⟨rfl,Below.refl _ _⟩
   ·have e2:decide (b<0)=false:=by simp;omega
    by_cases Z:256<=b
    ·have e3:decide ((256:Int)<=b)=true:=by simp[Z]
     rw[if_pos (.inr (.inr (.inr Z)))]at f;subst f;clear K W M B D X;go_enter Tryz.func132,Tryz.ntmps132;go_wp2_with fail;go_ret;exact⟨rfl,Below.refl _ _⟩
    ·have e3:decide ((256:Int)<=b)=false:=by simp;omega
     rw[if_neg (by omega)]at f;obtain⟨j,rfl⟩:∃j:Nat,s=(j:Int):=⟨s.toNat,by omega⟩;obtain⟨c,rfl⟩:∃c:Nat,b=(c:Int):=⟨b.toNat,by omega⟩;have hj:j<V.length:=by omega
     have hc:c<256:=by omega
     have G:=X j (by omega) c hc;rcases a0 with h0|⟨ng,rfl⟩
     ·omega
     have n0:=M.cell j hj;have hr:=D j V[j] (zF _);rw[zH,zH]at f;generalize g.next.getD j []=J at hr f G;generalize V[j]=vj at n0 hr;obtain⟨ed,a4,rfl,U⟩:=hr.aT;rcases U with h0|⟨eg,rfl⟩
     ·omega
     have k0:w.cell? ⟨pb,c,none⟩=some (.int .i64 (kd c:Int)):=by rw[K.cell];exact OJ _ _ _ c hc
     have r0:=hr.cell (kd c) G;have hg:J.getD (kd c) 0=J[kd c]:=by simp[G]
     rw[hg]at f;generalize J[kd c]=rv at r0 f;subst f;generalize kd c=kc at k0 r0 G;have i0:(0:Int)<=(j:Int):=by omega
     have i1:(j:Int)<(V.length:Int):=by omega
     have i2:(0:Int)<=(c:Int):=by omega
     have i3:(c:Int)<256:=by omega
     have i4:(0:Int)<=(kc:Int):=by omega
     have i5:(kc:Int)<(J.length:Int):=by omega
     clear K W M B D X hr hg;go_enter Tryz.func132,Tryz.ntmps132;go_wp2_with fail;go_quiet(fail);go_wp2_with fail;go_ret;exact⟨rfl,A2 (Below.refl _ _) _⟩
theorem Iq(al:Nat->I0):∀(d b:Nat),(V0 al b).length<=(V0 al (b+d)).length
 |0,b=>zD _
 |d+1,b=>by
  refine yK (Iq al d b) ?_;show(V0 al (b+d)).length<=(if W8 (V0 al (b+d)) (al (b+d))=(V0 al (b+d)).length then V0 al (b+d)++ [al (b+d)]else V0 al (b+d)).length;split
  ·simp
  ·exact zD _
theorem LQ(al:Nat->I0)(b n:Nat)(h:b<n):Z2 al b<(V0 al n).length:=by
 have B:=Th (V0 al b) (al b);have D:Z2 al b<(V0 al (b+1)).length:=by
  show W8 (V0 al b) (al b)<(if W8 (V0 al b) (al b)=(V0 al b).length then V0 al b++ [al b]else V0 al b).length;split
  ·simp;omega
  ·omega
 have f:=Iq al (n- (b+1)) (b+1);rw[show b+1+(n- (b+1))=n by omega]at f;omega
theorem Av{N:Nat}{aE:List Int}:∀(f:List Int) (st:List Int×List Int),Pk N f->(∀x∈st.1,0<=x/\x<(N:Int))->∀x∈(I3 aE f st).1,0<=x/\x<(N:Int)
 | [],st,_,h=>h
 |x::r,st,hr,h=>by
  unfold I3;refine Av r _ (fun y B=>hr y (by simp[B])) ?_;split
  ·rename_i G;simp at G;intro y B;simp at B;rcases B with e|e
   ·exact h y e
   ·subst e;rcases hr y (by simp)with D|D
    ·exact absurd D G.1
    ·exact D
  ·exact h
theorem Zr{g:B0}{K:Nat}{aE:List Int}(D:GOk g K):∀(f i:Nat) (st:List Int×List Int),(∀x∈st.1,0<=x/\x<(g.aB.length:Int))->∀x∈(P5 g aE f i st).1,0<=x/\x<(g.aB.length:Int)
 |0,i,st,h=>h
 |f+1,i,st,h=>by
  unfold P5;split
  ·rename_i B;refine Zr D f (i+1) _ (Av _ _ ?_ h);have G:st.1.getD i 0∈st.1:=by simp[B]
   have:=h _ G;exact(D.row _ (by rw[D.len];omega)).2
  ·exact h
theorem TS{g:B0}{K:Nat}{aE:List Int}(f:GOk g K)(B:0<g.aB.length):∀x∈(V1 g aE).1,0<=x/\x<(g.aB.length:Int):=
 Zr f _ _ _ (fun x h=>by simp at h;omega)
theorem PE{g:B0}{K:Nat}{aE:List Int}(h:GOk g K)(G:0<g.aB.length):(E1 g aE).next.length=(E1 g aE).aB.length/\∀i,i<(E1 g aE).next.length->((E1 g aE).next.getD i []).length=K:=by
 refine⟨by simp[E1],fun i D=>?_⟩;have f:i<(V1 g aE).1.length:=by simpa[E1]using D
 have J:=TS (aE:=aE) h G (V1 g aE).1[i] (zG f);have B:(E1 g aE).next.getD i []=Z1 aE (V1 g aE).2 (g.next.getD (V1 g aE).1[i].toNat []):=by simp[E1,f]
 rw[B];have:=(h.row (V1 g aE).1[i].toNat (by rw[h.len];omega)).1;simpa[Z1]using this
theorem PP{R:E0}{kd:Nat->Nat}{g:B0}(h:A4 R=some (kd,g)):B8 kd g/\g.next.length=g.aB.length:=by
 unfold A4 at h;split at h
 ·cases h
 ·rename_i B M;obtain⟨J,K,U⟩:=K8 M;have f:=PE (aE:=N1 (G0 B)) (Z4 J) K
  injection h with h
  injection h with h1 h2
  subst h1 h2;exact⟨fun i G b D=>by rw[f.2 i G];exact LQ _ _ _ D,f.1⟩
theorem Po{s:ByteArray}{kd:Nat->Nat}{g:B0}(h:newF s=.lexer kd g):B8 kd g/\g.next.length=g.aB.length:=by
 unfold newF at h;split at h
 ·cases h
 ·split at h
  ·cases h
  ·split at h
   ·cases h
   ·rename_i f
    injection h with h1 h2
    subst h1 h2;exact PP f
abbrev Sf:ByteArray:=⟨#[97,124,97,98,99]⟩
def IY:CP->Nat
 |.bad _ _=>0
 |.lexer _ g=>g.aB.length
theorem ZX:IY (newF Sf)=4:=by kernel_rfl
theorem AY:∃kd g,newF Sf=.lexer kd g/\g.aB.length=4:=by
 have h:=ZX;generalize newF Sf=X at h⊢;cases X with
 |bad e a=>simp[IY]at h
 |lexer kd g=>exact⟨kd,g,rfl,h⟩
def RY(P:World->Nat->Prop)(w':World)(e:Ending):CP->Prop
 |.bad c a=>e=.returned (.tuple #[.pointer none,.int .i64 c,.int .i64 a])
 |.lexer kd g=>∃f,e=.returned (.tuple #[.pointer (some ⟨f,0,none⟩),.int .i64 0,.int .i64 0])/\P w' f
def Mj(P:World->Nat->Prop)(s:ByteArray):Prop:=∀w,Calls Tryz.prog 12 #[.string s] w fun e w'=>Bw w w'/\RY P w' e (newF s)
def XW(P:World->Nat->Prop)(w':World)(e:Ending):CP->Prop
 |.bad c a=>e=.returned (.tuple #[.pointer none,.bool true])
 |.lexer kd g=>∃f xb h,e=.returned (.tuple #[.pointer (some ⟨f,0,none⟩),.bool true])/\Blk w' f #[.pointer (some ⟨xb,0,none⟩),.pointer (some ⟨h,0,none⟩)] 33/\A9 w' xb kd g/\P w' h
theorem A9.gR{w w':World}{D:Nat}{kd:Nat->Nat}{g:B0}(h:A9 w D kd g)(k:Bw w w'):A9 w' D kd g:=by
 obtain⟨B,f,G,J⟩:=h;exact⟨B,f,G.aA k,J.aA k⟩
theorem Jc(v:Int)(w:World):Calls Tryz.prog 13 #[.int .i64 v] w fun e w'=>e=.returned (.int .i64 v)/\w'=w:=by
 go_enter Tryz.func13,Tryz.ntmps13;go_wp2_with fail;go_ret;exact⟨rfl,rfl⟩
theorem ZU(P:World->Nat->Prop)(Y:∀w w' b,P w b->Bw w w'->P w' b)(s:ByteArray)(Z:s.size<=maxLen)(hr:Mj P s)(w:World):
  Calls Tryz.prog 6 #[.string s] w fun e w'=>Bw w w'/\XW P w' e (newF s):=by
 have M:=Hd (NX s Z w);have K:=Hd hr;have HP:=Hd Y;have f:=Hd Jc;clear hr Y Z;unfold Mj at K;generalize newF s=X at M K⊢;cases X with
 |bad c a=>
  have e0:((c:Int) !=(c:Int))=false:=by simp
  have e1:((a:Int) !=(a:Int))=false:=by simp
  go_enter Tryz.func6,Tryz.ntmps6;go_wp2_with fail;refine M.out.mono ?_;rintro e W ⟨B,rfl⟩;have h:=Hd (K.out W);have G:=Hd B;clear B M;go_wp2_with fail;refine h.out.mono ?_;rintro e w2 ⟨D,rfl⟩;have J:=Hd D;clear D h K;go_wp2_with fail;refine(f.out _ _).mono ?_;rintro e w3 ⟨rfl,rfl⟩;go_wp2_with fail;refine(f.out _ _).mono ?_;rintro e w4 ⟨rfl,rfl⟩;go_wp2_with fail
  go_ret2
  exact⟨G.out.trans (J.out.mono G.out.size),rfl⟩
 |lexer kd g=>
  go_enter Tryz.func6,Tryz.ntmps6;go_wp2_with fail;refine M.out.mono ?_;rintro e W ⟨B,xb,rfl,hx⟩;have h:=Hd (K.out W);have G:=Hd2 B hx;clear B hx M;go_wp2_with fail;refine h.out.mono ?_;rintro e w2 ⟨D,yb,rfl,hy⟩;have J:=Hd2 D hy;clear D hy h K;go_wp2_with fail;refine(f.out _ _).mono ?_;rintro e w3 ⟨rfl,rfl⟩;go_wp2_with fail;refine(f.out _ _).mono ?_;rintro e w4 ⟨rfl,rfl⟩;go_wp2_with fail
  go_ret2
  obtain⟨U,x1⟩:=G.out;obtain⟨V,y2⟩:=J.out;refine⟨(U.trans (V.mono U.size)).alloc (yK U.size V.size) _,_,xb,yb,rfl,Blk.aQ _ _ _,(x1.gR V).gR (P0 _ _),HP.out _ _ _ y2 (P0 _ _)⟩
theorem KX(P:World->Nat->Prop)(D:∀w w' b,P w b->Bw w w'->P w' b)(K:Mj P Sf)(w:World):
  Calls Tryz.prog 5 #[] w fun e w'=>e=.returned (.bool true)/\Bw w w':=by
 obtain⟨kd,g,J,G⟩:=AY;have h:=Hd (ZU P D Sf (by decide) K w);rw[J]at h;have W:=Hd G;clear J G K D;go_enter Tryz.func5,Tryz.ntmps5;go_wp2_with fail;refine h.out.mono ?_;rintro e U ⟨f,Z,xb,yb,rfl,B,M,Y⟩;have X:=Hd (XM xb kd g U M);have c0:U.cell? ⟨Z,0,none⟩=some (.pointer (some ⟨xb,0,none⟩)):=B.cell 0;have zb:=B.lt;have V:=Hd f;clear f B M Y h;go_wp2_with fail;refine X.out.mono ?_;rintro e w2 ⟨rfl,rfl⟩;rw[W.out];go_wp2_with fail;go_ret;exact⟨rfl,V.out⟩
end Go.Proofs.YtcckhngbdoiikaaGreat
