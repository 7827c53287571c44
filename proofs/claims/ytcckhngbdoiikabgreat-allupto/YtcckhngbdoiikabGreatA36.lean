import Derived.Test.YtcckhngbdoiikabGreatA20
import Derived.Test.YtcckhngbdoiikabGreatA35
import Derived.IntWalk
import Derived.Laws.CopyOwn
set_option maxRecDepth 20000
set_option maxHeartbeats 12800000
set_option linter.unusedVariables false
namespace Go.Proofs.YtcckhngbdoiikabGreat
open Go.RowKit Go.Deep
theorem FI(s:ByteArray)(p:Nat)(h:p<s.size)(f:p<(Q0 s).length):(Q0 s)[p]=s[p].toNat:=by
 have e:(Q0 s)[p]?=some s[p].toNat:=by
  show(s.data.toList.map UInt8.toNat)[p]?=_;rw[List.getElem?_map,Array.getElem?_toList,Array.getElem?_eq_getElem h];rfl
 rw[zF f]at e;exact zE e
end Go.Proofs.YtcckhngbdoiikabGreat

namespace Go.Proofs.YtcckhngbdoiikabGreat
theorem WN{g:B0}{K:Nat}(M:GOk g K)(f:0<g.aB.length){aE:List Int}(h:aE.length=g.aB.length)(J:∀x∈aE,0<=x/\x<(g.aB.length:Int))(G:Xo g K aE){j k:Nat}(W:j<(E1 g aE).aB.length)(X:k<K):
  W0 (E1 g aE) (j:Int) k= -1\/∃U:Nat,W0 (E1 g aE) (j:Int) k=(U:Int)/\U<(E1 g aE).aB.length:=by
 have B:j<(A2 g aE).1.length:=by simpa[E1]using W
 have Y:=(J7 M f h J).1;have hF:=Y.ok.ok _ (K4 (l:=(A2 g aE).1) B 0);rcases Ii M f h J G B (a:=((A2 g aE).1.getD j 0).toNat) (by omega) rfl X with⟨D,_⟩|⟨Z,a2,D,_,V,_,_⟩
 ·exact .inl D
 ·exact .inr ⟨Z,D,by simpa[E1]using V⟩
structure We(kd:Nat->Nat)(g:B0):Prop where
 bE:0<g.aB.length
 len:g.next.length=g.aB.length
 step:∀j b,j<g.aB.length->b<256->W0 g (j:Int) (kd b)= -1\/∃j':Nat,W0 g (j:Int) (kd b)=(j':Int)/\j'<g.aB.length
theorem I5{R:E0}{kd:Nat->Nat}{g:B0}(h:N3 R=some (kd,g)):We kd g:=by
 obtain⟨D,J,rfl,rfl⟩:=R8 h;obtain⟨M,U,W⟩:=S8 J;have B:=E5 M;have f:0<(G0 D).aB.length:=U;have V:=J7 B f (F8 _) (B9 _ f);refine⟨by simpa[E1]using V.1.bE.1,by simp[E1],fun j b K G=>?_⟩;exact WN B f (F8 _) (B9 _ f) (Yc B f) K (Af R.aJ b 256 G).1
theorem G8{kd:Nat->Nat}{g:B0}(h:We kd g){j b:Nat}(B:j<g.aB.length)(f:b<256):X0 kd g (j:Int) (b:Int)=W0 g (j:Int) (kd b):=by
 unfold X0 W0;rw[if_neg (by rw[h.len];omega),if_neg (by omega),zH,zH]
theorem F7{g:B0}{j:Nat}(f:j<g.aB.length):M0 g (j:Int)=Z4 g (j:Int):=by
 unfold M0 Z4;rw[if_neg (by omega),if_neg (by omega)]
theorem Fz(s:ByteArray)(p:Nat)(h:p<s.size)(f:p<(Q0 s).length):F0 s p=((Q0 s)[p]:Int)/\(Q0 s)[p]<256:=by
 rw[FI s p h f];unfold F0;rw[dif_pos h];exact⟨rfl,s[p].toNat_lt⟩
theorem Su{R:E0}{kd:Nat->Nat}{g:B0}(h:N3 R=some (kd,g)){j K k:Nat}(hj:j<g.aB.length)(W:k<(V0 R.aJ 256).length)(Y:W0 g (j:Int) k=(K:Int)):R6 g (V0 R.aJ 256).length (K:Int):=by
 obtain⟨B,hg,rfl,rfl⟩:=R8 h;clear h;obtain⟨X,hp,hn⟩:=S8 hg;have D:=E5 X;have f:0<(G0 B).aB.length:=hp;have hv:=(J7 D f (F8 _) (B9 _ f)).1;have J:=Yc D f;have G:j<(A2 (G0 B) (U1 (G0 B))).1.length:=by simpa[E1]using hj
 have hF:=hv.ok.ok _ (K4 (l:=(A2 (G0 B) (U1 (G0 B))).1) G 0);rcases Ii D f (F8 _) (B9 _ f) J G (a:=((A2 (G0 B) (U1 (G0 B))).1.getD j 0).toNat) (by omega) rfl W with⟨M,_⟩|⟨j2,U,M,h2,h3,h4,h5⟩
 ·rw[Y]at M;omega
 ·rw[Y]at M;have e:K=j2:=by omega
  subst e;obtain⟨Z,V,g2⟩:=Rm X (s:=((A2 (G0 B) (U1 (G0 B))).1.getD j 0).toNat) (t:=U) (k:=k) (by have:(G0 B).aB.length=B.aB.length:=rfl;omega) W h2;refine⟨Z,V,?_⟩;rw[Ip D f (F8 _) (B9 _ f) J Z K U V h3 h4 h5];exact g2
theorem EC{R:E0}{kd:Nat->Nat}{g:B0}(h:N3 R=some (kd,g)){j:Nat}(M:j<g.aB.length):(g.next.getD j []).length=(V0 R.aJ 256).length:=by
 obtain⟨f,K,rfl,rfl⟩:=R8 h;clear h;obtain⟨U,V,Y⟩:=S8 K;have B:=E5 U;have G:0<(G0 f).aB.length:=V;have W:=(J7 B G (F8 _) (B9 _ G)).1;have D:j<(A2 (G0 f) (U1 (G0 f))).1.length:=by simpa[E1]using M
 have X:=W.ok.ok _ (K4 (l:=(A2 (G0 f) (U1 (G0 f))).1) D 0);have J:(E1 (G0 f) (U1 (G0 f))).next.getD j []=J2 (U1 (G0 f)) (A2 (G0 f) (U1 (G0 f))).2 ((G0 f).next.getD ((A2 (G0 f) (U1 (G0 f))).1.getD j 0).toNat []):=by simp[E1,D]
 rw[J];unfold J2;rw[yB];exact(B.row _ (by rw[B.len];omega)).1
def SE(kd:Nat->Nat)(g:B0):Nat->Int->Prop
 |0,s=>M0 g s≠ -1
 |d+1,s=>M0 g s= -1/\∃b:Nat,b<256/\X0 kd g s (b:Int)≠ -1/\SE kd g d (X0 kd g s (b:Int))
def Fa(kd:Nat->Nat)(g:B0)(d:Nat)(s:Int):Prop:=∃b:Nat,b<256/\X0 kd g s (b:Int)≠ -1/\SE kd g d (X0 kd g s (b:Int))
theorem Rt{R:E0}{kd:Nat->Nat}{g:B0}(h:N3 R=some (kd,g)):∀(D:List Nat) (j:Nat),(∀k∈D,k<(V0 R.aJ 256).length)->j<g.aB.length->Z4 g (A3 g (j:Int) D)≠ -1->∃d,SE kd g d (j:Int)
 | [],j,_,hj,ha=>⟨0,by show M0 g (j:Int)≠ -1;rw[F7 hj];exact ha⟩
 |k::D,j,hk,hj,ha=>by
  by_cases V:M0 g (j:Int)= -1
  ·have f:Z4 g (A3 g (W0 g (j:Int) k) D)≠ -1:=ha;have U:=I5 h;obtain⟨b,K,e⟩:=Ij R.aJ 256 k (hk k (by simp));have B:kd=D3 R.aJ:=by obtain⟨_,_,e,_⟩:=R8 h;exact e
   have W:=U.step j b hj K;have G:=G8 U hj K;rw[B,e]at W;rw[B,e,<-B]at G;rcases W with J|⟨Z,J,M⟩
   ·exfalso
    rw[J,S9 g D (-1) (by omega)]at f;apply f;split <;>rfl
   ·rw[J]at f G;obtain⟨d,X⟩:=Rt h D Z (fun x Y=>hk x (by simp[Y])) M f;exact⟨d+1,V,b,K,by rw[G];omega,by rw[G];exact X⟩
  ·exact⟨0,V⟩
theorem Zu{R:E0}{kd:Nat->Nat}{g:B0}(h:N3 R=some (kd,g)){s:Int}(G:A6 g s=true):∃d,Fa kd g d s:=by
 have M:=I5 h;have Z:=M.len;unfold A6 at G;split at G
 ·cases G
 ·rename_i hc;obtain⟨j,rfl⟩:∃j:Nat,s=(j:Int):=⟨s.toNat,by omega⟩;have J:j<g.aB.length:=by omega
  rw[zH,List.any_eq_true]at G;obtain⟨tt,h1,h2⟩:=G;obtain⟨k,Y,e⟩:=List.getElem_of_mem h1;have f:=Y;rw[EC h J]at f;obtain⟨b,U,X⟩:=Ij R.aJ 256 k f;have B:kd=D3 R.aJ:=by obtain⟨_,_,e,_⟩:=R8 h;exact e
  have hs:=M.step j b J U;have K:=G8 M J U;rw[B,X]at hs;rw[B,X,<-B]at K;have es:W0 g (j:Int) k=tt:=by
   unfold W0;rw[if_neg (by omega),zH,zC,zF Y];exact e
  have W:tt≠ -1:=by simpa using h2
  rcases hs with D|⟨j',D,V⟩
  ·rw[es]at D;exact absurd D W
  ·obtain⟨ks,g1,g2⟩:=Su h J f D;obtain⟨d,hd⟩:=Rt h ks j' g1 V g2;rw[D]at K;exact⟨d,b,U,by rw[K];omega,by rw[K];exact hd⟩
theorem We.eT{kd:Nat->Nat}{g:B0}(h:We kd g):Da kd g:=by
 intro s b
 by_cases f:s<0\/(g.next.length:Int)<=s\/b<0\/256<=b
 ·left
  unfold X0;rw[if_pos f]
 ·obtain⟨j,rfl⟩:∃j:Nat,s=(j:Int):=⟨s.toNat,by omega⟩;obtain⟨c,rfl⟩:∃c:Nat,b=(c:Int):=⟨b.toNat,by omega⟩;have D:=h.len;rw[G8 h (by omega) (by omega)];rcases h.step j c (by omega) (by omega)with e|⟨G,e,B⟩
  ·exact .inl e
  ·right;rw[e];omega
theorem DI{R:E0}{kd:Nat->Nat}{g:B0}(h:N3 R=some (kd,g)):g.aB.length<=61:=by
 obtain⟨f,J,rfl,rfl⟩:=R8 h;obtain⟨K,M,X⟩:=S8 J;have D:=E5 K;have B:0<(G0 f).aB.length:=M;have U:=(J7 D B (F8 _) (B9 _ B)).1;have G:=U.ok;have V:(E1 (G0 f) (U1 (G0 f))).aB.length=(A2 (G0 f) (U1 (G0 f))).1.length:=by simp[E1]
 have W:(G0 f).aB.length=f.aB.length:=rfl;have:=G.sum;omega
theorem Bz{s:ByteArray}{kd:Nat->Nat}{g:B0}(h:newF s=.lexer kd g):∃R,N3 R=some (kd,g):=by
 unfold newF at h;split at h
 ·cases h
 ·split at h
  ·cases h
  ·split at h
   ·cases h
   ·rename_i f
    injection h with h1 h2
    subst h1 h2;exact⟨_,f⟩
theorem TB{aE:List Int}{N:Nat}{st:List Int×List Int}(G:st.2.length=N){tt:Int}(h:0<=aE.getD tt.toNat 0/\aE.getD tt.toNat 0<(N:Int)\/tt= -1){j:Nat}(D:st.1.length<=j)(B:j<(Y2 aE st tt).1.length):tt≠ -1/\(Y2 aE st tt).2.getD (aE.getD tt.toNat 0).toNat 0=(j:Int):=by
 unfold Y2 at B⊢;split at B
 ·rename_i f;rw[if_pos f];simp only[yK,bne_iff_ne,ne_eq,beq_iff_eq]at f;simp only[zL,yH,List.length_nil]at B;refine⟨f.1,?_⟩;simp only;rcases h with h|h
  ·rw[Ib _ _ _ _ (by omega),if_pos rfl];omega
  ·exact absurd h f.1
 ·omega
theorem Xs{N:Nat}{aE:List Int}(B:aE.length=N)(G:∀x∈aE,0<=x/\x<(N:Int)):∀(f:List Int) (st:List Int×List Int),Gq N aE st->Al N f->
  ∀j:Nat,st.1.length<=j->j<(L3 aE f st).1.length->∃tt∈f,tt≠ -1/\(L3 aE f st).2.getD (aE.getD tt.toNat 0).toNat 0=(j:Int)
 | [],st,h,_,j,h1,h2=>by
  have e:L3 aE [] st=st:=rfl;rw[e]at h2;omega
 |x::r,st,h,hr,j,h1,h2=>by
  have e:L3 aE (x::r) st=L3 aE r (Y2 aE st x):=rfl;rw[e]at h2⊢;obtain⟨M,s2,s3⟩:=Yi B G h (hr x (by simp));obtain⟨Y,X,Z⟩:=Gb B G r _ M (fun y K=>hr y (by simp[K]))
  by_cases V:j<(Y2 aE st x).1.length
  ·have W:=hr x (by simp);obtain⟨J,D⟩:=TB (aE:=aE) (N:=N) h.ok.len (tt:=x) (by
    rcases W with e|e
    ·exact .inr e
    ·exact .inl (G _ (K4 (by omega) 0))) h1 V
   refine⟨x,by simp,J,?_⟩;rw[X.2 _ (by rw[D];omega),D]
  ·obtain⟨tt,J,D,U⟩:=Xs B G r _ M (fun y K=>hr y (by simp[K])) j (by omega) h2;exact⟨tt,by simp[J],D,U⟩
def NV(g:B0)(aE:List Int)(st:List Int×List Int)(i:Nat):Prop:=∀j:Nat,0<j->j<st.1.length->∃f:Nat,f<i/\f<j/\∃tt∈g.next.getD (st.1.getD f 0).toNat [],tt≠ -1/\st.2.getD (aE.getD tt.toNat 0).toNat 0=(j:Int)
theorem Hl{g:B0}{K:Nat}(X:GOk g K){aE:List Int}(D:aE.length=g.aB.length)(W:∀x∈aE,0<=x/\x<(g.aB.length:Int)):∀(f i:Nat) (st:List Int×List Int),i<=st.1.length->Gq g.aB.length aE st->NV g aE st i->
  ∃Y,NV g aE (V5 g aE f i st) Y
 |0,i,st,hi,h,hF=>⟨i,hF⟩
 |f+1,i,st,hi,h,hF=>by
  unfold V5;split
  ·rename_i G;have a0:=h.ok.ok _ (K4 (l:=st.1) G 0);have B:=(X.row (st.1.getD i 0).toNat (by rw[X.len];omega)).2;obtain⟨r1,M,r3⟩:=Gb D W _ st h B;have r4:=Xs D W _ st h B;refine Hl X D W f (i+1) _ (by have:=M.1.length_le;omega) r1 (fun j j0 jl=>?_)
   by_cases hj:j<st.1.length
   ·obtain⟨Y,a1,Z,tt,U,V,J⟩:=hF j j0 hj;refine⟨Y,by omega,Z,tt,by rw[Hc M.1 (by omega)];exact U,V,?_⟩;rw[M.2 _ (by rw[J];omega),J]
   ·obtain⟨tt,U,V,J⟩:=r4 j (by omega) jl;exact⟨i,by omega,by omega,tt,by rw[Hc M.1 G];exact U,V,J⟩
  ·exact⟨i,hF⟩
theorem GH{g:B0}{K:Nat}(V:GOk g K)(J:0<g.aB.length){aE:List Int}(B:aE.length=g.aB.length)(D:∀x∈aE,0<=x/\x<(g.aB.length:Int)):∃W,NV g aE (A2 g aE) W:=by
 have M:=D _ (K4 (l:=aE) (k:=0) (by omega) 0);have h:(aE.getD 0 0).toNat<(List.replicate aE.length (-1:Int)).length:=by rw[yD];omega
 have f:∀d,d<aE.length->(List.replicate aE.length (-1:Int)).getD d 0= -1:=fun d G=>by simp[G]
 refine Hl V B D _ 0 _ (by simp) ⟨⟨?_,by simp[B],fun x M=>by simp at M;omega⟩,⟨by simp,rfl⟩,fun j U=>?_,fun d G=>?_⟩ (fun j j0 X=>by simp at X;omega)
 ·have Y:=Lj (List.replicate aE.length (-1:Int)) (aE.getD 0 0).toNat 0 h (by rw[f _ (by omega)]) (by omega);have Z:Tt (List.replicate aE.length (-1:Int))=aE.length:=by simp[Tt]
  simp only[yH,List.length_nil];omega
 ·simp only[yH,List.length_nil]at U;have:j=0:=by omega
  subst this;simp only[List.getD_cons_zero,Int.toNat_zero];rw[Ib _ _ _ _ h,if_pos rfl];rfl
 ·simp only;rw[Ib _ _ _ _ h];split
  ·rename_i e
   right
   refine⟨by omega,by simp,?_⟩;simp only[Int.toNat_zero,List.getD_cons_zero];omega
  ·exact .inl (f d (by omega))
theorem Xl{R:E0}{kd:Nat->Nat}{g:B0}(h:N3 R=some (kd,g)){j:Nat}(j0:0<j)(hj:j<g.aB.length):∃i b:Nat,i<j/\b<256/\X0 kd g (i:Int) (b:Int)=(j:Int):=by
 have hG:=I5 h;have X:=fun i (hi:i<g.aB.length)=>EC h hi
 have V:kd=D3 R.aJ:=by obtain⟨_,_,e,_⟩:=R8 h;exact e
 obtain⟨i,G,k,K,hs⟩:∃i:Nat,i<j/\∃k,k<(V0 R.aJ 256).length/\W0 g (i:Int) k=(j:Int):=by
  obtain⟨f,hg,rfl,rfl⟩:=R8 h;obtain⟨ho,hp,hn⟩:=S8 hg;have B:=E5 ho;have D:0<(G0 f).aB.length:=hp;obtain⟨x,hF⟩:=GH B D (F8 _) (B9 _ D);have hv:=(J7 B D (F8 _) (B9 _ D)).1;have U:j<(A2 (G0 f) (U1 (G0 f))).1.length:=by simpa[E1]using hj
  obtain⟨i,_,G,tt,Y,Z,a3⟩:=hF j j0 U;have J:i<(A2 (G0 f) (U1 (G0 f))).1.length:=by omega
  have a0:=hv.ok.ok _ (K4 (l:=(A2 (G0 f) (U1 (G0 f))).1) J 0);obtain⟨k,K,e⟩:=List.getElem_of_mem Y;have hr:=B.row ((A2 (G0 f) (U1 (G0 f))).1.getD i 0).toNat (by rw[B.len];omega);refine⟨i,G,k,by rw[<-hr.1];exact K,?_⟩;have e1:(E1 (G0 f) (U1 (G0 f))).next.getD i []=J2 (U1 (G0 f)) (A2 (G0 f) (U1 (G0 f))).2 ((G0 f).next.getD ((A2 (G0 f) (U1 (G0 f))).1.getD i 0).toNat []):=by simp[E1,J]
  have M:¬((i:Int)<0):=by omega
  simp only[W0,if_neg M,zH];rw[e1];unfold J2;rw[Hy _ _ _ K];have e2:((G0 f).next.getD ((A2 (G0 f) (U1 (G0 f))).1.getD i 0).toNat []).getD k 0=tt:=by
   rw[zC,zF K];exact e
  rw[e2,if_pos (by simpa using Z),a3]
 obtain⟨b,W,e⟩:=Ij R.aJ 256 k K;refine⟨i,b,G,W,?_⟩;rw[G8 hG (by omega) W,V,e];exact hs
end Go.Proofs.YtcckhngbdoiikabGreat
