import Derived.Test.YtcckhngbdoiikabGreatA28
set_option maxRecDepth 20000
set_option maxHeartbeats 12800000
set_option linter.unusedVariables false
set_option linter.unusedSimpArgs false
namespace Go.Proofs.YtcckhngbdoiikabGreat
open Go.RowKit Go.Deep
structure DM(w:World)(db N:Nat)(R:Nat->Nat)(D:Nat->List Bool):Prop where
 aO:∃c,Blk w db c 143/\∀i,i<N->c[i]?=some (.slice (some ⟨R i,0,none⟩) N N)
 aX:∀i,i<N->Blk w (R i) (Z0 (D i)) 4/\(D i).length=N
 inj:∀i j,i<N->j<N->R i=R j->i=j
theorem DM.aA{w w':World}{f N:Nat}{R:Nat->Nat}{D:Nat->List Bool}(h:DM w f N R D)(k:Bw w w'):DM w' f N R D:=by
 obtain⟨c,G,J⟩:=h.aO;exact⟨⟨c,G.aA k,J⟩,fun i B=>⟨(h.aX i B).1.aA k,(h.aX i B).2⟩,h.inj⟩
theorem DM.cells{w:World}{f N:Nat}{R:Nat->Nat}{D:Nat->List Bool}(h:DM w f N R D){i j:Nat}(B:i<N)(U:j<N):w.cell? ⟨f,i,none⟩=some (.slice (some ⟨R i,0,none⟩) N N)/\w.cell? ⟨R i,j,none⟩=some (.bool ((D i).getD j false)):=by
 obtain⟨c,G,J⟩:=h.aO;obtain⟨K,M⟩:=h.aX i B;exact⟨by rw[G.cell];exact J i B,P2 K j (by omega)⟩
def alS(al:List Bool)(s:Int):Bool:=decide (0<=s) && al.getD s.toNat false
def stB(al:List Bool)(D:Nat->List Bool)(s t:Int):Bool:=(alS al s !=alS al t) || (alS al s && alS al t && (D s.toNat).getD t.toNat false)
theorem Mn{T:List ByteArray}{h:List (Nat×List Int)}{g:B0}{K:Nat}{kd:Nat->Nat}{B:List MT}(D:GP T h g K kd B)(al:List Bool){i b:Nat}(J:i<g.aB.length)(G:b<256):(W0 g (i:Int) (kd b)= -1)\/(∃t:Nat,t<g.aB.length/\W0 g (i:Int) (kd b)=(t:Int)/\al.getD t false=false)\/(∃t:Nat,t<g.aB.length/\W0 g (i:Int) (kd b)=(t:Int)/\al.getD t false=true):=by
 rcases D.leads J G with e|⟨t,f,e⟩
 ·exact .inl e
 ·cases hh:al.getD t false with
  |false=>exact .inr (.inl ⟨t,f,e,hh⟩)
  |true=>exact .inr (.inr ⟨t,f,e,hh⟩)
theorem Vb(al:List Bool):alS al (-1)=false:=rfl
theorem Ta(al:List Bool)(t:Nat):alS al (t:Int)=al.getD t false:=by unfold alS;simp
theorem SG(fb lo ab db a4 N i j:Nat)(R:Nat->Nat)(D:Nat->List Bool)(al:List Bool)(aD:List MT)(tv sv ov:Value)(T:List ByteArray)(S:List (Nat×List Bool))(To:List (Nat×List Int))(g:B0)(K:Nat)(kd:Nat->Nat)(w:World)(hF:P3 w lo fb tv sv ov T S To)(hG:GP T To g K kd aD)(hN:N=g.aB.length)
  (hA:Blk w ab (Z0 al) 4) (a0:al.length=N) (hD:DM w db N R D) (hi:i<N) (hj:j<N):
  Calls Tryz.prog 103 #[.pointer (some ⟨fb,0,none⟩),.slice (some ⟨ab,0,none⟩) N N,.slice (some ⟨db,0,none⟩) N a4,.int .i64 i,.int .i64 j] w fun e w'=>∃x,e=.returned (.bool x)/\(x=true↔∃b,b<256/\stB al D (W0 g (i:Int) (kd b)) (W0 g (j:Int) (kd b))=true)/\Bw w w':=by
 have ac:N<=61:=by have:=hG.cV;omega
 have HC:=Hd6 hF hG hN hA a0 hD;have i0:(0:Int)<=(i:Int):=by omega
 have i1:(i:Int)<(N:Int):=by omega
 have j0:(0:Int)<=(j:Int):=by omega
 have j1:(j:Int)<(N:Int):=by omega
 clear hF hG hN hA a0 hD;go_enter Tryz.func103,Tryz.ntmps103;go_wp2_with fail
 go_loopg[11] 256 (fun G bv wr=>∃b:Nat,bv=.int .i64 b/\b<=256/\G=256-b/\(∀c,c<b->stB al D (W0 g (i:Int) (kd c)) (W0 g (j:Int) (kd c))=false)/\Bw w wr)
 case atStart=>exact⟨0,rfl,by omega,rfl,fun c hc=>by omega,Below.refl _ _⟩
 case round=>
  obtain⟨b,rfl,hb,rfl,a3,hB⟩:=hrel
  by_cases J:b<256
  ·have e3:decide ((b:Int)<256)=true:=by simp;omega
   obtain⟨hF,hG,hN,hA,a0,hD⟩:=HC.out;have a7:To.length=N:=by rw[hG.ol,hN]
   obtain⟨og,ad,o1,o2⟩:=(hF.aA hB).to (by omega);obtain⟨p1,p2⟩:=o2 i (by omega);obtain⟨r1,r2⟩:=o2 j (by omega);have p3:=p2 b J;have r3:=r2 b J;rw[hG.step i b (by omega) J]at p3;rw[hG.step j b (by omega) J]at r3;rw[a7]at o1;generalize To[i].1=ob at p1 p3;generalize To[j].1=ob2 at r1 r3;have a5:=hA.aA hB;have a6:=hD.aA hB;have b0:(0:Int)<=(b:Int):=by omega
   have b1:(b:Int)<256:=by omega
   have c1:=Mn hG al (i:=i) (b:=b) (by omega) J;have c2:=Mn hG al (i:=j) (b:=b) (by omega) J;have Y:=Hd2 a3 hB;obtain⟨X,M⟩:∃X,stB al D (W0 g (i:Int) (kd b)) (W0 g (j:Int) (kd b))=X:=⟨_,rfl⟩;have U:=Hd M;rw[<-hN]at c1 c2;have a8:∀t,t<N->wr.cell? ⟨ab,t,none⟩=some (.bool (al.getD t false)):=fun t ht=>P2 a5 t (by omega)
   have a9:∀s t,s<N->t<N->_:=fun s t hs ht=>a6.cells hs ht
   have f:=Hd2 a8 a9;clear hF hG hN hA a0 hD a7 o2 p2 r2 a5 a6 a3 hB a8 a9;generalize W0 g (i:Int) (kd b)=s at c1 p3 M;generalize W0 g (j:Int) (kd b)=t at c2 r3 M;rcases c1 with rfl|⟨s,hs,rfl,h⟩|⟨s,hs,rfl,h⟩ <;>rcases c2 with rfl|⟨t,ht,rfl,B⟩|⟨t,ht,rfl,B⟩
   ·simp only[stB,Vb,Ta,bne,Bool.true_or,beq_self_eq_true,xH,xC,Bool.false_beq,Bool.true_beq,xB,Bool.and_false,Bool.or_false]at M;subst M;go_wp2_with fail
    go_roundg (256- (b+1))
    case measure=>omega
    case rel=>
     obtain⟨W,V⟩:=Y.out;refine⟨b+1,by go_num,by omega,rfl,fun c hc=>?_,V⟩
     by_cases e:c<b
     ·exact W c e
     ·rw[show c=b by omega];exact U.out
   ·have t0:(0:Int)<=(t:Int):=by omega
    have t1:(t:Int)<(N:Int):=by omega
    have et:decide ((0:Int)<=(t:Int))=true:=by simp
    have Z:=f.out.1 t ht;rw[B]at Z;simp only[stB,Vb,Ta,B,bne,Bool.true_or,beq_self_eq_true,xH,xC,Bool.false_beq,Bool.true_beq,xB,Bool.and_false,Bool.or_false]at M;subst M;go_wp2_with fail
    go_roundg (256- (b+1))
    case measure=>omega
    case rel=>
     obtain⟨W,V⟩:=Y.out;refine⟨b+1,by go_num,by omega,rfl,fun c hc=>?_,V⟩
     by_cases e:c<b
     ·exact W c e
     ·rw[show c=b by omega];exact U.out
   ·have t0:(0:Int)<=(t:Int):=by omega
    have t1:(t:Int)<(N:Int):=by omega
    have et:decide ((0:Int)<=(t:Int))=true:=by simp
    have Z:=f.out.1 t ht;rw[B]at Z;simp only[stB,Vb,Ta,B,bne,Bool.true_or,beq_self_eq_true,xH,xC,Bool.false_beq,Bool.true_beq,xB,Bool.and_false,Bool.or_false]at M;subst M;go_wp2_with fail;go_ret;obtain⟨W,V⟩:=Y.out;exact⟨true,rfl,⟨fun _=>⟨b,J,U.out⟩,fun _=>rfl⟩,V⟩
   ·have s0:(0:Int)<=(s:Int):=by omega
    have s1:(s:Int)<(N:Int):=by omega
    have es:decide ((0:Int)<=(s:Int))=true:=by simp
    have cs:=f.out.1 s hs;rw[h]at cs;simp only[stB,Vb,Ta,h,bne,Bool.true_or,beq_self_eq_true,xH,xC,Bool.false_beq,Bool.true_beq,xB,Bool.and_false,Bool.or_false]at M;subst M;go_wp2_with fail
    go_roundg (256- (b+1))
    case measure=>omega
    case rel=>
     obtain⟨W,V⟩:=Y.out;refine⟨b+1,by go_num,by omega,rfl,fun c hc=>?_,V⟩
     by_cases e:c<b
     ·exact W c e
     ·rw[show c=b by omega];exact U.out
   ·have s0:(0:Int)<=(s:Int):=by omega
    have s1:(s:Int)<(N:Int):=by omega
    have es:decide ((0:Int)<=(s:Int))=true:=by simp
    have cs:=f.out.1 s hs;rw[h]at cs;have t0:(0:Int)<=(t:Int):=by omega
    have t1:(t:Int)<(N:Int):=by omega
    have et:decide ((0:Int)<=(t:Int))=true:=by simp
    have Z:=f.out.1 t ht;rw[B]at Z;simp only[stB,Vb,Ta,h,B,bne,Bool.true_or,beq_self_eq_true,xH,xC,Bool.false_beq,Bool.true_beq,xB,Bool.and_false,Bool.or_false]at M;subst M;go_wp2_with fail
    go_roundg (256- (b+1))
    case measure=>omega
    case rel=>
     obtain⟨W,V⟩:=Y.out;refine⟨b+1,by go_num,by omega,rfl,fun c hc=>?_,V⟩
     by_cases e:c<b
     ·exact W c e
     ·rw[show c=b by omega];exact U.out
   ·have s0:(0:Int)<=(s:Int):=by omega
    have s1:(s:Int)<(N:Int):=by omega
    have es:decide ((0:Int)<=(s:Int))=true:=by simp
    have cs:=f.out.1 s hs;rw[h]at cs;have t0:(0:Int)<=(t:Int):=by omega
    have t1:(t:Int)<(N:Int):=by omega
    have et:decide ((0:Int)<=(t:Int))=true:=by simp
    have Z:=f.out.1 t ht;rw[B]at Z;simp only[stB,Vb,Ta,h,B,bne,Bool.true_or,beq_self_eq_true,xH,xC,Bool.false_beq,Bool.true_beq,xB,Bool.and_false,Bool.or_false]at M;subst M;go_wp2_with fail;go_ret;obtain⟨W,V⟩:=Y.out;exact⟨true,rfl,⟨fun _=>⟨b,J,U.out⟩,fun _=>rfl⟩,V⟩
   ·have s0:(0:Int)<=(s:Int):=by omega
    have s1:(s:Int)<(N:Int):=by omega
    have es:decide ((0:Int)<=(s:Int))=true:=by simp
    have cs:=f.out.1 s hs;rw[h]at cs;simp only[stB,Vb,Ta,h,bne,Bool.true_or,beq_self_eq_true,xH,xC,Bool.false_beq,Bool.true_beq,xB,Bool.and_false,Bool.or_false]at M;subst M;go_wp2_with fail;go_ret;obtain⟨W,V⟩:=Y.out;exact⟨true,rfl,⟨fun _=>⟨b,J,U.out⟩,fun _=>rfl⟩,V⟩
   ·have s0:(0:Int)<=(s:Int):=by omega
    have s1:(s:Int)<(N:Int):=by omega
    have es:decide ((0:Int)<=(s:Int))=true:=by simp
    have cs:=f.out.1 s hs;rw[h]at cs;have t0:(0:Int)<=(t:Int):=by omega
    have t1:(t:Int)<(N:Int):=by omega
    have et:decide ((0:Int)<=(t:Int))=true:=by simp
    have Z:=f.out.1 t ht;rw[B]at Z;simp only[stB,Vb,Ta,h,B,bne,Bool.true_or,beq_self_eq_true,xH,xC,Bool.false_beq,Bool.true_beq,xB,Bool.and_false,Bool.or_false]at M;subst M;go_wp2_with fail;go_ret;obtain⟨W,V⟩:=Y.out;exact⟨true,rfl,⟨fun _=>⟨b,J,U.out⟩,fun _=>rfl⟩,V⟩
   ·have s0:(0:Int)<=(s:Int):=by omega
    have s1:(s:Int)<(N:Int):=by omega
    have es:decide ((0:Int)<=(s:Int))=true:=by simp
    have cs:=f.out.1 s hs;rw[h]at cs;have t0:(0:Int)<=(t:Int):=by omega
    have t1:(t:Int)<(N:Int):=by omega
    have et:decide ((0:Int)<=(t:Int))=true:=by simp
    have Z:=f.out.1 t ht;rw[B]at Z;obtain⟨ae,aa⟩:=f.out.2 s t hs ht;simp only[stB,Ta,h,B,zH,bne_self_eq_false,Bool.false_or,Bool.true_and]at M;rw[M]at aa;clear M;cases X with
    |true=>
     go_wp2_with fail;go_ret;obtain⟨W,V⟩:=Y.out;exact⟨true,rfl,⟨fun _=>⟨b,J,U.out⟩,fun _=>rfl⟩,V⟩
    |false=>
     go_wp2_with fail
     go_roundg (256- (b+1))
     case measure=>omega
     case rel=>
      obtain⟨W,V⟩:=Y.out;refine⟨b+1,by go_num,by omega,rfl,fun c hc=>?_,V⟩
      by_cases e:c<b
      ·exact W c e
      ·rw[show c=b by omega];exact U.out
  ·have e3:decide ((b:Int)<256)=false:=by simp;omega
   have Y:=Hd2 a3 hB;clear a3 hB;go_wp2_with fail;go_ret;obtain⟨W,V⟩:=Y.out;refine⟨false,rfl,⟨fun e=>(by cases e),fun⟨c,h1,h2⟩=>?_⟩,V⟩;rw[W c (by omega)]at h2;cases h2
end Go.Proofs.YtcckhngbdoiikabGreat

namespace Go.Proofs.YtcckhngbdoiikabGreat
open Go.RowKit Go.Deep
def Bg(g:B0)(K:Nat)(i j:Int):Prop:=∃f:List Nat,(∀k∈f,k<K)/\Z4 g (A3 g i f)≠Z4 g (A3 g j f)
theorem MM{g:B0}{K k:Nat}{i j:Int}(J:k<K)(h:Bg g K (W0 g i k) (W0 g j k)):Bg g K i j:=by
 obtain⟨M,B,G⟩:=h;refine⟨k::M,fun x f=>?_,G⟩;rw[zU]at f;rcases f with rfl|f
 ·exact J
 ·exact B x f
theorem IR(g:B0)(f:List Nat):Z4 g (A3 g (-1) f)= -1:=by
 rw[S9 g f (-1) (by omega)];have h:Z4 g (-1)= -1:=by unfold Z4;rw[if_pos (by omega)]
 split <;>exact h
section
variable{T:List ByteArray}{To:List (Nat×List Int)}{g:B0}{K N:Nat}{kd:Nat->Nat}{aD:List MT}{al:List Bool}{D D0:Nat->List Bool}
theorem Nn(M:GP T To g K kd aD)(B:∀i:Nat,i<g.aB.length->(al.getD i false=true↔R6 g K (i:Int))){i b:Nat}(V:i<g.aB.length)(U:b<256)(h:alS al (W0 g (i:Int) (kd b))=false)(f:List Nat)(W:∀k∈f,k<K):Z4 g (A3 g (W0 g (i:Int) (kd b)) f)= -1:=by
 rcases Mn M al V U with e|⟨t,J,e,G⟩|⟨t,J,e,G⟩
 ·rw[e];exact IR g f
 ·rw[e];refine Decidable.not_not.1 fun X=>?_
  have:=(B t J).2 ⟨f,W,X⟩;rw[G]at this;cases this
 ·rw[e,Ta,G]at h;cases h
theorem Ej(G:GP T To g K kd aD){i b:Nat}(M:i<g.aB.length)(J:b<256)(h:alS al (W0 g (i:Int) (kd b))=true):∃t:Nat,t<g.aB.length/\W0 g (i:Int) (kd b)=(t:Int)/\al.getD t false=true:=by
 rcases Mn G al M J with e|⟨t,B,e,f⟩|⟨t,B,e,f⟩
 ·rw[e,Vb]at h;cases h
 ·rw[e,Ta,f]at h;cases h
 ·exact⟨t,B,e,f⟩
def Yw(g:B0)(K:Nat)(D:Nat->List Bool):Prop:=∀i j:Nat,i<g.aB.length->j<g.aB.length->(D i).getD j false=true->Bg g K (i:Int) (j:Int)
def JH(g:B0)(D:Nat->List Bool):Prop:=∀i j:Nat,i<g.aB.length->j<g.aB.length->g.aB.getD i 0≠g.aB.getD j 0->(D i).getD j false=true
theorem CY(B:GP T To g K kd aD)(f:∀i:Nat,i<g.aB.length->(al.getD i false=true↔R6 g K (i:Int)))(hs:Yw g K D){i j b:Nat}(W:i<g.aB.length)(X:j<g.aB.length)(G:b<256)(h:stB al D (W0 g (i:Int) (kd b)) (W0 g (j:Int) (kd b))=true):Bg g K (i:Int) (j:Int):=by
 refine MM (B.lI b G) ?_;unfold stB at h;cases h1:alS al (W0 g (i:Int) (kd b)) <;>cases h2:alS al (W0 g (j:Int) (kd b))
 ·rw[h1,h2]at h;simp at h
 ·obtain⟨t,J,e,V⟩:=Ej B X G h2;obtain⟨U,M,Z⟩:=(f t J).1 V;exact⟨U,M,by rw[Nn B f W G h1 U M,e];exact fun e'=>Z e'.symm⟩
 ·obtain⟨t,J,e,V⟩:=Ej B W G h1;obtain⟨U,M,Z⟩:=(f t J).1 V;exact⟨U,M,by rw[Nn B f X G h2 U M,e];exact Z⟩
 ·obtain⟨s,Y,e,V⟩:=Ej B W G h1;obtain⟨t,J,e2,a0⟩:=Ej B X G h2;rw[h1,h2]at h;simp only[bne_self_eq_false,Bool.false_or,Bool.true_and]at h;rw[e,e2,zH,zH]at h;rw[e,e2];exact hs s t Y J h
theorem Sq(U:GP T To g K kd aD)(J:∀i:Nat,i<g.aB.length->(al.getD i false=true↔R6 g K (i:Int)))(X:JH g D)(Y:∀i j b:Nat,i<g.aB.length->j<g.aB.length->b<256->(D i).getD j false=false->stB al D (W0 g (i:Int) (kd b)) (W0 g (j:Int) (kd b))=false):∀(B:List Nat) (i j:Nat),i<g.aB.length->j<g.aB.length->(∀k∈B,k<K)->(D i).getD j false=false->Z4 g (A3 g (i:Int) B)=Z4 g (A3 g (j:Int) B)
 | [],i,j,hi,hj,_,h=>by
  show Z4 g (i:Int)=Z4 g (j:Int);rw[Ln,Ln];refine Decidable.not_not.1 fun hn=>?_
  rw[X i j hi hj hn]at h;cases h
 |k::B,i,j,hi,hj,hk,h=>by
  obtain⟨b,f,rfl⟩:=U.kV k (hk k (by simp));have G:=Y i j b hi hj f h;have M:∀x∈B,x<K:=fun x Z=>hk x (by simp[Z])
  show Z4 g (A3 g (W0 g (i:Int) (kd b)) B)=Z4 g (A3 g (W0 g (j:Int) (kd b)) B);unfold stB at G;cases h1:alS al (W0 g (i:Int) (kd b)) <;>cases h2:alS al (W0 g (j:Int) (kd b))
  ·rw[Nn U J hi f h1 B M,Nn U J hj f h2 B M]
  ·rw[h1,h2]at G;simp at G
  ·rw[h1,h2]at G;simp at G
  ·obtain⟨s,V,e,Z⟩:=Ej U hi f h1;obtain⟨t,ht,W,a0⟩:=Ej U hj f h2;rw[h1,h2]at G;simp only[bne_self_eq_false,Bool.false_or,Bool.true_and]at G;rw[e,W,zH,zH]at G;rw[e,W];exact Sq U J X Y B s t V ht M G
theorem JC{p q:Nat->Bool}:∀(L:List Nat),(∀x,p x=true->q x=true)->(∃x∈L,p x=false/\q x=true)->L.countP p<L.countP q
 | [],_,h=>by simp at h
 |x::L,hpq,h=>by
  have M:L.countP p<=L.countP q:=List.countP_mono_left fun y _ f=>hpq y f
  rw[List.countP_cons,List.countP_cons];obtain⟨y,f,G,J⟩:=h;rw[zU]at f;rcases f with rfl|f
  ·rw[if_neg (by rw[G];simp),if_pos J];omega
  ·have U:=JC L hpq ⟨y,f,G,J⟩
   by_cases B:p x=true
   ·rw[if_pos B,if_pos (hpq x B)];omega
   ·rw[if_neg B];split <;>omega
def TA(N:Nat)(D:Nat->List Bool):Nat:=(List.range (N*N)).countP (fun q=>(D (q / N)).getD (q % N) false)
theorem XY(N:Nat)(D:Nat->List Bool):TA N D<=N*N:=by have:=List.countP_le_length (p:=fun q=>(D (q / N)).getD (q % N) false) (l:=List.range (N*N));rwa [List.length_range]at this
def FH(D:Nat->List Bool)(i:Nat)(l:List Bool):Nat->List Bool:=fun a=>if a=i then l else D a
theorem Yg(D:Nat->List Bool){i j:Nat}(B:j<(D i).length)(x:Bool)(a c:Nat):(FH D i ((D i).set j x) a).getD c false=if a=i/\c=j then x else(D a).getD c false:=by
 unfold FH
 by_cases e:a=i
 ·subst e;rw[if_pos rfl,C7 _ _ _ _ B]
  by_cases f:c=j
  ·rw[if_pos f,if_pos ⟨rfl,f⟩]
  ·rw[if_neg f,if_neg (fun h=>f h.2)]
 ·rw[if_neg e,if_neg (fun h=>e h.1)]
theorem YY{i j:Nat}(G:i<N)(f:j<N)(B:j<(D i).length)(h:(D i).getD j false=false):TA N D<TA N (FH D i ((D i).set j true)):=by
 refine JC _ (fun q J=>?_) ⟨i*N+j,?_,?_,?_⟩
 ·rw[Yg D B];split
  ·rfl
  ·exact J
 ·rw[List.mem_range];have:(i+1)*N<=N*N:=Nat.mul_le_mul_right _ G;rw[Nat.succ_mul]at this;omega
 ·rw[show(i*N+j) / N=i by rw[Nat.mul_comm,Nat.mul_add_div (by omega),Nat.div_eq_of_lt f];omega,show(i*N+j) % N=j by rw[Nat.mul_comm,Nat.mul_add_mod,Nat.mod_eq_of_lt f]];exact h
 ·rw[show(i*N+j) / N=i by rw[Nat.mul_comm,Nat.mul_add_div (by omega),Nat.div_eq_of_lt f];omega,show(i*N+j) % N=j by rw[Nat.mul_comm,Nat.mul_add_mod,Nat.mod_eq_of_lt f],Yg D B,if_pos ⟨rfl,rfl⟩]
structure Se(g:B0)(K:Nat)(kd:Nat->Nat)(al:List Bool)(D0 D:Nat->List Bool)(more:Bool)(i j:Nat):Prop where
 cS:Yw g K D
 cX:JH g D
 or:(more=false/\D=D0/\∀a c b:Nat,a<g.aB.length->c<g.aB.length->b<256->(a<i\/(a=i/\c<j))->(D0 a).getD c false=false->stB al D0 (W0 g (a:Int) (kd b)) (W0 g (c:Int) (kd b))=false)\/(more=true/\TA g.aB.length D0<TA g.aB.length D)
theorem Se.start(f:Yw g K D0)(h:JH g D0):Se g K kd al D0 D0 false 0 0:=⟨f,h,.inl ⟨rfl,rfl,fun a c b B J G M=>by omega⟩⟩
theorem Se.row{f:Bool}{i:Nat}(h:Se g K kd al D0 D f i g.aB.length):Se g K kd al D0 D f (i+1) 0:=⟨h.cS,h.cX,h.or.imp (fun e=>⟨e.1,e.2.1,fun a c b B J G M=>e.2.2 a c b B J G (by omega)⟩) id⟩
theorem Se.iN{f:Bool}{i j:Nat}(h:Se g K kd al D0 D f i j)(B:(D i).getD j false=true\/∀b,b<256->stB al D (W0 g (i:Int) (kd b)) (W0 g (j:Int) (kd b))=false):Se g K kd al D0 D f i (j+1):=by
 refine⟨h.cS,h.cX,h.or.imp (fun e=>⟨e.1,e.2.1,fun a c b U V J W G=>?_⟩) id⟩
 by_cases M:a=i/\c=j
 ·obtain⟨rfl,rfl⟩:=M;rw[e.2.1]at B;rcases B with B|B
  ·rw[B]at G;cases G
  ·exact B b J
 ·exact e.2.2 a c b U V J (by omega) G
theorem Se.mark(Y:GP T To g K kd aD)(M:∀i:Nat,i<g.aB.length->(al.getD i false=true↔R6 g K (i:Int))){G:Bool}{i j:Nat}(h:Se g K kd al D0 D G i j)(W:i<g.aB.length)(X:j<g.aB.length)(hl:(D i).length=g.aB.length)(hf:(D i).getD j false=false)(hx:∃b,b<256/\stB al D (W0 g (i:Int) (kd b)) (W0 g (j:Int) (kd b))=true):Se g K kd al D0 (FH D i ((D i).set j true)) true i (j+1):=by
 obtain⟨b,Z,hs⟩:=hx;have U:=CY Y M h.cS W X Z hs;have hc:=YY W X (by omega) hf;refine⟨fun a c J f B=>?_,fun a c J f B=>?_,.inr ⟨rfl,?_⟩⟩
 ·rw[Yg D (by omega)]at B
  by_cases V:a=i/\c=j
  ·obtain⟨rfl,rfl⟩:=V;exact U
  ·rw[if_neg V]at B;exact h.cS a c J f B
 ·rw[Yg D (by omega)];split
  ·rfl
  ·exact h.cX a c J f B
 ·rcases h.or with⟨_,e,_⟩|⟨_,e⟩
  ·rw[<-e];exact hc
  ·omega
theorem Se.more(h:Se g K kd al D0 D true g.aB.length 0):TA g.aB.length D0<TA g.aB.length D:=by
 rcases h.or with⟨e,_⟩|⟨_,e⟩
 ·cases e
 ·exact e
theorem Se.end(W:GP T To g K kd aD)(f:∀i:Nat,i<g.aB.length->(al.getD i false=true↔R6 g K (i:Int)))(h:Se g K kd al D0 D false g.aB.length 0):D=D0/\∀i j:Nat,i<g.aB.length->j<g.aB.length->((D i).getD j false=true↔Bg g K (i:Int) (j:Int)):=by
 rcases h.or with⟨_,e,Z⟩|⟨e,_⟩
 ·refine⟨e,fun i j J M=>⟨h.cS i j J M,fun⟨ks,U,V⟩=>?_⟩⟩;cases hh:(D i).getD j false with
  |true=>rfl
  |false=>exact absurd (Sq W f h.cX (fun a c b B Y X G=>by rw[e]at G⊢;exact Z a c b B Y X (.inl B) G) ks i j J M U hh) V
 ·cases e
end
structure DP(w:World)(lo db N m:Nat)(R:Nat->Nat)(D:Nat->List Bool):Prop where
 aO:∃c,Blk w db c 143/\c.size=N/\∀i,i<m->c[i]?=some (.slice (some ⟨R i,0,none⟩) N N)
 aX:∀i,i<m->Blk w (R i) (Z0 (D i)) 4/\(D i).length=N/\lo<=R i
 inj:∀i j,i<m->j<m->R i=R j->i=j
section
variable{w w':World}{lo db N m:Nat}{R:Nat->Nat}{D:Nat->List Bool}
theorem DP.dm(h:DP w lo db N N R D):DM w db N R D:=by
 obtain⟨c,B,_,G⟩:=h.aO;exact⟨⟨c,B,G⟩,fun i f=>⟨(h.aX i f).1,(h.aX i f).2.1⟩,h.inj⟩
theorem DP.aA(h:DP w lo db N m R D)(k:Bw w w'):DP w' lo db N m R D:=by
 obtain⟨c,B,G⟩:=h.aO;exact⟨⟨c,B.aA k,G⟩,fun i f=>⟨(h.aX i f).1.aA k,(h.aX i f).2⟩,h.inj⟩
theorem DP.set(h:DP w lo db N m R D){i:Nat}(G:i<m)(j:Nat)(x:Bool):DP (w.setCell ⟨R i,j,none⟩ (.bool x)) lo db N m R (FH D i ((D i).set j x)):=by
 have V:C0 (fun b=>b=R i) w (w.setCell ⟨R i,j,none⟩ (.bool x)):=C0.setCell (ex:=fun b=>b=R i) (p:=⟨R i,j,none⟩) (C0.refl _ _) (fun _=>rfl) _;obtain⟨c,f,X⟩:=h.aO;refine⟨⟨c,f.kept V (fun e=>f.ne (h.aX i G).1 (by decide) e),X⟩,fun a B=>?_,h.inj⟩;obtain⟨J,M,U⟩:=h.aX a B;unfold FH
 by_cases e:a=i
 ·subst e;rw[if_pos rfl];exact⟨by rw[<-D4];exact J.set j _,by simp[M],U⟩
 ·rw[if_neg e];exact⟨J.kept V (fun W=>e (h.inj a i B G W)),M,U⟩
theorem DP.push(h:DP w lo db N m R D)(J:lo<=w.heap.size)(hm:m<N){l:List Bool}(hl:l.length=N):DP ((w.alloc (.cells (Z0 l) 4)).setCell ⟨db,m,none⟩ (.slice (some ⟨w.heap.size,0,none⟩) N N)) lo db N (m+1) (Hw R m w.heap.size) (FH D m l):=by
 have V:C0 (fun b=>b=db) (w.alloc (.cells (Z0 l) 4)) ((w.alloc (.cells (Z0 l) 4)).setCell ⟨db,m,none⟩ (.slice (some ⟨w.heap.size,0,none⟩) N N)):=C0.setCell (ex:=fun b=>b=db) (p:=⟨db,m,none⟩) (C0.refl _ _) (fun _=>rfl) _;obtain⟨c,X,Y,Z⟩:=h.aO;have f:=X.alloc (.cells (Z0 l) 4);have M:=Blk.aR w (Z0 l) 4;refine⟨⟨_,f.set m _,by simp[Y],fun i hi=>?_⟩,fun a ha=>?_,fun a b ha hb e=>?_⟩
 ·rw[xD];unfold Hw
  by_cases e:i=m
  ·subst e;rw[if_pos rfl,if_pos rfl,if_pos (by omega)]
  ·rw[if_neg (fun W=>e W.symm),if_neg e];exact Z i (by omega)
 ·unfold Hw FH
  by_cases e:a=m
  ·rw[if_pos e,if_pos e];exact⟨M.kept V (fun e=>M.ne f (by decide) e),hl,J⟩
  ·rw[if_neg e,if_neg e];obtain⟨U,k2,k3⟩:=h.aX a (by omega);exact⟨(U.alloc _).kept V (fun e=>(U.alloc _).ne f (by decide) e),k2,k3⟩
 ·unfold Hw at e
  by_cases B:a=m <;>by_cases G:b=m
  ·omega
  ·rw[if_pos B,if_neg G]at e;have:=(h.aX b (by omega)).1.lt;omega
  ·rw[if_neg B,if_pos G]at e;have:=(h.aX a (by omega)).1.lt;omega
  ·rw[if_neg B,if_neg G]at e;exact h.inj a b (by omega) (by omega) e
end
theorem DP.start{w:World}{f N:Nat}(D:Nat)(h:Blk w f (Ve N) 143):DP w D f N 0 (fun _=>0) (fun _=>[]):=⟨⟨_,h,by simp[Ve],fun i B=>by omega⟩,fun i B=>by omega,fun i j B=>by omega⟩
def Gr(N:Nat)(D:Nat->List Bool)(f:Bool):Nat:=2*(N*N-TA N D)+f.toNat
theorem ON{N:Nat}{D f:Nat->List Bool}(h:TA N D<TA N f):Gr N f true<Gr N D true:=by
 have:=XY N f;unfold Gr;omega
theorem XS(N:Nat)(D:Nat->List Bool):Gr N D false<Gr N D true:=by unfold Gr;simp
theorem CB(xb fb lo ab N:Nat)(rs:ByteArray)(f:Nat->Int)(aD:List MT)(tv sv ov:Value)(T:List ByteArray)(S:List (Nat×List Bool))(To:List (Nat×List Int))(g:B0)(K:Nat)(kd:Nat->Nat)(al:List Bool)(w:World)(hL:Wh w xb rs f aD)(hF:P3 w lo fb tv sv ov T S To)(hG:GP T To g K kd aD)(hN:N=g.aB.length)
  (hA:Blk w ab (Z0 al) 4) (ac:al.length=N) (X:∀i:Nat,i<g.aB.length->(al.getD i false=true↔R6 g K (i:Int))):
  Calls Tryz.prog 67 #[.pointer (some ⟨xb,0,none⟩),.pointer (some ⟨fb,0,none⟩),.slice (some ⟨ab,0,none⟩) N N] w fun e w'=>∃db R D,e=.returned (.slice (some ⟨db,0,none⟩) N N)/\DM w' db N R D/\(∀i j:Nat,i<N->j<N->((D i).getD j false=true↔Bg g K (i:Int) (j:Int)))/\Bw w w':=by
 have bm:=hG.cV;have aa:T.length=N:=by rw[hG.tl,hN]
 have bp:N<=61:=by omega
 have bu:0<N:=by omega
 have bj:=Je N (by omega);have ar:=AD N (by omega);have au:=A8 N (by omega);obtain⟨tg,bf,c0,ct⟩:=hF.eU (by omega);rw[aa]at c0;have zf:=hF.aO.lt;have HC:=Hd8 hL hF hG hN hA ac X aa;obtain⟨w1,ap⟩:∃w1:World,w.alloc (.cells (T3 (List.replicate N 0)) 3)=w1:=⟨_,rfl⟩;have b0:Bw w w1:=by rw[<-ap];exact N0 _ _
 have b5:Blk w1 w.heap.size (T3 (List.replicate N 0)) 3:=by rw[<-ap];exact Blk.aR _ _ _
 have H1:=Hd2 b0 b5;clear hL hF hG hN ct aa bm b0 b5 hA ac X;go_enter Tryz.func67,Tryz.ntmps67;go_upto_region 3 with fail
 try rw[ap]
 clear ap bj;go_wp2_with fail
 go_loopg[9] N (fun G nv wr=>∃(n:Nat) (l:List Int),nv=.int .i64 n/\n<=N/\G=N-n/\l.length=N/\(∀i,i<n->l.getD i 0=g.aB.getD i 0)/\Blk wr w.heap.size (T3 l) 3/\Bw w wr)
 case atStart=>exact⟨0,_,rfl,by omega,rfl,by simp,fun i hi=>by omega,H1.out.2,H1.out.1⟩
 case round=>
  obtain⟨n,l,rfl,hn,rfl,hl,X,hO,J⟩:=hrel;have zo:=hO.lt;have av:=J.size
  by_cases bv:n<N
  ·have e0:decide ((n:Int)<(N:Int))=true:=by simp;omega
   obtain⟨hL,hF,hG,hN,_,_,_,aa⟩:=HC.out;have ao:n<T.length:=by omega
   have bg:wr.cell? ⟨fb,0,none⟩=some (.slice (some ⟨tg,0,none⟩) N bf):=by rw[J.cell zf];exact c0
   obtain⟨bo,bn,c9,ay⟩:=(hF.aA J).eU (by omega);have e9:bo=tg:=by rw[bg]at c9;injection c9 with e;injection e with e;injection e with e;injection e with e;exact e.symm
   subst e9;have bh:=ay n ao;have HT:=Hd (Np xb rs T[n] f aD wr (hL.aA J) (hG.size n ao));have ai:=Hd (hG.bM n · ao);generalize T[n]=tn at bh HT ai;have n0:(0:Int)<=(n:Int):=by omega
   have n1:(n:Int)<(N:Int):=by omega
   have HI:=Hd4 hl X hO J;clear hL hF hG hN ay c9 ao hl X hO J aa ar au;go_wp2_with fail;refine HT.out.mono ?_;rintro e w2 ⟨r,rfl,hr,Z⟩;have bc:=ai.out r hr;obtain⟨W,M,U,Y⟩:=HI.out;have aj:=U.aA Z;have cb:=T5 aj n (by omega);generalize l.getD n 0=y at cb;have bs:=aj.frozen n;have bx:=aj.lt;have HR:=Hd2 bc Z;clear bc Z hr W M U Y aj HT ai;go_wp2_with fail
   go_roundg (N- (n+1))
   case measure=>omega
   case rel=>
    obtain⟨W,M,U,Y⟩:=HI.out;obtain⟨b1,b2⟩:=HR.out;refine⟨n+1,l.set n r,by go_num,by omega,rfl,by simp[W],fun i hi=>?_,by rw[<-Z3];exact(U.aA b2).set n _,(Y.trans (b2.mono Y.size)).setCell (zD _) _⟩;rw[Mb _ _ _ _ (by omega)]
    by_cases ei:i=n
    ·rw[if_pos ei,ei];exact b1
    ·rw[if_neg ei];exact M i (by omega)
  ·have e0:decide ((n:Int)<(N:Int))=false:=by simp;omega
   obtain⟨db,am⟩:∃db,wr.heap.size=db:=⟨_,rfl⟩;have aq:∀i,i<N->l.getD i 0=g.aB.getD i 0:=fun i hi=>X i (by omega)
   have HI:=Hd5 hl aq hO J am;have b7:w.heap.size<=db:=by omega
   clear hl X aq hO J c0;obtain⟨wo,rfl⟩:∃wo:World,wo=wr:=⟨_,rfl⟩;go_upto_region 8 with fail
   try rw[am]
   have HZ:=Hd am;clear am ar;go_wp2_with fail
   go_loopg[11] N (fun G iv wr=>∃(i:Nat) (R:Nat->Nat) (D:Nat->List Bool),iv=.int .i64 i/\i<=N/\G=N-i/\DP wr w.heap.size db N i R D/\(∀a c,a<i->c<N->(D a).getD c false=(g.aB.getD a 0 !=g.aB.getD c 0))/\Blk wr w.heap.size (T3 l) 3/\Bw w wr)
   case atStart=>
    obtain⟨W,M,U,Y,a5⟩:=HI.out;subst a5;exact⟨0,_,_,rfl,by omega,rfl,DP.start _ (Blk.aR _ _ _),fun a c ha=>by omega,U.alloc _,Y.alloc Y.size _⟩
   case round=>
    obtain⟨i,R,D,rfl,hi,rfl,V,a0,hO,J⟩:=hrel;have zo:=hO.lt;have av:=J.size
    by_cases an:i<N
    ·have e1:decide ((i:Int)<(N:Int))=true:=by simp;omega
     have i0:(0:Int)<=(i:Int):=by omega
     have i1:(i:Int)<(N:Int):=by omega
     obtain⟨c,b1,b2,b3⟩:=V.aO;have zd:=b1.lt;obtain⟨v9,be⟩:∃v9,c[i]?=some v9:=⟨c[i],by simp[b2,an]⟩;have cd:wr.cell? ⟨db,i,none⟩=some v9:=by rw[b1.cell];exact be
     have fd:=b1.frozen i;have hP:=V.push (l:=List.replicate N false) av an (by simp);have bi:Hw R i wr.heap.size i=wr.heap.size:=by simp[Hw]
     have b4:Blk ((wr.alloc (.cells (Z0 (List.replicate N false)) 4)).setCell ⟨db,i,none⟩ (.slice (some ⟨wr.heap.size,0,none⟩) N N)) w.heap.size (T3 l) 3:=(hO.alloc _).kept (C0.setCell (ex:=fun x=>x=db) (p:=⟨db,i,none⟩) (C0.refl _ _) (fun _=>rfl) _) (fun e=>hO.ne b1 (by decide) e);have az:=(J.alloc av (.cells (Z0 (List.replicate N false)) 4)).setCell (p:=⟨db,i,none⟩) b7 (.slice (some ⟨wr.heap.size,0,none⟩) N N);have HJ:=Hd4 hP a0 b4 az;obtain⟨R2,b6⟩:∃R2,Hw R i wr.heap.size=R2:=⟨_,rfl⟩;rw[b6]at HJ;clear hP a0 hO J b4 az b1 b2 b3 be V b6 bi;go_wp2_with fail
     go_loopg[12] N (fun G jv wr=>∃(j:Nat) (D:Nat->List Bool),jv=.int .i64 j/\j<=N/\G=N-j/\DP wr w.heap.size db N (i+1) R2 D/\(∀a c,a<i->c<N->(D a).getD c false=(g.aB.getD a 0 !=g.aB.getD c 0))/\(∀c,c<j->(D i).getD c false=(g.aB.getD i 0 !=g.aB.getD c 0))/\Blk wr w.heap.size (T3 l) 3/\Bw w wr)
     case atStart=>
      obtain⟨W,M,U,Y⟩:=HJ.out;rw[World.setCell_alloc_past _ _ _ _ zd]at W U Y;exact⟨0,_,rfl,by omega,rfl,W,fun a c ha hc=>by unfold FH;rw[if_neg (by omega)];exact M a c ha hc,fun c hc=>by omega,U,Y⟩
     case round=>
      obtain⟨j,D2,rfl,hj,rfl,V,a0,ak,hO,J⟩:=hrel;have zo:=hO.lt
      by_cases b9:j<N
      ·have e2:decide ((j:Int)<(N:Int))=true:=by simp;omega
       have j0:(0:Int)<=(j:Int):=by omega
       have j1:(j:Int)<(N:Int):=by omega
       obtain⟨c,b1,b2,b3⟩:=V.aO;obtain⟨k1,k2,k3⟩:=V.aX i (by omega);have zd:=b1.lt;have cd:wr.cell? ⟨db,i,none⟩=some (.slice (some ⟨R2 i,0,none⟩) N N):=by rw[b1.cell];exact b3 i (by omega)
       have ci:=T5 hO i (by rw[HI.out.1];exact an);have cj:=T5 hO j (by rw[HI.out.1];exact b9);rw[HI.out.2.1 i an]at ci;rw[HI.out.2.1 j b9]at cj;have cr:=P2 k1 j (by omega);have fr:=k1.frozen j;have zr:=k1.lt;generalize ae:R2 i=rb at cd cr fr zr k3;generalize(D2 i).getD j false=y at cr;obtain⟨x,hx⟩:∃x,(g.aB.getD i 0 !=g.aB.getD j 0)=x:=⟨_,rfl⟩;have HX:=Hd hx;generalize g.aB.getD i 0=ri at ci hx;generalize g.aB.getD j 0=rj at cj hx;have HQ:=Hd8 V a0 ak hO J ae k2 k3;have bk:rb≠w.heap.size:=by rw[<-ae];exact k1.ne hO (by decide)
       clear V a0 ak hO J b1 b2 b3 k1 k2 ae HJ HC H1;go_upto_region 15 with fail;go_region
       all_goals
        go_wp2_with fail
        go_roundg (N- (j+1))
        case measure=>omega
        case rel=>
         obtain⟨W,M,U,Y,a5,a6,a7,a8⟩:=HQ.out;have hs:=(W.aA (H6 wr)).set (i:=i) (by omega) j x;rw[a6]at hs;refine⟨j+1,_,by go_num,by omega,rfl,hs,fun a c ha hc=>?_,fun c hc=>?_,(Y.aA (H6 wr)).kept (C0.setCell (ex:=fun x=>x=rb) (p:=⟨rb,j,none⟩) (C0.refl _ _) (fun _=>rfl) _) (fun e=>bk e.symm),?_⟩
         ·rw[Yg D2 (by omega),if_neg (by omega)];exact M a c ha hc
         ·rw[Yg D2 (by omega)]
          by_cases ec:c=j
          ·rw[if_pos ⟨rfl,ec⟩,ec];exact HX.out.symm
          ·rw[if_neg (fun h=>ec h.2)];exact U c (by omega)
         ·exact(a5.trans ((H6 wr).mono a5.size)).setCell k3 _
      ·have e2:decide ((j:Int)<(N:Int))=false:=by simp;omega
       have HQ:=Hd5 V a0 ak hO J;clear V a0 ak hO J HJ;go_wp2_with fail
       go_roundg (N- (i+1))
       case measure=>omega
       case rel=>
        obtain⟨W,M,U,Y,a5⟩:=HQ.out;refine⟨i+1,R2,D2,by go_num,by omega,rfl,W,fun a c ha hc=>?_,Y,a5⟩
        by_cases ea:a=i
        ·rw[ea];exact U c (by omega)
        ·exact M a c (by omega) hc
    ·have e1:decide ((i:Int)<(N:Int))=false:=by simp;omega
     have b8:i=N:=by omega
     subst b8;obtain⟨hL,hF,hG,hN,hA,ac,X,aa⟩:=HC.out;have ah:Yw g K D:=fun a c ha hc hd=>⟨[],by simp,by
      show Z4 g (a:Int)≠Z4 g (c:Int);rw[a0 a c (by omega) (by omega)]at hd;rw[Ln,Ln];exact bne_iff_ne.1 hd⟩
     have af:JH g D:=fun a c ha hc hd=>by
      rw[a0 a c (by omega) (by omega)];exact bne_iff_ne.2 hd
     have HJ:=Hd4 V ah af J;clear V a0 hO J ah af hL hF hG hN hA ac X aa au HI HZ zo;go_wp2_with fail
     go_loopg[13] (Gr i D true) (fun G mv wr=>∃(B:Bool) (D:Nat->List Bool),mv=.bool B/\G=Gr i D B/\DP wr w.heap.size db i i R D/\Yw g K D/\JH g D/\(B=false->∀a c:Nat,a<i->c<i->((D a).getD c false=true↔Bg g K (a:Int) (c:Int)))/\Bw w wr)
     case atStart=>
      obtain⟨W,M,U,Y⟩:=HJ.out;exact⟨true,D,rfl,rfl,W,M,U,fun e=>(by cases e),Y⟩
     case round=>
      obtain⟨B,D,rfl,rfl,V,ah,af,bd,J⟩:=hrel;have HK:=Hd5 V ah af bd J;clear V ah af bd J HJ;cases B with
      |false=>
       go_wp2_with fail;go_ret;obtain⟨W,M,U,Y,a5⟩:=HK.out;exact⟨db,rfl,R,D,W.dm,Y (by simp),a5⟩
      |true=>
       go_wp2_with fail
       go_loopg[13,14] i (fun G mv pv wr=>∃(B:Bool) (p:Nat) (E:Nat->List Bool),mv=.bool B/\pv=.int .i64 p/\p<=i/\G=i-p/\DP wr w.heap.size db i i R E/\Se g K kd al D E B p 0/\Bw w wr)
       case atStart=>
        obtain⟨W,M,U,Y,a5⟩:=HK.out;exact⟨false,0,D,rfl,rfl,by omega,rfl,W,Se.start M U,a5⟩
       case round=>
        obtain⟨B,p,E,rfl,rfl,hp,rfl,V,hP,J⟩:=hrel
        by_cases ag:p<i
        ·have e2:decide ((p:Int)<(i:Int))=true:=by simp;omega
         have HQ:=Hd3 V hP J;clear V hP J;go_wp2_with fail
         go_loopg[13,15] i (fun G mv qv wr=>∃(B:Bool) (q:Nat) (E:Nat->List Bool),mv=.bool B/\qv=.int .i64 q/\q<=i/\G=i-q/\DP wr w.heap.size db i i R E/\Se g K kd al D E B p q/\Bw w wr)
         case atStart=>exact⟨B,0,E,rfl,rfl,by omega,rfl,HQ.out.1,HQ.out.2.1,HQ.out.2.2⟩
         case round=>
          obtain⟨ad,q,E2,rfl,rfl,hq,rfl,V,hP,J⟩:=hrel
          by_cases bb:q<i
          ·have e3:decide ((q:Int)<(i:Int))=true:=by simp;omega
           obtain⟨hL,hF,hG,hN,hA,ac,X,aa⟩:=HC.out;obtain⟨d1,d2⟩:=V.dm.cells ag bb;obtain⟨k1,k2,k3⟩:=V.aX p ag;have fr:=k1.frozen q;have zr:=k1.lt;have zd:=V.aO.choose_spec.1.lt;have p0:(0:Int)<=(p:Int):=by omega
           have p1:(p:Int)<(i:Int):=by omega
           have q0:(0:Int)<=(q:Int):=by omega
           have q1:(q:Int)<(i:Int):=by omega
           have ax:=Hd (SG fb lo ab db i i p q R E2 al aD tv sv ov T S To g K kd wr (hF.aA J) hG hN (hA.aA J) ac V.dm ag bb);generalize ae:R p=rb at d1 d2 fr zr k3;generalize hy:(E2 p).getD q false=y at d2;have HV:=Hd9 V hP J hy ae k2 hG hN X;clear hL hF hG hN hA ac X aa V hP J k1 k2 ae hy HK;cases y with
           |true=>
            go_wp2_with fail
            go_roundg (i- (q+1))
            case measure=>omega
            case rel=>
             obtain⟨W,M,U,Y,a5,a6,a7,a8,a9⟩:=HV.out;exact⟨ad,q+1,E2,rfl,by go_num,by omega,rfl,W,M.iN (.inl Y),U⟩
           |false=>
            go_wp2_with fail;refine ax.out.mono ?_;rintro e w2 ⟨x,rfl,hx,Z⟩;have bq:=(Z.cell (p:=⟨db,p,none⟩) zd).trans d1;have br:=(Z.cell (p:=⟨rb,q,none⟩) zr).trans d2;have bw:db<w2.heap.size:=yG zd Z.size;have bz:rb<w2.heap.size:=yG zr Z.size;have bt:w2.frozen? ⟨rb,q,none⟩=false:=by
             have:=((HV.out.1.aX p ag).1.aA Z).frozen q;rw[HV.out.2.2.2.2.1]at this;exact this
            have HX:=Hd2 hx Z;clear hx Z ax d1 d2 fr;cases x with
            |true=>
             go_wp2_with fail
             go_roundg (i- (q+1))
             case measure=>omega
             case rel=>
              obtain⟨W,M,U,Y,a5,a6,a7,a8,a9⟩:=HV.out;obtain⟨x1,x2⟩:=HX.out;have hs:=(W.aA x2).set (i:=p) ag q true;rw[a5]at hs;exact⟨true,q+1,_,rfl,by go_num,by omega,rfl,hs,M.mark a7 a9 (by omega) (by omega) (by omega) Y (x1.1 (by simp)),(U.trans (x2.mono U.size)).setCell k3 _⟩
            |false=>
             go_wp2_with fail
             go_roundg (i- (q+1))
             case measure=>omega
             case rel=>
              obtain⟨W,M,U,Y,a5,a6,a7,a8,a9⟩:=HV.out;obtain⟨x1,x2⟩:=HX.out;refine⟨ad,q+1,E2,rfl,by go_num,by omega,rfl,W.aA x2,M.iN (.inr fun b hb=>?_),U.trans (x2.mono U.size)⟩;refine Bool.eq_false_iff.2 fun hh=>?_
              have:=x1.2 ⟨b,hb,hh⟩;cases this
          ·have e3:decide ((q:Int)<(i:Int))=false:=by simp;omega
           have HV:=Hd3 V hP J;clear V hP J;go_wp2_with fail
           go_roundg (i- (p+1))
           case measure=>omega
           case rel=>
            obtain⟨W,M,U⟩:=HV.out;have bl:q=g.aB.length:=by have:=HC.out.2.2.2.1;omega
            rw[bl]at M;exact⟨ad,p+1,E2,rfl,by go_num,by omega,rfl,W,M.row,U⟩
        ·have e2:decide ((p:Int)<(i:Int))=false:=by simp;omega
         have HV:=Hd3 V hP J;clear V hP J;have ba:p=g.aB.length:=by have:=HC.out.2.2.2.1;omega
         have aw:=Hd ba;clear ba;go_wp2_with fail
         go_roundg (Gr i E B)
         case measure=>
          obtain⟨W,M,U⟩:=HV.out;rw[aw.out]at M;cases B with
          |true=>
           have:=M.more;rw[<-HC.out.2.2.2.1]at this;exact ON this
          |false=>
           have:=(M.end HC.out.2.2.1 HC.out.2.2.2.2.2.2.1).1;rw[this];exact XS _ _
         case rel=>
          obtain⟨W,M,U⟩:=HV.out;rw[aw.out]at M;refine⟨B,E,rfl,rfl,W,M.cS,M.cX,fun em=>?_,U⟩;subst em;have h9:=(M.end HC.out.2.2.1 HC.out.2.2.2.2.2.2.1).2;rw[<-HC.out.2.2.2.1]at h9;exact h9
section
variable{g:B0}{K n:Nat}{F:List Nat}{st:List Int}{al:List Bool}
theorem Mu(B:GOk g K){a b:Nat}(J:a<g.aB.length)(M:b<g.aB.length):R5 (G0 g) K (a:Int) (b:Int)↔¬Bg g K (a:Int) (b:Int):=by
 constructor
 ·rintro h ⟨f,D,U⟩;have:=h f D;rw[R9 B f a D J,R9 B f b D M]at this;exact U this
 ·intro h f G;rw[R9 B f a G J,R9 B f b G M];exact Decidable.not_not.1 fun V=>h ⟨f,G,V⟩
structure StI(g:B0)(K n:Nat)(F:List Nat)(st:List Int):Prop where
 mem:∀a,a∈F↔(a<n/\Zv g K a/\∀b,b<a->¬R5 (G0 g) K (b:Int) (a:Int))
 bJ:F.Pairwise (·< ·)
 len:st.length=g.aB.length
 hC:∀a,a<n->Zv g K a->∃s,∃h:s<F.length,st.getD a 0=(s:Int)/\R5 (G0 g) K (F[s]:Int) (a:Int)
theorem StI.start(h:st.length=g.aB.length):StI g K 0 [] st:=⟨fun a=>by simp,by simp,h,fun a f=>by omega⟩
theorem StI.lt(h:StI g K n F st){s:Nat}(f:s<F.length):F[s]<n:=((h.mem F[s]).1 (zG f)).1
theorem StI.bU(h:StI g K n F st):F.length<=n:=by
 have:=Wg n F (h.bJ.imp (fun f=>Nat.ne_of_lt f)) (fun x B=>((h.mem x).1 B).1);exact this
theorem StI.skip(h:StI g K n F st)(V:n<g.aB.length)(D:¬Zv g K n)(v:Int):StI g K (n+1) F (st.set n v):=by
 have M:=h.len;refine⟨fun a=>?_,h.bJ,by simp[M],fun a U f=>?_⟩
 ·rw[h.mem a];constructor
  ·rintro⟨G,B⟩;exact⟨by omega,B⟩
  ·rintro⟨G,B,J⟩;refine⟨?_,B,J⟩
   by_cases e:a=n
   ·subst e;exact absurd B D
   ·omega
 ·have e:a≠n:=fun e=>by subst e;exact D f
  rw[Mb _ _ _ _ (by omega),if_neg e];exact h.hC a (by omega) f
theorem StI.fF(h:StI g K n F st)(W:n<g.aB.length){s:Nat}(J:s<F.length)(G:R5 (G0 g) K (F[s]:Int) (n:Int)):StI g K (n+1) F (st.set n (s:Int)):=by
 have V:=h.len;refine⟨fun a=>?_,h.bJ,by simp[V],fun a U B=>?_⟩
 ·rw[h.mem a];constructor
  ·rintro⟨M,f⟩;exact⟨by omega,f⟩
  ·rintro⟨M,f,D⟩;refine⟨?_,f,D⟩
   by_cases e:a=n
   ·subst e;exact absurd G (D _ (h.lt J))
   ·omega
 ·rw[Mb _ _ _ _ (by omega)]
  by_cases e:a=n
  ·subst e;rw[if_pos rfl];exact⟨s,J,rfl,G⟩
  ·rw[if_neg e];exact h.hC a (by omega) B
theorem StI.fresh(Z:Ga g K)(h:StI g K n F st)(M:Zv g K n)(W:∀s,(G:s<F.length)->¬R5 (G0 g) K (F[s]:Int) (n:Int)):StI g K (n+1) (F++ [n]) (st.set n (F.length:Int)):=by
 have hl:=h.len;have hn:=M.1;have B:∀b,b<n->¬R5 (G0 g) K (b:Int) (n:Int):=by
  intro b hb D;have V:Zv g K b:=by
   refine⟨by omega,?_⟩;rcases M.2 with e|e
   ·omega
   ·exact .inr (Im Z hn (by omega) D.symm e)
  obtain⟨s,G,_,f⟩:=h.hC b hb V;exact W s G (f.trans D)
 refine⟨fun a=>?_,?_,by simp[hl],fun a ha U=>?_⟩
 ·rw[zQ,zJ,h.mem a];constructor
  ·rintro(⟨J,f⟩|rfl)
   ·exact⟨by omega,f⟩
   ·exact⟨by omega,M,B⟩
  ·rintro⟨J,f,Y⟩
   by_cases e:a=n
   ·exact .inr e
   ·exact .inl ⟨by omega,f,Y⟩
 ·rw[List.pairwise_append];refine⟨h.bJ,by simp,fun x hx y X=>?_⟩;rw[zJ]at X;subst X;exact((h.mem x).1 hx).1
 ·rw[Mb _ _ _ _ (by omega)]
  by_cases e:a=n
  ·subst e;rw[if_pos rfl];exact⟨F.length,by simp,rfl,by simp;exact fun ks hk=>rfl⟩
  ·rw[if_neg e];obtain⟨s,G,J,f⟩:=h.hC a (by omega) U;exact⟨s,by simp;omega,J,by rw[List.getElem_append_left G];exact f⟩
theorem StI.fR(h:StI g K g.aB.length F st):Ea g K F:=by
 refine⟨fun a=>?_,h.bJ⟩;rw[h.mem a];exact⟨fun h=>h.2,fun h=>⟨h.1.1,h⟩⟩
def DE(al:List Bool)(st:List Int)(s:Int):Int:=if alS al s then st.getD s.toNat 0 else -1
theorem StI.next(hS:Ga g K)(h:StI g K g.aB.length F st)(G:∀i:Nat,i<g.aB.length->(al.getD i false=true↔R6 g K (i:Int))){s k:Nat}(hs:s<F.length)(hk:k<K):DE al st (W0 g (F[s]:Int) k)=W0 (E1 (G0 g) (U1 (G0 g))) (s:Int) k:=by
 have D:=h.fR;have hm:=((D.mem F[s]).1 (zG hs)).1.1;unfold DE;rcases D.next hS hs hk with⟨X,e|⟨t,e,M⟩⟩|⟨t,V,f,e,M,J,h2,Y⟩
 ·rw[X,e,Vb];rfl
 ·have U:=J8 hS.ok (s:=(F[s]:Int)) (by omega) (by omega) hk;rw[e]at U;have J:t<g.aB.length:=by omega
  have:al.getD t false=false:=Bool.eq_false_iff.2 fun hx=>M ((G t J).1 hx)
  rw[X,e,Ta,this];rfl
 ·rw[e,Ta,(G t J).2 M,h2,zH,if_pos rfl];obtain⟨W,B,h4,Z⟩:=h.hC t J ⟨J,.inr M⟩;rw[h4];have e1:=D.dR (zG B) (Y.trans Z.symm);have e2:=D.dR (zG f) (Z.trans Y.symm);have e3:F[W]=F[V]:=by omega
  have:W=V:=by
   rcases Nat.lt_trichotomy W V with e|e|e
   ·have:=(E9 D.bJ B f).2 e;omega
   ·exact e
   ·have:=(E9 D.bJ f B).2 e;omega
  rw[this]
end
theorem SD(R:E0):R.aB I0.none= -1:=by
 unfold E0.aB;rcases Si I0.none R.last 0 with⟨h,_⟩|⟨i,_,_,h,_⟩
 ·exact h
 ·obtain⟨p,f,_⟩:=(DD _ _).1 h;rw[W9]at f;cases f
theorem CT{aD:List MT}{ts:List PT}(D:ntL aD=ts.map PT.dL){w:List Nat}{r:Int}(X:w≠ [])(h:WE aD w r):RV ts w r:=by
 rw[Sb]at D;have M:aD.length=ts.length:=by have:=congrArg List.length D;simpa using this
 have f:∀i,(G:i<aD.length)->(B:i<ts.length)->aD[i].nt=ts[i].dL:=fun i G B=>by
  have:=congrArg (fun l=>l[i]?) D;simp only[List.getElem?_map,zF G,zF B,Option.map_some]at this;exact zE this
 rcases h with⟨G,B|B⟩|⟨_,i,K,G,B,U⟩
 ·exact absurd B X
 ·refine .inl ⟨G,fun t W J=>?_⟩;obtain⟨i,K,rfl⟩:=List.getElem_of_mem W;exact B _ (zG (by omega:i<aD.length)) (by rw[f i (by omega) K];exact J)
 ·refine .inr ⟨i,by omega,G,by rw[<-f i K (by omega)];exact B,fun j V J=>?_⟩;exact U j V (by rw[f j (by omega) (by omega)];exact J)
theorem EE(g:B0)(i k:Nat):W0 g (i:Int) k=(g.next.getD i []).getD k 0:=by unfold W0;rw[if_neg (by omega),zH]
section
variable{rs:ByteArray}{R:E0}{ts:List PT}{T:List ByteArray}{S:List (Nat×List Bool)}{To:List (Nat×List Int)}{PS:List I0}{g:B0}{aD:List MT}
theorem FP.gp(Y:Di rs R ts)(J:ntL aD=ts.map PT.dL)(h:FP ts R PS.length T S To PS g)(Z:J6 R (V0 R.aJ 256)=some g):GP T To g (V0 R.aJ 256).length (D3 R.aJ) aD:=by
 obtain⟨o1,o2,o3⟩:=S8 Z;have a0:=h.bT.ex.rl;have a1:=h.aI.tl;have B:∀i,(f:i<T.length)->(T.map Q0).getD i []=Q0 T[i]:=fun i f=>by rw[zC,List.getElem?_map,zF f];rfl
 refine⟨by omega,by rw[h.tl];omega,o1,⟨o2,o3⟩,fun i f=>?_,fun i b f G=>?_,fun b G=>YP _ G,fun k hk=>Ij _ 256 k hk,fun i r f U=>?_⟩
 ·have:=h.bT.bO.dI i;rw[B i f,I1]at this;omega
 ·rw[EE];exact h.lead i f b G
 ·rw[h.bT.ex.aB i (by omega)]
  by_cases X:0<i
  ·obtain⟨M,V,_⟩:=h.bT.bO.set i X (by omega);rw[B i f]at M V;rw[Y.bM M (CT J M U),V]
  ·have W:i=0:=by omega
   subst W;have K:=h.bT.bO.zero;rw[B 0 f]at K;rw[K.1,SD];rcases U with⟨D,_⟩|⟨D,_⟩
   ·exact D
   ·exact absurd K.2 D
theorem FP.lB(h:FP ts R PS.length T S To PS g)(D:J6 R (V0 R.aJ 256)=some g):Ga g (V0 R.aJ 256).length:=by
 obtain⟨M,U,Y⟩:=S8 D;refine⟨M,U,UA D,fun s k X J=>?_⟩;have K:=h.bT.ex.rl;rw[EE];rcases h.bT.ex.next s (by omega) k J with⟨_,e⟩|⟨f,m,G,W,B⟩
 ·rw[e];decide
 ·rw[G];intro V;have:m=0:=by omega
  subst this;rw[h.bT.bO.zero.1]at B;rw[<-B]at f;have:I0.none.isEmpty=true:=(Pd _).2 (fun q=>W9 q);rw[this]at f;cases f
end
mutual
theorem MT.kY(a b:Nat):∀T:MT,T.nt.Tw a b↔∀p∈T.pl,p.nt.Tw a b
 |.place bb i e A=>by simp[MT.pl]
 |.node bb v k l=>by
  simp only[MT.pl,MT.nt,NT.Tw];exact BO a b l
theorem BO(a b:Nat):∀l:List MT,twL a b (ntL l)↔∀p∈plL l,p.nt.Tw a b
 | []=>by simp[plL,ntL,twL]
 |x::l=>by
  simp only[ntL,twL,plL,zQ];rw[MT.kY a b x,BO a b l];constructor
  ·rintro⟨B,D⟩ p (f|f)
   ·exact B p f
   ·exact D p f
  ·intro h;exact⟨fun p f=>h p (.inl f),fun p f=>h p (.inr f)⟩
end
mutual
theorem MT.dT:∀(T:MT) (p:MT),p∈T.pl->∃b i e A,p=.place b i e A
 |.place b i e A,p,h=>by simp only[MT.pl,zJ]at h;exact⟨b,i,e,A,h⟩
 |.node b v k l,p,h=>by simp only[MT.pl]at h;exact Nj l p h
theorem Nj:∀(l:List MT) (p:MT),p∈plL l->∃b i e A,p=.place b i e A
 | [],p,h=>by simp[plL]at h
 |x::l,p,h=>by
  simp only[plL,zQ]at h;rcases h with h|h
  ·exact MT.dT x p h
  ·exact Nj l p h
end
theorem RSp.wf{s:ByteArray}:∀(f:List PT) (p:Nat),RSp s f p->WfL s (f.map PT.dL)
 | [],p,h=>by simp[WfL]
 | [t],p,h=>by
  have:=PT.eE t _ _ [] [] h.1 (by simp[WfL]) (by simp[WfL]);simp only[List.map_cons,List.map_nil,WfL,and_true];exact this
 |t::u::l,p,h=>by
  obtain⟨q,B,_,_,D⟩:=h;have:=PT.eE t _ _ [] [] B (by simp[WfL]) (by simp[WfL]);have G:=RSp.wf (u::l) _ D;rw[List.map_cons,WfL];exact⟨this,G⟩
mutual
theorem MT.kX{w:World}{s:ByteArray}{f:Nat->Int}:∀(T p:MT),T.At w s f->T.nt.Wf s->p∈T.pl->p.At w s f/\p.nt.Wf s
 |.place b i e A,p,h,hw,hp=>by simp only[MT.pl,zJ]at hp;subst hp;exact⟨h,hw⟩
 |.node b v k l,p,h,hw,hp=>by
  simp only[MT.pl]at hp;simp only[MT.At]at h;simp only[MT.nt,NT.Wf]at hw;exact AO l p h.2.2 hw.2 hp
theorem AO{w:World}{s:ByteArray}{f:Nat->Int}:∀(l:List MT) (p:MT),AtL w s f l->WfL s (ntL l)->p∈plL l->p.At w s f/\p.nt.Wf s
 | [],p,h,hw,B=>by simp[plL]at B
 |x::l,p,h,hw,B=>by
  simp only[plL,zQ]at B;simp only[AtL]at h;simp only[ntL,WfL]at hw;rcases B with B|B
  ·exact MT.kX x p h.1 hw.1 B
  ·exact AO l p h.2 hw.2 B
end
def MT.plt(s:ByteArray):MT->PlT
 |.place b i e A=>⟨b,s.extract i e,A⟩
 |.node b v k l=>⟨b,noT,fun _=>false⟩
def Rr(s:ByteArray)(l:List MT):List PlT:=(plL l).map (MT.plt s)
theorem PX(s:ByteArray)(T:MT):(T.plt s).b=T.aL:=by cases T <;>rfl
theorem CO(s:ByteArray)(l:List MT):(Rr s l).map PlT.b=(plL l).map MT.aL:=by
 unfold Rr;rw[List.map_map];exact List.map_congr_left fun T _=>PX s T
theorem OK(s:ByteArray)(l:List MT):(Rr s l).length=(plL l).length:=by simp[Rr]
theorem JZ(s:ByteArray)(l:List MT)(a b:Nat):twF (Rr s l) a b=true↔twL a b (ntL l):=by
 rw[Ss,BO];unfold Rr;constructor
 ·intro h p f;obtain⟨B,i,e,A,rfl⟩:=Nj l p f;have:=h _ (List.mem_map_of_mem f);simp only[MT.nt,NT.Tw];exact this
 ·intro h q D;obtain⟨p,f,rfl⟩:=List.mem_map.1 D;obtain⟨B,i,e,A,rfl⟩:=Nj l p f;have:=h _ f;simp only[MT.nt,NT.Tw]at this;exact this
theorem IZ{w:World}{s:ByteArray}{f:Nat->Int}{l:List MT}(M:s.size<=120)(h:AtL w s f l)(U:WfL s (ntL l)):(∀p∈Rr s l,∃c,Blk w p.b c 142/\c[3]?=some (.string p.t))/\∀p∈Rr s l,Yv p.t p.A:=by
 have D:∀q∈Rr s l,(∃c,Blk w q.b c 142/\c[3]?=some (.string q.t))/\Yv q.t q.A:=by
  intro q K;obtain⟨p,B,rfl⟩:=List.mem_map.1 K;obtain⟨G,J⟩:=AO l p h U B;obtain⟨V,i,e,A,rfl⟩:=Nj l p B;simp only[MT.At]at G;simp only[MT.nt,NT.Wf]at J;exact⟨⟨_,G,rfl⟩,J.fM M⟩
 exact⟨fun p B=>(D p B).1,fun p B=>(D p B).2⟩
theorem Ab5{s:ByteArray}{R:E0}{G:List PT}{l:List MT}(f:ntL l=G.map PT.dL)(D:∀a b,R.aJ a=R.aJ b↔∀t∈G,t.dL.Tw a b){b k:Nat}(h:VE (Rr s l) b k):Ci R.aJ b k:=by
 refine YW (tw:=twF (Rr s l)) (fun a b=>?_) h.1 h.2.1 h.2.2;rw[JZ,D,f,EH];constructor
 ·intro h t B;exact h _ (List.mem_map_of_mem B)
 ·intro h x J;obtain⟨t,B,rfl⟩:=List.mem_map.1 J;exact h t B
mutual
theorem MT.At.lD{w:World}{s:ByteArray}{f:Nat->Int}:∀(T:MT),T.At w s f->∀x,T.has x->∃c t,Blk w x c t/\(t=142\/t=89)
 |.place b i e A,h,x,B=>by
  simp only[MT.At]at h;simp only[MT.has]at B;subst B;exact⟨_,_,h,.inl rfl⟩
 |.node b v n l,h,x,B=>by
  simp only[MT.At]at h;simp only[MT.has]at B;rcases B with B|B|B
  ·subst B;exact⟨_,_,h.1,.inl rfl⟩
  ·obtain⟨c,D⟩:=PQ h.2.1 B;exact⟨c,_,D,.inr rfl⟩
  ·exact AtL.lD l h.2.2 x B
theorem AtL.lD{w:World}{s:ByteArray}{f:Nat->Int}:∀(l:List MT),AtL w s f l->∀x,Xd l x->∃c t,Blk w x c t/\(t=142\/t=89)
 | [],h,x,B=>by simp[Xd]at B
 |y::l,h,x,B=>by
  simp only[AtL]at h;simp only[Xd]at B;rcases B with B|B
  ·exact MT.At.lD y h.1 x B
  ·exact AtL.lD l h.2 x B
end
section
variable{wz w w' w6:World}{xb:Nat}{rv pn pv tv ov fv tv' ov' fv':Value}{TX TX':List ByteArray}{OX OX':List (Nat×List Int)}{FX FX':List Int}{rs:ByteArray}{f:Nat->Int}{aD:List MT}
theorem Wh.jG(h:Wh w xb rs f aD)(B:XAt w xb rv pn pv tv ov fv TX OX FX)(k:C0 (fun b=>b=xb) w w')(D:XAt w' xb rv pn pv tv' ov' fv' TX' OX' FX'):Wh w' xb rs f aD:=by
 refine h.iH k (fun x X e=>?_) D.aO B.aO rfl rfl (fun Z J b W e=>?_)
 ·obtain⟨c,t,G,Y⟩:=AtL.lD aD h.cQ x X;subst e;rcases Y with rfl|rfl
  ·exact absurd (G.bX B.aO).2 (by decide)
  ·exact absurd (G.bX B.aO).2 (by decide)
 ·obtain⟨c,a0,M,U,h3,V⟩:=h.aO;have K:=(M.bX B.aO).1;subst K;rw[U]at J;cases J;subst e;exact L0 V B.aO (by decide) W
structure XO(wz w:World)(xb:Nat)(rv pn pv tv ov fv:Value)(TX:List ByteArray)(OX:List (Nat×List Int))(FX:List Int):Prop where
 x:XAt w xb rv pn pv tv ov fv TX OX FX
 kept:C0 (fun b=>b=xb) wz w
 o1:∀b,tv.ownBlock=some b->wz.heap.size<=b
 o2:∀b,ov.ownBlock=some b->wz.heap.size<=b
 o3:∀b,fv.ownBlock=some b->wz.heap.size<=b
theorem XO.aA(h:XO wz w xb rv pn pv tv ov fv TX OX FX)(k:Bw w w'):XO wz w' xb rv pn pv tv ov fv TX OX FX:=⟨h.x.aA k,h.kept.aA k,h.o1,h.o2,h.o3⟩
theorem Oy{v v6:Value}{fld:Nat}(k:C0 (fun b=>b=xb) wz w)(h:∀b,v.ownBlock=some b->wz.heap.size<=b)(B:C0 (fun b=>v.ownBlock=some b) w w6):C0 (fun b=>b=xb) wz (w6.setCell ⟨xb,fld,none⟩ v6):=
 k.trans (Ac (fb:=xb) (fld:=fld) (v6:=v6) B) (fun i D e=>by
  rcases e with e|e
  ·have:=h i e;omega
  ·exact e)
theorem XO.to(h:XO wz w xb rv pn pv tv ov fv TX OX FX){v6:Value}{D:Nat}{l:List Int}(K:Blk w D (T3 l) 3)(J:l.length=256)(B:fv.ownBlock≠some D)(M:w6.ownsRow 0 68 1 v6 (OX.map (fun p=>slV 256 p.1)++ [slV 256 D]).length (OX.map (fun p=>slV 256 p.1)++ [slV 256 D]))(U:∀b,v6.ownBlock=some b->wz.heap.size<=b)(G:C0 (fun b=>ov.ownBlock=some b) w w6):
  XO wz (w6.setCell ⟨xb,4,none⟩ v6) xb rv pn pv tv v6 fv TX (OX++ [(D,l)]) FX:=⟨h.x.to K J B M G,Oy h.kept h.o2 G,h.o1,U,h.o3⟩
theorem XO.text(h:XO wz w xb rv pn pv tv ov fv TX OX FX){v6:Value}{s:ByteArray}(D:w6.ownsRow 0 9 1 v6 (TX.map Value.string++ [Value.string s]).length (TX.map Value.string++ [Value.string s]))(G:∀b,v6.ownBlock=some b->wz.heap.size<=b)(B:C0 (fun b=>tv.ownBlock=some b) w w6):
  XO wz (w6.setCell ⟨xb,3,none⟩ v6) xb rv pn pv v6 ov fv (TX++ [s]) OX FX:=⟨h.x.text D B,Oy h.kept h.o1 B,G,h.o2,h.o3⟩
theorem XO.aB(h:XO wz w xb rv pn pv tv ov fv TX OX FX){v6:Value}{r:Int}(J:Q2 w6 v6 (FX++ [r]))(B:∀b,v6.ownBlock=some b->fv.ownBlock=some b\/w.heap.size<=b)(D:C0 (fun b=>fv.ownBlock=some b) w w6):
  XO wz (w6.setCell ⟨xb,5,none⟩ v6) xb rv pn pv tv ov v6 TX OX (FX++ [r]):=⟨h.x.aB J B D,Oy h.kept h.o3 D,h.o1,h.o2,fun b G=>by
  rcases B b G with e|e
  ·exact h.o3 b e
  ·exact yI h.kept.size e⟩
end
structure SP(row:Nat->Nat->Int)(rl:Nat->Int)(s:Nat)(OX:List (Nat×List Int))(FX:List Int):Prop where
 ol:OX.length=s
 fl:FX.length=s
 row:∀i b,i<s->b<256->((OX.getD i (0,[])).2).getD b 0=row i b
 bM:∀i,i<s->FX.getD i 0=rl i
section
variable{row:Nat->Nat->Int}{rl:Nat->Int}{s:Nat}{OX:List (Nat×List Int)}{FX:List Int}
theorem SP.start:SP row rl 0 [] []:=⟨rfl,rfl,fun i b h=>by omega,fun i h=>by omega⟩
theorem Iy{α:Type}(l:List α)(a d:α)(i:Nat):(l++ [a]).getD i d=if i<l.length then l.getD i d else if i=l.length then a else d:=by
 simp only[zC]
 by_cases h:i<l.length
 ·rw[if_pos h,zR h]
 ·rw[if_neg h]
  by_cases e:i=l.length
  ·rw[if_pos e,zY (by omega)];simp[e]
  ·rw[if_neg e,yJ (by simp;omega)];rfl
theorem SP.next(h:SP row rl s OX FX){K:Nat}{l:List Int}{r:Int}(G:∀b,b<256->l.getD b 0=row s b)(J:r=rl s):SP row rl (s+1) (OX++ [(K,l)]) (FX++ [r]):=by
 refine⟨by simp[h.ol],by simp[h.fl],fun i b D B=>?_,fun i D=>?_⟩
 ·rw[Iy,h.ol]
  by_cases e:i<s
  ·rw[if_pos e];exact h.row i b e B
  ·have:i=s:=by omega
   subst this;rw[if_neg e,if_pos rfl];exact G b B
 ·rw[Iy,h.fl]
  by_cases e:i<s
  ·rw[if_pos e];exact h.bM i e
  ·have:i=s:=by omega
   subst this;rw[if_neg e,if_pos rfl];exact J
end
def Dn(T:List ByteArray)(F:List Nat)(s:Nat):List ByteArray:=(F.take s).map (fun n=>T.getD n noT)
theorem ZU(T:List ByteArray)(F:List Nat){s:Nat}(h:s<F.length):Dn T F (s+1)=Dn T F s++ [T.getD (F.getD s 0) noT]:=by
 unfold Dn;rw[show F.take (s+1)=F.take s++ [F[s]]from(yL h).symm,zV,zC (l:=F),zF h];rfl
theorem Us(T:List ByteArray)(F:List Nat){s:Nat}(h:s<=F.length):(Dn T F s).length=s:=by unfold Dn;rw[yB,List.length_take];omega
theorem P3.iH{w w':World}{K fb xb:Nat}{tv M ov:Value}{T:List ByteArray}{S:List (Nat×List Bool)}{J:List (Nat×List Int)}(h:P3 w K fb tv M ov T S J){c:Array Value}(B:Blk w xb c 87)(k:C0 (fun b=>b=xb) w w'):P3 w' K fb tv M ov T S J:=
 h.kept k (h.aO.ne B (by decide)) (fun b D e=>by subst e;exact L0 h.txt B (by decide) D) (fun b D e=>by subst e;exact L0 h.aI.row B (by decide) D) (fun b D e=>by subst e;exact L0 h.bP.row B (by decide) D) (fun p G=>(h.aI.aX p G).1.ne B (by decide)) (fun p G=>(h.bP.aX p G).1.ne B (by decide))
mutual
theorem MT.At.part{w:World}{s:ByteArray}{f:Nat->Int}:∀(T:MT),T.At w s f->∀x,x∈T.blks->∃c,Blk w x c 142
 |.place b i e A,h,x,B=>by
  simp only[MT.At]at h;simp only[MT.blks,zJ]at B;subst B;exact⟨_,h⟩
 |.node b v n l,h,x,B=>by
  simp only[MT.At]at h;simp only[MT.blks,zU]at B;rcases B with B|B
  ·subst B;exact⟨_,h.1⟩
  ·exact AtL.part l h.2.2 x B
theorem AtL.part{w:World}{s:ByteArray}{f:Nat->Int}:∀(l:List MT),AtL w s f l->∀x,x∈M9 l->∃c,Blk w x c 142
 | [],h,x,B=>by simp[M9]at B
 |y::l,h,x,B=>by
  simp only[AtL]at h;simp only[M9,zQ]at B;rcases B with B|B
  ·exact MT.At.part y h.1 x B
  ·exact AtL.part l h.2 x B
end
structure NI(lo:Nat)(w:World)(s:ByteArray)(xb:Nat)(rv pv:Value)(kids:List MT)(r q:Nat):Prop where
 aO:Blk w xb #[rv,.int .i64 ((J1 (ntL (kids.take r)):Nat):Int),pv,.slice none 0 0,.slice none 0 0,.slice none 0 0] 87
 row:w.ownsRow 0 89 1 rv kids.length (Q5 (kids.map MT.aL))
 cQ:AtL w s (Hg (kids.take r) 0 N9) kids
 bL:w.ownsRow 0 89 1 pv (plL (kids.take q)).length (Q5 ((plL (kids.take q)).map MT.aL))
 jK:∀x,Xd kids x->x<lo
 kK:∀x,rv.ownBlock=some x->x<lo
 kL:lo<=xb
 kJ:∀x,pv.ownBlock=some x->lo<=x
section
variable{lo:Nat}{w w1 w6:World}{s:ByteArray}{xb:Nat}{rv pv:Value}{kids:List MT}{r q:Nat}
theorem NI.aA(h:NI lo w s xb rv pv kids r q)(k:Bw w w1):NI lo w1 s xb rv pv kids r q:=
 ⟨h.aO.aA k,K0 (ex:=fun _=>False) h.row (C0.aM k) (fun _ _ e=>e),AtL.kept (ex:=fun _=>False) (C0.aM k) _ h.cQ (fun _ _ e=>e),K0 (ex:=fun _=>False) h.bL (C0.aM k) (fun _ _ e=>e),h.jK,h.kK,h.kL,h.kJ⟩
theorem NI.num(h:NI lo w s xb rv pv kids r q)(Z:r<kids.length)(hU:∀U:MT,U.At w s (Hg (kids.take r) 0 N9)->U.At w1 s (kids[r].num (J1 (ntL (kids.take r))) (Hg (kids.take r) 0 N9)))(X:C0 (fun x=>x∈kids[r].blks) w w1):
  NI lo (w1.setCell ⟨xb,1,none⟩ (.int .i64 ((J1 (ntL (kids.take r))+kids[r].nt.aH:Nat):Int))) s xb rv pv kids (r+1) q:=by
 have W:∀x,x∈kids[r].blks->Xd kids x:=fun x f=>(Wc kids x).2 ⟨kids[r],zG Z,MT.cJ _ _ f⟩
 have G:∀x,x∈kids[r].blks->∃c,Blk w x c 142:=fun x f=>MT.At.part _ ((Bd kids).1 h.cQ _ (zG Z)) x f
 have J:kids.take (r+1)=kids.take r++ [kids[r]]:=(yL Z).symm;have Y:J1 (ntL (kids.take (r+1)))=J1 (ntL (kids.take r))+kids[r].nt.aH:=by rw[J,Pm]
 have D:Hg (kids.take (r+1)) 0 N9=kids[r].num (J1 (ntL (kids.take r))) (Hg (kids.take r) 0 N9):=by rw[J,Lm];simp[Hg]
 have kk:C0 (fun b=>b=xb) w1 (w1.setCell ⟨xb,1,none⟩ (.int .i64 ((J1 (ntL (kids.take r))+kids[r].nt.aH:Nat):Int))):=C0.setCell (ex:=fun b=>b=xb) (p:=⟨xb,1,none⟩) (C0.refl _ _) (fun _=>rfl) _;have M:=h.aO.kept X (fun f=>by have:=h.jK xb (W xb f);have:=h.kL;omega);have a0:=h.kL;refine⟨?_,K0 (K0 h.row X (fun b B f=>?_)) kk (fun b B e=>?_),?_,K0 (K0 h.bL X (fun b B f=>?_)) kk (fun b B e=>?_),h.jK,h.kK,h.kL,h.kJ⟩
 ·rw[Y];exact M.set 1 _
 ·obtain⟨c,V⟩:=G b f;exact L0 h.row V (by decide) B
 ·have:=h.kK b B;omega
 ·rw[D];refine AtL.kept kk _ ((Bd kids).2 fun U K=>hU U ((Bd kids).1 h.cQ U K)) (fun x f e=>?_);have:=h.jK x f;omega
 ·obtain⟨c,V⟩:=G b f;exact L0 h.bL V (by decide) B
 ·subst e;exact L0 h.bL h.aO (by decide) B
theorem NI.lH(h:NI lo w s xb rv pv kids r q)(X:q<kids.length){v6:Value}(W:w6.ownsRow 0 89 1 v6 ((plL (kids.take q)).map MT.aL++kids[q].pl.map MT.aL).length (Q5 ((plL (kids.take q)).map MT.aL++kids[q].pl.map MT.aL)))(Y:∀b,v6.ownBlock=some b->lo<=b)(K:C0 (fun b=>pv.ownBlock=some b) w w6):
  NI lo (w6.setCell ⟨xb,2,none⟩ v6) s xb rv v6 kids r (q+1):=by
 have G:kids.take (q+1)=kids.take q++ [kids[q]]:=(yL X).symm;have D:(plL (kids.take (q+1))).map MT.aL=(plL (kids.take q)).map MT.aL++kids[q].pl.map MT.aL:=by rw[G,Ef];simp[plL]
 have J:C0 (fun b=>b=xb) w6 (w6.setCell ⟨xb,2,none⟩ v6):=C0.setCell (ex:=fun b=>b=xb) (p:=⟨xb,2,none⟩) (C0.refl _ _) (fun _=>rfl) _;have M:=h.aO.kept K (fun e=>L0 h.bL h.aO (by decide) e);have V:=h.kL;refine⟨M.set 2 _,K0 (K0 h.row K (fun b f B=>?_)) J (fun b f e=>?_),?_,?_,h.jK,h.kK,h.kL,Y⟩
 ·have:=h.kK b f;have:=h.kJ b B;omega
 ·have:=h.kK b f;omega
 ·refine AtL.kept J _ (AtL.kept K _ h.cQ (fun x B e=>?_)) (fun x B e=>?_)
  ·have:=h.jK x B;have:=h.kJ x e;omega
  ·have:=h.jK x B;omega
 ·have U:=K0 W J (fun b f e=>by subst e;exact L0 W M (by decide) f);rw[<-D,yB]at U;exact U
theorem NI.eQ(h:NI lo w s xb rv pv kids kids.length kids.length)(U:(M9 kids).Nodup)(K:WfL s (ntL kids))(J:s.size<=120)(B:J1 (ntL kids)<=100000)(M:kids≠ []):Wh w xb s (Hg kids 0 N9) kids/\UB w xb (Rr s kids)/\XAt w xb rv (.int .i64 ((J1 (ntL kids):Nat):Int)) pv (.slice none 0 0) (.slice none 0 0) (.slice none 0 0) [] [] []:=by
 have G:=h.aO;have f:=h.cQ;have D:=h.bL;rw[zO (zD _)]at G f D;obtain⟨V,W⟩:=IZ J f K;refine⟨⟨⟨_,rv,G,rfl,rfl,h.row⟩,f,Ut kids 0 N9 U,K,J,B,M⟩,⟨⟨_,pv,G,rfl,?_⟩,V,W⟩,⟨G,World.ownsRow_nil _ _ _ _,⟨World.ownsRow_nil _ _ _ _,fun p B=>by simp at B⟩,World.ownsRow_nil _ _ _ _,fun p B=>by simp at B⟩⟩;rw[CO,OK];exact D
end
end Go.Proofs.YtcckhngbdoiikabGreat
