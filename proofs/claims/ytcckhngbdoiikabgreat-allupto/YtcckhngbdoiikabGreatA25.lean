import Derived.Test.YtcckhngbdoiikabGreatA24
set_option maxRecDepth 20000
set_option maxHeartbeats 12800000
set_option linter.unusedVariables false
namespace Go.Proofs.YtcckhngbdoiikabGreat
open Go.RowKit Go.Deep
def PL(c:AlC)(T:MT)(j a:Nat):Prop:=j<c.s.size/\T.nt.aY ((Q0 c.s).drop j) a
theorem Vk{L u v:List Nat}{i:Nat}(G:i<=L.length):L.drop i=u++v↔∃m,i<=m/\m<=L.length/\dY L i m=u/\L.drop m=v:=by
 constructor
 ·intro h;have f:=congrArg List.length h;simp only[List.length_drop,zL]at f;refine⟨i+u.length,by omega,by omega,?_,?_⟩
  ·unfold dY;rw[h,show i+u.length-i=u.length by omega];simp
  ·rw[<-List.drop_drop,h];simp
 ·rintro⟨m,B,D,rfl,rfl⟩;unfold dY;have e:L.drop m=(L.drop i).drop (m-i):=by rw[List.drop_drop];congr 1;omega
  rw[e,yV]
mutual
theorem NT.dU:∀(x:NT) (a:Nat),¬x.aY [] a
 |.place i e A,a,h=>by rw[Fp]at h;obtain⟨x,f,_⟩:=h;cases f
 |.node k l,a,h=>by
  rw[NT.aY]at h;rcases h with⟨_,h⟩|⟨_,h⟩|⟨_,u,v,f,_,B⟩
  ·exact Sz l a h
  ·exact Yo l a h
  ·have D:v= []:=by cases u <;>simp at f;exact f
   rw[D]at B;exact Yo l a B
theorem Sz:∀(l:List NT) (a:Nat),¬T6 l [] a
 | [],a,h=>by simp[T6]at h
 |y::l,a,h=>by
  simp only[T6]at h;rcases h with h|⟨u,v,f,_,B⟩
  ·exact NT.dU y a h
  ·have D:v= []:=by cases u <;>simp at f;exact f
   rw[D]at B;exact Sz l a B
theorem Yo:∀(l:List NT) (a:Nat),¬L6 l [] a
 | [],a,h=>by simp[L6]at h
 |y::l,a,h=>by
  simp only[L6]at h;rcases h with h|h
  ·exact NT.dU y a h
  ·exact Yo l a h
end
theorem PL.lt{c:AlC}{T:MT}{j a:Nat}(h:T.nt.aY ((Q0 c.s).drop j) a):j<c.s.size:=by
 refine Nat.lt_of_not_le fun f=>?_
 rw[List.drop_eq_nil_of_le (by rw[I1];exact f)]at h;exact NT.dU _ _ h
structure LSt(c:AlC)(A:Nat->Prop)(og:Nat)(w:World)(lo:List Bool)(wl:Nat->List Bool):Prop where
 bI:G4 c A w
 kM:A og
 kF:∀b,A b->b<w.heap.size
 len:lo.length=120
 aO:Blk w og (Z0 lo) 4
 was:∀n,n<c.aH->(wl n).length=c.N/\Blk w (c.U n) (Z0 (wl n)) 4
 kI:∀n,n<c.aH->c.U n≠og
theorem LSt.iG{c:AlC}{A:Nat->Prop}{D:Nat}{w w':World}{B:List Bool}{G:Nat->List Bool}(h:LSt c A D w B G)(k:C0 c.M w w')(K:G4 c A w'):LSt c A D w' B G:=
 ⟨K,h.kM,fun b J=>yG (h.kF b J) k.size,h.len,h.bI.eD k h.aO (by decide),fun n f=>⟨(h.was n f).1,h.bI.eD k (h.was n f).2 (by decide)⟩,h.kI⟩
theorem LSt.aA{c:AlC}{A:Nat->Prop}{B:Nat}{w w':World}{f:List Bool}{D:Nat->List Bool}(h:LSt c A B w f D)(k:Bw w w'):LSt c A B w' f D:=h.iG (C0.aM k) (h.bI.aA k)
def Bi(f:Nat->List Bool)(n:Nat)(l:List Bool):Nat->List Bool:=fun m=>if m=n then l else f m
theorem LSt.mark{c:AlC}{A:Nat->Prop}{J:Nat}{w:World}{G:List Bool}{D:Nat->List Bool}(h:LSt c A J w G D){n i:Nat}(B:n<c.aH):LSt c A J (w.setCell ⟨c.U n,i,none⟩ (.bool true)) G (Bi D n ((D n).set i true)):=by
 have k:C0 (fun b=>b=c.U n) w (w.setCell ⟨c.U n,i,none⟩ (.bool true)):=(C0.refl (fun b=>b=c.U n) _).setCell (p:=⟨c.U n,i,none⟩) (fun _=>rfl) _;refine⟨h.bI.lR B,h.kM,fun b M=>yG (h.kF b M) k.size,h.len,h.aO.kept k (fun e=>h.kI n B e.symm),fun m f=>?_,h.kI⟩;unfold Bi
 by_cases e:m=n
 ·subst e;rw[if_pos rfl];exact⟨by simp[(h.was m f).1],by rw[<-D4];exact(h.was m f).2.set i _⟩
 ·rw[if_neg e];exact⟨(h.was m f).1,(h.was m f).2.kept k (fun K=>e (h.bI.fC m n f B K))⟩
theorem LSt.out{c:AlC}{A:Nat->Prop}{f:Nat}{w:World}{D:List Bool}{G:Nat->List Bool}(h:LSt c A f w D G)(a:Nat):LSt c A f (w.setCell ⟨f,a,none⟩ (.bool true)) (D.set a true) G:=by
 have k:C0 (fun b=>b=f) w (w.setCell ⟨f,a,none⟩ (.bool true)):=(C0.refl (fun b=>b=f) _).setCell (p:=⟨f,a,none⟩) (fun _=>rfl) _;exact⟨h.bI.dD k h.kM h.kI h.aO,h.kM,fun b J=>yG (h.kF b J) k.size,by simp[h.len],by rw[<-D4];exact h.aO.set a _,fun m B=>⟨(h.was m B).1,(h.was m B).2.kept k (h.kI m B)⟩,h.kI⟩
def Ed(c:AlC)(B:Nat->List Bool)(h:List Bool)(n m:Nat):Prop:=∀T∈G5 c.aD,∀id:Nat,c.f T.aL=(id:Int)->n<=id->id<m->∀j,(B id).getD j false=true->∀a,PL c T j a->h.getD a false=true
def Sw(c:AlC)(A:Nat->Prop)(D:Nat)(w:World)(B:List Bool)(G:Nat->List Bool)(n m:Nat)(Q:Nat->Prop)(e:Ending)(w':World):Prop:=
 e=.returned (.tuple #[])/\∃f h,LSt c A D w' f h/\(∀a,f.getD a false=true↔(B.getD a false=true\/Q a))/\(∀id,¬(n<=id/\id<m)->h id=G id)/\Ed c h f n m/\C0 (fun b=>c.M b\/A b) w w'
theorem Ed.grow{c:AlC}{Z B:Nat->List Bool}{W f:List Bool}{Y X n m:Nat}(h0:Ed c Z W Y X)(h:Ed c B f n m)(J:∀a,W.getD a false=true->f.getD a false=true)(M:∀id,¬(n<=id/\id<m)->B id=Z id):Ed c B f Y X:=by
 intro T U id D h1 h2 j G a V
 by_cases K:n<=id/\id<m
 ·exact h T U id D K.1 K.2 j G a V
 ·rw[M id K]at G;exact J a (h0 T U id D h1 h2 j G a V)
def Uw(c:AlC)(T:MT):Prop:=∀(A:Nat->Prop) (B:Nat) (w:World) (h:List Bool) (D:Nat->List Bool) (n i:Nat),T.Numd c.f n->LSt c A B w h D->Ed c D h n (n+T.nt.aH)->i<=c.s.size->
 Calls Tryz.prog 100 #[.pointer (some ⟨c.ab,0,none⟩),.pointer (some ⟨T.aL,0,none⟩),.int .i64 i,.slice (some ⟨B,0,none⟩) 120 120] w (Sw c A B w h D n (n+T.nt.aH) (fun a=>PL c T i a))
theorem WC(c:AlC)(T:MT)(HL:Uw c T)(A:Nat->Prop)(og:Nat)(w:World)(lo:List Bool)(wl:Nat->List Bool)(n:Nat)(hN:T.Numd c.f n)(D:LSt c A og w lo wl)(J:Ed c wl lo n (n+T.nt.aH))(ng V:Nat)(bQ:List Bool)(Z:E6 w (.slice (some ⟨ng,0,none⟩) c.N V) bQ)(hl:bQ.length=c.N)(a8:¬A ng)(hs:c.s.size<=20000):
  Calls Tryz.prog 125 #[.pointer (some ⟨c.ab,0,none⟩),.pointer (some ⟨T.aL,0,none⟩),.slice (some ⟨ng,0,none⟩) c.N V,.slice (some ⟨og,0,none⟩) 120 120] w (Sw c A og w lo wl n (n+T.nt.aH) (fun a=>∃j,bQ.getD j false=true/\PL c T j a)):=by
 have ae:c.N<=20001:=by unfold AlC.N;omega
 have aa:=Hd HL;have HI:=Hd6 hN D J Z hl a8;clear HL hN D J Z hl a8;go_enter Tryz.func125,Tryz.ntmps125;go_wp2_with fail
 go_loopg[8] c.N (fun G jv wr=>∃(j:Nat) (K:List Bool) (U:Nat->List Bool),jv=.int .i64 j/\j<=c.N/\G=c.N-j/\LSt c A og wr K U/\(∀a,K.getD a false=true↔(lo.getD a false=true\/∃i,i<j/\bQ.getD i false=true/\PL c T i a))/\(∀id,¬(n<=id/\id<n+T.nt.aH)->U id=wl id)/\Ed c U K n (n+T.nt.aH)/\C0 (fun b=>c.M b\/A b) w wr)
 case atStart=>
  obtain⟨a1,a2,a3,a4,a5,a6⟩:=HI.out;exact⟨0,lo,wl,rfl,by omega,rfl,a2,fun a=>⟨fun h=>.inl h,fun h=>by rcases h with h|⟨i,hi,_⟩;exact h;omega⟩,fun _ _=>rfl,a3,C0.refl _ _⟩
 case round=>
  obtain⟨j,K,U,rfl,hj,rfl,D,X,Y,J,hk⟩:=hrel
  by_cases a7:j<c.N
  ·have e0:decide ((j:Int)<(c.N:Int))=true:=by simp;omega
   obtain⟨a1,a2,a3,a4,a5,a6⟩:=HI.out;have a9:E6 wr (.slice (some ⟨ng,0,none⟩) c.N V) bQ:=a4.kept hk (fun b hb e=>by
    cases(zE hb:ng=b);rcases e with e|e
    ·obtain⟨cs,W⟩:=a2.bI.type e;exact L0 a4 W (by decide) rfl
    ·exact a6 e)
   have cN:=a9.cellD j (by rw[a5];exact a7);have j0:(0:Int)<=(j:Int):=by omega
   have j1:(j:Int)<(c.N:Int):=by omega
   have HC:=Hd (aa.out A og wr K U n j a1 D J (AlC.dM.1 a7));have HH:=Hd5 D X Y J hk;clear D X Y J hk a1 a2 a3 a4 a5 a6 a9;generalize hx:bQ.getD j false=x at cN;have HX:=Hd hx;clear hx;cases x with
   |false=>
    go_wp2_with fail
    go_roundg (c.N- (j+1))
    case measure=>omega
    case rel=>
     obtain⟨b1,b2,b3,b4,b5⟩:=HH.out;refine⟨j+1,K,U,by go_num,by omega,rfl,b1,fun a=>?_,b3,b4,b5⟩;rw[b2 a];refine⟨fun h=>?_,fun h=>?_⟩
     ·rcases h with h|⟨i,W,B⟩
      ·exact .inl h
      ·exact .inr ⟨i,by omega,B⟩
     ·rcases h with h|⟨i,W,B⟩
      ·exact .inl h
      ·refine .inr ⟨i,?_,B⟩;rcases yE i j with e|e
       ·exact e
       ·rw[show i=j by omega,HX.out]at B;exact absurd B.1 (by simp)
   |true=>
    go_wp2_with fail;refine HC.out.mono ?_;rintro e w1 ⟨rfl,ac,ad,W,B,h3,h4,h5⟩;have HR:=Hd5 W B h3 h4 h5;clear W B h3 h4 h5 HC;go_wp2_with fail
    go_roundg (c.N- (j+1))
    case measure=>omega
    case rel=>
     obtain⟨b1,b2,b3,b4,b5⟩:=HH.out;obtain⟨W,B,h3,h4,h5⟩:=HR.out;refine⟨j+1,ac,ad,by go_num,by omega,rfl,W,fun a=>?_,fun id a0=>(h3 id a0).trans (b3 id a0),h4,b5.trans h5 (fun i _ e=>e)⟩;rw[B a,b2 a];refine⟨fun h=>?_,fun h=>?_⟩
     ·rcases h with(h|⟨i,W,B⟩)|h
      ·exact .inl h
      ·exact .inr ⟨i,by omega,B⟩
      ·exact .inr ⟨j,by omega,HX.out,h⟩
     ·rcases h with h|⟨i,W,B⟩
      ·exact .inl (.inl h)
      ·rcases yE i j with e|e
       ·exact .inl (.inr ⟨i,e,B⟩)
       ·right;rw[show i=j by omega]at B;exact B.2
  ·obtain rfl:j=c.N:=by omega
   have e0:decide ((c.N:Int)<(c.N:Int))=false:=by simp
   have HH:=Hd5 D X Y J hk;clear D X Y J hk;go_wp2_with fail
   go_end0
   obtain⟨b1,b2,b3,b4,b5⟩:=HH.out;refine⟨rfl,K,U,b1,fun a=>?_,b3,b4,b5⟩;rw[b2 a];refine⟨fun h=>?_,fun h=>?_⟩
   ·rcases h with h|⟨i,_,B⟩
    ·exact .inl h
    ·exact .inr ⟨i,B⟩
   ·rcases h with h|⟨i,B,h3⟩
    ·exact .inl h
    ·exact .inr ⟨i,by have:=h3.1;unfold AlC.N;omega,B,h3⟩
theorem LSt.cells{c:AlC}{A:Nat->Prop}{og:Nat}{w:World}{Z:List Bool}{K:Nat->List Bool}(h:LSt c A og w Z K){T:MT}{n i:Nat}(J:T∈G5 c.aD)(W:T.Numd c.f n)(X:i<=c.s.size):
  n<c.aH/\w.cell? ⟨c.ab,0,none⟩=some (.string c.s)/\w.cell? ⟨c.ab,2,none⟩=some (.slice (some ⟨c.wg,0,none⟩) c.aH c.lG)/\w.cell? ⟨c.wg,n,none⟩=some (.slice (some ⟨c.U n,0,none⟩) c.N c.N)/\w.cell? ⟨c.U n,i,none⟩=some (.bool ((K n).getD i false))/\w.frozen? ⟨c.U n,i,none⟩=false/\w.cell? ⟨T.aL,1,none⟩=some (.int .i64 n):=by
 obtain⟨m,D,B⟩:=h.bI.id J;have Y:=W.aL;have:m=n:=by rw[B]at Y;omega
 subst this;obtain⟨cs,M,V⟩:=h.bI.was;have G:=h.was m D;exact⟨D,h.bI.aO.cell 0,h.bI.aO.cell 2,by rw[M.cell];exact V m D,P2 G.2 i (by rw[G.1];exact AlC.dM.2 X),G.2.frozen i,by rw[<-B];exact(AtL.sub c.aD T h.bI.cQ J).id⟩
theorem Ll(w:World)(n:Nat):Bw w (w.drewN n):=⟨rfl,rfl,rfl,zD _,fun _ _=>rfl⟩
theorem VC(c:AlC)(T:MT)(Y:T∈G5 c.aD)(A:Nat->Prop)(V:Nat)(w:World)(U:List Bool)(K:Nat->List Bool)(n i:Nat)(X:T.Numd c.f n)(G:LSt c A V w U K)(J:Ed c K U n (n+T.nt.aH))(hi:i<=c.s.size)(hs:c.s.size<=20000)(B:c.s.size<=i\/(K n).getD i false=true):
  Calls Tryz.prog 100 #[.pointer (some ⟨c.ab,0,none⟩),.pointer (some ⟨T.aL,0,none⟩),.int .i64 i,.slice (some ⟨V,0,none⟩) 120 120] w (Sw c A V w U K n (n+T.nt.aH) (fun a=>PL c T i a)):=by
 obtain⟨hn,s0,s2,s3,s4,_,s5⟩:=G.cells Y X hi;have a0:=T.nt.parts_pos;have D:∀W,Bw w W->Sw c A V w U K n (n+T.nt.aH) (fun a=>PL c T i a) (.returned (.tuple #[])) W:=fun W hb=>by
  refine⟨rfl,U,K,G.aA hb,fun a=>⟨fun h=>.inl h,fun h=>?_⟩,fun _ _=>rfl,J,C0.aM hb⟩;rcases h with h|h
  ·exact h
  ·rcases B with e|e
   ·have:=h.1;omega
   ·exact J T Y n X.aL (zD _) (by omega) i e a h
 have HF:=Hd D;have n0:(0:Int)<=(n:Int):=by omega
 have n1:(n:Int)<(c.aH:Int):=by omega
 have i0:(0:Int)<=(i:Int):=by omega
 have i1:(i:Int)<(c.N:Int):=by unfold AlC.N;omega
 obtain⟨tr,M⟩:∃tr,T.aL=tr:=⟨_,rfl⟩;rw[M]at s5⊢;clear G J X Y D M
 by_cases Z:c.s.size<=i
 ·have e0:decide ((c.s.size:Int)<=(i:Int))=true:=by simp;omega
  clear B;go_enter Tryz.func100,Tryz.ntmps100;go_wp2_with fail;go_quiet(fail);go_wp2_with fail
  go_end0
  exact HF.out _ (Ll _ _)
 ·have e0:decide ((c.s.size:Int)<=(i:Int))=false:=by simp;omega
  have hw:(K n).getD i false=true:=by rcases B with e|e;exact absurd e Z;exact e
  rw[hw]at s4;clear B hw;go_enter Tryz.func100,Tryz.ntmps100;go_wp2_with fail;go_quiet(fail);go_wp2_with fail
  go_end0
  exact HF.out _ (Ll _ _)
theorem AV(f:Nat->List Bool)(n:Nat)(l:List Bool):Bi f n l n=l:=by unfold Bi;rw[if_pos rfl]
theorem BR{f:Nat->List Bool}{n m:Nat}{l:List Bool}(h:m≠n):Bi f n l m=f m:=by unfold Bi;rw[if_neg h]
theorem Ed.sub{c:AlC}{J:Nat->List Bool}{B:List Bool}{n m G D:Nat}(h:Ed c J B n m)(M:n<=G)(U:D<=m):Ed c J B G D:=fun T K id f a b=>h T K id f (by omega) (by omega)
theorem Ed.mark{c:AlC}{G:Nat->List Bool}{D:List Bool}{n m:Nat}(h:Ed c G D n m)(l:List Bool):Ed c (Bi G n l) D (n+1) m:=fun T J id f a b j B=>h T J id f (by omega) b j (by rw[BR (by omega)]at B;exact B)
theorem Hm{c:AlC}{A:Nat->Prop}{og:Nat}{w w':World}{lo B:List Bool}{G D:Nat->List Bool}{T:MT}{n i:Nat}(hT:T∈G5 c.aD)(hN:T.Numd c.f n)(Z:Ed c G lo n (n+T.nt.aH))(X:i<(G n).length)(h1:LSt c A og w' B D)(K:∀a,B.getD a false=true↔(lo.getD a false=true\/PL c T i a))
  (h3:∀id,¬(n+1<=id/\id<n+T.nt.aH)->D id=Bi G n ((G n).set i true) id) (h4:Ed c D B (n+1) (n+T.nt.aH)) (h5:C0 (fun b=>c.M b\/A b) w w'):Sw c A og w lo G n (n+T.nt.aH) (fun a=>PL c T i a) (.returned (.tuple #[])) w':=by
 refine⟨rfl,B,D,h1,K,fun id h=>?_,fun U W id h a b j J q Y=>?_,h5⟩
 ·have:=T.nt.parts_pos;rw[h3 id (by omega),BR (by omega)]
 ·by_cases e:id=n
  ·subst e;have V:U=T:=N6.bX c.aD 0 h1.bI.num U T W hT (by rw[h,hN.aL]);subst V;rw[h3 id (by omega),AV,C7 _ _ _ _ X]at J
   by_cases e2:j=i
   ·subst e2;exact(K q).2 (.inr Y)
   ·rw[if_neg e2]at J;exact(K q).2 (.inl (Z U W id h (zD _) b j J q Y))
  ·exact h4 U W id h (by omega) b j J q Y
theorem Kr{f:Nat->Int}{l:List MT}{n k:Nat}(h:N6 f l n)(J:k<l.length):l[k].Numd f (n+J1 (ntL (l.take k)))/\J1 (ntL (l.take k))+l[k].nt.aH<=J1 (ntL l):=by
 have e:l=l.take k++(l[k]::l.drop (k+1)):=by rw[List.getElem_cons_drop,yV]
 have D:=h;rw[e,N6.append]at D;refine⟨?_,?_⟩
 ·have:=D.2;simp only[N6]at this;exact this.1
 ·have G:J1 (ntL l)=J1 (ntL (l.take k))+(l[k].nt.aH+J1 (ntL (l.drop (k+1)))):=by
   have B:=congrArg (fun x=>J1 (ntL x)) e;simp only[Sb,zV,L7,List.map_cons,J1]at B;simp only[Sb];exact B
  omega
theorem QS(c:AlC)(b:Nat)(v:Value)(l:List MT)(hT:(MT.node b v 1 l)∈G5 c.aD)(HE:∀y∈l,Ao c y)(HL:∀y∈l,Uw c y)(hl:l.length<=100000)(hs:c.s.size<=20000)(A:Nat->Prop)(og:Nat)(w:World)(lo:List Bool)(Y:Nat->List Bool)(n i:Nat)(hN:(MT.node b v 1 l).Numd c.f n)(ag:LSt c A og w lo Y)(be:Ed c Y lo n (n+(MT.node b v 1 l).nt.aH))(hi:i<c.s.size)(bc:(Y n).getD i false=false):
  Calls Tryz.prog 100 #[.pointer (some ⟨c.ab,0,none⟩),.pointer (some ⟨b,0,none⟩),.int .i64 i,.slice (some ⟨og,0,none⟩) 120 120] w (Sw c A og w lo Y n (n+(MT.node b v 1 l).nt.aH) (fun a=>PL c (MT.node b v 1 l) i a)):=by
 obtain⟨ad,a9,rfl,_,_,_⟩:=N5 (AtL.sub c.aD _ ag.bI.cQ hT);obtain⟨hn,s0,s2,s3,s4,_,s5⟩:=ag.cells hT hN (xA hi);have c2:c.N<=20001:=by unfold AlC.N;omega
 have c1:(c.s.size:Int)+1=(c.N:Int):=by unfold AlC.N;omega
 have aw:i<c.N:=by unfold AlC.N;omega
 have n0:(0:Int)<=(n:Int):=by omega
 have n1:(n:Int)<(c.aH:Int):=by omega
 have i0:(0:Int)<=(i:Int):=by omega
 have i1:(i:Int)<(c.N:Int):=by omega
 have e0:decide ((c.s.size:Int)<=(i:Int))=false:=by simp;omega
 rw[bc]at s4;simp only[MT.aL]at s5;have bi:Hid ((MT.node b (.slice ad l.length a9) 1 l).nt.aH=1+J1 (ntL l)):=Hd (by simp[MT.nt,NT.aH]);have HS:=Hd ag;have HT:=Hd hT;have HN:=Hd hN;have HW:=Hd be;clear ag hT hN be bc;go_enter Tryz.func100,Tryz.ntmps100;go_wp2_with fail;go_quiet(fail);go_upto_region 1 with fail;obtain⟨w0,az⟩:∃w0:World,w.drewN nq=w0:=⟨_,rfl⟩;rw[az];have au:Bw w w0:=by rw[<-az];exact Ll _ _
 have W:=HS.out.aA au;obtain⟨_,t0,t2,t3,t4,f4,t5⟩:=W.cells HT.out HN.out (xA hi);simp only[MT.aL]at t5;have a0:=Hd2 W au;have b0:Hid (i<(Y n).length):=Hd (by rw[(HS.out.was n hn).1];exact aw);clear W au s0 s2 s3 s4 s5 az HS;go_region;obtain⟨w1,ah⟩:∃w1:World,(w0.setCell ⟨c.U n,i,none⟩ (.bool true)).drew=w1:=⟨_,rfl⟩;rw[ah];have K:LSt c A og w1 lo (Bi Y n ((Y n).set i true)):=by rw[<-ah];exact(a0.out.1.mark hn).aA (H6 _)
 have b6:C0 (fun b=>c.M b\/A b) w w1:=by rw[<-ah];exact((C0.aM a0.out.2).setCell (p:=⟨c.U n,i,none⟩) (fun _=>.inr (a0.out.1.bI.wrow n hn).1) _).drew
 have s0:w1.cell? ⟨c.ab,0,none⟩=some (.string c.s):=K.bI.aO.cell 0;have ap:=Hd2 K b6;have bl:Hid (Ed c (Bi Y n ((Y n).set i true)) lo (n+1) (n+(MT.node b (.slice ad l.length a9) 1 l).nt.aH)):=Hd (HW.out.mark _);obtain⟨_,_,_,k0,_,_⟩:=N5 (AtL.sub c.aD _ K.bI.cQ HT.out);have b3:=Hd (Um i c.N w1 aw (by omega));have bf:=Hd HE;have bg:=Hd HL;clear K b6 t0 t2 t3 t4 f4 t5 ah a0 HE HL;go_wp2_with fail;refine b3.out.mono ?_;rintro e w2 ⟨rfl,aq,av⟩;have c3:w1.heap.size<w2.heap.size:=aq.lt;have bk:=Hd3 (ap.out.1.aA av) (ap.out.2.aA av) aq;have bm:=Hd ap.out.1.kF;clear aq av b3 k0 s0;go_wp2_with fail
 go_loopg[8,9] l.length (fun G nv kv wr=>∃(k:Nat) (bQ:List Bool) (ng:Nat) (X:List Bool) (Z:Nat->List Bool),kv=.int .i64 k/\k<=l.length/\G=l.length-k/\nv=.slice (some ⟨ng,0,none⟩) c.N c.N/\¬A ng/\E6 wr (.slice (some ⟨ng,0,none⟩) c.N c.N) bQ/\bQ=Oa (Q0 c.s) (B6 (ntL (l.take k))) i/\LSt c A og wr X Z/\(∀a,X.getD a false=true↔(lo.getD a false=true\/T6 (ntL (l.take k)) ((Q0 c.s).drop i) a))/\(∀id,¬(n+1<=id/\id<n+(MT.node b (.slice ad l.length a9) 1 l).nt.aH)->Z id=Bi Y n ((Y n).set i true) id)/\Ed c Z X (n+1) (n+(MT.node b (.slice ad l.length a9) 1 l).nt.aH)/\C0 (fun b=>c.M b\/A b) w wr)
 case atStart=>
  obtain⟨a1,a2,a3⟩:=bk.out;refine⟨0,Mr i c.N,w1.heap.size,lo,_,rfl,by omega,rfl,rfl,fun e=>by have:=bm.out _ e;omega,?_,?_,a1,fun a=>?_,fun _ _=>rfl,bl.out,a2⟩
  ·have:=E6.cC a3 (by rw[Cf];omega);rw[Cf]at this;exact this
  ·refine Me (by rw[Cf,I1];rfl) fun q hq=>?_
   rw[I1]at hq;rw[Lk aw (AlC.dM.2 hq)];simp only[List.take_zero,ntL];rw[V9 (Q:=fun w=>w= []) (fun w=>by simp[B6]),MC (by rw[I1];omega)];simp
  ·simp[ntL,T6]
 case round=>
  obtain⟨k,bQ,ng,X,Z,rfl,hk,rfl,rfl,af,aa,J,B,ae,ai,D,ac⟩:=hrel;obtain⟨bw,bu,br,_,c4,ck⟩:=N5 (AtL.sub c.aD _ B.bI.cQ HT.out)
  injection br with hv1 hv2 ay
  subst hv1 ay
  by_cases V:k<l.length
  ·have e1:decide ((k:Int)<(l.length:Int))=true:=by simp;omega
   obtain⟨g,hg,cg⟩:=ck k V;subst hg;have j0:(0:Int)<=(k:Int):=by omega
   have j1:(k:Int)<(l.length:Int):=by omega
   have ax:bQ.length=c.N:=by rw[J,Jc]
   have ar:=HN.out;simp only[MT.Numd]at ar;obtain⟨b8,am⟩:=Kr ar.2 V;have bb:=bi.out;have b2:=Hd (WC c l[k] (bg.out _ (zG V)) A og wr X Z _ b8 B (D.sub (by omega) (by omega)) ng c.N bQ aa ax af hs);have HH:=Hd8 af aa J B ae ai D ac;have bh:=Hd ax;have HP:=Hd2 am bb;clear af aa J B ae ai D ac ck ax ar b8 am bb;go_wp2_with fail;refine b2.out.mono ?_;rintro e w3 ⟨rfl,bs,bt,h1,h2,h3,h4,h5⟩;obtain⟨a1,a2,a3,a4,a5,a6,a7,a8⟩:=HH.out;have aj:E6 w3 (.slice (some ⟨ng,0,none⟩) c.N c.N) bQ:=a2.kept h5 (fun b hb e=>by
    cases(zE hb:ng=b);rcases e with e|e
    ·obtain⟨cs,h1⟩:=a4.bI.type e;exact L0 a2 h1 (by decide) rfl
    ·exact a1 e)
   have b1:=Hd (Cy c l[k] (bf.out _ (zG V)) A w3 ng c.N bQ h1.kF h1.bI aj bh.out hs);obtain⟨bx,bv,ay,_,bz,b5⟩:=N5 (AtL.sub c.aD _ h1.bI.cQ HT.out)
   injection ay with hv31 hv32 hv33
   subst hv31 hv33;obtain⟨g3,bn,c0⟩:=b5 k V;cases bn;have HR:=Hd5 h1 h2 h3 h4 (a8.trans h5 (fun i _ e=>e));clear a1 a2 a3 a4 a5 a6 a7 a8 h1 h2 h3 h4 h5 aj b2 c4 cg b5;go_wp2_with fail;refine b1.out.mono ?_;rintro e w4 ⟨l4,b9,ao,b4,rfl,an,ak,ba,b7⟩;have bj:=Hd6 b9 ao an ak ba b7;clear b9 ao an ak ba b7 b1;go_wp2_with fail
   go_roundg (l.length- (k+1))
   case measure=>omega
   case rel=>
    obtain⟨a1,a2,a3,a4,a5,a6,a7,a8⟩:=HH.out;obtain⟨h1,h2,h3,h4,h5⟩:=HR.out;obtain⟨g1,g2,g3,g4,g5,g6⟩:=bj.out;obtain⟨p1,p2⟩:=HP.out;have bd:l.take (k+1)=l.take k++ [l[k]]:=(yL V).symm;refine⟨k+1,l4,b4,bs,bt,by go_num,by omega,rfl,rfl,g3,g4,?_,h1.iG g6 g5,fun a=>?_,fun id bo=>?_,a7.grow h4 (fun a ha=>(h2 a).2 (.inl ha)) h3,h5.trans g6 (fun i _ e=>.inl e)⟩
    ·refine Me (by rw[g1,I1];rfl) fun q hq=>?_
     rw[I1]at hq;rw[g2 q hq,bd,Fc,V9 (Rk _ _),Xx,a3];simp only[D9]
    ·rw[h2 a,a5 a,bd,Fc,Zr,or_assoc];refine or_congr Iff.rfl (or_congr Iff.rfl ?_);constructor
     ·rintro⟨j,hj,bp⟩;rw[a3,D9]at hj;exact⟨_,_,(Vk (by rw[I1];omega)).2 ⟨j,hj.1,hj.2.1,rfl,rfl⟩,hj.2.2,bp.2⟩
     ·rintro⟨u,v,bq,hu,hv⟩;obtain⟨m,m1,m2,rfl,rfl⟩:=(Vk (by rw[I1];omega)).1 bq;exact⟨m,by rw[a3,D9];exact⟨m1,m2,hu⟩,PL.lt hv,hv⟩
    ·rw[h3 id (by omega)];exact a6 id bo
  ·obtain rfl:k=l.length:=by omega
   have e1:decide ((l.length:Int)<(l.length:Int))=false:=by simp
   have HH:=Hd5 B ae ai D ac;clear af aa J B ae ai D ac ck;go_wp2_with fail
   go_end0
   obtain⟨a4,a5,a6,a7,a8⟩:=HH.out;refine Hm HT.out HN.out HW.out b0.out a4 (fun a=>?_) a6 a7 a8;rw[a5 a,zO (zD _)];refine or_congr Iff.rfl ⟨fun h=>⟨hi,?_⟩,fun h=>?_⟩
   ·simp only[MT.nt];rw[Cr];exact h
   ·have h2:=h.2;simp only[MT.nt]at h2;rw[Cr]at h2;exact h2
theorem CN(c:AlC)(b:Nat)(v:Value)(y:MT)(hT:(MT.node b v 3 [y])∈G5 c.aD)(HE:Ao c y)(HL:Uw c y)(hs:c.s.size<=20000)(A:Nat->Prop)(og:Nat)(w:World)(lo:List Bool)(X:Nat->List Bool)(n i:Nat)(hN:(MT.node b v 3 [y]).Numd c.f n)(V:LSt c A og w lo X)(ai:Ed c X lo n (n+(MT.node b v 3 [y]).nt.aH))(hi:i<c.s.size)(ah:(X n).getD i false=false):
  Calls Tryz.prog 100 #[.pointer (some ⟨c.ab,0,none⟩),.pointer (some ⟨b,0,none⟩),.int .i64 i,.slice (some ⟨og,0,none⟩) 120 120] w (Sw c A og w lo X n (n+(MT.node b v 3 [y]).nt.aH) (fun a=>PL c (MT.node b v 3 [y]) i a)):=by
 obtain⟨ad,aa,rfl,_,_,_⟩:=N5 (AtL.sub c.aD _ V.bI.cQ hT);obtain⟨hn,s0,s2,s3,s4,_,s5⟩:=V.cells hT hN (xA hi);have az:c.N<=20001:=by unfold AlC.N;omega
 have ay:(c.s.size:Int)+1=(c.N:Int):=by unfold AlC.N;omega
 have ap:i<c.N:=by unfold AlC.N;omega
 have n0:(0:Int)<=(n:Int):=by omega
 have n1:(n:Int)<(c.aH:Int):=by omega
 have i0:(0:Int)<=(i:Int):=by omega
 have i1:(i:Int)<(c.N:Int):=by omega
 have e0:decide ((c.s.size:Int)<=(i:Int))=false:=by simp;omega
 rw[ah]at s4;simp only[MT.aL]at s5;have ak:Hid ((MT.node b (.slice ad [y].length aa) 3 [y]).nt.aH=1+J1 (ntL [y])):=Hd (by simp[MT.nt,NT.aH]);have HS:=Hd V;have HT:=Hd hT;have HN:=Hd hN;have HW:=Hd ai;clear V hT hN ai ah;go_enter Tryz.func100,Tryz.ntmps100;go_wp2_with fail;go_quiet(fail);go_upto_region 1 with fail;obtain⟨w0,a4⟩:∃w0:World,w.drewN nq=w0:=⟨_,rfl⟩;rw[a4];have a1:Bw w w0:=by rw[<-a4];exact Ll _ _
 have D:=HS.out.aA a1;obtain⟨_,t0,t2,t3,t4,f4,t5⟩:=D.cells HT.out HN.out (xA hi);simp only[MT.aL]at t5;have J:=Hd2 D a1;have a5:Hid (i<(X n).length):=Hd (by rw[(HS.out.was n hn).1];exact ap);clear D a1 s0 s2 s3 s4 s5 a4 HS;go_region;obtain⟨w1,W⟩:∃w1:World,(w0.setCell ⟨c.U n,i,none⟩ (.bool true)).drew=w1:=⟨_,rfl⟩;rw[W];have B:LSt c A og w1 lo (Bi X n ((X n).set i true)):=by rw[<-W];exact(J.out.1.mark hn).aA (H6 _)
 have ae:C0 (fun b=>c.M b\/A b) w w1:=by rw[<-W];exact((C0.aM J.out.2).setCell (p:=⟨c.U n,i,none⟩) (fun _=>.inr (J.out.1.bI.wrow n hn).1) _).drew
 have s0:w1.cell? ⟨c.ab,0,none⟩=some (.string c.s):=B.bI.aO.cell 0;have a8:=Hd2 B ae;have a9:Hid (Ed c (Bi X n ((X n).set i true)) lo (n+1) (n+(MT.node b (.slice ad [y].length aa) 3 [y]).nt.aH)):=Hd (HW.out.mark _);obtain⟨_,_,av,k0,k4,kk⟩:=N5 (AtL.sub c.aD _ B.bI.cQ HT.out)
 injection av with hv1 hv2 a3
 subst hv1 a3;obtain⟨g,hg,cg⟩:=kk 0 (by simp);subst hg;simp only[yQ,List.getElem_cons_zero]at k4 cg;have a6:=Hd (YB c y HE A w1 i B.kF B.bI (xA hi) hs);have aj:=Hd HL;clear B ae t0 t2 t3 t4 f4 t5 W J HE HL kk;go_wp2_with fail;refine a6.out.mono ?_;rintro e w2 ⟨b2,rfl,Z,Y,af,a2⟩;have G:=a8.out.1.iG a2 af;obtain⟨ax,aw,a3,_,am,ac⟩:=N5 (AtL.sub c.aD _ G.bI.cQ HT.out)
 injection a3 with hv31 hv32 hv33
 subst hv31 hv33;obtain⟨g3,ao,an⟩:=ac 0 (by simp);cases ao;simp only[yQ,List.getElem_cons_zero]at am an;have a0:=HN.out;simp only[MT.Numd,N6]at a0;have K:=ak.out;have ag:J1 (ntL [y])=y.nt.aH:=by simp[ntL,J1]
 rw[ag]at K;have a7:=Hd (WC c y aj.out A og w2 lo _ (n+1) a0.2.1 G (a9.out.sub (zD _) (by omega)) b2 c.N _ Y (Jc _ _ _) Z hs);have HK:=Hd (a8.out.2.trans a2 (fun i _ e=>.inl e));have HP:=Hd K;clear Z Y af a2 G a0 K ag a6 k0 k4 cg ac s0;go_wp2_with fail;refine a7.out.mono ?_;rintro e w3 ⟨rfl,b0,b1,h1,h2,h3,h4,h5⟩;have HR:=Hd5 h1 h2 h3 h4 h5;clear h1 h2 h3 h4 h5 a7;go_wp2_with fail
 go_end0
 obtain⟨h1,h2,h3,h4,h5⟩:=HR.out;have K:=HP.out;refine Hm HT.out HN.out HW.out a5.out h1 (fun a=>?_) (fun id aq=>h3 id (by simp only[MT.nt,NT.aH,ntL,J1]at aq;omega)) (a9.out.grow h4 (fun a ha=>(h2 a).2 (.inl ha)) h3) (HK.out.trans h5 (fun i _ e=>e));rw[h2 a];refine or_congr Iff.rfl ?_;have hm:=UC y.nt ((Q0 c.s).drop i) a;constructor
 ·rintro⟨j,hj,ar⟩;rw[D9]at hj;refine⟨hi,?_⟩;simp only[MT.nt,ntL];exact hm.2 ⟨_,_,(Vk (by rw[I1];omega)).2 ⟨j,hj.1,hj.2.1,rfl,rfl⟩,hj.2.2,ar.2⟩
 ·rintro⟨_,h⟩;simp only[MT.nt,ntL]at h;obtain⟨u,v,au,hu,hv⟩:=hm.1 h;obtain⟨m,m1,m2,rfl,rfl⟩:=(Vk (by rw[I1];omega)).1 au;exact⟨m,by rw[D9];exact⟨m1,m2,hu⟩,PL.lt hv,hv⟩
theorem DN(c:AlC)(b:Nat)(v:Value)(l:List MT)(hT:(MT.node b v 2 l)∈G5 c.aD)(HL:∀y∈l,Uw c y)(hl:l.length<=100000)(hs:c.s.size<=20000)(A:Nat->Prop)(og:Nat)(w:World)(lo:List Bool)(W:Nat->List Bool)(n i:Nat)(hN:(MT.node b v 2 l).Numd c.f n)(aa:LSt c A og w lo W)(aq:Ed c W lo n (n+(MT.node b v 2 l).nt.aH))(hi:i<c.s.size)(ap:(W n).getD i false=false):
  Calls Tryz.prog 100 #[.pointer (some ⟨c.ab,0,none⟩),.pointer (some ⟨b,0,none⟩),.int .i64 i,.slice (some ⟨og,0,none⟩) 120 120] w (Sw c A og w lo W n (n+(MT.node b v 2 l).nt.aH) (fun a=>PL c (MT.node b v 2 l) i a)):=by
 obtain⟨ad,Z,rfl,_,_,_⟩:=N5 (AtL.sub c.aD _ aa.bI.cQ hT);obtain⟨hn,s0,s2,s3,s4,_,s5⟩:=aa.cells hT hN (xA hi);have b7:c.N<=20001:=by unfold AlC.N;omega
 have b6:(c.s.size:Int)+1=(c.N:Int):=by unfold AlC.N;omega
 have ax:i<c.N:=by unfold AlC.N;omega
 have n0:(0:Int)<=(n:Int):=by omega
 have n1:(n:Int)<(c.aH:Int):=by omega
 have i0:(0:Int)<=(i:Int):=by omega
 have i1:(i:Int)<(c.N:Int):=by omega
 have e0:decide ((c.s.size:Int)<=(i:Int))=false:=by simp;omega
 rw[ap]at s4;simp only[MT.aL]at s5;have au:Hid ((MT.node b (.slice ad l.length Z) 2 l).nt.aH=1+J1 (ntL l)):=Hd (by simp[MT.nt,NT.aH]);have HS:=Hd aa;have HT:=Hd hT;have HN:=Hd hN;have HW:=Hd aq;clear aa hT hN aq ap;go_enter Tryz.func100,Tryz.ntmps100;go_wp2_with fail;go_quiet(fail);go_upto_region 1 with fail;obtain⟨w0,ai⟩:∃w0:World,w.drewN nq=w0:=⟨_,rfl⟩;rw[ai];have ah:Bw w w0:=by rw[<-ai];exact Ll _ _
 have K:=HS.out.aA ah;obtain⟨_,t0,t2,t3,t4,f4,t5⟩:=K.cells HT.out HN.out (xA hi);simp only[MT.aL]at t5;have Y:=Hd2 K ah;have aj:Hid (i<(W n).length):=Hd (by rw[(HS.out.was n hn).1];exact ax);clear K ah s0 s2 s3 s4 s5 ai HS;go_region;obtain⟨w1,ac⟩:∃w1:World,(w0.setCell ⟨c.U n,i,none⟩ (.bool true)).drew=w1:=⟨_,rfl⟩;rw[ac];have J:LSt c A og w1 lo (Bi W n ((W n).set i true)):=by rw[<-ac];exact(Y.out.1.mark hn).aA (H6 _)
 have am:C0 (fun b=>c.M b\/A b) w w1:=by rw[<-ac];exact((C0.aM Y.out.2).setCell (p:=⟨c.U n,i,none⟩) (fun _=>.inr (Y.out.1.bI.wrow n hn).1) _).drew
 have s0:w1.cell? ⟨c.ab,0,none⟩=some (.string c.s):=J.bI.aO.cell 0;have av:=Hd2 J am;have aw:Hid (Ed c (Bi W n ((W n).set i true)) lo (n+1) (n+(MT.node b (.slice ad l.length Z) 2 l).nt.aH)):=Hd (HW.out.mark _);obtain⟨_,_,b1,k0,_,_⟩:=N5 (AtL.sub c.aD _ J.bI.cQ HT.out)
 injection b1 with hv1 hv2 hv3
 subst hv1 hv3;have ar:=Hd HL;clear J am t0 t2 t3 t4 f4 t5 ac Y HL;go_wp2_with fail
 go_loopg[11] l.length (fun G kv wr=>∃(k:Nat) (V:List Bool) (X:Nat->List Bool),kv=.int .i64 k/\k<=l.length/\G=l.length-k/\LSt c A og wr V X/\(∀a,V.getD a false=true↔(lo.getD a false=true\/L6 (ntL (l.take k)) ((Q0 c.s).drop i) a))/\(∀id,¬(n+1<=id/\id<n+(MT.node b (.slice ad l.length Z) 2 l).nt.aH)->X id=Bi W n ((W n).set i true) id)/\Ed c X V (n+1) (n+(MT.node b (.slice ad l.length Z) 2 l).nt.aH)/\C0 (fun b=>c.M b\/A b) w wr)
 case atStart=>
  obtain⟨a1,a2⟩:=av.out;exact⟨0,lo,_,rfl,by omega,rfl,a1,fun a=>by simp[ntL,L6],fun _ _=>rfl,aw.out,a2⟩
 case round=>
  obtain⟨k,V,X,rfl,hk,rfl,B,a3,ae,D,a0⟩:=hrel;obtain⟨b5,b4,b0,_,c4,ck⟩:=N5 (AtL.sub c.aD _ B.bI.cQ HT.out)
  injection b0 with hv1 hv2 hv3
  subst hv1 hv3
  by_cases a9:k<l.length
  ·have e1:decide ((k:Int)<(l.length:Int))=true:=by simp;omega
   obtain⟨g,hg,cg⟩:=ck k a9;subst hg;have j0:(0:Int)<=(k:Int):=by omega
   have j1:(k:Int)<(l.length:Int):=by omega
   have ag:=HN.out;simp only[MT.Numd]at ag;obtain⟨an,af⟩:=Kr ag.2 a9;have ao:=au.out;have ak:=Hd (ar.out _ (zG a9) A og wr V X _ i an B (D.sub (by omega) (by omega)) (xA hi));have HH:=Hd5 B a3 ae D a0;have HP:=Hd2 af ao;clear B a3 ae D a0 ck ag an af ao;go_wp2_with fail;refine ak.out.mono ?_;rintro e w3 ⟨rfl,b2,b3,h1,h2,h3,h4,h5⟩;have HR:=Hd5 h1 h2 h3 h4 h5;clear h1 h2 h3 h4 h5 ak;go_wp2_with fail
   go_roundg (l.length- (k+1))
   case measure=>omega
   case rel=>
    obtain⟨a4,a5,a6,a7,a8⟩:=HH.out;obtain⟨h1,h2,h3,h4,h5⟩:=HR.out;obtain⟨p1,p2⟩:=HP.out;have az:l.take (k+1)=l.take k++ [l[k]]:=(yL a9).symm;refine⟨k+1,b2,b3,by go_num,by omega,rfl,h1,fun a=>?_,fun id ay=>?_,a7.grow h4 (fun a ha=>(h2 a).2 (.inl ha)) h3,a8.trans h5 (fun i _ e=>e)⟩
    ·rw[h2 a,a5 a,az,Fc,Zj,or_assoc];exact or_congr Iff.rfl (or_congr Iff.rfl ⟨fun h=>h.2,fun h=>⟨hi,h⟩⟩)
    ·rw[h3 id (by omega)];exact a6 id ay
  ·obtain rfl:k=l.length:=by omega
   have e1:decide ((l.length:Int)<(l.length:Int))=false:=by simp
   have HH:=Hd5 B a3 ae D a0;clear B a3 ae D a0 ck;go_wp2_with fail
   go_end0
   obtain⟨a4,a5,a6,a7,a8⟩:=HH.out;refine Hm HT.out HN.out HW.out aj.out a4 (fun a=>?_) a6 a7 a8;rw[a5 a,zO (zD _)];refine or_congr Iff.rfl ⟨fun h=>⟨hi,?_⟩,fun h=>?_⟩
   ·simp only[MT.nt];rw[Dp];exact h
   ·have h2:=h.2;simp only[MT.nt]at h2;rw[Dp]at h2;exact h2
theorem EN(c:AlC)(b:Nat)(v:Value)(l:List MT)(hT:(MT.node b v 4 l)∈G5 c.aD)(HL:∀y∈l,Uw c y)(hl:l.length<=100000)(hs:c.s.size<=20000)(A:Nat->Prop)(og:Nat)(w:World)(lo:List Bool)(W:Nat->List Bool)(n i:Nat)(hN:(MT.node b v 4 l).Numd c.f n)(aa:LSt c A og w lo W)(aq:Ed c W lo n (n+(MT.node b v 4 l).nt.aH))(hi:i<c.s.size)(ap:(W n).getD i false=false):
  Calls Tryz.prog 100 #[.pointer (some ⟨c.ab,0,none⟩),.pointer (some ⟨b,0,none⟩),.int .i64 i,.slice (some ⟨og,0,none⟩) 120 120] w (Sw c A og w lo W n (n+(MT.node b v 4 l).nt.aH) (fun a=>PL c (MT.node b v 4 l) i a)):=by
 obtain⟨ad,Z,rfl,_,_,_⟩:=N5 (AtL.sub c.aD _ aa.bI.cQ hT);obtain⟨hn,s0,s2,s3,s4,_,s5⟩:=aa.cells hT hN (xA hi);have b7:c.N<=20001:=by unfold AlC.N;omega
 have b6:(c.s.size:Int)+1=(c.N:Int):=by unfold AlC.N;omega
 have ax:i<c.N:=by unfold AlC.N;omega
 have n0:(0:Int)<=(n:Int):=by omega
 have n1:(n:Int)<(c.aH:Int):=by omega
 have i0:(0:Int)<=(i:Int):=by omega
 have i1:(i:Int)<(c.N:Int):=by omega
 have e0:decide ((c.s.size:Int)<=(i:Int))=false:=by simp;omega
 rw[ap]at s4;simp only[MT.aL]at s5;have au:Hid ((MT.node b (.slice ad l.length Z) 4 l).nt.aH=1+J1 (ntL l)):=Hd (by simp[MT.nt,NT.aH]);have HS:=Hd aa;have HT:=Hd hT;have HN:=Hd hN;have HW:=Hd aq;clear aa hT hN aq ap;go_enter Tryz.func100,Tryz.ntmps100;go_wp2_with fail;go_quiet(fail);go_upto_region 1 with fail;obtain⟨w0,ai⟩:∃w0:World,w.drewN nq=w0:=⟨_,rfl⟩;rw[ai];have ah:Bw w w0:=by rw[<-ai];exact Ll _ _
 have K:=HS.out.aA ah;obtain⟨_,t0,t2,t3,t4,f4,t5⟩:=K.cells HT.out HN.out (xA hi);simp only[MT.aL]at t5;have Y:=Hd2 K ah;have aj:Hid (i<(W n).length):=Hd (by rw[(HS.out.was n hn).1];exact ax);clear K ah s0 s2 s3 s4 s5 ai HS;go_region;obtain⟨w1,ac⟩:∃w1:World,(w0.setCell ⟨c.U n,i,none⟩ (.bool true)).drew=w1:=⟨_,rfl⟩;rw[ac];have J:LSt c A og w1 lo (Bi W n ((W n).set i true)):=by rw[<-ac];exact(Y.out.1.mark hn).aA (H6 _)
 have am:C0 (fun b=>c.M b\/A b) w w1:=by rw[<-ac];exact((C0.aM Y.out.2).setCell (p:=⟨c.U n,i,none⟩) (fun _=>.inr (Y.out.1.bI.wrow n hn).1) _).drew
 have s0:w1.cell? ⟨c.ab,0,none⟩=some (.string c.s):=J.bI.aO.cell 0;have av:=Hd2 J am;have aw:Hid (Ed c (Bi W n ((W n).set i true)) lo (n+1) (n+(MT.node b (.slice ad l.length Z) 4 l).nt.aH)):=Hd (HW.out.mark _);obtain⟨_,_,b1,k0,_,_⟩:=N5 (AtL.sub c.aD _ J.bI.cQ HT.out)
 injection b1 with hv1 hv2 hv3
 subst hv1 hv3;have ar:=Hd HL;clear J am t0 t2 t3 t4 f4 t5 ac Y HL;go_wp2_with fail
 go_loopg[11] l.length (fun G kv wr=>∃(k:Nat) (V:List Bool) (X:Nat->List Bool),kv=.int .i64 k/\k<=l.length/\G=l.length-k/\LSt c A og wr V X/\(∀a,V.getD a false=true↔(lo.getD a false=true\/L6 (ntL (l.take k)) ((Q0 c.s).drop i) a))/\(∀id,¬(n+1<=id/\id<n+(MT.node b (.slice ad l.length Z) 4 l).nt.aH)->X id=Bi W n ((W n).set i true) id)/\Ed c X V (n+1) (n+(MT.node b (.slice ad l.length Z) 4 l).nt.aH)/\C0 (fun b=>c.M b\/A b) w wr)
 case atStart=>
  obtain⟨a1,a2⟩:=av.out;exact⟨0,lo,_,rfl,by omega,rfl,a1,fun a=>by simp[ntL,L6],fun _ _=>rfl,aw.out,a2⟩
 case round=>
  obtain⟨k,V,X,rfl,hk,rfl,B,a3,ae,D,a0⟩:=hrel;obtain⟨b5,b4,b0,_,c4,ck⟩:=N5 (AtL.sub c.aD _ B.bI.cQ HT.out)
  injection b0 with hv1 hv2 hv3
  subst hv1 hv3
  by_cases a9:k<l.length
  ·have e1:decide ((k:Int)<(l.length:Int))=true:=by simp;omega
   obtain⟨g,hg,cg⟩:=ck k a9;subst hg;have j0:(0:Int)<=(k:Int):=by omega
   have j1:(k:Int)<(l.length:Int):=by omega
   have ag:=HN.out;simp only[MT.Numd]at ag;obtain⟨an,af⟩:=Kr ag.2 a9;have ao:=au.out;have ak:=Hd (ar.out _ (zG a9) A og wr V X _ i an B (D.sub (by omega) (by omega)) (xA hi));have HH:=Hd5 B a3 ae D a0;have HP:=Hd2 af ao;clear B a3 ae D a0 ck ag an af ao;go_wp2_with fail;refine ak.out.mono ?_;rintro e w3 ⟨rfl,b2,b3,h1,h2,h3,h4,h5⟩;have HR:=Hd5 h1 h2 h3 h4 h5;clear h1 h2 h3 h4 h5 ak;go_wp2_with fail
   go_roundg (l.length- (k+1))
   case measure=>omega
   case rel=>
    obtain⟨a4,a5,a6,a7,a8⟩:=HH.out;obtain⟨h1,h2,h3,h4,h5⟩:=HR.out;obtain⟨p1,p2⟩:=HP.out;have az:l.take (k+1)=l.take k++ [l[k]]:=(yL a9).symm;refine⟨k+1,b2,b3,by go_num,by omega,rfl,h1,fun a=>?_,fun id ay=>?_,a7.grow h4 (fun a ha=>(h2 a).2 (.inl ha)) h3,a8.trans h5 (fun i _ e=>e)⟩
    ·rw[h2 a,a5 a,az,Fc,Zj,or_assoc];exact or_congr Iff.rfl (or_congr Iff.rfl ⟨fun h=>h.2,fun h=>⟨hi,h⟩⟩)
    ·rw[h3 id (by omega)];exact a6 id ay
  ·obtain rfl:k=l.length:=by omega
   have e1:decide ((l.length:Int)<(l.length:Int))=false:=by simp
   have HH:=Hd5 B a3 ae D a0;clear B a3 ae D a0 ck;go_wp2_with fail
   go_end0
   obtain⟨a4,a5,a6,a7,a8⟩:=HH.out;refine Hm HT.out HN.out HW.out aj.out a4 (fun a=>?_) a6 a7 a8;rw[a5 a,zO (zD _)];refine or_congr Iff.rfl ⟨fun h=>⟨hi,?_⟩,fun h=>?_⟩
   ·simp only[MT.nt];rw[Ep];exact h
   ·have h2:=h.2;simp only[MT.nt]at h2;rw[Ep]at h2;exact h2
theorem PJ(c:AlC)(b B X:Nat)(J:Nat->Bool)(hT:(MT.place b B X J)∈G5 c.aD)(ae:Yv (c.rs.extract B X) J)(aq:B<120)(hs:c.s.size<=20000)(A:Nat->Prop)(og:Nat)(w:World)(lo:List Bool)(wl:Nat->List Bool)(n i:Nat)(hN:(MT.place b B X J).Numd c.f n)(ah:LSt c A og w lo wl)(aw:Ed c wl lo n (n+(MT.place b B X J).nt.aH))(hi:i<c.s.size)(ar:(wl n).getD i false=false):
  Calls Tryz.prog 100 #[.pointer (some ⟨c.ab,0,none⟩),.pointer (some ⟨b,0,none⟩),.int .i64 i,.slice (some ⟨og,0,none⟩) 120 120] w (Sw c A og w lo wl n (n+(MT.place b B X J).nt.aH) (fun a=>PL c (MT.place b B X J) i a)):=by
 obtain⟨hn,s0,s2,s3,s4,_,s5⟩:=ah.cells hT hN (xA hi);have b4:c.N<=20001:=by unfold AlC.N;omega
 have b3:(c.s.size:Int)+1=(c.N:Int):=by unfold AlC.N;omega
 have az:i<c.N:=by unfold AlC.N;omega
 have n0:(0:Int)<=(n:Int):=by omega
 have n1:(n:Int)<(c.aH:Int):=by omega
 have i0:(0:Int)<=(i:Int):=by omega
 have i1:(i:Int)<(c.N:Int):=by omega
 have e0:decide ((c.s.size:Int)<=(i:Int))=false:=by simp;omega
 rw[ar]at s4;simp only[MT.aL]at s5;have HS:=Hd ah;have HT:=Hd hT;have HN:=Hd hN;have HW:=Hd aw;clear ah hT hN aw ar;go_enter Tryz.func100,Tryz.ntmps100;go_wp2_with fail;go_quiet(fail);go_upto_region 1 with fail;obtain⟨w0,ai⟩:∃w0:World,w.drewN nq=w0:=⟨_,rfl⟩;rw[ai];have ag:Bw w w0:=by rw[<-ai];exact Ll _ _
 have a6:=HS.out.aA ag;obtain⟨_,t0,t2,t3,t4,f4,t5⟩:=a6.cells HT.out HN.out (xA hi);simp only[MT.aL]at t5;have a7:=Hd2 a6 ag;have aj:Hid (i<(wl n).length):=Hd (by rw[(HS.out.was n hn).1];exact az);clear a6 ag s0 s2 s3 s4 s5 ai HS;go_region;obtain⟨Y,ad⟩:∃Y:World,(w0.setCell ⟨c.U n,i,none⟩ (.bool true)).drew=Y:=⟨_,rfl⟩;rw[ad];have D:LSt c A og Y lo (Bi wl n ((wl n).set i true)):=by rw[<-ad];exact(a7.out.1.mark hn).aA (H6 _)
 have ao:C0 (fun b=>c.M b\/A b) w Y:=by rw[<-ad];exact((C0.aM a7.out.2).setCell (p:=⟨c.U n,i,none⟩) (fun _=>.inr (a7.out.1.bI.wrow n hn).1) _).drew
 have s0:Y.cell? ⟨c.ab,0,none⟩=some (.string c.s):=D.bI.aO.cell 0;have a8:=Hd2 D ao;have ay:Hid (Ed c (Bi wl n ((wl n).set i true)) lo (n+1) (n+(MT.place b B X J).nt.aH)):=Hd (HW.out.mark _);have a0:=AtL.sub c.aD _ D.bI.cQ HT.out;simp only[MT.At]at a0;have k0:Y.cell? ⟨b,0,none⟩=some (.int .i64 0):=a0.cell 0;have k2:Y.cell? ⟨b,2,none⟩=some (.int .i64 B):=a0.cell 2;have k3:Y.cell? ⟨b,3,none⟩=some (.string (c.rs.extract B X)):=a0.cell 3;have zb:=a0.lt;have b1:=D.bI.aO.lt;obtain⟨ch,ac⟩:∃ch,c.s[i].toNat=ch:=⟨_,rfl⟩;have an:ch<256:=by rw[<-ac];exact c.s[i].toNat_lt
 have V:Hid (∀a,PL c (MT.place b B X J) i a↔(i+1=c.s.size/\J ch=true/\a=B)):=Hd (fun a=>by
  unfold PL;simp only[MT.nt];rw[Fp];have hd:(Q0 c.s).drop i=ch::(Q0 c.s).drop (i+1):=by rw[yA (by rw[I1];exact hi),Bp hi,ac]
  rw[hd];have a5:((Q0 c.s).drop (i+1)).length=c.s.size- (i+1):=by rw[List.length_drop,I1]
  constructor
  ·rintro⟨_,x,h1,h2,h3⟩
   injection h1 with h1 h4
   rw[h4]at a5;simp at a5;exact⟨by omega,by rw[h1];exact h2,h3⟩
  ·rintro⟨h1,h2,h3⟩;have ap:(Q0 c.s).drop (i+1)= []:=yN (by rw[a5];omega);exact⟨hi,ch,by rw[ap],h2,h3⟩)
 have b6:Hid ((MT.place b B X J).nt.aH=1):=Hd (by simp[MT.nt,NT.aH]);have af:Hid (∀(W:World) (ak:List Bool),LSt c A og W ak (Bi wl n ((wl n).set i true))->(∀a,ak.getD a false=true↔(lo.getD a false=true\/PL c (MT.place b B X J) i a))->C0 (fun b=>c.M b\/A b) w W->Sw c A og w lo wl n (n+(MT.place b B X J).nt.aH) (fun a=>PL c (MT.place b B X J) i a) (.returned (.tuple #[])) W):=Hd (fun W ak a1 a2 a3=>Hm HT.out HN.out HW.out aj.out a1 a2 (fun _ _=>rfl) (ay.out.grow (n:=n+1) (m:=n+1) (fun T hT id b5 x y=>by omega) (fun a ha=>(a2 a).2 (.inl ha)) (fun _ _=>rfl)) a3);have b2:(c.s[i].toNat:Int)=(ch:Int):=by rw[ac]
 have e2:(i:Int)<(c.s.size:Int):=by omega
 obtain⟨tx,au⟩:∃tx,c.rs.extract B X=tx:=⟨_,rfl⟩;rw[au]at k3 ae;have HA:=Hd ae;clear D ao t0 t2 t3 t4 f4 t5 ad a7 a0 au ac ae
 by_cases a4:i+1=c.s.size
 ·have e1:((i:Int)==(c.s.size:Int)-1)=true:=by simp;omega
  have av:IntKind.i64.wrap (ch:Int)=(ch:Int):=by rw[Go.IntWalk.i64_left];unfold wrap64;omega
  have b0:IntKind.i64.wrap ((c.s.size:Int)-1)=(c.s.size:Int)-1:=by rw[Go.IntWalk.i64_left];unfold wrap64;omega
  have S0:Y.drew.cell? ⟨c.ab,0,none⟩=some (.string c.s)/\Y.drew.cell? ⟨b,3,none⟩=some (.string tx):=⟨s0,k3⟩;have HC:=Hd (HA.out ch Y.drew an);go_upto_region 3 with fail
  go_cut[71] (fun bv wx=>bv=.bool (J ch)/\Bw Y wx)
  case first=>
   go_region_held3 (fun w'=>w'.cell? ⟨c.ab,0,none⟩=some (.string c.s)/\w'.cell? ⟨b,3,none⟩=some (.string tx))
    (first|with_reducible exact S0|with_reducible exact S1)
    (first|(go_at_call 102;refine HC.out.mono ?_;rintro e w2 ⟨rfl,am⟩;have K:=(H6 Y).trans (am.mono (zD _));have g0:=(K.cell (p:=⟨c.ab,0,none⟩) b1).trans s0;have g3:=(K.cell (p:=⟨b,3,none⟩) zb).trans k3;have S1:=And.intro g0 g3;have ax:=Hd K;clear am K))
   all_goals
    go_wp2_with fail;go_meet;exact⟨rfl,ax.out⟩
  case rest=>
   obtain⟨rfl,aa⟩:=hcut;have G:=a8.out.1.aA aa;have b7:wc.cell? ⟨b,2,none⟩=some (.int .i64 B):=(aa.cell (p:=⟨b,2,none⟩) zb).trans k2;have co:=P2 G.aO B (by rw[G.len];exact aq);have fo:=G.aO.frozen B;have p0:(0:Int)<=(B:Int):=by omega
   have p1:(B:Int)<120:=by omega
   have Z:=Hd2 G (a8.out.2.aA aa);clear G aa HC S0 k0 k2 k3 s0 HA av b0;generalize J ch=x at V⊢;cases x with
   |false=>
    go_wp2_with fail
    go_end0
    exact af.out _ lo Z.out.1 (fun a=>⟨fun h=>.inl h,fun h=>by rcases h with h|h;exact h;exact absurd ((V.out a).1 h).2.1 (by simp)⟩) Z.out.2
   |true=>
    go_wp2_with fail
    go_end0
    refine af.out _ (lo.set B true) (Z.out.1.out B) (fun a=>?_) (Z.out.2.setCell (p:=⟨og,B,none⟩) (fun _=>.inr Z.out.1.kM) _);rw[C7 _ _ _ _ (by rw[Z.out.1.len];exact aq),V.out a]
    by_cases a9:a=B
    ·rw[if_pos a9];exact⟨fun _=>.inr ⟨a4,by simp,a9⟩,fun _=>rfl⟩
    ·rw[if_neg a9];exact⟨fun h=>.inl h,fun h=>by rcases h with h|h;exact h;exact absurd h.2.2 a9⟩
 ·have e1:((i:Int)==(c.s.size:Int)-1)=false:=by simp;omega
  clear HA;go_wp2_with fail;go_quiet(fail);go_wp2_with fail
  go_end0
  exact af.out _ lo (a8.out.1.aA (Ll _ _)) (fun a=>⟨fun h=>.inl h,fun h=>by rcases h with h|h;exact h;exact absurd ((V.out a).1 h).1 a4⟩) (a8.out.2.drewN _)
mutual
theorem QJ(c:AlC)(U:c.s.size<=20000)(V:WfL c.rs (ntL c.aD))(a2:c.rs.size<=120)(a1:c.aH<=100000):∀T:MT,T∈G5 c.aD->Uw c T
 |.place b i e A,h=>by
  have hw:=Wn c.aD _ V h;simp only[MT.nt,NT.Wf]at hw;have hl:=hw.lt;intro W Z w Y K n j X f B hj
  by_cases D:c.s.size<=j\/(K n).getD j false=true
  ·exact VC c _ h W Z w Y K n j X f B hj U D
  ·rw[not_or]at D;exact PJ c b i e A h (hw.fM a2) (by omega) U W Z w Y K n j X f B (by omega) (by simpa using D.2)
 |.node b v k l,h=>by
  have hw:=Wn c.aD _ V h;have hp:=Mk c.aD _ h;have hl:=Gc l;have hE:=Jt c U V a2 a1 l (fun y hy=>Uj c.aD _ h b v k l rfl y hy);have G:=TC c U V a2 a1 l (fun y hy=>Uj c.aD _ h b v k l rfl y hy);simp only[MT.nt,NT.Wf,NT.aH]at hw hp;have a0:l.length<=100000:=by unfold AlC.aH at a1;omega
  intro W Z w Y K n j X f B hj
  by_cases D:c.s.size<=j\/(K n).getD j false=true
  ·exact VC c _ h W Z w Y K n j X f B hj U D
  ·rw[not_or]at D;have J:(K n).getD j false=false:=by simpa using D.2
   have M:j<c.s.size:=by omega
   rcases hw.1 with e|e|⟨e,e2⟩|e
   ·subst e;exact QS c b v l h hE G a0 U W Z w Y K n j X f B M J
   ·subst e;exact DN c b v l h G a0 U W Z w Y K n j X f B M J
   ·subst e;rw[IQ]at e2;obtain⟨y,rfl⟩:=List.length_eq_one_iff.1 e2;exact CN c b v y h (hE y (by simp)) (G y (by simp)) U W Z w Y K n j X f B M J
   ·subst e;exact EN c b v l h G a0 U W Z w Y K n j X f B M J
theorem TC(c:AlC)(G:c.s.size<=20000)(D:WfL c.rs (ntL c.aD))(B:c.rs.size<=120)(f:c.aH<=100000):∀(l:List MT),(∀y∈l,y∈G5 c.aD)->∀y∈l,Uw c y
 | [],_,y,h=>by simp at h
 |x::l,hl,y,h=>by
  rw[zU]at h;rcases h with rfl|h
  ·exact QJ c G D B f y (hl y (by simp))
  ·exact TC c G D B f l (fun z J=>hl z (by simp[J])) y h
end
end Go.Proofs.YtcckhngbdoiikabGreat
