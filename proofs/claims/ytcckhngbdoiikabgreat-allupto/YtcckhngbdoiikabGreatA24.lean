import Derived.Test.YtcckhngbdoiikabGreatA23
set_option maxRecDepth 20000
set_option maxHeartbeats 12800000
set_option linter.unusedVariables false
namespace Go.Proofs.YtcckhngbdoiikabGreat
open Go.RowKit Go.Deep
mutual
def MT.subs:MT->List MT
 |.place b i e A=>[.place b i e A]
 |.node b v k l=>.node b v k l::G5 l
def G5:List MT->List MT
 | []=>[]
 |y::l=>y.subs++G5 l
end
theorem MT.sub_self(T:MT):T∈T.subs:=by cases T <;>simp[MT.subs]
theorem JE{l:List MT}{y T:MT}(f:y∈l)(h:T∈y.subs):T∈G5 l:=by
 induction l with
 |nil=>simp at f
 |cons x l ih=>
  rw[zU]at f;simp only[G5,zQ];rcases f with rfl|f
  ·exact .inl h
  ·exact .inr (ih f)
mutual
theorem MT.iU:∀(U T:MT),T∈U.subs->∀b v k l,T=.node b v k l->∀y∈l,y∈U.subs
 |.place b i e A,T,h,b',v,k,l,hT,y,hy=>by
  simp only[MT.subs,zJ]at h;rw[h]at hT;cases hT
 |.node b0 v0 k0 l0,T,h,b',v,k,l,hT,y,hy=>by
  simp only[MT.subs,zU]at h⊢;rcases h with h|h
  ·rw[h]at hT
   injection hT with e1 e2 e3 e4
   subst e4;exact .inr (JE hy (MT.sub_self y))
  ·exact .inr (Uj l0 T h b' v k l hT y hy)
theorem Uj:∀(L:List MT) (T:MT),T∈G5 L->∀b v k l,T=.node b v k l->∀y∈l,y∈G5 L
 | [],T,h,_,_,_,_,_,_,_=>by simp[G5]at h
 |x::L,T,h,b',v,k,l,hT,y,hy=>by
  simp only[G5,zQ]at h⊢;rcases h with h|h
  ·exact .inl (MT.iU x T h b' v k l hT y hy)
  ·exact .inr (Uj L T h b' v k l hT y hy)
end
mutual
theorem MT.At.sub{w:World}{s:ByteArray}{f:Nat->Int}:∀(U T:MT),U.At w s f->T∈U.subs->T.At w s f
 |.place b i e A,T,h,B=>by
  simp only[MT.subs,zJ]at B;rw[B];exact h
 |.node b v k l,T,h,B=>by
  simp only[MT.subs,zU]at B;rcases B with B|B
  ·rw[B];exact h
  ·simp only[MT.At]at h;exact AtL.sub l T h.2.2 B
theorem AtL.sub{w:World}{s:ByteArray}{f:Nat->Int}:∀(l:List MT) (T:MT),AtL w s f l->T∈G5 l->T.At w s f
 | [],T,h,B=>by simp[G5]at B
 |y::l,T,h,B=>by
  simp only[AtL]at h;simp only[G5,zQ]at B;rcases B with B|B
  ·exact MT.At.sub y T h.1 B
  ·exact AtL.sub l T h.2 B
end
mutual
theorem MT.Numd.sub{f:Nat->Int}:∀(U T:MT) (n:Nat),U.Numd f n->T∈U.subs->∃m,n<=m/\m+T.nt.aH<=n+U.nt.aH/\T.Numd f m
 |.place b i e A,T,n,h,B=>by
  simp only[MT.subs,zJ]at B;subst B;exact⟨n,zD _,zD _,h⟩
 |.node b v k l,T,n,h,B=>by
  simp only[MT.subs,zU]at B;rcases B with B|B
  ·subst B;exact⟨n,zD _,zD _,h⟩
  ·simp only[MT.Numd]at h;obtain⟨m,G,J,D⟩:=N6.sub l T (n+1) h.2 B;simp only[MT.nt,NT.aH];exact⟨m,by omega,by omega,D⟩
theorem N6.sub{f:Nat->Int}:∀(l:List MT) (T:MT) (n:Nat),N6 f l n->T∈G5 l->∃m,n<=m/\m+T.nt.aH<=n+J1 (ntL l)/\T.Numd f m
 | [],T,n,h,B=>by simp[G5]at B
 |y::l,T,n,h,B=>by
  simp only[N6]at h;simp only[G5,zQ]at B;simp only[ntL,J1];rcases B with B|B
  ·obtain⟨m,G,J,D⟩:=MT.Numd.sub y T n h.1 B;exact⟨m,G,by omega,D⟩
  ·obtain⟨m,G,J,D⟩:=N6.sub l T _ h.2 B;exact⟨m,by omega,by omega,D⟩
end
theorem MT.Numd.aL{f:Nat->Int}{T:MT}{n:Nat}(h:T.Numd f n):f T.aL=(n:Int):=by
 cases T with
 |place=>simpa[MT.Numd,MT.aL]using h
 |node=>simp only[MT.Numd]at h;exact h.1
mutual
theorem MT.Numd.bX{f:Nat->Int}:∀(U:MT) (n:Nat),U.Numd f n->∀T G,T∈U.subs->G∈U.subs->f T.aL=f G.aL->T=G
 |.place b i e A,n,h,T,G,D,B,_=>by
  simp only[MT.subs,zJ]at D B;rw[D,B]
 |.node b v k l,n,h,T,G,D,B,he=>by
  have K:=h;simp only[MT.Numd]at h;simp only[MT.subs,zU]at D B;have J:∀S,S∈G5 l->f S.aL≠f (MT.node b v k l).aL:=fun S V e=>by
   obtain⟨m,W,X,M⟩:=N6.sub l S (n+1) h.2 V;rw[M.aL,K.aL]at e;omega
  rcases D with D|D
  ·rcases B with B|B
   ·rw[D,B]
   ·exact absurd (by rw[<-he,D]) (J G B)
  ·rcases B with B|B
   ·exact absurd (by rw[he,B]) (J T D)
   ·exact N6.bX l (n+1) h.2 T G D B he
theorem N6.bX{f:Nat->Int}:∀(l:List MT) (n:Nat),N6 f l n->∀T G,T∈G5 l->G∈G5 l->f T.aL=f G.aL->T=G
 | [],n,h,T,G,D,_,_=>by simp[G5]at D
 |y::l,n,h,T,G,D,B,he=>by
  simp only[N6]at h;simp only[G5,zQ]at D B;have J:∀S K,S∈y.subs->K∈G5 l->f S.aL≠f K.aL:=fun S K W M e=>by
   obtain⟨m,Z,h2,V⟩:=MT.Numd.sub y S n h.1 W;obtain⟨m',X,Y,U⟩:=N6.sub l K _ h.2 M;have:=S.nt.parts_pos;rw[V.aL,U.aL]at e;omega
  rcases D with D|D
  ·rcases B with B|B
   ·exact MT.Numd.bX y n h.1 T G D B he
   ·exact absurd he (J T G D B)
  ·rcases B with B|B
   ·exact absurd he.symm (J G T B D)
   ·exact N6.bX l _ h.2 T G D B he
end
structure AlC where
 ab:Nat
 bg:Nat
 fN:Nat
 wg:Nat
 lG:Nat
 R:Nat->Nat
 U:Nat->Nat
 s:ByteArray
 rs:ByteArray
 f:Nat->Int
 aD:List MT
def AlC.N(c:AlC):Nat:=c.s.size+1
def AlC.aH(c:AlC):Nat:=J1 (ntL c.aD)
def AlC.fG(c:AlC)(n:Nat)(w:List Nat):Prop:=∃T∈G5 c.aD,c.f T.aL=(n:Int)/\T.nt.aW w
theorem AlC.dM{c:AlC}{p:Nat}:p<c.N↔p<=c.s.size:=by unfold AlC.N;omega
theorem Jc(c:AlC)(P:List Nat->Prop)(p:Nat):(Oa (Q0 c.s) P p).length=c.N:=by rw[As,I1];rfl
def AlC.M(c:AlC)(b:Nat):Prop:=∃n,n<c.aH/\b=c.R n
def Aa4(c:AlC)(A:Nat->Prop)(w:World)(n:Nat):Prop:=∃cs:Array Value,Blk w (c.R n) cs 143/\cs.size=c.N/\∀p,p<=c.s.size->cs[p]?=some (.slice none 0 0)\/∃b,cs[p]?=some (.slice (some ⟨b,0,none⟩) c.N c.N)/\¬A b/\E6 w (.slice (some ⟨b,0,none⟩) c.N c.N) (Oa (Q0 c.s) (c.fG n) p)
structure G4(c:AlC)(A:Nat->Prop)(w:World):Prop where
 aO:Blk w c.ab #[.string c.s,.slice (some ⟨c.bg,0,none⟩) c.aH c.fN,.slice (some ⟨c.wg,0,none⟩) c.aH c.lG] 206
 jH:∃cs:Array Value,Blk w c.bg cs 144/\∀n,n<c.aH->cs[n]?=some (.slice (some ⟨c.R n,0,none⟩) c.N c.N)
 was:∃cs:Array Value,Blk w c.wg cs 143/\∀n,n<c.aH->cs[n]?=some (.slice (some ⟨c.U n,0,none⟩) c.N c.N)
 aN:∀n,n<c.aH->Aa4 c A w n
 wrow:∀n,n<c.aH->A (c.U n)/\∃l:List Bool,l.length=c.N/\Blk w (c.U n) (Z0 l) 4
 inj:∀m n,m<c.aH->n<c.aH->c.R m=c.R n->m=n
 fC:∀m n,m<c.aH->n<c.aH->c.U m=c.U n->m=n
 jX:∀n,n<c.aH->c.R n≠c.wg
 cQ:AtL w c.rs c.f c.aD
 num:N6 c.f c.aD 0
theorem G4.fG{c:AlC}{A:Nat->Prop}{w:World}(h:G4 c A w){T:MT}(B:T∈G5 c.aD){n:Nat}(D:c.f T.aL=(n:Int)):c.fG n=T.nt.aW:=by
 funext u
 refine propext ⟨?_,fun U=>⟨T,B,D,U⟩⟩;rintro⟨G,J,K,M⟩;rw[N6.bX c.aD 0 h.num T G B J (by rw[D,K])];exact M
theorem G4.id{c:AlC}{A:Nat->Prop}{w:World}(h:G4 c A w){T:MT}(D:T∈G5 c.aD):∃n,n<c.aH/\c.f T.aL=(n:Int):=by
 obtain⟨m,G,J,B⟩:=N6.sub c.aD T 0 h.num D;have:=T.nt.parts_pos;exact⟨m,by unfold AlC.aH;omega,B.aL⟩
theorem G4.jF{c:AlC}{A B:Nat->Prop}{w:World}(h:G4 c A w)(X:∀b,B b->A b)(W:∀n,n<c.aH->B (c.U n)):G4 c B w:=by
 refine⟨h.aO,h.jH,h.was,fun n f=>?_,fun n f=>⟨W n f,(h.wrow n f).2⟩,h.inj,h.fC,h.jX,h.cQ,h.num⟩;obtain⟨cs,K,M,V⟩:=h.aN n f;refine⟨cs,K,M,fun p Y=>?_⟩;rcases V p Y with e|⟨b,D,G,J⟩
 ·exact .inl e
 ·exact .inr ⟨b,D,fun e=>G (X b e),J⟩
theorem G4.type{c:AlC}{A:Nat->Prop}{w:World}(h:G4 c A w){b:Nat}(B:c.M b):∃cs,Blk w b cs 143:=by
 obtain⟨n,D,rfl⟩:=B;obtain⟨cs,f,_⟩:=h.aN n D;exact⟨cs,f⟩
theorem G4.not{c:AlC}{A:Nat->Prop}{w:World}(h:G4 c A w){b:Nat}{cs:Array Value}{t:TypeId}(D:Blk w b cs t)(G:t≠143):¬c.M b:=fun e=>by
 obtain⟨f,B⟩:=h.type e;exact G (D.bX B).2
theorem G4.brow{c:AlC}{A:Nat->Prop}{w w':World}(h:G4 c A w)(k:C0 c.M w w'){v:Value}{l:List Bool}(f:E6 w v l):E6 w' v l:=
 f.kept k (fun b D e=>by
  obtain⟨cs,B⟩:=h.type e;exact L0 f B (by decide) D)
mutual
theorem MT.At.type{w:World}{s:ByteArray}{f:Nat->Int}{b:Nat}{cs:Array Value}{t:TypeId}(D:Blk w b cs t)(G:t≠142)(J:t≠89):∀(T:MT),T.At w s f->¬T.has b
 |.place b' i e A,h,B=>by
  simp only[MT.At]at h;simp only[MT.has]at B;subst B;exact G (D.bX h).2
 |.node b' v k l,h,B=>by
  simp only[MT.At]at h;simp only[MT.has]at B;rcases B with B|B|B
  ·subst B;exact G (D.bX h.1).2
  ·exact L0 h.2.1 D J B
  ·exact AtL.type D G J l h.2.2 B
theorem AtL.type{w:World}{s:ByteArray}{f:Nat->Int}{b:Nat}{cs:Array Value}{t:TypeId}(J:Blk w b cs t)(D:t≠142)(G:t≠89):∀(l:List MT),AtL w s f l->¬Xd l b
 | [],h,B=>by simp[Xd]at B
 |y::l,h,B=>by
  simp only[AtL]at h;simp only[Xd]at B;rcases B with B|B
  ·exact MT.At.type J D G y h.1 B
  ·exact AtL.type J D G l h.2 B
end
theorem G4.aA{c:AlC}{A:Nat->Prop}{w w':World}(h:G4 c A w)(D:Bw w w'):G4 c A w':=by
 refine⟨h.aO.aA D,?_,?_,fun n G=>?_,fun n G=>?_,h.inj,h.fC,h.jX,AtL.kept (ex:=fun _=>False) (C0.aM D) _ h.cQ (fun _ _ e=>e),h.num⟩
 ·obtain⟨cs,f,B⟩:=h.jH;exact⟨cs,f.aA D,B⟩
 ·obtain⟨cs,f,B⟩:=h.was;exact⟨cs,f.aA D,B⟩
 ·obtain⟨cs,f,B,V⟩:=h.aN n G;refine⟨cs,f.aA D,B,fun p W=>?_⟩;rcases V p W with e|⟨b,J,K,M⟩
  ·exact .inl e
  ·exact .inr ⟨b,J,K,M.aA D⟩
 ·obtain⟨U,l,f,B⟩:=h.wrow n G;exact⟨U,l,f,B.aA D⟩
theorem G4.dD{c:AlC}{A:Nat->Prop}{w w':World}{g:Nat}{J:Array Value}(h:G4 c A w)(k:C0 (fun b=>b=g) w w')(hg:A g)(M:∀n,n<c.aH->c.U n≠g)(D:Blk w g J 4):G4 c A w':=by
 refine⟨h.aO.kept k (fun e=>?_),?_,?_,fun n G=>?_,fun n G=>?_,h.inj,h.fC,h.jX,AtL.kept k _ h.cQ (fun x hx e=>AtL.type D (by decide) (by decide) _ h.cQ (e ▸ hx)),h.num⟩
 ·have:=(h.aO.bX (e ▸ D)).2;revert this;decide
 ·obtain⟨cs,f,B⟩:=h.jH;exact⟨cs,f.kept k (fun e=>by have:=(f.bX (e ▸ D)).2;revert this;decide),B⟩
 ·obtain⟨cs,f,B⟩:=h.was;exact⟨cs,f.kept k (fun e=>by have:=(f.bX (e ▸ D)).2;revert this;decide),B⟩
 ·obtain⟨cs,f,B,h3⟩:=h.aN n G;refine⟨cs,f.kept k (fun e=>by have:=(f.bX (e ▸ D)).2;revert this;decide),B,fun p hp=>?_⟩;rcases h3 p hp with e|⟨b,X,V,Y⟩
  ·exact .inl e
  ·exact .inr ⟨b,X,V,Y.kept k (fun W K e=>by cases(zE K:b=W);exact V (e ▸ hg))⟩
 ·obtain⟨Z,l,f,B⟩:=h.wrow n G;exact⟨Z,l,f,B.kept k (M n G)⟩
theorem G4.lR{c:AlC}{A:Nat->Prop}{w:World}(h:G4 c A w){n p:Nat}(W:n<c.aH):G4 c A (w.setCell ⟨c.U n,p,none⟩ (.bool true)):=by
 have k:C0 (fun b=>b=c.U n) w (w.setCell ⟨c.U n,p,none⟩ (.bool true)):=(C0.refl (fun b=>b=c.U n) _).setCell (p:=⟨c.U n,p,none⟩) (fun _=>rfl) _;obtain⟨V,l0,K,D⟩:=h.wrow n W;refine⟨h.aO.kept k (fun e=>?_),?_,?_,fun m G=>?_,fun m G=>?_,h.inj,h.fC,h.jX,AtL.kept k _ h.cQ (fun x hx e=>AtL.type D (by decide) (by decide) _ h.cQ (e ▸ hx)),h.num⟩
 ·have:=(h.aO.bX (e ▸ D)).2;revert this;decide
 ·obtain⟨cs,f,B⟩:=h.jH;exact⟨cs,f.kept k (fun e=>by have:=(f.bX (e ▸ D)).2;revert this;decide),B⟩
 ·obtain⟨cs,f,B⟩:=h.was;exact⟨cs,f.kept k (fun e=>by have:=(f.bX (e ▸ D)).2;revert this;decide),B⟩
 ·obtain⟨cs,f,B,h3⟩:=h.aN m G;refine⟨cs,f.kept k (fun e=>by have:=(f.bX (e ▸ D)).2;revert this;decide),B,fun q hq=>?_⟩;rcases h3 q hq with e|⟨b,Z,M,e3⟩
  ·exact .inl e
  ·exact .inr ⟨b,Z,M,e3.kept k (fun X J e=>by cases(zE J:b=X);exact M (e ▸ V))⟩
 ·by_cases e:m=n
  ·subst e;refine⟨V,l0.set p true,by simp[K],?_⟩;rw[<-D4];exact D.set p _
  ·obtain⟨h0,l,f,B⟩:=h.wrow m G;exact⟨h0,l,f,B.kept k (fun Y=>e (h.fC m n G W Y))⟩
theorem G4.bA{c:AlC}{A:Nat->Prop}{w:World}(h:G4 c A w){n p b:Nat}(hn:n<c.aH)(hp:p<=c.s.size)(hA:¬A b)(hr:E6 w (.slice (some ⟨b,0,none⟩) c.N c.N) (Oa (Q0 c.s) (c.fG n) p)):
  G4 c A (w.setCell ⟨c.R n,p,none⟩ (.slice (some ⟨b,0,none⟩) c.N c.N))/\C0 c.M w (w.setCell ⟨c.R n,p,none⟩ (.slice (some ⟨b,0,none⟩) c.N c.N)):=by
 have D:C0 c.M w (w.setCell ⟨c.R n,p,none⟩ (.slice (some ⟨b,0,none⟩) c.N c.N)):=(C0.refl _ _).setCell (p:=⟨c.R n,p,none⟩) (fun _=>⟨n,hn,rfl⟩) _;refine⟨⟨h.aO.kept D (h.not h.aO (by decide)),?_,?_,fun m J=>?_,fun m J=>?_,h.inj,h.fC,h.jX,AtL.kept D _ h.cQ (fun x hx e=>?_),h.num⟩,D⟩
 ·obtain⟨cs,f,B⟩:=h.jH;exact⟨cs,f.kept D (h.not f (by decide)),B⟩
 ·obtain⟨cs,f,B⟩:=h.was;exact⟨cs,f.kept D (fun e=>by obtain⟨m,J,e⟩:=e;exact h.jX m J e.symm),B⟩
 ·obtain⟨cs,f,B,Z⟩:=h.aN m J
  by_cases e:m=n
  ·subst e;refine⟨_,f.set p _,by simp[B],fun q Y=>?_⟩
   by_cases e:p=q
   ·subst e;exact .inr ⟨b,by rw[xD,if_pos rfl,if_pos (by rw[B];exact AlC.dM.2 hp)],hA,h.brow D hr⟩
   ·rcases Z q Y with G|⟨K,G,V,W⟩
    ·exact .inl (by rw[xD,if_neg e];exact G)
    ·exact .inr ⟨K,by rw[xD,if_neg e];exact G,V,h.brow D W⟩
  ·have X:c.R m≠c.R n:=fun U=>e (h.inj m n J hn U)
   refine⟨cs,f.aG (p:=⟨c.R n,p,none⟩) (fun U=>X U) _,B,fun q Y=>?_⟩;rcases Z q Y with G|⟨K,G,V,W⟩
   ·exact .inl G
   ·exact .inr ⟨K,G,V,h.brow D W⟩
 ·obtain⟨h0,l,f,B⟩:=h.wrow m J;exact⟨h0,l,f,B.kept D (h.not B (by decide))⟩
 ·obtain⟨cs,f⟩:=h.type e;exact AtL.type f (by decide) (by decide) _ h.cQ hx
theorem G4.fresh{c:AlC}{A:Nat->Prop}{w:World}(h:G4 c A w):G4 c (fun b=>A b\/b=w.heap.size) w:=by
 refine⟨h.aO,h.jH,h.was,fun n f=>?_,fun n f=>⟨.inl (h.wrow n f).1,(h.wrow n f).2⟩,h.inj,h.fC,h.jX,h.cQ,h.num⟩;obtain⟨cs,J,K,M⟩:=h.aN n f;refine⟨cs,J,K,fun p U=>?_⟩;rcases M p U with e|⟨b,D,G,B⟩
 ·exact .inl e
 ·refine .inr ⟨b,D,fun e=>?_,B⟩;rcases e with e|e
  ·exact G e
  ·have:=Q1 B b rfl;omega
def YE(c:AlC)(A:Nat->Prop)(w:World)(l:List Bool)(e:Ending)(w':World):Prop:=
 ∃b,e=.returned (.slice (some ⟨b,0,none⟩) c.N c.N)/\¬A b/\E6 w' (.slice (some ⟨b,0,none⟩) c.N c.N) l/\G4 c A w'/\C0 c.M w w'
def Ao(c:AlC)(T:MT):Prop:=∀(A:Nat->Prop) (w:World) (p:Nat),(∀b,A b->b<w.heap.size)->G4 c A w->p<=c.s.size->
 Calls Tryz.prog 104 #[.pointer (some ⟨c.ab,0,none⟩),.pointer (some ⟨T.aL,0,none⟩),.int .i64 p] w (YE c A w (Oa (Q0 c.s) T.nt.aW p))
def Qw(c:AlC)(T:MT):Prop:=∀(A:Nat->Prop) (w:World) (p:Nat),(∀b,A b->b<w.heap.size)->G4 c A w->p<=c.s.size->
 Calls Tryz.prog 129 #[.pointer (some ⟨c.ab,0,none⟩),.pointer (some ⟨T.aL,0,none⟩),.int .i64 p] w (YE c A w (Oa (Q0 c.s) T.nt.aW p))
theorem MT.At.id{w:World}{s:ByteArray}{f:Nat->Int}{T:MT}(h:T.At w s f):w.cell? ⟨T.aL,1,none⟩=some (.int .i64 (f T.aL)):=by
 cases T with
 |place b i e A=>simp only[MT.At]at h;exact h.cell 1
 |node b v k l=>simp only[MT.At]at h;exact h.1.cell 1
theorem Am(c:AlC)(T:MT)(hT:T∈G5 c.aD)(HF:Qw c T):Ao c T:=by
 intro A w p hA X hp;have aj:p<c.N:=AlC.dM.2 hp;obtain⟨n,hn,a1⟩:=X.id hT;have J:=X.fG hT a1;obtain⟨ks,f,V⟩:=X.jH;obtain⟨cs,D,a4,Y⟩:=X.aN n hn;have a0:=AtL.sub c.aD T X.cQ hT;have s3:w.cell? ⟨c.ab,1,none⟩=some (.slice (some ⟨c.bg,0,none⟩) c.aH c.fN):=X.aO.cell 1;have s4:w.cell? ⟨c.bg,n,none⟩=some (.slice (some ⟨c.R n,0,none⟩) c.N c.N):=by rw[f.cell];exact V n hn
 have s5:w.cell? ⟨c.R n,p,none⟩=cs[p]?:=D.cell p;have s6:w.cell? ⟨T.aL,1,none⟩=some (.int .i64 n):=by rw[<-a1];exact a0.id
 have n0:(0:Int)<=(n:Int):=by omega
 have n1:(n:Int)<(c.aH:Int):=by omega
 have p0:(0:Int)<=(p:Int):=by omega
 have p1:(p:Int)<(c.N:Int):=by omega
 have hq:=fun(W:World) (ad:Option Addr) (l c:Nat)=>Lib.run_eql_slice_nil W 143 4 ad l c 0 0 Tryz.underlying143
 rw[<-J];rcases Y p hp with e|⟨b,e,a8,a7⟩
 ·rw[e]at s5;have ak:=fun W=>hq W none 0 0
  clear hq;have a5:Hid (∀W,Bw w W->Calls Tryz.prog 129 #[.pointer (some ⟨c.ab,0,none⟩),.pointer (some ⟨T.aL,0,none⟩),.int .i64 p] W (YE c A W (Oa (Q0 c.s) (c.fG n) p))):=Hd (fun W hb=>by rw[J];exact HF A W p (fun b ai=>by have:=hA b ai;have:=hb.size;omega) (X.aA hb) hp);have Z:Hid (∀W',G4 c A W'->W'.cell? ⟨c.ab,1,none⟩=some (.slice (some ⟨c.bg,0,none⟩) c.aH c.fN)/\W'.cell? ⟨c.bg,n,none⟩=some (.slice (some ⟨c.R n,0,none⟩) c.N c.N)/\W'.cell? ⟨T.aL,1,none⟩=some (.int .i64 n)/\(∃v9,W'.cell? ⟨c.R n,p,none⟩=some v9)/\W'.frozen? ⟨c.R n,p,none⟩=false):=Hd (fun W' h9=>by
   obtain⟨ks,f,V⟩:=h9.jH;obtain⟨cs,D,a4,Y⟩:=h9.aN n hn;refine⟨h9.aO.cell 1,by rw[f.cell];exact V n hn,by rw[<-a1];exact(AtL.sub c.aD T h9.cQ hT).id,?_,D.frozen p⟩;rw[D.cell p];rcases Y p hp with e|⟨b,e,_⟩
   ·exact⟨_,e⟩
   ·exact⟨_,e⟩)
  have a9:c.R n≠c.ab:=fun e9=>by have:=(X.aO.bX (e9 ▸ D)).2;revert this;decide
  have aa:c.R n≠c.bg:=fun e9=>by have:=(f.bX (e9 ▸ D)).2;revert this;decide
  have a2:c.R n≠T.aL:=fun e9=>MT.At.type D (by decide) (by decide) T a0 (e9 ▸ MT.hJ T)
  clear X f V D a4 Y e HF a0;go_enter Tryz.func104,Tryz.ntmps104;go_wp2_with fail;go_quiet(fail);go_upto_region 2 with fail;obtain⟨w0,K⟩:∃w0:World,w.drewN nq=w0:=⟨_,rfl⟩;rw[K];have a3:Bw w w0.drew:=by rw[<-K];exact⟨rfl,rfl,rfl,zD _,fun _ _=>rfl⟩
  have t3:w0.cell? ⟨c.ab,1,none⟩=some (.slice (some ⟨c.bg,0,none⟩) c.aH c.fN):=by rw[<-K];exact s3
  have t4:w0.cell? ⟨c.bg,n,none⟩=some (.slice (some ⟨c.R n,0,none⟩) c.N c.N):=by rw[<-K];exact s4
  have t6:w0.cell? ⟨T.aL,1,none⟩=some (.int .i64 n):=by rw[<-K];exact s6
  have S0:w0.drew.cell? ⟨c.ab,1,none⟩=some (.slice (some ⟨c.bg,0,none⟩) c.aH c.fN)/\w0.drew.cell? ⟨c.bg,n,none⟩=some (.slice (some ⟨c.R n,0,none⟩) c.N c.N)/\w0.drew.cell? ⟨T.aL,1,none⟩=some (.int .i64 n):=⟨t3,t4,t6⟩;have M:=Hd (a5.out w0.drew a3);have ag:=Hd a3;obtain⟨tr,am⟩:∃tr,T.aL=tr:=⟨_,rfl⟩;rw[am]at M S0 t6 a2 Z⊢;clear K a3 s3 s4 s5 s6 a5
  go_region_held3 (fun w'=>w'.cell? ⟨c.ab,1,none⟩=some (.slice (some ⟨c.bg,0,none⟩) c.aH c.fN)/\w'.cell? ⟨c.bg,n,none⟩=some (.slice (some ⟨c.R n,0,none⟩) c.N c.N)/\w'.cell? ⟨tr,1,none⟩=some (.int .i64 n))
   (first|with_reducible exact S0|with_reducible exact S1|exact⟨by simp[g3,a9,World.cell?_setCell_far],by simp[g4,aa,World.cell?_setCell_far],by simp[g7,a2,World.cell?_setCell_far]⟩)
   (first|(go_at_call 129;refine M.out.mono ?_;rintro e w1 ⟨b1,rfl,B,h,G,f⟩;obtain⟨g3,g4,g7,⟨v9,g5⟩,g6⟩:=Z.out w1 G;have S1:=And.intro g3 (And.intro g4 g7);have a6:=Hd4 B h G f;clear B h G f))
  obtain⟨B,h,G,f⟩:=a6.out;have hf:=G.bA hn hp B h;have U:YE c A w (Oa (Q0 c.s) (c.fG n) p) (.returned (.slice (some ⟨b1,0,none⟩) c.N c.N)) (w1.setCell ⟨c.R n,p,none⟩ (.slice (some ⟨b1,0,none⟩) c.N c.N)):=⟨b1,rfl,B,G.brow hf.2 h,hf.1,((C0.aM ag.out).trans f (fun i _ e=>e)).trans hf.2 (fun i _ e=>e)⟩;obtain⟨u3,u4,u7,_,_⟩:=Z.out _ hf.1;obtain⟨cz,ae,af,an⟩:=G.aN n hn;have u5:(w1.setCell ⟨c.R n,p,none⟩ (.slice (some ⟨b1,0,none⟩) c.N c.N)).cell? ⟨c.R n,p,none⟩=some (.slice (some ⟨b1,0,none⟩) c.N c.N):=by rw[(ae.set p _).cell p,xD,if_pos rfl,if_pos (by rw[af];exact aj)]
  obtain⟨w9,ac⟩:∃w9:World,(w1.setCell ⟨c.R n,p,none⟩ (.slice (some ⟨b1,0,none⟩) c.N c.N))=w9:=⟨_,rfl⟩;rw[ac]at U u3 u4 u7 u5⊢;have ah:=Hd U;clear U ae af an hf B h G f a6 g3 g4 g5 g6 g7 S1 S0 t3 t4 t6 ac Z M;go_wp2_with fail;go_quiet(fail);go_wp2_with fail;go_ret;obtain⟨b,h1,h2,h3,h4,h5⟩:=ah.out
  injection h1 with h1
  exact⟨b,by rw[<-h1];rfl,h2,h3.aA ⟨rfl,rfl,rfl,zD _,fun _ _=>rfl⟩,h4.aA ⟨rfl,rfl,rfl,zD _,fun _ _=>rfl⟩,h5.drewN _⟩
 ·rw[e]at s5;have HH:Hid (∀W,Bw w W->YE c A w (Oa (Q0 c.s) (c.fG n) p) (.returned (.slice (some ⟨b,0,none⟩) c.N c.N)) W):=Hd fun W hb=>⟨b,rfl,a8,a7.aA hb,X.aA hb,C0.aM hb⟩
  clear X f V D a4 Y e HF a7 a8 a0 a1 J;have ak:=fun W=>hq W (some ⟨b,0,none⟩) c.N c.N
  clear hq;go_enter Tryz.func104,Tryz.ntmps104;go_wp2_with fail;go_quiet(fail);go_wp2_with fail;go_quiet(fail);go_wp2_with fail;go_ret;exact HH.out _ ⟨rfl,rfl,rfl,zD _,fun _ _=>rfl⟩
def Bo(L:List Nat)(P:List Nat->Prop)(f:List Bool)(k q:Nat):Prop:=∃m,m<k/\f.getD m false=true/\Q8 L P m q
theorem Bo.skip{L:List Nat}{P:List Nat->Prop}{B:List Bool}{k q:Nat}(h:B.getD k false=false):Bo L P B (k+1) q↔Bo L P B k q:=by
 constructor
 ·rintro⟨m,G,f,D⟩;refine⟨m,?_,f,D⟩;rcases yE m k with e|e
  ·exact e
  ·have:m=k:=by omega
   rw[this,h]at f;cases f
 ·rintro⟨m,G,f,D⟩;exact⟨m,by omega,f,D⟩
theorem Bo.take{L:List Nat}{P:List Nat->Prop}{B:List Bool}{k q:Nat}(h:B.getD k false=true):Bo L P B (k+1) q↔(Bo L P B k q\/Q8 L P k q):=by
 constructor
 ·rintro⟨m,G,D,f⟩;rcases yE m k with e|e
  ·exact .inl ⟨m,e,D,f⟩
  ·have:m=k:=by omega
   rw[this]at f;exact .inr f
 ·rintro(⟨m,G,D,f⟩|f)
  ·exact⟨m,by omega,D,f⟩
  ·exact⟨k,by omega,h,f⟩
theorem G4.lE{c:AlC}{A:Nat->Prop}{w:World}(h:G4 c A w):∀n,n<c.aH->c.U n<w.heap.size:=fun n B=>by
 obtain⟨_,l,_,f⟩:=h.wrow n B;exact f.lt
theorem G4.eD{c:AlC}{A:Nat->Prop}{w w':World}(h:G4 c A w)(k:C0 c.M w w'){b:Nat}{cs:Array Value}{t:TypeId}(f:Blk w b cs t)(B:t≠143):Blk w' b cs t:=f.kept k (h.not f B)
theorem Cy(c:AlC)(T:MT)(HO:Ao c T)(A:Nat->Prop)(w:World)(ng X:Nat)(bQ:List Bool)(hA:∀b,A b->b<w.heap.size)(hm:G4 c A w)(B:E6 w (.slice (some ⟨ng,0,none⟩) c.N X) bQ)(hl:bQ.length=c.N)(hs:c.s.size<=20000):
  Calls Tryz.prog 126 #[.pointer (some ⟨c.ab,0,none⟩),.pointer (some ⟨T.aL,0,none⟩),.slice (some ⟨ng,0,none⟩) c.N X] w fun e w'=>∃l,l.length=c.N/\(∀q,q<=c.s.size->(l.getD q false=true↔∃m,bQ.getD m false=true/\Q8 (Q0 c.s) T.nt.aW m q))/\YE c A w l e w':=by
 have ah:c.N<=20001:=by unfold AlC.N;omega
 have ag:(c.s.size:Int)+1=(c.N:Int):=by unfold AlC.N;omega
 have ai:=A8 c.N (by omega);have s0:w.cell? ⟨c.ab,0,none⟩=some (.string c.s):=hm.aO.cell 0;have a3:=Hd B;have HM:=Hd hm;have ae:=Hd HO;have HL:=Hd hl;have a1:=Hd hA;have HU:=Hd hm.lE;have aj:ng<w.heap.size:=Q1 B ng rfl;clear B hm HO hl hA;go_enter Tryz.func126,Tryz.ntmps126
 go_wp2_with fail
 go_loopg[8] c.N (fun G pv wr=>∃(p:Nat) (l:List Bool),pv=.int .i64 p/\p<=c.N/\G=c.N-p/\l.length=c.N/\(∀q,q<=c.s.size->(l.getD q false=true↔Bo (Q0 c.s) T.nt.aW bQ p q))/\
  G4 c (fun b=>A b\/b=w.heap.size) wr/\C0 c.M w wr/\Blk wr w.heap.size (Z0 l) 4)
 case atStart=>
  refine⟨0,List.replicate c.N false,rfl,by omega,rfl,by simp,fun q W=>?_,HM.out.fresh.aA (N0 _ _),(C0.refl _ _).alloc _,Blk.aR _ _ _⟩;constructor
  ·intro h;simp[AlC.dM.2 W]at h
  ·rintro⟨m,hm,_⟩;omega
 case round=>
  obtain⟨p,l,rfl,hp,rfl,U,f,V,hk,hI⟩:=hrel;have zI:=hI.lt
  by_cases a8:p<c.N
  ·have e0:decide ((p:Int)<(c.N:Int))=true:=by simp;omega
   have cN:=(HM.out.brow hk a3.out).cellD p (by rw[HL.out];exact a8);have p0:(0:Int)<=(p:Int):=by omega
   have p1:(p:Int)<(c.N:Int):=by omega
   have J:=Hd U;have a4:=Hd f;have D:Hid (G4 c (fun b=>A b\/b=w.heap.size) wr/\C0 c.M w wr/\Blk wr w.heap.size (Z0 l) 4):=⟨V,hk,hI⟩;clear V hk hI U f;cases hnp:bQ.getD p false with
   |false=>
    rw[hnp]at cN;have Z:=Hd hnp;clear hnp;go_wp2_with fail
    go_roundg (c.N- (p+1))
    case measure=>omega
    case rel=>exact⟨p+1,l,by go_num,by omega,rfl,J.out,fun q W=>by rw[Bo.skip Z.out];exact a4.out q W,D.out.1,D.out.2.1,D.out.2.2⟩
   |true=>
    rw[hnp]at cN;have Z:=Hd hnp;clear hnp;go_wp2_with fail;refine(ae.out (fun b=>A b\/b=w.heap.size) wr p (fun b hb=>by rcases hb with e|e;have:=a1.out b e;omega;omega) D.out.1 (AlC.dM.1 a8)).mono ?_;rintro e w1 ⟨b,rfl,aa,a6,a9,K⟩;have zz:w1.heap.size≥wr.heap.size:=K.size;have a0:Blk w1 w.heap.size (Z0 l) 4:=D.out.1.eD K D.out.2.2 (by decide);have af:b≠w.heap.size:=fun e=>aa (.inr e)
    have a2:=Hd (Mp w.heap.size c.N c.N l (Oa (Q0 c.s) T.nt.aW p) (.slice (some ⟨b,0,none⟩) c.N c.N) w1 a0 a6 J.out (Jc _ _ _) (fun e=>af (zE e)) (by omega));have ad:Hid (G4 c (fun b=>A b\/b=w.heap.size) w1/\C0 c.M w w1/\Blk w1 w.heap.size (Z0 l) 4):=⟨a9,D.out.2.1.trans K (fun i _ e=>e),a0⟩;clear a9 K a0 a6 aa D cN;go_wp2_with fail;refine a2.out.mono ?_;rintro e w2 ⟨rfl,a5,a7⟩;have ac:=Hd2 a5 a7;clear a5 a7 a2;go_wp2_with fail
    go_roundg (c.N- (p+1))
    case measure=>omega
    case rel=>
     obtain⟨r1,Y⟩:=ac.out;obtain⟨q1,q2,q3⟩:=ad.out;refine⟨p+1,orL l (Oa (Q0 c.s) T.nt.aW p),by go_num,by omega,rfl,by rw[Vn];exact J.out,fun q W=>?_,q1.dD Y (.inr rfl) (fun n hn=>by have:=HU.out n hn;omega) q3,?_,r1⟩
     ·rw[Nm _ _ _ (by rw[J.out];exact AlC.dM.2 W) (by rw[Jc];exact AlC.dM.2 W),yZ,a4.out q W,D9,Bo.take Z.out]
     ·exact⟨Y.os.trans q2.os,Y.tape.trans q2.tape,Y.output.trans q2.output,by have:=q2.size;have:=Y.size;omega,fun k hk he=>(Y.block k (by have:=q2.size;omega) (by omega)).trans (q2.block k hk he)⟩
  ·have e0:decide ((p:Int)<(c.N:Int))=false:=by simp;omega
   obtain rfl:p=c.N:=by omega
   have D:Hid (G4 c (fun b=>A b\/b=w.heap.size) wr/\C0 c.M w wr/\Blk wr w.heap.size (Z0 l) 4/\l.length=c.N/\(∀q,q<=c.s.size->(l.getD q false=true↔Bo (Q0 c.s) T.nt.aW bQ c.N q))):=⟨V,hk,hI,U,f⟩;clear V hk hI U f;go_wp2_with fail;go_ret;obtain⟨r1,Y,r3,r4,r5⟩:=D.out;refine⟨l,r4,fun q W=>?_,w.heap.size,rfl,fun e=>by have:=a1.out _ e;omega,?_,r1.jF (fun b e=>.inl e) (fun n hn=>(HM.out.wrow n hn).1),Y⟩
   ·rw[r5 q W];constructor
    ·rintro⟨m,_,h2,h3⟩;exact⟨m,h2,h3⟩
    ·rintro⟨m,h2,h3⟩;refine⟨m,?_,h2,h3⟩;have h4:=h3.1;rw[AlC.dM];omega
   ·have:=E6.cC r3 (by omega);rw[r4]at this;exact this
theorem KC:∀(l:List Bool) (j:Nat),j<l.length->l.getD j false=false->(l.set j true).count true=l.count true+1
 | [],j,h,_=>by simp at h
 |x::l,0,h,hx=>by simp at hx;subst hx;simp
 |x::l,j+1,h,hx=>by
  have:=KC l j (by simpa using h) (by simpa using hx);simp only[List.set_cons_succ,List.count_cons,this];omega
theorem IL{L:List Nat}{P:List Nat->Prop}{S:Nat->Prop}(J:∀m q,S m->Q8 L P m q->S q){u:List Nat}(h:Sf P u):∀p q,p<=q->q<=L.length->dY L p q=u->S p->S q:=by
 induction h with
 |nil=>intro p q B f D G;rw[<-YG B f D];exact G
 | @cons u v hu hv ih=>
  intro p q B f D G;obtain⟨m,K,M,U,V⟩:=CE B f D;exact ih m q M f V (J p m G ⟨K,by omega,by rw[U];exact hu⟩)
theorem QU{L:List Nat}{P:List Nat->Prop}{p m q:Nat}(h:Q8 L (Sf P) p m)(g:Q8 L P m q):Q8 L (Sf P) p q:=
 ⟨yI h.1 g.1,g.2.1,by rw[<-Xz h.1 g.1];exact Tv h.2.2 (BA g.2.2)⟩
structure AgP(c:AlC)(P:List Nat->Prop)(i:Nat)(la ld:List Bool):Prop where
 dZ:la.length=c.N
 gN:ld.length=c.N
 jD:∀q,q<=c.s.size->la.getD q false=true->Q8 (Q0 c.s) (Sf P) i q
 has:la.getD i false=true
 sub:∀q,ld.getD q false=true->la.getD q false=true
 aU:∀q q',ld.getD q false=true->Q8 (Q0 c.s) P q q'->la.getD q' false=true
theorem AgP.start(c:AlC)(P:List Nat->Prop)(i:Nat)(G:i<=c.s.size):AgP c P i (Mr i c.N) (List.replicate c.N false):=by
 have f:i<c.N:=AlC.dM.2 G;have D:∀q,(List.replicate c.N false).getD q false=false:=fun q=>by rw[zC,yM];split <;>rfl
 refine⟨Cf _ _,by simp,fun q B h=>?_,by rw[Lk f f];simp,fun q h=>(by rw[D]at h;exact absurd h (by simp)),fun q J h=>(by rw[D]at h;exact absurd h (by simp))⟩;rw[Lk f (AlC.dM.2 B)]at h;simp at h;subst h;exact⟨zD _,by rw[I1];exact B,by rw[Yz];exact .nil⟩
theorem UF{l:List Bool}{q:Nat}(h:l.getD q false=true):q<l.length:=by
 refine Nat.lt_of_not_le fun f=>?_
 rw[zC,yJ f]at h;cases h
theorem AgP.step{c:AlC}{P:List Nat->Prop}{i:Nat}{la W:List Bool}(h:AgP c P i la W){j:Nat}(U:la.getD j false=true):AgP c P i (orL la (Oa (Q0 c.s) P j)) (W.set j true):=by
 have D:=UF U;rw[h.dZ]at D;have J:∀q,q<c.N->(orL la (Oa (Q0 c.s) P j)).getD q false=(la.getD q false || (Oa (Q0 c.s) P j).getD q false):=fun q B=>Nm _ _ _ (by rw[h.dZ];exact B) (by rw[Jc];exact B)
 have G:∀q,la.getD q false=true->(orL la (Oa (Q0 c.s) P j)).getD q false=true:=fun q B=>by
  have:=UF B;rw[h.dZ]at this;rw[J q this,B];rfl
 have K:∀q,Q8 (Q0 c.s) P j q->(orL la (Oa (Q0 c.s) P j)).getD q false=true:=fun q B=>by
  have f:=B.2.1;rw[I1]at f;rw[J q (AlC.dM.2 f),D9.2 B];simp
 refine⟨by rw[Vn];exact h.dZ,by simp[h.gN],fun q B f=>?_,G _ h.has,fun q f=>?_,fun q V f M=>?_⟩
 ·rw[J q (AlC.dM.2 B),yZ]at f;rcases f with f|f
  ·exact h.jD q B f
  ·exact QU (h.jD j (AlC.dM.1 D) U) (D9.1 f)
 ·rw[C7 _ _ _ _ (by rw[h.gN];exact D)]at f
  by_cases e:q=j
  ·rw[e];exact G j U
  ·rw[if_neg e]at f;exact G q (h.sub q f)
 ·rw[C7 _ _ _ _ (by rw[h.gN];exact D)]at f
  by_cases e:q=j
  ·rw[e]at M;exact K V M
  ·rw[if_neg e]at f;exact G V (h.aU q V f M)
theorem AgP.done{c:AlC}{P:List Nat->Prop}{i:Nat}{la D:List Bool}(h:AgP c P i la D)(M:∀q,q<c.N->la.getD q false=true->D.getD q false=true):la=Oa (Q0 c.s) (Sf P) i:=by
 refine Me (by rw[h.dZ,I1];rfl) fun q B=>?_
 rw[I1]at B;constructor
 ·exact h.jD q B
 ·rintro⟨G,J,K⟩;refine IL (S:=fun q=>la.getD q false=true) (fun m V f U=>?_) K i q G J rfl h.has;have:=UF f;rw[h.dZ]at this;exact h.aU m V (M m this f) U
theorem YB(c:AlC)(T:MT)(HO:Ao c T)(A:Nat->Prop)(w:World)(i:Nat)(hA:∀b,A b->b<w.heap.size)(hm:G4 c A w)(hi:i<=c.s.size)(hs:c.s.size<=20000):
  Calls Tryz.prog 127 #[.pointer (some ⟨c.ab,0,none⟩),.pointer (some ⟨T.aL,0,none⟩),.int .i64 i] w (YE c A w (Oa (Q0 c.s) (Sf T.nt.aW) i)):=by
 have ba:c.N<=20001:=by unfold AlC.N;omega
 have b9:(c.s.size:Int)+1=(c.N:Int):=by unfold AlC.N;omega
 have b8:i<c.N:=AlC.dM.2 hi;have bd:=A8 c.N (by omega);have s0:w.cell? ⟨c.ab,0,none⟩=some (.string c.s):=hm.aO.cell 0;have HM:=Hd hm;have b5:=Hd HO;have ai:=Hd hA;have HU:=Hd hm.lE;have am:=Hd (Um i c.N w b8 (by omega));clear hm HO hA;go_enter Tryz.func127,Tryz.ntmps127;go_wp2_with fail;refine am.out.mono ?_;rintro e X ⟨rfl,ae,ag⟩;have be:w.heap.size<X.heap.size:=ae.lt;have HS:Hid (G4 c (fun b=>(A b\/b=w.heap.size)\/b=X.heap.size) (X.alloc (.cells (Z0 (List.replicate c.N false)) 4))/\C0 c.M w (X.alloc (.cells (Z0 (List.replicate c.N false)) 4))/\Blk (X.alloc (.cells (Z0 (List.replicate c.N false)) 4)) w.heap.size (Z0 (Mr i c.N)) 4/\Blk (X.alloc (.cells (Z0 (List.replicate c.N false)) 4)) X.heap.size (Z0 (List.replicate c.N false)) 4):=
  Hd ⟨(HM.out.fresh.aA ag).fresh.aA (N0 _ _),(C0.aM ag).alloc _,ae.alloc _,Blk.aR _ _ _⟩
 clear ae ag am;go_wp2_with fail
 go_loopg[9] (2*c.N+1) (fun G mv wr=>∃(a0:Bool) (la ld:List Bool),mv=.bool a0/\G=2*(c.N-ld.count true)+a0.toNat/\AgP c T.nt.aW i la ld/\(a0=false->∀q,q<c.N->la.getD q false=true->ld.getD q false=true)/\
  G4 c (fun b=>(A b\/b=w.heap.size)\/b=X.heap.size) wr/\C0 c.M w wr/\Blk wr w.heap.size (Z0 la) 4/\Blk wr X.heap.size (Z0 ld) 4)
 case atStart=>
  obtain⟨U,V,Y,a4⟩:=HS.out;exact⟨true,_,_,rfl,(by rw[show(List.replicate c.N false).count true=0 by simp[List.count_replicate]];simp),AgP.start c _ i hi,(fun h=>absurd h (by simp)),U,V,Y,a4⟩
 case round=>
  obtain⟨a0,la,ld,rfl,rfl,K,ah,W,hk,B,D⟩:=hrel;have za:=B.lt;have zd:=D.lt;cases a0 with
  |false=>
   have HH:=Hd5 K (ah rfl) W hk B;clear K ah W hk B D;go_wp2_with fail;go_ret;obtain⟨U,V,Y,a4,Z⟩:=HH.out;refine⟨w.heap.size,rfl,fun e=>by have:=ai.out _ e;omega,?_,Y.jF (fun b e=>.inl (.inl e)) (fun n hn=>(HM.out.wrow n hn).1),a4⟩;have h6:=E6.cC Z (by rw[U.dZ];omega);rw[U.dZ]at h6;rw[<-U.done V];exact h6
  |true=>
   have HH:=Hd5 K W hk B D;clear K ah W hk B D HS;obtain⟨cn,au⟩:∃cn,ld.count true=cn:=⟨_,rfl⟩;have ak:=Hd au;clear au;obtain⟨wo,rfl⟩:∃wo:World,wo=wr:=⟨_,rfl⟩;go_wp2_with fail
   go_loopg[9,10] c.N (fun G mv jv wi=>∃(mo:Bool) (j:Nat) (J f:List Bool),mv=.bool mo/\jv=.int .i64 j/\j<=c.N/\G=c.N-j/\AgP c T.nt.aW i J f/\(mo=false->f.count true=cn/\∀q,q<j->J.getD q false=true->f.getD q false=true)/\(mo=true->cn<f.count true)/\
    G4 c (fun b=>(A b\/b=w.heap.size)\/b=X.heap.size) wi/\C0 c.M w wi/\Blk wi w.heap.size (Z0 J) 4/\Blk wi X.heap.size (Z0 f) 4)
   case atStart=>
    obtain⟨U,V,Y,a4,Z⟩:=HH.out;exact⟨false,0,la,ld,rfl,rfl,by omega,rfl,U,fun _=>⟨ak.out,fun q hq=>by omega⟩,(fun h=>absurd h (by simp)),V,Y,a4,Z⟩
   case round=>
    obtain⟨mo,j,J,f,rfl,rfl,hj,rfl,K,aa,ac,W,hk,B,D⟩:=hrel;have bf:=B.lt;have bg:=D.lt
    by_cases a9:j<c.N
    ·have e0:decide ((j:Int)<(c.N:Int))=true:=by simp;omega
     have cA:=P2 B j (by rw[K.dZ];exact a9);have cD:=P2 D j (by rw[K.gN];exact a9);have fD:=D.frozen j;have j0:(0:Int)<=(j:Int):=by omega
     have j1:(j:Int)<(c.N:Int):=by omega
     have HI:=Hd7 K aa ac W hk B D;clear K aa ac W hk B D;generalize az:J.getD j false=xa at cA;generalize b0:f.getD j false=xd at cD;have an:=Hd az;have ao:=Hd b0;clear az b0;cases xa with
     |false=>
      go_wp2_with fail
      go_roundg (c.N- (j+1))
      case measure=>omega
      case rel=>
       obtain⟨U,V,Y,a4,Z,a6,a7⟩:=HI.out;refine⟨mo,j+1,J,f,rfl,by go_num,by omega,rfl,U,fun h=>⟨(V h).1,fun q hq hh=>?_⟩,Y,a4,Z,a6,a7⟩
       by_cases e:q<j
       ·exact(V h).2 q e hh
       ·rw[show q=j by omega,an.out]at hh;cases hh
     |true=>
      cases xd with
      |true=>
       go_wp2_with fail
       go_roundg (c.N- (j+1))
       case measure=>omega
       case rel=>
        obtain⟨U,V,Y,a4,Z,a6,a7⟩:=HI.out;refine⟨mo,j+1,J,f,rfl,by go_num,by omega,rfl,U,fun h=>⟨(V h).1,fun q hq hh=>?_⟩,Y,a4,Z,a6,a7⟩
        by_cases e:q<j
        ·exact(V h).2 q e hh
        ·rw[show q=j by omega];exact ao.out
      |false=>
       obtain⟨U,V,Y,a4,Z,a6,a7⟩:=HI.out;obtain⟨w3,ad⟩:∃w3:World,wr.setCell ⟨X.heap.size,j,none⟩ (.bool true)=w3:=⟨_,rfl⟩;have kd:C0 (fun b=>b=X.heap.size) wr w3:=by rw[<-ad];exact(C0.refl (fun b=>b=X.heap.size) _).setCell (p:=⟨X.heap.size,j,none⟩) (fun _=>rfl) _
       have b3:G4 c (fun b=>(A b\/b=w.heap.size)\/b=X.heap.size) w3:=a4.dD kd (.inr rfl) (fun n hn=>by have:=HU.out n hn;omega) a7;have b4:C0 c.M w w3:=⟨kd.os.trans Z.os,kd.tape.trans Z.tape,kd.output.trans Z.output,by have:=Z.size;have:=kd.size;omega,fun k hk he=>(kd.block k (by have:=Z.size;omega) (by omega)).trans (Z.block k hk he)⟩;have b6:Blk w3 w.heap.size (Z0 J) 4:=a6.kept kd (by omega);have b7:Blk w3 X.heap.size (Z0 (f.set j true)) 4:=by rw[<-ad,<-D4];exact a7.set j _
       have HE:=Hd (b5.out _ w3 j (fun b hb=>by rcases hb with(e|e)|e;have:=ai.out b e;have:=kd.size;omega;have:=kd.size;omega;have:=kd.size;omega) b3 (AlC.dM.1 a9));have HB:=Hd4 b3 b4 b6 b7;have av:=Hd (KC f j (by rw[U.gN];exact a9) ao.out);have HJ:=Hd3 U V Y;have z3:wr.heap.size<=w3.heap.size:=kd.size;clear U V Y a4 Z a6 a7 b3 b4 b6 b7 kd HI;go_upto_region 12 with fail
       try rw[ad]
       clear ad cA cD fD;go_wp2_with fail;refine HE.out.mono ?_;rintro e w4 ⟨b,rfl,ay,aq,ax,a8⟩;obtain⟨b3,b4,b6,b7⟩:=HB.out;have af:Blk w4 w.heap.size (Z0 J) 4:=b3.eD a8 b6 (by decide);have ar:Blk w4 X.heap.size (Z0 (f.set j true)) 4:=b3.eD a8 b7 (by decide);have z4:=a8.size;have aj:=Hd (Mp w.heap.size c.N c.N J (Oa (Q0 c.s) T.nt.aW j) (.slice (some ⟨b,0,none⟩) c.N c.N) w4 af aq HJ.out.1.dZ (Jc _ _ _) (fun e=>ay (.inl (.inr (zE e)))) (by omega));have b1:=Hd4 ax (b4.trans a8 (fun i _ e=>e)) af ar;clear b3 b4 b6 b7 ax a8 af ar aq ay HB HE;go_wp2_with fail;refine aj.out.mono ?_;rintro e w5 ⟨rfl,ap,aw⟩;have b2:=Hd2 ap aw;clear ap aw aj;go_wp2_with fail
       go_roundg (c.N- (j+1))
       case measure=>omega
       case rel=>
        obtain⟨r1,r2⟩:=b2.out;obtain⟨q1,q2,q3,q4⟩:=b1.out;obtain⟨U,V,Y⟩:=HJ.out;refine⟨true,j+1,orL J (Oa (Q0 c.s) T.nt.aW j),f.set j true,rfl,by go_num,by omega,rfl,U.step an.out,(fun h=>absurd h (by simp)),fun _=>?_,q1.dD r2 (.inl (.inr rfl)) (fun n hn=>by have:=HU.out n hn;omega) q3,?_,r1,q4.kept r2 (by omega)⟩
        ·rw[av.out];cases mo with
         |true=>have:=Y rfl;omega
         |false=>have:=(V rfl).1;omega
        ·exact⟨r2.os.trans q2.os,r2.tape.trans q2.tape,r2.output.trans q2.output,by have:=q2.size;have:=r2.size;omega,fun k hk he=>(r2.block k (by have:=q2.size;omega) (by omega)).trans (q2.block k hk he)⟩
    ·have e0:decide ((j:Int)<(c.N:Int))=false:=by simp;omega
     obtain rfl:j=c.N:=by omega
     have HI:=Hd7 K aa ac W hk B D;clear K aa ac W hk B D;go_wp2_with fail
     go_roundg (2*(c.N-f.count true)+mo.toNat)
     case measure=>
      obtain⟨U,V,Y,_⟩:=HI.out;have bc:f.count true<=c.N:=by rw[<-U.gN];exact List.count_le_length
      have bb:=ak.out;cases mo with
      |true=>have:=Y rfl;simp;omega
      |false=>have:=(V rfl).1;simp;omega
     case rel=>
      obtain⟨U,V,Y,a4,Z,a6,a7⟩:=HI.out;exact⟨mo,J,f,rfl,rfl,U,fun h=>(V h).2,a4,Z,a6,a7⟩
mutual
def NT.Wf(s:ByteArray):NT->Prop
 |.place i e A=>L8 s i e A
 |.node k l=>(k=1\/k=2\/(k=3/\l.length=1)\/k=4)/\WfL s l
def WfL(s:ByteArray):List NT->Prop
 | []=>True
 |x::l=>x.Wf s/\WfL s l
end
theorem BF{s:ByteArray}:∀l:List NT,WfL s l↔∀x∈l,x.Wf s
 | []=>by simp[WfL]
 |x::l=>by simp[WfL,BF l]
theorem Hq{s:ByteArray}{l:List NT}{x:NT}(h:WfL s l)(B:x.Wf s):WfL s (l++ [x]):=by
 rw[BF]at h⊢;intro y f;rw[zQ,zJ]at f;rcases f with f|rfl
 ·exact h y f
 ·exact B
theorem FQ{s:ByteArray}{x:NT}(h:x.Wf s)(m:Nat):(S6 m x).Wf s:=by
 unfold S6;split
 ·simp[NT.Wf,WfL,h]
 ·split
  ·simp[NT.Wf,WfL,h]
  ·split
   ·simp[NT.Wf,WfL,h]
   ·exact h
theorem PT.eE{s:ByteArray}:∀(t:PT) (i j:Nat) (f cur:List NT),t.Sp s i j->WfL s f->WfL s cur->(t.nt f cur).Wf s
 |.nil,i,j,f,cur,_,hr,hc=>by
  have:WfL s (f++ [.node 1 cur]):=Hq hr (by simp[NT.Wf,hc]);simp[PT.nt,NT.Wf,this]
 |.bar r,i,j,f,cur,h,hr,hc=>PT.eE r _ _ _ _ h.2 (Hq hr (by simp[NT.Wf,hc])) (by simp[WfL])
 |.leaf a e A m r,i,j,f,cur,h,hr,hc=>by
  obtain⟨rfl,B,_,_,D⟩:=h;exact PT.eE r _ _ _ _ D hr (Hq hc (FQ (by simp only[NT.Wf];exact Vf B) m))
 |.group t m r,i,j,f,cur,h,hr,hc=>by
  obtain⟨_,e,B,_,_,D⟩:=h;exact PT.eE r _ _ _ _ D hr (Hq hc (FQ (PT.eE t _ _ [] [] B (by simp[WfL]) (by simp[WfL])) m))
mutual
theorem MT.kE{s:ByteArray}:∀(U T:MT),U.nt.Wf s->T∈U.subs->T.nt.Wf s
 |.place b i e A,T,h,f=>by
  simp only[MT.subs,zJ]at f;rw[f];exact h
 |.node b v k l,T,h,f=>by
  simp only[MT.subs,zU]at f;rcases f with f|f
  ·rw[f];exact h
  ·simp only[MT.nt,NT.Wf]at h;exact Wn l T h.2 f
theorem Wn{s:ByteArray}:∀(l:List MT) (T:MT),WfL s (ntL l)->T∈G5 l->T.nt.Wf s
 | [],T,h,f=>by simp[G5]at f
 |y::l,T,h,f=>by
  simp only[ntL,WfL]at h;simp only[G5,zQ]at f;rcases f with f|f
  ·exact MT.kE y T h.1 f
  ·exact Wn l T h.2 f
end
mutual
theorem MT.gJ{s:ByteArray}:∀(T:MT),T.nt.Wf s->T.KindOk
 |.place b i e A,h=>by simp[MT.KindOk]
 |.node b v k l,h=>by
  simp only[MT.nt,NT.Wf]at h;simp only[MT.KindOk];exact⟨by omega,WL l h.2⟩
theorem WL{s:ByteArray}:∀(l:List MT),WfL s (ntL l)->He l
 | [],h=>by simp[He]
 |y::l,h=>by
  simp only[ntL,WfL]at h;simp only[He];exact⟨MT.gJ y h.1,WL l h.2⟩
end
theorem IQ(l:List MT):(ntL l).length=l.length:=by rw[Sb,yB]
theorem N5{w:World}{s:ByteArray}{f:Nat->Int}{b k:Nat}{v:Value}{l:List MT}(h:(MT.node b v k l).At w s f):∃D B,v=.slice D l.length B/\w.cell? ⟨b,0,none⟩=some (.int .i64 k)/\w.cell? ⟨b,4,none⟩=some (.slice D l.length B)/\∀i,(M:i<l.length)->∃g,D=some ⟨g,0,none⟩/\w.cell? ⟨g,i,none⟩=some (.pointer (some ⟨l[i].aL,0,none⟩)):=by
 simp only[MT.At]at h;obtain⟨K,U,_⟩:=h;have G:w.ownsRow 0 89 1 v l.length (Q5 (l.map MT.aL)):=by unfold NH at U;rwa [yB]at U
 obtain⟨_,D,B,rfl,J⟩:=P0 G;refine⟨D,B,rfl,K.cell 0,K.cell 4,fun i M=>?_⟩;rcases J with⟨_,e⟩|⟨g,_,rfl,_⟩
 ·omega
 ·exact⟨g,rfl,by rw[Y0 G i (by omega)];simp[Q5,M]⟩
theorem MC{L:List Nat}{i q:Nat}(D:i<=L.length):Q8 L (fun w=>w= []) i q↔q=i:=by
 constructor
 ·rintro⟨f,h,B⟩;exact(YG f h B).symm
 ·rintro rfl;exact⟨zD _,D,Yz _ _⟩
theorem V9{L:List Nat}{P Q:List Nat->Prop}(h:∀w,P w↔Q w){i q:Nat}:Q8 L P i q↔Q8 L Q i q:=by unfold Q8;rw[h]
theorem CS(c:AlC)(b:Nat)(v:Value)(l:List MT)(hT:(MT.node b v 1 l)∈G5 c.aD)(HE:∀y∈l,Ao c y)(hs:c.s.size<=20000)(hl:l.length<=100000):Qw c (.node b v 1 l):=by
 intro A w p hA hm hp;have ao:c.N<=20001:=by unfold AlC.N;omega
 have an:(c.s.size:Int)+1=(c.N:Int):=by unfold AlC.N;omega
 have ae:p<c.N:=AlC.dM.2 hp;have s0:w.cell? ⟨c.ab,0,none⟩=some (.string c.s):=hm.aO.cell 0;obtain⟨ad,ai,rfl,k0,_,_⟩:=N5 (AtL.sub c.aD _ hm.cQ hT);have HM:=Hd hm;have a0:=Hd hA;have ah:=Hd HE;have a7:=Hd (Um p c.N w ae (by omega));have HT:=Hd hT;clear hm hA HE hT;simp only[MT.aL];go_enter Tryz.func129,Tryz.ntmps129;go_wp2_with fail;refine a7.out.mono ?_;rintro e w1 ⟨rfl,U,V⟩;have ap:w.heap.size<w1.heap.size:=U.lt;have HS:=Hd3 (HM.out.aA V) (C0.aM (ex:=c.M) V) U;clear U V a7;go_wp2_with fail
 go_loopg[7,8] l.length (fun G nv kv wr=>∃(k:Nat) (bQ:List Bool) (ng ag:Nat),kv=.int .i64 k/\k<=l.length/\G=l.length-k/\nv=.slice (some ⟨ng,0,none⟩) c.N c.N/\¬A ng/\E6 wr (.slice (some ⟨ng,0,none⟩) c.N c.N) bQ/\bQ=Oa (Q0 c.s) (B6 (ntL (l.take k))) p/\G4 c A wr/\C0 c.M w wr)
 case atStart=>
  obtain⟨a1,Y,a3⟩:=HS.out;refine⟨0,Mr p c.N,w.heap.size,c.N,rfl,by omega,rfl,rfl,fun e=>by have:=a0.out _ e;omega,?_,?_,a1,Y⟩
  ·have:=E6.cC a3 (by rw[Cf];omega);rw[Cf]at this;exact this
  ·refine Me (by rw[Cf,I1];rfl) fun q Z=>?_
   rw[I1]at Z;rw[Lk ae (AlC.dM.2 Z)];simp only[List.take_zero,ntL];rw[V9 (Q:=fun w=>w= []) (fun w=>by simp[B6]),MC (by rw[I1];exact hp)];simp
 case round=>
  obtain⟨k,bQ,ng,ag,rfl,hk,rfl,rfl,X,D,f,B,h⟩:=hrel;obtain⟨am,ak,aj,_,c4,ck⟩:=N5 (AtL.sub c.aD _ B.cQ HT.out)
  injection aj with hv1 hv2 hv3
  subst hv1 hv3;have hz:=h.size
  by_cases W:k<l.length
  ·have e0:decide ((k:Int)<(l.length:Int))=true:=by simp;omega
   obtain⟨g,rfl,cg⟩:=ck k W;have i0:(0:Int)<=(k:Int):=by omega
   have i1:(k:Int)<(l.length:Int):=by omega
   have ac:bQ.length=c.N:=by rw[f,Jc]
   have HF:=Hd (Cy c l[k] (ah.out _ (zG W)) A wr ng c.N bQ (fun b hb=>by have:=a0.out b hb;omega) B D ac hs);have HK:=Hd2 h f;clear B D f X h ac ck;go_wp2_with fail;refine HF.out.mono ?_;rintro e w2 ⟨l2,a9,af,b2,rfl,K,J,aa,a8⟩;have HR:=Hd6 a9 af K J aa a8;clear a9 af K J aa a8 HF;go_wp2_with fail
   go_roundg (l.length- (k+1))
   case measure=>omega
   case rel=>
    obtain⟨a1,Y,a3,a4,a5,a6⟩:=HR.out;refine⟨k+1,l2,b2,c.N,by go_num,by omega,rfl,rfl,a3,a4,?_,a5,HK.out.1.trans a6 (fun i _ e=>e)⟩;refine Me (by rw[a1,I1];rfl) fun q Z=>?_
    rw[I1]at Z;rw[Y q Z,show l.take (k+1)=l.take k++ [l[k]]from(yL W).symm,Fc,
     V9 (Rk _ _),Xx]
    rw[HK.out.2];simp only[D9]
  ·obtain rfl:k=l.length:=by omega
   have e0:decide ((l.length:Int)<(l.length:Int))=false:=by simp
   have HH:=Hd5 X D f B h;clear X D f B h ck;go_wp2_with fail;go_ret;obtain⟨a1,Y,a3,a4,a5⟩:=HH.out;refine⟨ng,rfl,a1,?_,a4,a5⟩;rw[a3]at Y;have e:Oa (Q0 c.s) (B6 (ntL (l.take l.length))) p=Oa (Q0 c.s) (MT.node b (.slice ad l.length ai) 1 l).nt.aW p:=by
    refine Me (by rw[As]) fun q Z=>?_
    rw[D9,zO (zD _)];exact V9 (fun w=>by simp only[MT.nt];rw[EG])
   rw[<-e];exact Y
theorem BS(c:AlC)(b:Nat)(v:Value)(y:MT)(hT:(MT.node b v 3 [y])∈G5 c.aD)(HE:Ao c y)(hs:c.s.size<=20000):Qw c (.node b v 3 [y]):=by
 intro A w p hA Z hp;obtain⟨ad,K,rfl,k0,k4,kk⟩:=N5 (AtL.sub c.aD _ Z.cQ hT);obtain⟨g,rfl,cg⟩:=kk 0 (by simp);simp only[yQ,List.getElem_cons_zero]at k4 cg;have J:=Hd (YB c y HE A w p hA Z hp hs);have HM:=Hd Z;have a0:=Hd hA;have a7:=Hd HE;have HT:=Hd hT;clear Z hA HE hT kk;simp only[MT.aL,yQ];go_enter Tryz.func129,Tryz.ntmps129;go_wp2_with fail;refine J.out.mono ?_;rintro e w1 ⟨b1,rfl,X,f,G,D⟩;obtain⟨ab,aa,a9,_,c4,ck⟩:=N5 (AtL.sub c.aD _ G.cQ HT.out)
 injection a9 with hv1 hv2 hv3
 subst hv3;obtain⟨g',M,a8⟩:=ck 0 (by simp);simp only[yQ,List.getElem_cons_zero]at c4 a8;rw[<-hv1]at c4 M;cases M;have ac:=D.size;have HF:=Hd (Cy c y a7.out A w1 b1 c.N _ (fun b hb=>by have:=a0.out b hb;omega) G f (Jc _ _ _) hs);have HK:=Hd D;clear X f G D J k0 k4 cg ck hv1 hv2;go_wp2_with fail;refine HF.out.mono ?_;rintro e w2 ⟨l2,V,Y,b2,rfl,B,h,W,U⟩;have HR:=Hd6 V Y B h W U;clear V Y B h W U HF;go_wp2_with fail;go_ret;obtain⟨a1,a2,a3,a4,a5,a6⟩:=HR.out;refine⟨b2,rfl,a3,?_,a5,HK.out.trans a6 (fun i _ e=>e)⟩;have e:l2=Oa (Q0 c.s) (MT.node b (.slice (some ⟨g,0,none⟩) [y].length K) 3 [y]).nt.aW p:=by
  refine Me (by rw[a1,I1];rfl) fun q hq=>?_
  rw[I1]at hq;rw[a2 q hq,V9 (P:=(MT.node b (.slice (some ⟨g,0,none⟩) [y].length K) 3 [y]).nt.aW) (fun w=>by simp only[MT.nt,ntL];rw[OE]),Xx];simp only[D9]
 simp only[yQ]at e;rw[<-e];exact a4
theorem C0.jJ{c:AlC}{w wr B:World}{g:Nat}(f:C0 c.M w wr)(h:C0 (fun x=>x=g) wr B)(J:w.heap.size<=g):C0 c.M w B:=
 ⟨h.os.trans f.os,h.tape.trans f.tape,h.output.trans f.output,by have:=f.size;have:=h.size;omega,fun k G D=>(h.block k (by have:=f.size;omega) (by omega)).trans (f.block k G D)⟩
theorem AY{c:AlC}{A:Nat->Prop}{w wr:World}{p b k:Nat}{v:Value}{l:List MT}{D:List Bool}(K:k=2\/k=4)(hA:∀b,A b->b<w.heap.size)(Y:G4 c A w)(Z:p<=c.s.size)(hs:c.s.size<=20000)(J:D.length=c.N)(q2:∀q,q<=c.s.size->(D.getD q false=true↔Q8 (Q0 c.s) (Z5 (ntL l)) p q))
  (q3:G4 c (fun b=>A b\/b=w.heap.size) wr) (q4:C0 c.M w wr) (q5:Blk wr w.heap.size (Z0 D) 4) (G:Bool) (W:G=(D.getD p false || decide (k=4))):
  YE c A w (Oa (Q0 c.s) (MT.node b v k l).nt.aW p) (.returned (.slice (some ⟨w.heap.size,0,none⟩) c.N c.N)) (wr.setCell ⟨w.heap.size,p,none⟩ (.bool G)):=by
 have a0:c.N<=20001:=by unfold AlC.N;omega
 have V:p<c.N:=AlC.dM.2 Z;have hu:=Y.lE;have kS:=(C0.refl (fun b=>b=w.heap.size) wr).setCell (p:=⟨w.heap.size,p,none⟩) (fun _=>rfl) (.bool G);refine⟨w.heap.size,rfl,fun e=>by have:=hA _ e;omega,?_,(q3.dD kS (.inr rfl) (fun n U=>by have:=hu n U;omega) q5).jF (fun b e=>.inl e) (fun n U=>(Y.wrow n U).1),q4.jJ kS (zD _)⟩;have h:=q5.set p (.bool G);rw[D4]at h;have X:=E6.cC h (by rw[xF,J];omega);rw[xF,J]at X;have e:D.set p G=Oa (Q0 c.s) (MT.node b v k l).nt.aW p:=by
  refine Me (by rw[xF,J,I1];rfl) fun q hq=>?_
  rw[I1]at hq;rw[C7 _ _ _ _ (by rw[J];exact V),W];simp only[MT.nt];have B:=q2 q hq;rcases K with rfl|rfl
  ·rw[V9 (MA _),<-B]
   by_cases f:q=p
   ·subst f;simp
   ·simp[f]
  ·rw[V9 (NA _),VM (by rw[I1];exact Z),<-B]
   by_cases f:q=p
   ·subst f;simp
   ·simp[f]
 rw[<-e];exact X
theorem OC(c:AlC)(b k:Nat)(v:Value)(l:List MT)(ae:k=2\/k=4)(hT:(MT.node b v k l)∈G5 c.aD)(HE:∀y∈l,Ao c y)(hs:c.s.size<=20000)(hl:l.length<=100000):Qw c (.node b v k l):=by
 intro A w p hA Z hp;have an:c.N<=20001:=by unfold AlC.N;omega
 have am:(c.s.size:Int)+1=(c.N:Int):=by unfold AlC.N;omega
 have ao:=A8 c.N (by omega);have af:p<c.N:=AlC.dM.2 hp;have s0:w.cell? ⟨c.ab,0,none⟩=some (.string c.s):=Z.aO.cell 0;obtain⟨ad,ak,rfl,k0,_,_⟩:=N5 (AtL.sub c.aD _ Z.cQ hT);have zb:b<w.heap.size:=MT.At.lt _ (AtL.sub c.aD _ Z.cQ hT) b (by simp[MT.has]);have HM:=Hd Z;have a0:=Hd hA;have HU:=Hd Z.lE;have ac:=Hd HE;have HT:=Hd hT;clear Z hA HE hT;simp only[MT.aL];rcases ae with rfl|rfl
 all_goals
  go_enter Tryz.func129,Tryz.ntmps129;go_wp2_with fail
  go_loopg[11] l.length (fun G kv wr=>∃(k:Nat) (K:List Bool),kv=.int .i64 k/\k<=l.length/\G=l.length-k/\K.length=c.N/\(∀q,q<=c.s.size->(K.getD q false=true↔Q8 (Q0 c.s) (Z5 (ntL (l.take k))) p q))/\G4 c (fun b=>A b\/b=w.heap.size) wr/\C0 c.M w wr/\Blk wr w.heap.size (Z0 K) 4)
  case atStart=>
   refine⟨0,List.replicate c.N false,rfl,by omega,rfl,by simp,fun q hq=>?_,HM.out.fresh.aA (N0 _ _),(C0.refl _ _).alloc _,Blk.aR _ _ _⟩;constructor
   ·intro h;simp[AlC.dM.2 hq]at h
   ·rintro⟨_,_,h⟩;simp[ntL,Z5]at h
  case round=>
   obtain⟨k,K,rfl,hk,rfl,D,J,f,B,U⟩:=hrel;have zB:=U.lt;obtain⟨aj,ai,ag,ah,c4,ck⟩:=N5 (AtL.sub c.aD _ f.cQ HT.out)
   injection ag with hv1 hv2 hv3
   subst hv1 hv3;have hz:=B.size
   by_cases X:k<l.length
   ·have e0:decide ((k:Int)<(l.length:Int))=true:=by simp;omega
    obtain⟨g,rfl,cg⟩:=ck k X;have i0:(0:Int)<=(k:Int):=by omega
    have i1:(k:Int)<(l.length:Int):=by omega
    have HF:=Hd (ac.out _ (zG X) (fun b=>A b\/b=w.heap.size) wr p (fun b hb=>by rcases hb with e|e;have:=a0.out b e;omega;omega) f hp);have HK:=Hd5 D J f B U;clear D J f B U ck ah;go_wp2_with fail;refine HF.out.mono ?_;rintro e w1 ⟨b1,rfl,a9,a6,a8,W⟩;obtain⟨Y,q2,q3,q4,q5⟩:=HK.out;have V:Blk w1 w.heap.size (Z0 K) 4:=q3.eD W q5 (by decide);have a4:=Hd (Mp w.heap.size c.N c.N K (Oa (Q0 c.s) l[k].nt.aW p) (.slice (some ⟨b1,0,none⟩) c.N c.N) w1 V a6 Y (Jc _ _ _) (fun e=>a9 (.inr (zE e))) (by omega));have HR:=Hd3 a8 (q4.trans W (fun i _ e=>e)) V;clear Y q2 q3 q4 q5 a9 a6 a8 W V HF;go_wp2_with fail;refine a4.out.mono ?_;rintro e w2 ⟨rfl,a5,a7⟩;have aa:=Hd2 a5 a7;clear a5 a7 a4;go_wp2_with fail
    go_roundg (l.length- (k+1))
    case measure=>omega
    case rel=>
     obtain⟨r1,r2⟩:=aa.out;obtain⟨a1,a2,a3⟩:=HR.out;obtain⟨Y,q2,q3,q4,q5⟩:=HK.out;refine⟨k+1,orL K (Oa (Q0 c.s) l[k].nt.aW p),by go_num,by omega,rfl,by rw[Vn];exact Y,fun q hq=>?_,a1.dD r2 (.inr rfl) (fun n hn=>by have:=HU.out n hn;omega) a3,a2.jJ r2 (zD _),r1⟩;rw[Nm _ _ _ (by rw[Y];exact AlC.dM.2 hq) (by rw[Jc];exact AlC.dM.2 hq),yZ,q2 q hq,D9,show l.take (k+1)=l.take k++ [l[k]]from(yL X).symm,Fc,V9 (Mq _ _),ZY]
   ·obtain rfl:k=l.length:=by omega
    have e0:decide ((l.length:Int)<(l.length:Int))=false:=by simp
    have cP:=P2 U p (by rw[D];exact af);have fP:=U.frozen p;have p0:(0:Int)<=(p:Int):=by omega
    have p1:(p:Int)<(c.N:Int):=by omega
    have HH:=Hd5 D J f B U;generalize hx:K.getD p false=x at cP;have HX:=Hd hx;clear D J f B U ck hx;cases x
    all_goals
     go_wp2_with fail;go_ret;obtain⟨Y,q2,q3,q4,q5⟩:=HH.out;rw[zO (zD _)]at q2;exact AY (by simp) a0.out HM.out hp hs Y q2 q3 q4 q5 _ (by rw[HX.out];rfl)
theorem Bp{s:ByteArray}{p:Nat}(h:p<s.size):(Q0 s)[p]'(by rw[I1];exact h)=s[p].toNat:=by
 simp only[Q0,List.getElem_map,Array.getElem_toList];rfl
theorem Gz{s:ByteArray}{i e p q:Nat}{A:Nat->Bool}(V:p<=s.size):Q8 (Q0 s) (NT.place i e A).aW p q↔(q=p+1/\∃h:p<s.size,A s[p].toNat=true):=by
 constructor
 ·rintro⟨U,G,J⟩;rw[Yp]at J;obtain⟨x,B,D⟩:=J;rw[I1]at G;have K:=congrArg List.length B;rw[Nw (by rw[I1];exact G)]at K;simp at K;have M:q=p+1:=by omega
  subst M;have f:p<s.size:=by omega
  rw[VQ (by rw[I1];exact f),Bp f]at B
  injection B with B
  exact⟨rfl,f,by rw[B];exact D⟩
 ·rintro⟨rfl,h,D⟩;refine⟨by omega,by rw[I1];omega,?_⟩;rw[Yp,VQ (by rw[I1];exact h),Bp h];exact⟨_,rfl,D⟩
theorem WM(c:AlC)(b i e:Nat)(Z:Nat->Bool)(hT:(MT.place b i e Z)∈G5 c.aD)(a6:Yv (c.rs.extract i e) Z)(hs:c.s.size<=20000):Qw c (.place b i e Z):=by
 intro A w p hA hm hp;have au:c.N<=20001:=by unfold AlC.N;omega
 have ar:(c.s.size:Int)+1=(c.N:Int):=by unfold AlC.N;omega
 have am:=A8 c.N (by omega);have s0:w.cell? ⟨c.ab,0,none⟩=some (.string c.s):=hm.aO.cell 0;have K:=AtL.sub c.aD _ hm.cQ hT;simp only[MT.At]at K;have k0:w.cell? ⟨b,0,none⟩=some (.int .i64 0):=K.cell 0;have k3:w.cell? ⟨b,3,none⟩=some (.string (c.rs.extract i e)):=K.cell 3;have zb:=K.lt;have ao:=hm.aO.lt;have HM:=Hd hm;have aq:=Hd hA;have HU:=Hd hm.lE;have ad:=hm.fresh;have a8:∀(B:World) (lo:List Bool),Bw w B->G4 c (fun b=>A b\/b=w.heap.size) B->lo.length=c.N->(∀q,q<=c.s.size->(lo.getD q false=true↔Q8 (Q0 c.s) (NT.place i e Z).aW p q))->Blk B w.heap.size (Z0 lo) 4->YE c A w (Oa (Q0 c.s) (MT.place b i e Z).nt.aW p) (.returned (.slice (some ⟨w.heap.size,0,none⟩) c.N c.N)) B:=by
  intro B lo a1 a2 a3 a4 a5;refine⟨w.heap.size,rfl,fun e=>by have:=hA _ e;omega,?_,a2.jF (fun b e=>.inl e) (fun n hn=>(hm.wrow n hn).1),C0.aM a1⟩;have h6:=E6.cC a5 (by rw[a3];omega);rw[a3]at h6;have e9:lo=Oa (Q0 c.s) (MT.place b i e Z).nt.aW p:=Me (by rw[a3,I1];rfl) (fun q hq=>by simp only[MT.nt];exact a4 q (by rw[I1]at hq;exact hq));rw[<-e9];exact h6
 have a0:=Hd a8;have W:=ad.aA (N0 w (.cells (Z0 (List.replicate c.N false)) 4));clear hm hA hT a8 K ad;simp only[MT.aL]
 by_cases ak:p<c.s.size
 ·have e0:decide ((p:Int)<(c.s.size:Int))=true:=by simp;omega
  have V:=Hd W;have G:=Hd (Blk.aR w (Z0 (List.replicate c.N false)) 4);obtain⟨B,Y⟩:∃B:World,w.alloc (.cells (Z0 (List.replicate c.N false)) 4)=B:=⟨_,rfl⟩;have J:Bw w B:=by rw[<-Y];exact N0 _ _
  rw[Y]at V G;have t0:B.cell? ⟨c.ab,0,none⟩=some (.string c.s):=(J.cell (p:=⟨c.ab,0,none⟩) ao).trans s0;have t3:B.cell? ⟨b,3,none⟩=some (.string (c.rs.extract i e)):=(J.cell (p:=⟨b,3,none⟩) zb).trans k3;have ax:B.cell? ⟨b,0,none⟩=some (.int .i64 0):=(J.cell (p:=⟨b,0,none⟩) zb).trans k0;have aj:=Hd J;have z1:w.heap.size<B.heap.size:=G.out.lt;have S0:B.drew.cell? ⟨c.ab,0,none⟩=some (.string c.s)/\B.drew.cell? ⟨b,3,none⟩=some (.string (c.rs.extract i e)):=⟨t0,t3⟩;obtain⟨U,M⟩:∃U,c.s[p].toNat=U:=⟨_,rfl⟩;have aa:U<256:=by rw[<-M];exact c.s[p].toNat_lt
  have ac:(c.s[p].toNat:Int)=(U:Int):=by rw[M]
  have an:wrap64 ((c.s[p].toNat:Nat):Int)=(U:Int):=by rw[M];unfold wrap64;omega
  have ap:IntKind.i64.wrap (U:Int)=(U:Int):=by rw[Go.IntWalk.i64_left];unfold wrap64;omega
  have av:IntKind.i64.wrap ((p:Int)+1)=(p:Int)+1:=by rw[Go.IntWalk.i64_left];unfold wrap64;omega
  have a7:=Hd M;have HC:=Hd (a6 U B.drew aa);have p0:(0:Int)<=(p:Int):=by omega
  have p1:(p:Int)<(c.s.size:Int):=by omega
  have p2:(0:Int)<=(p:Int)+1:=by omega
  have p3:(p:Int)+1<(c.N:Int):=by omega
  have ag:p+1<c.N:=by unfold AlC.N;omega
  obtain⟨tx,ah⟩:∃tx,c.rs.extract i e=tx:=⟨_,rfl⟩;rw[ah]at t3 S0 HC k3;clear W J a6 ah M;go_enter Tryz.func129,Tryz.ntmps129;go_upto_region 15 with fail
  try rw[Y]
  clear Y s0 k0 k3 am;have af:w.heap.size≠c.ab:=by omega
  have ae:w.heap.size≠b:=by omega
  have cO:=P2 G.out (p+1) (by simp;exact ag);have fO:=G.out.frozen (p+1);rw[ac]at an
  go_region_held3 (fun w'=>w'.cell? ⟨c.ab,0,none⟩=some (.string c.s)/\w'.cell? ⟨b,3,none⟩=some (.string tx))
   (first|with_reducible exact S0|with_reducible exact S1|exact⟨by simp[g0,af,World.cell?_setCell_far],by simp[g3,ae,World.cell?_setCell_far]⟩)
   (first|(go_at_call 102;refine HC.out.mono ?_;rintro e w2 ⟨rfl,D⟩;have f:=(H6 B).trans (D.mono (zD _));have g0:=(f.cell (p:=⟨c.ab,0,none⟩) (by show c.ab<B.heap.size;omega)).trans t0;have g3:=(f.cell (p:=⟨b,3,none⟩) (by show b<B.heap.size;omega)).trans t3;have S1:=And.intro g0 g3;have g5:=(f.cell (p:=⟨w.heap.size,p+1,none⟩) z1).trans cO;have g6:=(f.frozen (p:=⟨w.heap.size,p+1,none⟩) z1).trans fO;have ai:=Hd f;clear D f))
  go_wp2_with fail;go_ret;have D:=ai.out;have aw:=D.size;have kS:=(C0.refl (fun b=>b=w.heap.size) w2).setCell (p:=⟨w.heap.size,p+1,none⟩) (fun _=>rfl) (.bool (Z U));have a9:=G.out.aA D;refine a0.out _ ((List.replicate c.N false).set (p+1) (Z U)) (C3 (aj.out.trans (D.mono (by omega))) kS (by omega) (fun x hx e=>by omega)) ((V.out.aA D).dD kS (.inr rfl) (fun n hn=>by have:=HU.out n hn;omega) a9) (by simp) (fun q hq=>?_) (by rw[<-D4];exact a9.set (p+1) _);rw[Gz hp,C7 _ _ _ _ (by simp;exact ag)]
  by_cases X:q=p+1
  ·rw[if_pos X];exact⟨fun h=>⟨X,ak,by rw[a7.out];exact h⟩,fun⟨_,_,h⟩=>by rw[a7.out]at h;exact h⟩
  ·rw[if_neg X];exact⟨fun h=>by simp[AlC.dM.2 hq]at h,fun⟨h,_⟩=>absurd h X⟩
 ·have e0:decide ((p:Int)<(c.s.size:Int))=false:=by simp;omega
  have V:=Hd W;clear W;go_enter Tryz.func129,Tryz.ntmps129;go_wp2_with fail;go_ret;refine a0.out _ (List.replicate c.N false) (N0 _ _) V.out (by simp) (fun q hq=>?_) (Blk.aR _ _ _);rw[Gz hp];constructor
  ·intro h;simp[AlC.dM.2 hq]at h
  ·rintro⟨_,h,_⟩;omega
mutual
theorem Mk:∀(L:List MT) (T:MT),T∈G5 L->T.nt.aH<=J1 (ntL L)
 | [],T,h=>by simp[G5]at h
 |x::L,T,h=>by
  simp only[G5,zQ]at h;simp only[ntL,J1];rcases h with h|h
  ·have:=MT.gR x T h;omega
  ·have:=Mk L T h;omega
theorem MT.gR:∀(U T:MT),T∈U.subs->T.nt.aH<=U.nt.aH
 |.place b i e A,T,h=>by
  simp only[MT.subs,zJ]at h;rw[h];exact zD _
 |.node b v k l,T,h=>by
  simp only[MT.subs,zU]at h;rcases h with h|h
  ·rw[h];exact zD _
  ·have:=Mk l T h;simp only[MT.nt,NT.aH];omega
end
theorem L8.fM{s:ByteArray}{i e:Nat}{A:Nat->Bool}(B:s.size<=120)(h:L8 s i e A):Yv (s.extract i e) A:=by
 have f:=h.lt;exact EF (by rw[Ck f.2];omega) h.sub
mutual
theorem OI(c:AlC)(G:c.s.size<=20000)(D:WfL c.rs (ntL c.aD))(K:c.rs.size<=120)(J:c.aH<=100000):∀T:MT,T∈G5 c.aD->Ao c T
 |.place b i e A,h=>by
  have M:=Wn c.aD _ D h;simp only[MT.nt,NT.Wf]at M;exact Am c _ h (WM c b i e A h (M.fM K) G)
 |.node b v k l,h=>by
  have M:=Wn c.aD _ D h;have V:=Mk c.aD _ h;have X:=Gc l;have f:=Jt c G D K J l (fun y W=>Uj c.aD _ h b v k l rfl y W);simp only[MT.nt,NT.Wf,NT.aH]at M V;have B:l.length<=100000:=by unfold AlC.aH at J;omega
  rcases M.1 with e|e|⟨e,U⟩|e
  ·subst e;exact Am c _ h (CS c b v l h f G B)
  ·exact Am c _ h (OC c b k v l (.inl e) h f G B)
  ·subst e;rw[IQ]at U;obtain⟨y,rfl⟩:=List.length_eq_one_iff.1 U;exact Am c _ h (BS c b v y h (f y (by simp)) G)
  ·exact Am c _ h (OC c b k v l (.inr e) h f G B)
theorem Jt(c:AlC)(G:c.s.size<=20000)(D:WfL c.rs (ntL c.aD))(B:c.rs.size<=120)(f:c.aH<=100000):∀(l:List MT),(∀y∈l,y∈G5 c.aD)->∀y∈l,Ao c y
 | [],_,y,h=>by simp at h
 |x::l,hl,y,h=>by
  rw[zU]at h;rcases h with rfl|h
  ·exact OI c G D B f y (hl y (by simp))
  ·exact Jt c G D B f l (fun z J=>hl z (by simp[J])) y h
end
end Go.Proofs.YtcckhngbdoiikabGreat
