import Derived.Test.YtcckhngbdoiikaaGreatS02
set_option maxRecDepth 20000
set_option maxHeartbeats 12800000
set_option linter.unusedVariables false
namespace Go.Proofs.YtcckhngbdoiikaaGreat
inductive Mf(P:List Nat->Prop):List Nat->Prop where
 |nil:Mf P []
 |cons {u v:List Nat}:P u->Mf P v->Mf P (u++v)
def Q2(F A:Nat->Nat->Prop):Nat->List Nat->Nat->Prop
 |_,[],_=>False
 |p,[x],q=>A p x/\p=q
 |p,x::y::w,q=>A p x/\∃f,F p f/\Q2 F A f (y::w) q
theorem Q2.ne{F A:Nat->Nat->Prop}{p q:Nat}{w:List Nat}(h:Q2 F A p w q):w≠ []:=by rintro rfl;exact h
theorem Q2.iA{F A:Nat->Nat->Prop}{D q:Nat}{v:List Nat}:∀{u:List Nat} {p f:Nat},Q2 F A p u f->F f D->Q2 F A D v q->Q2 F A p (u++v) q
 | [],p,f,h,_,_=>h.elim
 | [x],p,f,h,hf,hr=>by
  obtain⟨B,rfl⟩:=h;cases v with
  |nil=>exact hr.elim
  |cons y v=>exact⟨B,D,hf,hr⟩
 |x::y::u,p,f,h,hf,hr=>by
  obtain⟨B,K,G,J⟩:=h;exact⟨B,K,G,Q2.iA (u:=y::u) J hf hr⟩
theorem Q2.jX{F A:Nat->Nat->Prop}{x q:Nat}:∀{u:List Nat} {p:Nat},u≠ []->(Q2 F A p (u++ [x]) q↔(∃f,Q2 F A p u f/\F f q)/\A q x)
 | [],p,h=>absurd rfl h
 | [y],p,_=>by
  constructor
  ·rintro⟨B,f,D,G,rfl⟩;exact⟨⟨p,⟨B,rfl⟩,D⟩,G⟩
  ·rintro⟨⟨f,⟨B,rfl⟩,D⟩,G⟩;exact⟨B,q,D,G,rfl⟩
 |y::z::u,p,_=>by
  have V:=fun p=>Q2.jX (F:=F) (A:=A) (x:=x) (q:=q) (u:=z::u) (p:=p) (by simp)
  constructor
  ·rintro⟨B,f,D,G⟩;obtain⟨⟨U,J,K⟩,M⟩:=(V f).1 G;exact⟨⟨U,⟨B,f,D,J⟩,K⟩,M⟩
  ·rintro⟨⟨U,⟨B,f,D,J⟩,K⟩,M⟩;exact⟨B,f,D,(V f).2 ⟨⟨U,J,K⟩,M⟩⟩
theorem Q2.mono{F G A B:Nat->Nat->Prop}{q:Nat}{I:Nat->Prop}(D:∀p x,I p->A p x->B p x)(J:∀p f,I p->F p f->G p f/\I f):∀{w:List Nat} {p:Nat},I p->Q2 F A p w q->Q2 G B p w q
 | [],p,_,h=>h.elim
 | [x],p,hi,h=>⟨D _ _ hi h.1,h.2⟩
 |x::y::w,p,hi,h=>by
  obtain⟨K,f,M,U⟩:=h;obtain⟨V,W⟩:=J _ _ hi M;exact⟨D _ _ hi K,f,V,Q2.mono D J (w:=y::w) W U⟩
theorem Q2.bT{F A:Nat->Nat->Prop}{q:Nat}{I:Nat->Prop}(B:∀p f,I p->F p f->I f):∀{w:List Nat} {p:Nat},I p->Q2 F A p w q->I q
 | [],p,_,h=>h.elim
 | [x],p,hi,h=>h.2 ▸ hi
 |x::y::w,p,hi,h=>by
  obtain⟨J,f,D,G⟩:=h;exact Q2.bT B (w:=y::w) (B _ _ hi D) G
theorem Q2.part{F G A:Nat->Nat->Prop}{q:Nat}{a b:Nat->Prop}(W:∀p f,G p f->F p f\/(a p/\b f)):∀{w:List Nat} {p:Nat},Q2 G A p w q->Q2 F A p w q\/∃u v f B,w=u++v/\Q2 F A p u f/\a f/\b B/\Q2 G A B v q
 | [],p,h=>h.elim
 | [x],p,h=>.inl h
 |x::y::w,p,h=>by
  obtain⟨J,f,X,U⟩:=h;rcases W _ _ X with D|⟨D,Y⟩
  ·rcases Q2.part W (w:=y::w) U with M|⟨u,v,r,r',M,V,Z,h9,K⟩
   ·exact .inl ⟨J,f,D,M⟩
   ·refine .inr ⟨x::u,v,r,r',by rw[M];rfl,?_,Z,h9,K⟩;cases u with
    |nil=>exact V.elim
    |cons z u=>exact⟨J,f,D,V⟩
  ·exact .inr ⟨[x],y::w,p,f,rfl,⟨J,rfl⟩,D,Y,U⟩
def E0.F(R:E0)(p q:Nat):Prop:=(R.aC.getD p I0.none).has q=true
def E0.A(R:E0)(p x:Nat):Prop:=(R.aJ x).has p=true
structure ID(R R':E0)(P:V6):Prop where
 le:R.aC.length<=R'.aC.length
 eB:∀p q,p<R.aC.length->(R'.F p q↔R.F p q)
 newF:∀p q,R.aC.length<=p->R'.F p q->R.aC.length<=q/\q<R'.aC.length
 gK:∀p x,p<R.aC.length->(R'.A p x↔R.A p x)
 gS:∀p x,R'.aC.length<=p->(R'.A p x↔R.A p x)
 first:∀p,P.first.has p=true->R.aC.length<=p/\p<R'.aC.length
 last:∀p,P.last.has p=true->R.aC.length<=p/\p<R'.aC.length
 dO:R'.first=R.first
 fA:R'.last=R.last
theorem RZ{R:E0}{p q:Nat}(h:R.F p q):p<R.aC.length:=Vg h
theorem Ee(R:E0)(a b:I0)(p q:Nat):(R.link a b).F p q↔(R.F p q\/(p<R.aC.length/\a.has p=true/\b.has q=true)):=WU R a b p q
theorem QB{R D:E0}{P Q:V6}{a b:I0}(h:ID R D P)(J:∀p,a.has p=true->R.aC.length<=p)(K:∀p,b.has p=true->R.aC.length<=p/\p<D.aC.length)
  (M:∀p,Q.first.has p=true->R.aC.length<=p/\p<D.aC.length) (U:∀p,Q.last.has p=true->R.aC.length<=p/\p<D.aC.length):ID R (D.link a b) Q:=by
 have f:=Z6 D a b;refine⟨by rw[f];exact h.le,fun p q B=>?_,fun p q B G=>?_,h.gK,fun p x B=>h.gS p x (by rw[f]at B;exact B),by rw[f];exact M,by rw[f];exact U,h.dO,h.fA⟩
 ·rw[Ee];constructor
  ·rintro(e|⟨_,e,_⟩)
   ·exact(h.eB p q B).1 e
   ·have:=J p e;omega
  ·intro e;exact .inl ((h.eB p q B).2 e)
 ·rw[Ee]at G;rw[f];rcases G with e|⟨_,_,e⟩
  ·exact h.newF p q B e
  ·exact K q e
theorem ID.trans{R D f:E0}{P Q S:V6}(h:ID R D P)(g:ID D f Q)(K:∀p,S.first.has p=true->R.aC.length<=p/\p<f.aC.length)(M:∀p,S.last.has p=true->R.aC.length<=p/\p<f.aC.length):ID R f S:=by
 have U:=h.le;have V:=g.le;refine⟨by omega,fun p q B=>?_,fun p q B J=>?_,fun p x B=>?_,fun p x B=>?_,K,M,g.dO.trans h.dO,g.fA.trans h.fA⟩
 ·rw[g.eB p q (by omega),h.eB p q B]
 ·by_cases G:p<D.aC.length
  ·have:=h.newF p q B ((g.eB p q G).1 J);omega
  ·have:=g.newF p q (by omega) J;omega
 ·rw[g.gK p x (by omega),h.gK p x B]
 ·rw[g.gS p x B,h.gS p x (by omega)]
def EY(R:E0)(P:V6)(w:List Nat):Prop:=(w= []/\P.empty=true)\/∃p q,P.first.has p=true/\P.last.has q=true/\Q2 R.F R.A p w q
theorem Yu{P:List Nat->Prop}{u v:List Nat}(h:Mf P u)(g:Mf P v):Mf P (u++v):=by
 induction h with
 |nil=>exact g
 | @cons a b h1 h2 ih=>rw[yF];exact .cons h1 ih
theorem Yy{P:List Nat->Prop}{u:List Nat}(h:P u):Mf P u:=by
 have:=Mf.cons (P:=P) h .nil;simpa using this
theorem KL{R:E0}{P:V6}(hl:∀p,P.last.has p=true->p<R.aC.length)(w:List Nat):
  (∃p q,P.first.has p=true/\P.last.has q=true/\Q2 (R.link P.last P.first).F (R.link P.last P.first).A p w q)↔(w≠ []/\Mf (EY R P) w):=by
 have f:∀{p q:Nat} {w:List Nat},Q2 R.F R.A p w q->Q2 (R.link P.last P.first).F (R.link P.last P.first).A p w q:=fun h=>
  Q2.mono (I:=fun _=>True) (fun p x _ h=>h) (fun p B _ h=>⟨(Ee _ _ _ _ _).2 (.inl h),trivial⟩) trivial h
 have hG:∀p B,(R.link P.last P.first).F p B->R.F p B\/(P.last.has p=true/\P.first.has B=true):=by
  intro p B h;rcases(Ee _ _ _ _ _).1 h with e|⟨_,e1,e2⟩
  ·exact .inl e
  ·exact .inr ⟨e1,e2⟩
 constructor
 ·rintro⟨p,q,K,X,D⟩;refine⟨D.ne,?_⟩;generalize hn:w.length=n
  induction n using Nat.strongRecOn generalizing w p with
  |ind n ih=>
   rcases Q2.part (F:=R.F) hG D with G|⟨u,v,B,W,rfl,J,M,U,V⟩
   ·exact Yy (.inr ⟨p,q,K,X,G⟩)
   ·have hu:=J.ne;have:0<u.length:=List.length_pos_iff.2 hu;simp at hn;exact .cons (.inr ⟨p,B,K,M,J⟩) (ih v.length (by omega) v W U V rfl)
 ·rintro⟨Z,h⟩
  induction h with
  |nil=>exact absurd rfl Z
  | @cons u v K X ih=>
   rcases K with⟨rfl,_⟩|⟨p,q,D,G,J⟩
   ·simpa using ih (by simpa using Z)
   ·by_cases Y:v= []
    ·subst Y;rw[yS];exact⟨p,q,D,G,f J⟩
    ·obtain⟨B,q',M,U,V⟩:=ih Y;exact⟨p,q',D,U,Q2.iA (f J) ((Ee _ _ _ _ _).2 (.inr ⟨hl _ G,G,M⟩)) V⟩
theorem Bh{P Q:List Nat->Prop}(h:∀w,P w↔Q w)(w:List Nat):Mf P w↔Mf Q w:=by
 constructor
 ·intro g
  induction g with
  |nil=>exact .nil
  |cons h1 h2 ih=>exact .cons ((h _).1 h1) ih
 ·intro g
  induction g with
  |nil=>exact .nil
  |cons h1 h2 ih=>exact .cons ((h _).2 h1) ih
theorem Gj{R G:E0}{P:V6}(h:ID R G P)(J:∀p q,R.F p q->q<R.aC.length){p q:Nat}{w:List Nat}(K:p<R.aC.length):Q2 G.F G.A p w q↔Q2 R.F R.A p w q:=by
 constructor
 ·exact Q2.mono (I:=fun p=>p<R.aC.length) (fun p x B f=>(h.gK p x B).1 f) (fun p D B f=>⟨(h.eB p D B).1 f,J _ _ ((h.eB p D B).1 f)⟩) K
 ·exact Q2.mono (I:=fun p=>p<R.aC.length) (fun p x B f=>(h.gK p x B).2 f) (fun p D B f=>⟨(h.eB p D B).2 f,J _ _ f⟩) K
def Es(R:E0):Prop:=(∀p q,R.F p q->q<R.aC.length)/\(∀p x,R.A p x->p<R.aC.length)
theorem Ia{R f:E0}{P:V6}(h:ID R f P)(B:Es R):Es f:=by
 have:=h.le;refine⟨fun p q D=>?_,fun p x J=>?_⟩
 ·by_cases G:p<R.aC.length
  ·have:=B.1 p q ((h.eB p q G).1 D);omega
  ·exact(h.newF p q (by omega) D).2
 ·refine Classical.byContradiction fun K=>?_
  have:=B.2 p x ((h.gS p x (by omega)).1 J);omega
def W8:List I0->I0->Nat
 | [],_=>0
 |x::r,s=>if x=s then 0 else W8 r s+1
theorem Th:∀(l:List I0) (s:I0),W8 l s<=l.length
 | [],_=>zD _
 |x::r,s=>by unfold W8;split;simp;have:=Th r s;simp;omega
theorem Mg(l:List I0)(s:I0)(k:Nat)(h:k<l.length):W8 (l.drop k) s=if l[k]=s then 0 else W8 (l.drop (k+1)) s+1:=by
 rw[zY h];rfl
theorem I0.jD{a b:I0}(J:((a.lo.toNat:Int)==(b.lo.toNat:Int))=true)(K:((a.hi.toNat:Int)==(b.hi.toNat:Int))=true):a=b:=by
 obtain⟨al,f⟩:=a;obtain⟨B,h⟩:=b;simp at J K;have D:al=B:=BitVec.eq_of_toNat_eq (by omega);have G:f=h:=BitVec.eq_of_toNat_eq (by omega);rw[D,G]
theorem I0.jI{a b:I0}(f:((a.lo.toNat:Int)==(b.lo.toNat:Int))=false):a≠b:=fun e=>by subst e;simp at f
theorem I0.jH{a b:I0}(f:((a.hi.toNat:Int)==(b.hi.toNat:Int))=false):a≠b:=fun e=>by subst e;simp at f
def W5(l:List I0)(s:I0):Int:=if s.isEmpty then -1 else(W8 l s:Int)
def V0(al:Nat->I0):Nat->List I0
 |0=>[]
 |b+1=>if W8 (V0 al b) (al b)=(V0 al b).length then V0 al b++ [al b]else V0 al b
def Z2(al:Nat->I0)(b:Nat):Nat:=W8 (V0 al b) (al b)
theorem Wj(al:Nat->I0):∀b,(V0 al b).length<=b
 |0=>zD _
 |b+1=>by have:=Wj al b;unfold V0;split;simp;omega;omega
def H8(f:I0):List I0->List I0->List Int×List I0
  | [],aI=>([],aI)
  |k::ks,aI=>
    ((W5 aI (f.and k))::(H8 f ks (if W5 aI (f.and k)=(aI.length:Int)then aI++ [f.and k]else aI)).1,
     (H8 f ks (if W5 aI (f.and k)=(aI.length:Int)then aI++ [f.and k]else aI)).2)
structure B0 where
 aB:List Int
 next:List (List Int)
 deriving Inhabited
def B0.aQ:B0:=⟨[],[]⟩
def C4(R:E0)(f:List I0):Nat->Nat->List I0->B0->Option B0
 |0,_,_,_=>none
 |n+1,i,aI,g=>
  if i<aI.length then
   let r:=H8 (if 0<i then R.after (aI.getD i I0.none)else R.first) f aI
   if 61<r.2.length then none
   else C4 R f n (i+1) r.2 ⟨g.aB++ [R.aB (r.2.getD i I0.none)],g.next++ [r.1]⟩
  else some g
def E6(R:E0)(f:List I0):Option B0:=C4 R f 63 0 [I0.none] B0.aQ
def Zf(h:List Int)(f:List Bool):Bool:=h.any (fun B=>B != -1 && f.getD B.toNat false)
def L6(g:B0)(f:List Bool):Nat->List Bool×Bool
 |0=>(f,false)
 |k+1=>
  if(L6 g f k).1.getD k false=false/\Zf (g.next.getD k []) (L6 g f k).1=true then((L6 g f k).1.set k true,true)
  else L6 g f k
def Ba(g:B0):Nat->List Bool->List Bool
 |0,alive=>alive
 |n+1,alive=>if(L6 g alive g.next.length).2=true then Ba g n (L6 g alive g.next.length).1 else(L6 g alive g.next.length).1
def Oa(g:B0):List Bool:=Ba g (g.aB.length+1) (g.aB.map (fun r=>r != -1))
def N4(f:List Bool)(h:List Int):List Int:=h.map (fun B=>if B != -1 && f.getD B.toNat false then B else -1)
def G0(g:B0):B0:=⟨g.aB,g.next.map (N4 (Oa g))⟩
def K4(aE:List Int)(a b:Int):Bool:=if a== -1 || b== -1 then a==b else aE.getD a.toNat 0==aE.getD b.toNat 0
def Je(aE:List Int):List Int->List Int->Bool
 | [],_=>true
 |a::r,eG=>K4 aE a (eG.headD 0) && Je aE r eG.tail
def B7(g:B0)(aE:List Int)(a b:Nat):Bool:=
 if aE.getD a 0≠aE.getD b 0\/g.aB.getD a 0≠g.aB.getD b 0 then false else Je aE (g.next.getD a []) (g.next.getD b [])
def Kb(g:B0)(aE:List Int)(n:Nat):Nat->Nat->Option Nat
 |0,_=>none
 |f+1,k=>if k<n then(if B7 g aE k n then some k else Kb g aE n f (k+1))else none
def M0(g:B0)(aE:List Int):Nat->List Int×Nat
 |0=>([],0)
 |n+1=>match Kb g aE n (n+1) 0 with
  |some e=>((M0 g aE n).1++ [(M0 g aE n).1.getD e 0],(M0 g aE n).2)
  |none=>((M0 g aE n).1++ [((M0 g aE n).2:Int)],(M0 g aE n).2+1)
def S8(g:B0):Nat->List Int->Nat->List Int
 |0,aE,_=>aE
 |f+1,aE,count=>if(M0 g aE g.aB.length).2=count then(M0 g aE g.aB.length).1 else S8 g f (M0 g aE g.aB.length).1 (M0 g aE g.aB.length).2
def N1(g:B0):List Int:=S8 g (g.aB.length+1) (List.replicate g.aB.length 0) 0
def I3(aE:List Int):List Int->List Int×List Int->List Int×List Int
 | [],st=>st
 |to::r,st=>I3 aE r (if to != -1 && st.2.getD (aE.getD to.toNat 0).toNat 0== -1 then(st.1++ [to],st.2.set (aE.getD to.toNat 0).toNat (st.1.length:Int))else st)
def P5(g:B0)(aE:List Int):Nat->Nat->List Int×List Int->List Int×List Int
 |0,_,st=>st
 |f+1,i,st=>if i<st.1.length then P5 g aE f (i+1) (I3 aE (g.next.getD (st.1.getD i 0).toNat []) st)else st
def V1(g:B0)(aE:List Int):List Int×List Int:=
 P5 g aE (aE.length+1) 0 ([0],(List.replicate aE.length (-1:Int)).set (aE.getD 0 0).toNat 0)
def Z1(aE f:List Int)(h:List Int):List Int:=h.map (fun B=>if B != -1 then f.getD (aE.getD B.toNat 0).toNat 0 else -1)
def E1(g:B0)(aE:List Int):B0:=
 ⟨(V1 g aE).1.map (fun n=>g.aB.getD n.toNat 0),(V1 g aE).1.map (fun n=>Z1 aE (V1 g aE).2 (g.next.getD n.toNat []))⟩
def A4(R:E0):Option ((Nat->Nat)×B0):=
 match E6 R (V0 R.aJ 256)with
 |none=>none
 |some g=>some (Z2 R.aJ,E1 (G0 g) (N1 (G0 g)))
def TO(R:E0)(s:I0)(x:Nat):I0:=(R.after s).and (R.aJ x)
def Bb(R:E0):List Nat->I0
 | []=>I0.none
 |x::w=>w.foldl (TO R) (R.first.and (R.aJ x))
theorem Ft(R:E0)(x:Nat):∀(w:List Nat),w≠ []->Bb R (w++ [x])=TO R (Bb R w) x
 | [],h=>absurd rfl h
 |y::w,_=>by simp[Bb]
theorem Wy(R:E0)(q:Nat)(w:List Nat):w≠ []->((Bb R w).has q=true↔∃p,R.first.has p=true/\Q2 R.F R.A p w q):=by
 generalize V:w.length=n
 induction n using Nat.strongRecOn generalizing w q with
 |ind n ih=>
  intro K;obtain⟨u,x,rfl⟩:∃u x,w=u++ [x]:=⟨w.dropLast,w.getLast K,(List.dropLast_concat_getLast K).symm⟩
  by_cases f:u= []
  ·subst f;show((R.first.and (R.aJ x)).has q=true)↔_;rw[Fq,yL];constructor
   ·rintro⟨h,B⟩;exact⟨q,h,B,rfl⟩
   ·rintro⟨p,h,B,rfl⟩;exact⟨h,B⟩
  ·rw[Ft R x u f];unfold TO;rw[Fq,yL,PA];simp at V;constructor
   ·rintro⟨⟨i,h,B⟩,D⟩;obtain⟨p,G,J⟩:=(ih u.length (by omega) i u rfl f).1 h;exact⟨p,G,(Q2.jX f).2 ⟨⟨i,J,B⟩,D⟩⟩
   ·rintro⟨p,G,J⟩;obtain⟨⟨i,M,U⟩,D⟩:=(Q2.jX f).1 J;exact⟨⟨i,(ih u.length (by omega) i u rfl f).2 ⟨p,G,M⟩,U⟩,D⟩
theorem Jx:∀(l:List I0) (s:I0),W8 l s<l.length->l.getD (W8 l s) I0.none=s
 | [],s,h=>by simp at h
 |x::r,s,h=>by
  unfold W8 at h⊢;split
  ·rename_i e;simpa using e
  ·rename_i e;rw[if_neg e]at h;simp at h;simpa using Jx r s h
theorem DH:∀(l:List I0) (s:I0),W8 l s=l.length->s∉l
 | [],s,_=>by simp
 |x::r,s,h=>by
  unfold W8 at h;split at h
  ·simp at h
  ·rename_i e;simp at h;have:=DH r s h;simp;exact⟨fun f=>e f.symm,this⟩
theorem Sb(al:Nat->I0)(b:Nat):∀d,V0 al b<+:V0 al (b+d)
 |0=>List.prefix_refl _
 |d+1=>by
  refine(Sb al b d).trans ?_;show V0 al (b+d)<+:(if W8 (V0 al (b+d)) (al (b+d))=(V0 al (b+d)).length then V0 al (b+d)++ [al (b+d)]else V0 al (b+d));split
  ·exact List.prefix_append _ _
  ·exact List.prefix_refl _
theorem M8{l m:List I0}(h:l<+:m){k:Nat}(f:k<l.length):m.getD k I0.none=l.getD k I0.none:=by
 obtain⟨r,rfl⟩:=h;rw[zC,zQ f,<-zC]
theorem Ue(al:Nat->I0)(b n:Nat)(h:b<n):Z2 al b<(V0 al n).length/\(V0 al n).getD (Z2 al b) I0.none=al b:=by
 have B:V0 al (b+1)<+:V0 al n:=by
  have:=Sb al (b+1) (n- (b+1))
  rwa [show b+1+(n- (b+1))=n by omega]at this
 have G:=Th (V0 al b) (al b);have e:V0 al (b+1)=(if W8 (V0 al b) (al b)=(V0 al b).length then V0 al b++ [al b]else V0 al b):=rfl;have f:Z2 al b<(V0 al (b+1)).length/\(V0 al (b+1)).getD (Z2 al b) I0.none=al b:=by
  unfold Z2;rw[e];split
  ·rename_i D;rw[D];simp
  ·exact⟨by omega,Jx _ _ (by omega)⟩
 refine⟨by have:=B.length_le;omega,?_⟩;rw[M8 B f.1,f.2]
def Is(f:List I0)(h:Int)(s:I0):Prop:=(s.isEmpty=true/\h= -1)\/(s.isEmpty=false/\∃m:Nat,h=(m:Int)/\m<f.length/\f.getD m I0.none=s)
theorem Is.mono{l m:List I0}{B:Int}{s:I0}(h:Is l B s)(f:l<+:m):Is m B s:=by
 rcases h with h|⟨D,k,G,J,K⟩
 ·exact .inl h
 ·exact .inr ⟨D,k,G,by have:=f.length_le;omega,by rw[M8 f J,K]⟩
theorem Qg(f:I0):∀(h B:List I0),B<+:(H8 f h B).2/\(H8 f h B).1.length=h.length/\∀k,k<h.length->Is (H8 f h B).2 ((H8 f h B).1.getD k 0) (f.and (h.getD k I0.none))
 | [],B=>⟨List.prefix_refl _,rfl,fun k G=>by simp at G⟩
 |x::r,B=>by
  unfold H8;simp only;have D:=Qg f r (if W5 B (f.and x)=(B.length:Int)then B++ [f.and x]else B);have U:B<+:(if W5 B (f.and x)=(B.length:Int)then B++ [f.and x]else B):=by
   split
   ·exact List.prefix_append _ _
   ·exact List.prefix_refl _
  refine⟨U.trans D.1,by simp[D.2.1],fun k G=>?_⟩;cases k with
  |zero=>
   simp only[List.getD_cons_zero];refine Is.mono (l:=(if W5 B (f.and x)=(B.length:Int)then B++ [f.and x]else B)) ?_ D.1;unfold W5;cases he:(f.and x).isEmpty with
   |true=>exact .inl ⟨he,by simp⟩
   |false=>
    simp only[zV,if_false];refine .inr ⟨he,W8 B (f.and x),rfl,?_⟩;have M:=Th B (f.and x)
    by_cases K:(W8 B (f.and x):Int)=(B.length:Int)
    ·rw[if_pos K];have J:W8 B (f.and x)=B.length:=by omega
     rw[J];simp
    ·rw[if_neg K];exact⟨by omega,Jx _ _ (by omega)⟩
  |succ k=>
   simp only[List.getD_cons_succ];exact D.2.2 k (by simpa using G)
structure DT(R:E0)(kinds aI:List I0)(g:B0)(i:Nat):Prop where
 rl:g.aB.length=i
 nl:g.next.length=i
 zero:0<aI.length/\aI.getD 0 I0.none=I0.none
 aB:∀j,j<i->g.aB.getD j 0=R.aB (aI.getD j I0.none)
 row:∀j,j<i->(g.next.getD j []).length=kinds.length
 next:∀j,j<i->∀k,k<kinds.length->Is aI ((g.next.getD j []).getD k 0) ((if 0<j then R.after (aI.getD j I0.none)else R.first).and (kinds.getD k I0.none))
theorem G5{α:Type}(l:List α)(x d:α)(j:Nat):(l++ [x]).getD j d=if j<l.length then l.getD j d else if j=l.length then x else d:=by
 rw[zC,List.getElem?_append];split
 ·rw[<-zC]
 ·split
  ·rename_i h f;rw[f];simp
  ·rename_i h f;have:j-l.length≠0:=by omega
   obtain⟨m,B⟩:=Nat.exists_eq_succ_of_ne_zero this;rw[B];simp
theorem Yi(R:E0)(f:List I0):∀(n i:Nat) (B:List I0) (g J:B0),C4 R f n i B g=some J->DT R f B g i->i<=B.length->∃D,DT R f D J D.length
 |0,i,B,g,J,h,_,_=>by simp[C4]at h
 |n+1,i,B,g,J,h,ho,hi=>by
  unfold C4 at h
  by_cases U:i<B.length
  ·rw[if_pos U]at h;generalize M:(if 0<i then R.after (B.getD i I0.none)else R.first)=aft at h;have G:=Qg aft f B;generalize X:H8 aft f B=r at h G;simp only at h;split at h
   ·cases h
   ·have Y:=G.1.length_le;refine Yi R f n (i+1) _ _ J h ?_ (by omega);refine⟨by simp[ho.rl],by simp[ho.nl],⟨by omega,by rw[M8 G.1 ho.zero.1];exact ho.zero.2⟩,fun j V=>?_,fun j V=>?_,fun j V k W=>?_⟩
    ·rw[G5,ho.rl];split
     ·rename_i K;rw[ho.aB j K,M8 G.1 (by omega)]
     ·rw[if_pos (by omega),show j=i by omega]
    ·rw[G5,ho.nl];split
     ·rename_i K;exact ho.row j K
     ·rw[if_pos (by omega)];exact G.2.1
    ·rw[G5,ho.nl];split
     ·rename_i K;rw[M8 G.1 (by omega:j<B.length)];exact(ho.next j K k W).mono G.1
     ·rw[if_pos (by omega),M8 G.1 (by omega:j<B.length),show j=i by omega,M];exact G.2.2 k W
  ·rw[if_neg U]at h;cases h;have:i=B.length:=by omega
   subst this;exact⟨B,ho⟩
theorem Oz{R:E0}{f:List I0}{g:B0}(h:E6 R f=some g):∃B,DT R f B g B.length:=
 Yi R f 63 0 [I0.none] B0.aQ g h ⟨rfl,rfl,⟨by simp,rfl⟩,fun j D=>by omega,fun j D=>by omega,fun j D=>by omega⟩ (by simp)
def W0(g:B0)(s:Int)(k:Nat):Int:=if s<0 then -1 else(g.next.getD s.toNat []).getD k 0
def G3(g:B0)(s:Int)(f:List Nat):Int:=f.foldl (W0 g) s
def V4(g:B0)(s:Int):Int:=if s<0 then -1 else g.aB.getD s.toNat 0
theorem I9(g:B0):∀(f:List Nat) (s:Int),s<0->G3 g s f=if f= []then s else -1
 | [],s,h=>rfl
 |k::f,s,h=>by
  show G3 g (W0 g s k) f=_;have e:W0 g s k= -1:=by unfold W0;rw[if_pos h]
  rw[e,I9 g f (-1) (by omega)];simp
theorem UG{R:E0}{f B:List I0}{g:B0}(U:DT R f B g B.length)(hk:∀b,b<256->Z2 R.aJ b<f.length/\f.getD (Z2 R.aJ b) I0.none=R.aJ b)(w:List Nat):
  w≠ []->(∀x∈w,x<256)->((G3 g 0 (w.map (Z2 R.aJ))= -1/\(Bb R w).isEmpty=true)\/∃m:Nat,G3 g 0 (w.map (Z2 R.aJ))=(m:Int)/\0<m/\m<B.length/\B.getD m I0.none=Bb R w):=by
 generalize hn:w.length=n
 induction n using Nat.strongRecOn generalizing w with
 |ind n ih=>
  intro X Y;obtain⟨u,x,rfl⟩:∃u x,w=u++ [x]:=⟨w.dropLast,w.getLast X,(List.dropLast_concat_getLast X).symm⟩;have W:=hk x (Y x (by simp));have J:∀(j:Nat),j<B.length->∀s,(if 0<j then R.after (B.getD j I0.none)else R.first).and (R.aJ x)=s->((W0 g (j:Int) (Z2 R.aJ x)= -1/\s.isEmpty=true)\/∃m:Nat,W0 g (j:Int) (Z2 R.aJ x)=(m:Int)/\0<m/\m<B.length/\B.getD m I0.none=s):=by
   intro j hj s hs;have G:=U.next j hj (Z2 R.aJ x) W.1;rw[W.2,hs]at G;unfold W0;rw[if_neg (by omega),zH];rcases G with⟨h,D⟩|⟨h,m,D,K,M⟩
   ·exact .inl ⟨D,h⟩
   ·refine .inr ⟨m,D,?_,K,M⟩;refine Nat.pos_of_ne_zero fun e=>?_
    rw[e,U.zero.2]at M;rw[<-M]at h;cases h
  by_cases V:u= []
  ·subst V;exact J 0 U.zero.1 _ rfl
  ·simp at hn;have hi:=ih u.length (by omega) u rfl V (fun y hy=>Y y (by simp[hy]));rw[Ft R x u V];have Z:G3 g 0 ((u++ [x]).map (Z2 R.aJ))=W0 g (G3 g 0 (u.map (Z2 R.aJ))) (Z2 R.aJ x):=by simp[G3]
   rw[Z];rcases hi with⟨G,h⟩|⟨m,G,h,D,K⟩
   ·left
    rw[G];refine⟨by unfold W0;rw[if_pos (by omega)],?_⟩;rw[Hdx]at h⊢;intro p;unfold TO;rw[Fq];cases e:(R.after (Bb R u)).has p with
    |false=>rfl
    |true=>
     obtain⟨i,D,_⟩:=(PA R (Bb R u) p).1 e;rw[h i]at D;cases D
   ·rw[G];exact J m D _ (by rw[if_pos h,K];rfl)
inductive BT where
 |leaf (i:Nat) (A:Nat->Bool)
 |row (l r:BT)
 |or(l r:BT)
 |plus (l:BT)
 |maybe (l:BT)
namespace BT
def places:BT->Nat
 |leaf _ _=>1
 |row l r=>l.places+r.places
 |or l r=>l.places+r.places
 |plus l=>l.places
 |maybe l=>l.places
def glush:BT->E0->V6×E0
 |leaf i A,R=>(R.addPart,R.add A)
 |row l r,R=>(F4 (l.glush R).1 (r.glush (l.glush R).2).1,(r.glush (l.glush R).2).2.chain (l.glush R).1 (r.glush (l.glush R).2).1)
 |or l r,R=>(X7 (l.glush R).1 (r.glush (l.glush R).2).1,(r.glush (l.glush R).2).2)
 |plus l,R=>((l.glush R).1,(l.glush R).2.link (l.glush R).1.last (l.glush R).1.first)
 |maybe l,R=>({ (l.glush R).1 with empty:=true },(l.glush R).2)
def aU:BT->List Nat->Prop
 |leaf i A,w=>∃x,w= [x]/\A x=true
 |row l r,w=>∃u v,w=u++v/\l.aU u/\r.aU v
 |or l r,w=>l.aU w\/r.aU w
 |plus l,w=>∃u v,w=u++v/\Mf l.aU u/\l.aU v
 |maybe l,w=>w= []\/l.aU w
def Last:BT->Nat->List Nat->Nat->Prop
 |leaf i A,n,w,q=>∃x,w= [x]/\A x=true/\q=n
 |row l r,n,w,q=>l.Last n w q\/∃u v,w=u++v/\l.aU u/\r.Last (n+l.places) v q
 |or l r,n,w,q=>l.Last n w q\/r.Last (n+l.places) w q
 |plus l,n,w,q=>∃u v,w=u++v/\Mf l.aU u/\l.Last n v q
 |maybe l,n,w,q=>l.Last n w q
def aX:BT->List Nat->Nat->Prop
 |leaf i A,w,q=>∃x,w= [x]/\A x=true/\q=i
 |row l r,w,q=>l.aX w q\/∃u v,w=u++v/\l.aU u/\r.aX v q
 |or l r,w,q=>l.aX w q\/r.aX w q
 |plus l,w,q=>∃u v,w=u++v/\Mf l.aU u/\l.aX v q
 |maybe l,w,q=>l.aX w q
def bF:BT->List Nat
 |leaf i _=>[i]
 |row l r=>l.bF++r.bF
 |or l r=>l.bF++r.bF
 |plus l=>l.bF
 |maybe l=>l.bF
theorem cB:∀t:BT,t.bF.length=t.places
 |leaf _ _=>rfl
 |row l r=>by simp[bF,places,cB l,cB r]
 |or l r=>by simp[bF,places,cB l,cB r]
 |plus l=>cB l
 |maybe l=>cB l
end BT
theorem W4:∀(t:BT) (R:E0),(t.glush R).2.aC.length=R.aC.length+t.places
 |.leaf i A,R=>by simp[BT.glush,BT.places,E0.add]
 |.row l r,R=>by simp[BT.glush,BT.places,E0.chain,Z6,W4 l,W4 r];omega
 |.or l r,R=>by simp[BT.glush,BT.places,W4 l,W4 r];omega
 |.plus l,R=>by simp[BT.glush,BT.places,Z6,W4 l]
 |.maybe l,R=>by simp[BT.glush,BT.places,W4 l]
theorem T3:∀(t:BT) (R:E0),R.aC.length+t.places<=128->ID R (t.glush R).2 (t.glush R).1
 |.leaf i A,R,hn=>by
  simp only[BT.places]at hn;have J:∀p q,(R.add A).F p q↔R.F p q:=by
   intro p q;unfold E0.F E0.add;simp only
   by_cases f:p<R.aC.length
   ·rw[zC,zQ f,<-zC]
   ·constructor
    ·intro h;have W:=Vg h;simp at W;have:p=R.aC.length:=by omega
     subst this;simp[N9]at h
    ·intro h;exact absurd (Vg h) f
  have G:∀p x,p≠R.aC.length->((R.add A).A p x↔R.A p x):=by
   intro p x f;unfold E0.A E0.add Ud;simp only;split
   ·rw[Ta,Be _ _ (by omega)];simp[Ne.symm f]
   ·rfl
  have U:∀p,(I0.only R.aC.length).has p=true->R.aC.length<=p/\p<(R.add A).aC.length:=by
   intro p f;rw[Be _ _ (by omega)]at f;simp at f;subst f;simp[E0.add]
  refine⟨by simp[BT.glush,E0.add],fun p q f=>J p q,fun p q f X=>?_,fun p x f=>G p x (by omega),fun p x f=>G p x (by simp[BT.glush,E0.add]at f;omega),U,U,rfl,rfl⟩;have:=RZ ((J p q).1 X);omega
 |.row l r,R,hn=>by
  simp only[BT.places]at hn;have B:=T3 l R (by omega);have V:=W4 l R;have D:=T3 r (l.glush R).2 (by omega);have e2:=W4 r (l.glush R).2;have Y:=B.le;have Z:=D.le;have K:∀p,(F4 (l.glush R).1 (r.glush (l.glush R).2).1).first.has p=true->R.aC.length<=p/\p<(r.glush (l.glush R).2).2.aC.length:=by
   intro p f;unfold F4 at f;simp only at f;split at f
   ·rw[Ta,yX]at f;rcases f with e|e
    ·have:=B.first p e;omega
    ·have:=D.first p e;omega
   ·have:=B.first p f;omega
  have M:∀p,(F4 (l.glush R).1 (r.glush (l.glush R).2).1).last.has p=true->R.aC.length<=p/\p<(r.glush (l.glush R).2).2.aC.length:=by
   intro p f;unfold F4 at f;simp only at f;split at f
   ·rw[Ta,yX]at f;rcases f with e|e
    ·have:=D.last p e;omega
    ·have:=B.last p e;omega
   ·have:=D.last p f;omega
  exact QB (B.trans D K M) (fun p f=>(B.last p f).1) (fun p f=>by have:=D.first p f;omega) K M
 |.or l r,R,hn=>by
  simp only[BT.places]at hn;have B:=T3 l R (by omega);have V:=W4 l R;have D:=T3 r (l.glush R).2 (by omega);have Y:=B.le;have Z:=D.le;have l3:(BT.glush (.or l r) R).2.aC.length=(r.glush (l.glush R).2).2.aC.length:=rfl;refine B.trans D (fun p f=>?_) (fun p f=>?_)
  ·rw[show(BT.glush (.or l r) R).1.first=(l.glush R).1.first.or (r.glush (l.glush R).2).1.first from rfl,Ta,yX]at f;rcases f with e|e
   ·have:=B.first p e;omega
   ·have:=D.first p e;omega
  ·rw[show(BT.glush (.or l r) R).1.last=(l.glush R).1.last.or (r.glush (l.glush R).2).1.last from rfl,Ta,yX]at f;rcases f with e|e
   ·have:=B.last p e;omega
   ·have:=D.last p e;omega
 |.plus l,R,hn=>by
  have B:=T3 l R hn;exact QB B (fun p f=>(B.last p f).1) (fun p f=>B.first p f) B.first B.last
 |.maybe l,R,hn=>by
  have B:=T3 l R hn;exact⟨B.le,B.eB,B.newF,B.gK,B.gS,B.first,B.last,B.dO,B.fA⟩
theorem K9:∀(t:BT) (R:E0),R.aC.length+t.places<=128->Es R->∀w,EY (t.glush R).2 (t.glush R).1 w↔t.aU w
 |.leaf i A,R,hn,hc,w=>by
  simp only[BT.places]at hn;have hA:∀x,(R.add A).A R.aC.length x↔A x=true:=by
   intro x;unfold E0.A E0.add Ud;simp only;have ac:(R.aJ x).has R.aC.length=false:=by
    cases e:(R.aJ x).has R.aC.length
    ·rfl
    ·have:=hc.2 _ x e;omega
   split
   ·rename_i h;rw[Ta,Be _ _ (by omega)];simp[h]
   ·rename_i h;rw[ac];simp at h;simp[h]
  have aa:=T3 (.leaf i A) R hn;constructor
  ·rintro(⟨_,h⟩|⟨p,q,f,B,J⟩)
   ·cases h
   ·have a2:(I0.only R.aC.length).has p=true:=f;rw[Be _ _ (by omega)]at a2;simp at a2;subst a2;cases w with
    |nil=>exact J.elim
    |cons x w=>
     cases w with
     |nil=>exact⟨x,rfl,(hA x).1 J.1⟩
     |cons y w=>
      obtain⟨_,G,D,_⟩:=J
      exfalso
      have h5:(R.add A).F R.aC.length G:=D;unfold E0.F E0.add at h5;simp[N9]at h5
  ·rintro⟨x,rfl,h⟩;have ho:(I0.only R.aC.length).has R.aC.length=true:=by rw[Be _ _ (by omega)];simp
   exact .inr ⟨R.aC.length,R.aC.length,ho,ho,(hA x).2 h,rfl⟩
 |.row l r,R,hn,hc,w=>by
  simp only[BT.places]at hn;have V:=T3 l R (by omega);have e1:=W4 l R;have c1:=Ia V hc;have X:=T3 r (l.glush R).2 (by omega);have c2:=Ia X c1;have U:=K9 l R (by omega) hc;have w2:=K9 r (l.glush R).2 (by omega) c1;have l1:=V.le;have l2:=X.le;simp only[BT.aU,BT.glush,E0.chain];generalize hP:(l.glush R).1=P at*;generalize a8:(l.glush R).2=R1 at*;generalize hQ:(r.glush R1).1=Q at*;generalize a9:(r.glush R1).2=R2 at*;have a0:∀{p q:Nat} {w:List Nat},p<R1.aC.length->(Q2 R2.F R2.A p w q↔Q2 R1.F R1.A p w q):=fun K=>Gj X c1.1 K
  have hG:∀p G,(R2.link P.last Q.first).F p G->R2.F p G\/(P.last.has p=true/\Q.first.has G=true):=by
   intro p G h;rcases(Ee _ _ _ _ _).1 h with e|⟨_,e1,e2⟩
   ·exact .inl e
   ·exact .inr ⟨e1,e2⟩
  have Y:∀{p q:Nat} {w:List Nat},Q2 R2.F R2.A p w q->Q2 (R2.link P.last Q.first).F (R2.link P.last Q.first).A p w q:=fun h=>
   Q2.mono (I:=fun _=>True) (fun p x _ h=>h) (fun p G _ h=>⟨(Ee _ _ _ _ _).2 (.inl h),trivial⟩) trivial h
  have a6:∀{p q:Nat} {w:List Nat},R1.aC.length<=p->Q2 (R2.link P.last Q.first).F (R2.link P.last Q.first).A p w q->Q2 R2.F R2.A p w q:=fun K h=>by
   refine Q2.mono (I:=fun p=>R1.aC.length<=p) (fun p x _ h=>h) (fun p G hi h=>?_) K h;rcases hG _ _ h with e|⟨e1,_⟩
   ·exact⟨e,(X.newF p G hi e).1⟩
   ·have:=V.last p e1;omega
  have hf:∀p,(F4 P Q).first.has p=true↔(P.first.has p=true\/(P.empty=true/\Q.first.has p=true)):=by
   intro p;unfold F4;simp only;cases P.empty <;>simp[Ta]
  have hl:∀p,(F4 P Q).last.has p=true↔(Q.last.has p=true\/(Q.empty=true/\P.last.has p=true)):=by
   intro p;unfold F4;simp only;cases Q.empty <;>simp[Ta]
  constructor
  ·rintro(⟨rfl,h⟩|⟨p,q,f,B,J⟩)
   ·have h':(P.empty && Q.empty)=true:=h;rw[yL]at h';exact⟨[],[],rfl,(U []).1 (.inl ⟨rfl,h'.1⟩),(w2 []).1 (.inl ⟨rfl,h'.2⟩)⟩
   ·rcases(hf p).1 f with D|⟨D,h5⟩
    ·have K:=V.first p D
     rcases Q2.part (F:=R2.F) hG J with h6|⟨u,v,G,a7,rfl,h6,Z,h8,h9⟩
     ·have a4:=(a0 K.2).1 h6;have hq:=Q2.bT (I:=fun p=>p<R1.aC.length) (fun p G hi h=>c1.1 _ _ h) K.2 a4;rcases(hl q).1 B with Z|⟨Z,h8⟩
      ·have:=X.last q Z;omega
      ·exact⟨w,[],by simp,(U w).1 (.inr ⟨p,q,D,h8,a4⟩),(w2 []).1 (.inl ⟨rfl,Z⟩)⟩
     ·have a1:=X.first a7 h8
      have a5:=a6 a1.1 h9;have hq:=Q2.bT (I:=fun p=>R1.aC.length<=p) (fun p G hi h=>(X.newF p G hi h).1) a1.1 a5;rcases(hl q).1 B with W|⟨_,W⟩
      ·exact⟨u,v,rfl,(U u).1 (.inr ⟨p,G,D,Z,(a0 K.2).1 h6⟩),(w2 v).1 (.inr ⟨a7,q,h8,W,a5⟩)⟩
      ·have:=V.last q W;omega
    ·have K:=X.first p h5
     have M:=a6 K.1 J;have hq:=Q2.bT (I:=fun p=>R1.aC.length<=p) (fun p G hi h=>(X.newF p G hi h).1) K.1 M;rcases(hl q).1 B with W|⟨_,W⟩
     ·exact⟨[],w,rfl,(U []).1 (.inl ⟨rfl,D⟩),(w2 w).1 (.inr ⟨p,q,h5,W,M⟩)⟩
     ·have:=V.last q W;omega
  ·rintro⟨u,v,rfl,hu,hv⟩;rcases(U u).2 hu with⟨rfl,f⟩|⟨p,q,f,B,J⟩
   ·rcases(w2 v).2 hv with⟨rfl,D⟩|⟨G,q',D,h5,h6⟩
    ·exact .inl ⟨rfl,by show(P.empty && Q.empty)=true;rw[f,D];rfl⟩
    ·exact .inr ⟨G,q',(hf G).2 (.inr ⟨f,D⟩),(hl q').2 (.inl h5),by simpa using Y h6⟩
   ·have M:=(a0 (V.first p f).2).2 J;rcases(w2 v).2 hv with⟨rfl,D⟩|⟨G,q',D,h5,h6⟩
    ·exact .inr ⟨p,q,(hf p).2 (.inl f),(hl q).2 (.inr ⟨D,B⟩),by simpa using Y M⟩
    ·refine .inr ⟨p,q',(hf p).2 (.inl f),(hl q').2 (.inl h5),Q2.iA (Y M) ((Ee _ _ _ _ _).2 (.inr ⟨?_,B,D⟩)) (Y h6)⟩;have:=V.last q B;omega
 |.or l r,R,hn,hc,w=>by
  simp only[BT.places]at hn;have V:=T3 l R (by omega);have e1:=W4 l R;have c1:=Ia V hc;have X:=T3 r (l.glush R).2 (by omega);have U:=K9 l R (by omega) hc;have w2:=K9 r (l.glush R).2 (by omega) c1;simp only[BT.aU,BT.glush];generalize hP:(l.glush R).1=P at*;generalize a8:(l.glush R).2=R1 at*;generalize hQ:(r.glush R1).1=Q at*;generalize a9:(r.glush R1).2=R2 at*;have a0:∀{p q:Nat} {w:List Nat},p<R1.aC.length->(Q2 R2.F R2.A p w q↔Q2 R1.F R1.A p w q):=fun K=>Gj X c1.1 K
  have hf:∀p,(X7 P Q).first.has p=true↔(P.first.has p=true\/Q.first.has p=true):=by
   intro p;unfold X7;simp[Ta]
  have hl:∀p,(X7 P Q).last.has p=true↔(P.last.has p=true\/Q.last.has p=true):=by
   intro p;unfold X7;simp[Ta]
  constructor
  ·rintro(⟨rfl,h⟩|⟨p,q,f,B,J⟩)
   ·have h':(P.empty || Q.empty)=true:=h;rw[yX]at h';rcases h' with e|e
    ·exact .inl ((U []).1 (.inl ⟨rfl,e⟩))
    ·exact .inr ((w2 []).1 (.inl ⟨rfl,e⟩))
   ·rcases(hf p).1 f with D|D
    ·have K:=V.first p D
     have M:=(a0 K.2).1 J;have hq:=Q2.bT (I:=fun p=>p<R1.aC.length) (fun p G hi h=>c1.1 _ _ h) K.2 M;rcases(hl q).1 B with Z|Z
     ·exact .inl ((U w).1 (.inr ⟨p,q,D,Z,M⟩))
     ·have:=X.last q Z;omega
    ·have K:=X.first p D
     have hq:=Q2.bT (I:=fun p=>R1.aC.length<=p) (fun p G hi h=>(X.newF p G hi h).1) K.1 J;rcases(hl q).1 B with Z|Z
     ·have:=V.last q Z;omega
     ·exact .inr ((w2 w).1 (.inr ⟨p,q,D,Z,J⟩))
  ·rintro(h|h)
   ·rcases(U w).2 h with⟨rfl,f⟩|⟨p,q,f,B,J⟩
    ·exact .inl ⟨rfl,by show(P.empty || Q.empty)=true;rw[f];rfl⟩
    ·exact .inr ⟨p,q,(hf p).2 (.inl f),(hl q).2 (.inl B),(a0 (V.first p f).2).2 J⟩
   ·rcases(w2 w).2 h with⟨rfl,f⟩|⟨p,q,f,B,J⟩
    ·exact .inl ⟨rfl,by show(P.empty || Q.empty)=true;rw[f];simp⟩
    ·exact .inr ⟨p,q,(hf p).2 (.inr f),(hl q).2 (.inr B),J⟩
 |.plus l,R,hn,hc,w=>by
  have V:=T3 l R hn;have U:=K9 l R hn hc;simp only[BT.aU,BT.glush];have hw:=KL (R:=(l.glush R).2) (P:=(l.glush R).1) (fun p K=>(V.last p K).2) w;rw[Bh U]at hw;have a3:(∃u v,w=u++v/\Mf l.aU u/\l.aU v)↔((w= []/\l.aU [])\/(w≠ []/\Mf l.aU w)):=by
   constructor
   ·rintro⟨u,v,rfl,f,B⟩
    by_cases he:u++v= []
    ·left
     rw[List.append_eq_nil_iff]at he;rw[he.2]at B;exact⟨by rw[he.1,he.2];rfl,B⟩
    ·exact .inr ⟨he,Yu f (Yy B)⟩
   ·rintro(⟨rfl,h⟩|⟨ab,h⟩)
    ·exact⟨[],[],rfl,.nil,h⟩
    ·clear hw
     induction h with
     |nil=>exact absurd rfl ab
     | @cons u v f B ih=>
      by_cases hv:v= []
      ·exact⟨[],u,by rw[hv];simp,.nil,f⟩
      ·obtain⟨u',v',rfl,J,D⟩:=ih hv;exact⟨u++u',v',by simp,.cons f J,D⟩
  rw[a3];constructor
  ·rintro(⟨rfl,h⟩|h)
   ·exact .inl ⟨rfl,(U []).1 (.inl ⟨rfl,h⟩)⟩
   ·exact .inr (hw.1 h)
  ·rintro(⟨rfl,h⟩|h)
   ·rcases(U []).2 h with⟨_,f⟩|⟨p,q,f,B,J⟩
    ·exact .inl ⟨rfl,f⟩
    ·exact J.elim
   ·exact .inr (hw.2 h)
 |.maybe l,R,hn,hc,w=>by
  have U:=K9 l R hn hc w;simp only[BT.aU,BT.glush];constructor
  ·rintro(⟨rfl,h⟩|h)
   ·exact .inl rfl
   ·exact .inr (U.1 (.inr h))
  ·rintro(rfl|h)
   ·exact .inl ⟨rfl,rfl⟩
   ·rcases U.2 h with⟨f,B⟩|B
    ·exact .inl ⟨f,rfl⟩
    ·exact .inr B
theorem Nb:∀(t:BT) (R:E0),R.aC.length+t.places<=128->Es R->∀w q,(∃p,(t.glush R).1.first.has p=true/\Q2 (t.glush R).2.F (t.glush R).2.A p w q)↔t.Last R.aC.length w q
 |.leaf i A,R,hn,hc,w,q=>by
  simp only[BT.places]at hn;have hA:∀x,(R.add A).A R.aC.length x↔A x=true:=by
   intro x;unfold E0.A E0.add Ud;simp only;have a6:(R.aJ x).has R.aC.length=false:=by
    cases e:(R.aJ x).has R.aC.length
    ·rfl
    ·have:=hc.2 _ x e;omega
   split
   ·rename_i h;rw[Ta,Be _ _ (by omega)];simp[h]
   ·rename_i h;rw[a6];simp at h;simp[h]
  constructor
  ·rintro⟨p,f,J⟩;have a0:(I0.only R.aC.length).has p=true:=f;rw[Be _ _ (by omega)]at a0;simp at a0;subst a0;cases w with
   |nil=>exact J.elim
   |cons x w=>
    cases w with
    |nil=>exact⟨x,rfl,(hA x).1 J.1,J.2.symm⟩
    |cons y w=>
     obtain⟨_,B,G,_⟩:=J
     exfalso
     have W:(R.add A).F R.aC.length B:=G;unfold E0.F E0.add at W;simp[N9]at W
  ·rintro⟨x,rfl,h,rfl⟩;have ho:(I0.only R.aC.length).has R.aC.length=true:=by rw[Be _ _ (by omega)];simp
   exact⟨R.aC.length,ho,(hA x).2 h,rfl⟩
 |.row l r,R,hn,hc,w,q=>by
  simp only[BT.places]at hn;have M:=T3 l R (by omega);have X:=W4 l R;have c1:=Ia M hc;have g2:=T3 r (l.glush R).2 (by omega);have w1:=K9 l R (by omega) hc;have k1:=Nb l R (by omega) hc;have k2:=Nb r (l.glush R).2 (by omega) c1;rw[X]at k2;have l1:=M.le;have l2:=g2.le;simp only[BT.Last,BT.glush,E0.chain];generalize hP:(l.glush R).1=P at*;generalize a1:(l.glush R).2=R1 at*;generalize hQ:(r.glush R1).1=Q at*;generalize a4:(r.glush R1).2=R2 at*;have K:∀{p q:Nat} {w:List Nat},p<R1.aC.length->(Q2 R2.F R2.A p w q↔Q2 R1.F R1.A p w q):=fun hp=>Gj g2 c1.1 hp
  have hG:∀p B,(R2.link P.last Q.first).F p B->R2.F p B\/(P.last.has p=true/\Q.first.has B=true):=by
   intro p B h;rcases(Ee _ _ _ _ _).1 h with e|⟨_,X,e2⟩
   ·exact .inl e
   ·exact .inr ⟨X,e2⟩
  have D:∀{p q:Nat} {w:List Nat},Q2 R2.F R2.A p w q->Q2 (R2.link P.last Q.first).F (R2.link P.last Q.first).A p w q:=fun h=>
   Q2.mono (I:=fun _=>True) (fun p x _ h=>h) (fun p B _ h=>⟨(Ee _ _ _ _ _).2 (.inl h),trivial⟩) trivial h
  have a2:∀{p q:Nat} {w:List Nat},R1.aC.length<=p->Q2 (R2.link P.last Q.first).F (R2.link P.last Q.first).A p w q->Q2 R2.F R2.A p w q:=fun hp h=>by
   refine Q2.mono (I:=fun p=>R1.aC.length<=p) (fun p x _ h=>h) (fun p B hi h=>?_) hp h;rcases hG _ _ h with e|⟨X,_⟩
   ·exact⟨e,(g2.newF p B hi e).1⟩
   ·have:=M.last p X;omega
  have Z:∀p,(F4 P Q).first.has p=true↔(P.first.has p=true\/(P.empty=true/\Q.first.has p=true)):=by
   intro p;unfold F4;simp only;cases P.empty <;>simp[Ta]
  constructor
  ·rintro⟨p,f,J⟩;rcases(Z p).1 f with G|⟨G,W⟩
   ·have hp:=M.first p G
    rcases Q2.part (F:=R2.F) hG J with V|⟨u,v,B,Y,rfl,V,h7,h8,h9⟩
    ·exact .inl ((k1 w q).1 ⟨p,G,(K hp.2).1 V⟩)
    ·exact .inr ⟨u,v,rfl,(w1 u).1 (.inr ⟨p,B,G,h7,(K hp.2).1 V⟩),(k2 v q).1 ⟨Y,h8,a2 (g2.first Y h8).1 h9⟩⟩
   ·exact .inr ⟨[],w,rfl,(w1 []).1 (.inl ⟨rfl,G⟩),(k2 w q).1 ⟨p,W,a2 (g2.first p W).1 J⟩⟩
  ·rintro(h|⟨u,v,rfl,hu,hv⟩)
   ·obtain⟨p,f,U⟩:=(k1 w q).2 h;exact⟨p,(Z p).2 (.inl f),D ((K (M.first p f).2).2 U)⟩
   ·obtain⟨B,G,V⟩:=(k2 v q).2 hv;rcases(w1 u).2 hu with⟨rfl,f⟩|⟨p,q',f,U,J⟩
    ·exact⟨B,(Z B).2 (.inr ⟨f,G⟩),by simpa using D V⟩
    ·refine⟨p,(Z p).2 (.inl f),Q2.iA (D ((K (M.first p f).2).2 J)) ((Ee _ _ _ _ _).2 (.inr ⟨?_,U,G⟩)) (D V)⟩;have:=M.last q' U;omega
 |.or l r,R,hn,hc,w,q=>by
  simp only[BT.places]at hn;have M:=T3 l R (by omega);have X:=W4 l R;have c1:=Ia M hc;have g2:=T3 r (l.glush R).2 (by omega);have k1:=Nb l R (by omega) hc;have k2:=Nb r (l.glush R).2 (by omega) c1;rw[X]at k2;simp only[BT.Last,BT.glush];generalize hP:(l.glush R).1=P at*;generalize a1:(l.glush R).2=R1 at*;generalize hQ:(r.glush R1).1=Q at*;generalize a4:(r.glush R1).2=R2 at*;have K:∀{p q:Nat} {w:List Nat},p<R1.aC.length->(Q2 R2.F R2.A p w q↔Q2 R1.F R1.A p w q):=fun hp=>Gj g2 c1.1 hp
  have Z:∀p,(X7 P Q).first.has p=true↔(P.first.has p=true\/Q.first.has p=true):=by
   intro p;unfold X7;simp[Ta]
  constructor
  ·rintro⟨p,f,J⟩;rcases(Z p).1 f with G|G
   ·exact .inl ((k1 w q).1 ⟨p,G,(K (M.first p G).2).1 J⟩)
   ·exact .inr ((k2 w q).1 ⟨p,G,J⟩)
  ·rintro(h|h)
   ·obtain⟨p,f,U⟩:=(k1 w q).2 h;exact⟨p,(Z p).2 (.inl f),(K (M.first p f).2).2 U⟩
   ·obtain⟨p,f,U⟩:=(k2 w q).2 h;exact⟨p,(Z p).2 (.inr f),U⟩
 |.plus l,R,hn,hc,w,q=>by
  have M:=T3 l R hn;have w1:=K9 l R hn hc;have k1:=Nb l R hn hc;simp only[BT.Last,BT.glush];generalize hP:(l.glush R).1=P at*;generalize a1:(l.glush R).2=R1 at*;have D:∀{p q:Nat} {w:List Nat},Q2 R1.F R1.A p w q->Q2 (R1.link P.last P.first).F (R1.link P.last P.first).A p w q:=fun h=>
   Q2.mono (I:=fun _=>True) (fun p x _ h=>h) (fun p B _ h=>⟨(Ee _ _ _ _ _).2 (.inl h),trivial⟩) trivial h
  have hG:∀p B,(R1.link P.last P.first).F p B->R1.F p B\/(P.last.has p=true/\P.first.has B=true):=by
   intro p B h;rcases(Ee _ _ _ _ _).1 h with e|⟨_,X,e2⟩
   ·exact .inl e
   ·exact .inr ⟨X,e2⟩
  constructor
  ·rintro⟨p,f,J⟩;generalize a5:w.length=n
   induction n using Nat.strongRecOn generalizing w p with
   |ind n ih=>
    rcases Q2.part (F:=R1.F) hG J with G|⟨u,v,B,Y,rfl,W,V,h7,h8⟩
    ·exact⟨[],w,rfl,.nil,(k1 w q).1 ⟨p,f,G⟩⟩
    ·have hu:=W.ne;have:0<u.length:=List.length_pos_iff.2 hu;simp at a5;obtain⟨u',v',rfl,h9,a3⟩:=ih v.length (by omega) v Y h7 h8 rfl;exact⟨u++u',v',by simp,.cons ((w1 u).1 (.inr ⟨p,B,f,V,W⟩)) h9,a3⟩
  ·rintro⟨u,v,rfl,hu,hv⟩
   induction hu with
   |nil=>
    obtain⟨p,f,U⟩:=(k1 v q).2 hv;exact⟨p,f,by simpa using D U⟩
   | @cons a b f U ih=>
    obtain⟨B,V,h8⟩:=ih;rcases(w1 a).2 f with⟨rfl,_⟩|⟨p,q',J,G,W⟩
    ·exact⟨B,V,by simpa using h8⟩
    ·rw[yF];exact⟨p,J,Q2.iA (D W) ((Ee _ _ _ _ _).2 (.inr ⟨(M.last q' G).2,G,V⟩)) h8⟩
 |.maybe l,R,hn,hc,w,q=>Nb l R hn hc w q
theorem BT.bG:∀(t:BT) (n:Nat) (w:List Nat) (q:Nat),t.Last n w q->n<=q/\q<n+t.places
 |.leaf i A,n,w,q,h=>by obtain⟨x,_,_,rfl⟩:=h;simp[places]
 |.row l r,n,w,q,h=>by
  simp only[places];rcases h with h|⟨u,v,_,_,h⟩
  ·have:=bG l n w q h;omega
  ·have:=bG r _ v q h;omega
 |.or l r,n,w,q,h=>by
  simp only[places];rcases h with h|h
  ·have:=bG l n w q h;omega
  ·have:=bG r _ w q h;omega
 |.plus l,n,w,q,h=>by obtain⟨u,v,_,_,h⟩:=h;exact bG l n v q h
 |.maybe l,n,w,q,h=>bG l n w q h
theorem Cb{l m:List Nat}{k:Nat}(h:k<l.length):(l++m).getD k 0=l.getD k 0:=by
 rw[zC,zQ h,<-zC]
theorem Ca{l m:List Nat}{k n:Nat}(h:l.length=n)(f:n<=k):(l++m).getD k 0=m.getD (k-n) 0:=by
 rw[zC,zX (by omega),<-zC,h]
theorem BT.bS:∀(t:BT) (n:Nat) (w:List Nat) (a:Nat),t.aX w a↔∃q,t.Last n w q/\t.bF.getD (q-n) 0=a
 |.leaf i A,n,w,a=>by
  constructor
  ·rintro⟨x,G,J,rfl⟩;exact⟨n,⟨x,G,J,rfl⟩,by simp[bF]⟩
  ·rintro⟨q,⟨x,G,J,rfl⟩,D⟩;exact⟨x,G,J,by simpa[bF]using D.symm⟩
 |.row l r,n,w,a=>by
  have K:=bS l n;have M:=bS r (n+l.places);have e:=cB l;constructor
  ·rintro(h|⟨u,v,G,J,D⟩)
   ·obtain⟨q,B,f⟩:=(K w a).1 h;have:=bG l n w q B;exact⟨q,.inl B,by rw[bF,Cb (by omega)];exact f⟩
   ·obtain⟨q,B,f⟩:=(M v a).1 D;have:=bG r _ v q B;exact⟨q,.inr ⟨u,v,G,J,B⟩,by rw[bF,Ca e (by omega),show q-n-l.places=q- (n+l.places) by omega];exact f⟩
  ·rintro⟨q,h|⟨u,v,G,J,D⟩,f⟩
   ·have:=bG l n w q h;rw[bF,Cb (by omega)]at f;exact .inl ((K w a).2 ⟨q,h,f⟩)
   ·have:=bG r _ v q D;rw[bF,Ca e (by omega),show q-n-l.places=q- (n+l.places) by omega]at f;exact .inr ⟨u,v,G,J,(M v a).2 ⟨q,D,f⟩⟩
 |.or l r,n,w,a=>by
  have K:=bS l n;have M:=bS r (n+l.places);have e:=cB l;constructor
  ·rintro(h|D)
   ·obtain⟨q,B,f⟩:=(K w a).1 h;have:=bG l n w q B;exact⟨q,.inl B,by rw[bF,Cb (by omega)];exact f⟩
   ·obtain⟨q,B,f⟩:=(M w a).1 D;have:=bG r _ w q B;exact⟨q,.inr B,by rw[bF,Ca e (by omega),show q-n-l.places=q- (n+l.places) by omega];exact f⟩
  ·rintro⟨q,h|D,f⟩
   ·have:=bG l n w q h;rw[bF,Cb (by omega)]at f;exact .inl ((K w a).2 ⟨q,h,f⟩)
   ·have:=bG r _ w q D;rw[bF,Ca e (by omega),show q-n-l.places=q- (n+l.places) by omega]at f;exact .inr ((M w a).2 ⟨q,D,f⟩)
 |.plus l,n,w,a=>by
  constructor
  ·rintro⟨u,v,G,J,D⟩;obtain⟨q,B,f⟩:=(bS l n v a).1 D;exact⟨q,⟨u,v,G,J,B⟩,f⟩
  ·rintro⟨q,⟨u,v,G,J,B⟩,f⟩;exact⟨u,v,G,J,(bS l n v a).2 ⟨q,B,f⟩⟩
 |.maybe l,n,w,a=>bS l n w a
end Go.Proofs.YtcckhngbdoiikaaGreat
