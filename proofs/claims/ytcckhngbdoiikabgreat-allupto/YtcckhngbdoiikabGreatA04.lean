import Derived.Test.YtcckhngbdoiikabGreatA03
set_option maxRecDepth 20000
set_option maxHeartbeats 12800000
set_option linter.unusedVariables false
namespace Go.Proofs.YtcckhngbdoiikabGreat
inductive NT where
 |place (i e:Nat) (A:Nat->Bool)
 |node (k:Nat) (l:List NT)
mutual
def NT.aW:NT->List Nat->Prop
 |.place i e A,w=>∃x,w= [x]/\A x=true
 |.node k l,w=>(k=1/\B6 l w)\/(k=2/\Z5 l w)\/(k=3/\∃u v,w=u++v/\Sf (Z5 l) u/\Z5 l v)\/(k=4/\(w= []\/Z5 l w))
def B6:List NT->List Nat->Prop
 | [],w=>w= []
 |x::l,w=>∃u v,w=u++v/\x.aW u/\B6 l v
def Z5:List NT->List Nat->Prop
 | [],w=>False
 |x::l,w=>x.aW w\/Z5 l w
end
mutual
def NT.aY:NT->List Nat->Nat->Prop
 |.place i e A,w,a=>∃x,w= [x]/\A x=true/\a=i
 |.node k l,w,a=>(k=1/\T6 l w a)\/((k=2\/k=4)/\L6 l w a)\/(k=3/\∃u v,w=u++v/\Sf (Z5 l) u/\L6 l v a)
def T6:List NT->List Nat->Nat->Prop
 | [],w,a=>False
 |x::l,w,a=>x.aY w a\/∃u v,w=u++v/\x.aW u/\T6 l v a
def L6:List NT->List Nat->Nat->Prop
 | [],w,a=>False
 |x::l,w,a=>x.aY w a\/L6 l w a
end
mutual
def NT.aH:NT->Nat
 |.place _ _ _=>1
 |.node k l=>1+J1 l
def J1:List NT->Nat
 | []=>0
 |x::l=>x.aH+J1 l
end
theorem Ou:∀(l:List NT) (w:List Nat),Z5 l w↔∃x∈l,x.aW w
 | [],w=>by simp[Z5]
 |x::l,w=>by simp[Z5,Ou l w]
theorem Nu:∀(l:List NT) (w:List Nat) (a:Nat),L6 l w a↔∃x∈l,x.aY w a
 | [],w,a=>by simp[L6]
 |x::l,w,a=>by simp[L6,Nu l w a]
theorem Mh:∀(l m:List NT) (w:List Nat),B6 (l++m) w↔∃u v,w=u++v/\B6 l u/\B6 m v
 | [],m,w=>by
  simp only[yU,B6];constructor
  ·intro h;exact⟨[],w,rfl,rfl,h⟩
  ·rintro⟨u,v,rfl,rfl,h⟩;exact h
 |x::l,m,w=>by
  simp only[List.cons_append,B6];constructor
  ·rintro⟨u,v,rfl,f,G⟩;obtain⟨a,b,rfl,B,D⟩:=(Mh l m v).1 G;exact⟨u++a,b,by simp,⟨u,a,rfl,f,B⟩,D⟩
  ·rintro⟨_,b,rfl,⟨u,a,rfl,f,B⟩,D⟩;exact⟨u,a++b,by simp,f,(Mh l m _).2 ⟨a,b,rfl,B,D⟩⟩
theorem Kv(x:NT)(w:List Nat):B6 [x] w↔x.aW w:=by
 simp only[B6];constructor
 ·rintro⟨u,v,rfl,h,rfl⟩;simpa using h
 ·intro h;exact⟨w,[],by simp,h,rfl⟩
theorem Rk(l:List NT)(x:NT)(w:List Nat):B6 (l++ [x]) w↔∃u v,w=u++v/\B6 l u/\x.aW v:=by
 rw[Mh];simp only[Kv]
theorem Le:∀(l m:List NT) (w:List Nat) (a:Nat),T6 (l++m) w a↔(T6 l w a\/∃u v,w=u++v/\B6 l u/\T6 m v a)
 | [],m,w,a=>by
  simp only[yU,T6,B6,false_or];constructor
  ·intro h;exact⟨[],w,rfl,rfl,h⟩
  ·rintro⟨u,v,rfl,rfl,h⟩;exact h
 |x::l,m,w,a=>by
  simp only[List.cons_append,T6,B6];constructor
  ·rintro(h|⟨u,v,rfl,f,D⟩)
   ·exact .inl (.inl h)
   ·rcases(Le l m v a).1 D with B|⟨b,c,rfl,B,G⟩
    ·exact .inl (.inr ⟨u,v,rfl,f,B⟩)
    ·exact .inr ⟨u++b,c,by simp,⟨u,b,rfl,f,B⟩,G⟩
  ·rintro((h|⟨u,v,rfl,f,D⟩)|⟨_,c,rfl,⟨u,b,rfl,f,B⟩,G⟩)
   ·exact .inl h
   ·exact .inr ⟨u,v,rfl,f,(Le l m v a).2 (.inl D)⟩
   ·exact .inr ⟨u,b++c,by simp,f,(Le l m _ a).2 (.inr ⟨b,c,rfl,B,G⟩)⟩
theorem Zr(l:List NT)(x:NT)(w:List Nat)(a:Nat):T6 (l++ [x]) w a↔(T6 l w a\/∃u v,w=u++v/\B6 l u/\x.aY v a):=by
 rw[Le];have:∀v,T6 [x] v a↔x.aY v a:=by
  intro v;simp[T6]
 simp only[this]
theorem Mq(l:List NT)(x:NT)(w:List Nat):Z5 (l++ [x]) w↔(Z5 l w\/x.aW w):=by
 simp only[Ou,zQ,zJ];constructor
 ·rintro⟨y,h|rfl,f⟩
  ·exact .inl ⟨y,h,f⟩
  ·exact .inr f
 ·rintro(⟨y,h,f⟩|h)
  ·exact⟨y,.inl h,f⟩
  ·exact⟨x,.inr rfl,h⟩
theorem Zj(l:List NT)(x:NT)(w:List Nat)(a:Nat):L6 (l++ [x]) w a↔(L6 l w a\/x.aY w a):=by
 simp only[Nu,zQ,zJ];constructor
 ·rintro⟨y,h|rfl,f⟩
  ·exact .inl ⟨y,h,f⟩
  ·exact .inr f
 ·rintro(⟨y,h,f⟩|h)
  ·exact⟨y,.inl h,f⟩
  ·exact⟨x,.inr rfl,h⟩
theorem L7:∀l m:List NT,J1 (l++m)=J1 l+J1 m
 | [],m=>by simp[J1]
 |x::l,m=>by simp[J1,L7 l m];omega
theorem NT.parts_pos(x:NT):0<x.aH:=by cases x <;>simp[NT.aH];omega
theorem Yp(i e:Nat)(A:Nat->Bool)(w:List Nat):(NT.place i e A).aW w↔∃x,w= [x]/\A x=true:=by rw[NT.aW]
theorem EG(l:List NT)(w:List Nat):(NT.node 1 l).aW w↔B6 l w:=by rw[NT.aW];simp
theorem MA(l:List NT)(w:List Nat):(NT.node 2 l).aW w↔Z5 l w:=by rw[NT.aW];simp
theorem OE(x:NT)(w:List Nat):(NT.node 3 [x]).aW w↔∃u v,w=u++v/\Sf x.aW u/\x.aW v:=by
 have e:∀w,Z5 [x] w↔x.aW w:=fun w=>by simp[Z5]
 rw[NT.aW];simp only[e,Oh e];simp
theorem NA(l:List NT)(w:List Nat):(NT.node 4 l).aW w↔(w= []\/Z5 l w):=by rw[NT.aW];simp
theorem Fp(i e:Nat)(A:Nat->Bool)(w:List Nat)(a:Nat):(NT.place i e A).aY w a↔∃x,w= [x]/\A x=true/\a=i:=by rw[NT.aY]
theorem Cr(l:List NT)(w:List Nat)(a:Nat):(NT.node 1 l).aY w a↔T6 l w a:=by rw[NT.aY];simp
theorem Dp(l:List NT)(w:List Nat)(a:Nat):(NT.node 2 l).aY w a↔L6 l w a:=by rw[NT.aY];simp
theorem Ep(l:List NT)(w:List Nat)(a:Nat):(NT.node 4 l).aY w a↔L6 l w a:=by rw[NT.aY];simp
theorem UC(x:NT)(w:List Nat)(a:Nat):(NT.node 3 [x]).aY w a↔∃u v,w=u++v/\Sf x.aW u/\x.aY v a:=by
 have e:∀w,Z5 [x] w↔x.aW w:=fun w=>by simp[Z5]
 have f:∀w,L6 [x] w a↔x.aY w a:=fun w=>by simp[L6]
 rw[NT.aY];simp only[f,Oh e];simp
def S6(m:Nat)(x:NT):NT:=if m=42 then .node 4 [.node 3 [x]]else if m=43 then .node 3 [x]else if m=63 then .node 4 [x]else x
def PT.nt:PT->List NT->List NT->NT
 |.nil,aN,cur=>.node 2 (aN++ [.node 1 cur])
 |.bar r,aN,cur=>r.nt (aN++ [.node 1 cur]) []
 |.leaf i e A m r,aN,cur=>r.nt aN (cur++ [S6 m (.place i e A)])
 |.group t m r,aN,cur=>r.nt aN (cur++ [S6 m (t.nt [] [])])
structure Qf(t:BT)(P:List Nat->Prop)(Q:List Nat->Nat->Prop):Prop where
 dA:∀w,t.aW w↔P w
 last:∀w a,t.aY w a↔Q w a
theorem BD{t:BT}{x:NT}(h:Qf t x.aW x.aY)(m:Nat):Qf (Cc m t) (S6 m x).aW (S6 m x).aY:=by
 have B:Qf (.plus t) (NT.node 3 [x]).aW (NT.node 3 [x]).aY:=by
  refine⟨fun w=>?_,fun w a=>?_⟩
  ·rw[OE];simp only[BT.aW,h.dA,Oh h.dA]
  ·rw[UC];simp only[BT.aY,h.last,Oh h.dA]
 have f:∀{t:BT} {x:NT},Qf t x.aW x.aY->Qf (.maybe t) (NT.node 4 [x]).aW (NT.node 4 [x]).aY:=by
  intro t x h;refine⟨fun w=>?_,fun w a=>?_⟩
  ·rw[NA];simp only[BT.aW,h.dA,Z5,or_false]
  ·rw[Ep];simp only[BT.aY,h.last,L6,or_false]
 unfold Cc S6;split
 ·exact f B
 ·split
  ·exact B
  ·split
   ·exact f h
   ·exact h
theorem Tx{cur:Option BT}{f:List NT}(B:(cur=none/\f= [])\/∃c,cur=some c/\Qf c (B6 f) (T6 f)){t:BT}{x:NT}(h:Qf t x.aW x.aY):
  Qf (Eg cur t) (B6 (f++ [x])) (T6 (f++ [x])):=by
 rcases B with⟨rfl,rfl⟩|⟨c,rfl,B⟩
 ·refine⟨fun w=>?_,fun w a=>?_⟩
  ·rw[yU,Kv];exact h.dA w
  ·show t.aY w a↔T6 [x] w a;simp only[T6,h.last];simp
 ·refine⟨fun w=>?_,fun w a=>?_⟩
  ·rw[Rk];simp only[Eg,BT.aW,B.dA,h.dA]
  ·rw[Zr];simp only[Eg,BT.aY,B.dA,B.last,h.last]
theorem QC{D:Option BT}{B:List NT}(J:(D=none/\B= [])\/∃c,D=some c/\Qf c (Z5 B) (L6 B)){c:BT}{f:List NT}(h:Qf c (B6 f) (T6 f)):
  Qf (Xc D c) (Z5 (B++ [.node 1 f])) (L6 (B++ [.node 1 f])):=by
 rcases J with⟨rfl,rfl⟩|⟨d,rfl,G⟩
 ·refine⟨fun w=>?_,fun w a=>?_⟩
  ·show c.aW w↔_;simp only[yU,Z5,EG,h.dA];simp
  ·show c.aY w a↔_;simp only[yU,L6,Cr,h.last];simp
 ·refine⟨fun w=>?_,fun w a=>?_⟩
  ·rw[Mq,EG];simp only[Xc,BT.aW,G.dA,h.dA]
  ·rw[Zj,Cr];simp only[Xc,BT.aY,G.last,h.last]
theorem PT.dH:∀(t:PT) (B cur:Option BT) (h f:List NT) (c:Bool),t.Ne c->c=cur.isSome->
  ((B=none/\h= [])\/∃c,B=some c/\Qf c (Z5 h) (L6 h))->((cur=none/\f= [])\/∃c,cur=some c/\Qf c (B6 f) (T6 f))->
  Qf (t.bt B cur) (t.nt h f).aW (t.nt h f).aY
 |.nil,B,cur,h,f,c,hn,hc,ha,hu=>by
  have D:c=true:=hn;rcases hu with⟨rfl,_⟩|⟨d,rfl,G⟩
  ·rw[D]at hc;cases hc
  ·have:=QC ha G;refine⟨fun w=>?_,fun w a=>?_⟩
   ·show(Xc B d).aW w↔(NT.node 2 _).aW w;rw[MA];exact this.dA w
   ·show(Xc B d).aY w a↔(NT.node 2 _).aY w a;rw[Dp];exact this.last w a
 |.bar r,B,cur,h,f,c,hn,hc,ha,hu=>by
  have D:c=true:=hn.1;rcases hu with⟨rfl,_⟩|⟨d,rfl,G⟩
  ·rw[D]at hc;cases hc
  ·exact PT.dH r _ none _ [] false hn.2 rfl (.inr ⟨_,rfl,QC ha G⟩) (.inl ⟨rfl,rfl⟩)
 |.leaf i e A m r,B,cur,h,f,c,hn,hc,ha,hu=>by
  have J:Qf (.leaf i A) (NT.place i e A).aW (NT.place i e A).aY:=⟨fun w=>by rw[Yp];rfl,fun w a=>by rw[Fp];rfl⟩;exact PT.dH r B _ h _ true hn rfl ha (.inr ⟨_,rfl,Tx hu (BD J m)⟩)
 |.group t m r,B,cur,h,f,c,hn,hc,ha,hu=>by
  have K:=PT.dH t none none [] [] false hn.1 rfl (.inl ⟨rfl,rfl⟩) (.inl ⟨rfl,rfl⟩);exact PT.dH r B _ h _ true hn.2 rfl ha (.inr ⟨_,rfl,Tx hu (BD K m)⟩)
theorem PT.kZ(t:PT)(f:t.Ne false):Qf (t.bt none none) (t.nt [] []).aW (t.nt [] []).aY:=
 PT.dH t none none [] [] false f rfl (.inl ⟨rfl,rfl⟩) (.inl ⟨rfl,rfl⟩)
def PT.ps:PT->List Nat
 |.nil=>[]
 |.bar r=>r.ps
 |.leaf i e A m r=>i::r.ps
 |.group t m r=>t.ps++r.ps
def Xt(o:Option BT):List Nat:=match o with
 |none=>[]
 |some t=>t.bE
theorem YJ(m:Nat)(t:BT):(Cc m t).bE=t.bE:=by
 unfold Cc;split
 ·rfl
 ·split
  ·rfl
  ·split <;>rfl
theorem IC(c:Option BT)(t:BT):(Eg c t).bE=Xt c++t.bE:=by cases c <;>simp[Eg,Xt,BT.bE]
theorem NJ(c:Option BT)(t:BT):(Xc c t).bE=Xt c++t.bE:=by cases c <;>simp[Xc,Xt,BT.bE]
theorem PT.dK:∀(t:PT) (f cur:Option BT) (c:Bool),t.Ne c->c=cur.isSome->(t.bt f cur).bE=Xt f++Xt cur++t.ps
 |.nil,f,cur,c,hn,hc=>by
  have h:c=true:=hn;cases cur with
  |none=>rw[h]at hc;cases hc
  |some d=>show(Xc f d).bE=_;rw[NJ];simp[Xt,PT.ps]
 |.bar r,f,cur,c,hn,hc=>by
  have h:c=true:=hn.1;cases cur with
  |none=>rw[h]at hc;cases hc
  |some d=>
   show(r.bt (some (Xc f d)) none).bE=_;rw[PT.dK r _ none false hn.2 rfl];show(Xc f d).bE++ []++r.ps=_;rw[NJ];simp[Xt,PT.ps]
 |.leaf i e A m r,f,cur,c,hn,hc=>by
  show(r.bt f (some _)).bE=_;rw[PT.dK r _ _ true hn rfl];show Xt f++(Eg cur (Cc m (.leaf i A))).bE++r.ps=_;rw[IC,YJ];simp[BT.bE,PT.ps]
 |.group t m r,f,cur,c,hn,hc=>by
  show(r.bt f (some _)).bE=_;rw[PT.dK r _ _ true hn.2 rfl];show Xt f++(Eg cur (Cc m (t.bt none none))).bE++r.ps=_;rw[IC,YJ,PT.dK t none none false hn.1 rfl];simp[Xt,PT.ps]
def Zd:List Nat->Nat->Nat->Prop
 | [],i,j=>i<=j
 |x::l,i,j=>i<=x/\Zd l (x+1) j
theorem Zd.mono:∀{l:List Nat} {i f j:Nat},Zd l i j->f<=i->Zd l f j
 | [],i,f,j,h,hi=>by have:i<=j:=h;show f<=j;omega
 |x::l,i,f,j,h,hi=>⟨by have:=h.1;omega,h.2⟩
theorem Zd.append:∀{l m:List Nat} {i j k:Nat},Zd l i j->Zd m j k->Zd (l++m) i k
 | [],m,i,j,k,h,g=>g.mono h
 |x::l,m,i,j,k,h,g=>⟨h.1,h.2.append g⟩
theorem Zd.le:∀{l:List Nat} {i j:Nat},Zd l i j->∀x∈l,i<=x/\x<j
 | [],i,j,h,x,f=>by simp at f
 |y::l,i,j,h,x,f=>by
  have B:∀{l:List Nat} {i j:Nat},Zd l i j->i<=j:=by
   intro l
   induction l with
   |nil=>intro i j h;exact h
   |cons z l ih=>intro i j h;have:=ih h.2;have:=h.1;omega
  rw[zU]at f;rcases f with rfl|f
  ·have:=B h.2;exact⟨h.1,by omega⟩
  ·have:=h.2.le x f;have:=h.1;omega
theorem Zd.bR:∀{l:List Nat} {i j:Nat},Zd l i j->l.Nodup
 | [],i,j,h=>List.nodup_nil
 |x::l,i,j,h=>List.nodup_cons.2 ⟨fun e=>by have:=h.2.le x e;omega,h.2.bR⟩
theorem PT.dB{s:ByteArray}:∀{t:PT} {i j:Nat},t.Sp s i j->Zd t.ps i j
 |.nil,i,j,h=>Nat.le_of_eq h
 |.bar r,i,j,h=>(PT.dB h.2).mono (by omega)
 |.leaf a e A m r,i,j,h=>by
  obtain⟨rfl,f,_,_,B⟩:=h;have:=(Vf f).lt;exact⟨zD _,(PT.dB B).mono (by omega)⟩
 |.group t m r,i,j,h=>by
  obtain⟨_,e,f,_,_,B⟩:=h;exact((PT.dB f).mono (Nat.le_succ i)).append ((PT.dB B).mono (by omega))
theorem RSp.dB{s:ByteArray}:∀{B:List PT} {p:Nat},RSp s B p->p<=s.size->Zd (Jd (B.map (fun t=>t.bt none none))) p s.size/\∀t∈B,t.Ne false
 | [],p,h,hp=>h.elim
 | [t],p,h,hp=>by
  refine⟨?_,fun x f=>by rw[zJ]at f;rw[f];exact h.2⟩;show Zd ((t.bt none none).bE++ []) p s.size;rw[PT.dK t none none false h.2 rfl];simpa[Xt]using PT.dB h.1
 |t::u::l,p,h,hp=>by
  obtain⟨q,G,D,J,K⟩:=h;have V:=A1 (s:=s) (p:=q) (by rw[J];decide);obtain⟨M,U⟩:=RSp.dB K (by omega);refine⟨?_,fun x f=>?_⟩
  ·show Zd ((t.bt none none).bE++_) p s.size;rw[PT.dK t none none false D rfl];refine Zd.append (j:=q) ?_ (M.mono (by omega));simpa[Xt]using PT.dB G
  ·rw[zU]at f;rcases f with rfl|f
   ·exact D
   ·exact U x f
theorem Wg:∀(n:Nat) (l:List Nat),l.Nodup->(∀x∈l,x<n)->l.length<=n
 |0,l,_,h=>by
  cases l with
  |nil=>simp
  |cons x l=>have:=h x (by simp);omega
 |n+1,l,hd,h=>by
  have D:=Wg n (l.erase n) (hd.erase n) (fun x B=>by
   have f:=(hd.mem_erase_iff).1 B;have:=h x f.2;have:=f.1;omega)
  have:=List.length_erase (a:=n) (l:=l);split at this <;>omega
theorem Ex{s:ByteArray}:∀(n:Nat) (p:Nat) (R:E0),p<=s.size->(M3 s n (D6 s p R)).1=true->(M3 s n (D6 s p R)).2.1<=s.size
 |0,p,R,hp,h=>by
  obtain⟨t,B,_,_⟩:=Cs (s:=s) (p:=p) (R:=R) h;exact PT.dV hp B
 |n+1,p,R,hp,h=>by
  have D:=Fx (s:=s) _ _ h;obtain⟨t,B,_,_⟩:=Cs (s:=s) (p:=p) (R:=R) D;unfold M3 at h⊢
  by_cases f:(D6 s p R).1=true/\F0 s (D6 s p R).2.1=10
  ·rw[if_pos f]at h⊢;have:=A1 (s:=s) (p:=(D6 s p R).2.1) (by rw[f.2];decide);exact Ex n _ _ (by omega) h
  ·rw[if_neg f];exact PT.dV hp B
def PT.gT(t:PT):BT:=t.bt none none
def PT.dL(t:PT):NT:=t.nt [] []
structure Di(s:ByteArray)(R:E0)(ts:List PT):Prop where
 sp:RSp s ts 0
 ne:∀t∈ts,t.Ne false
 bT:Pf R (ts.map PT.gT)
 dB:Zd (Jd (ts.map PT.gT)) 0 s.size
theorem Di.kN{s:ByteArray}{R:E0}{f:List PT}(h:Di s R f):Xw (f.map PT.gT):=h.dB.bR
theorem Di.dH{s:ByteArray}{R:E0}{f:List PT}(h:Di s R f){t:PT}(B:t∈f):Qf t.gT t.dL.aW t.dL.aY:=PT.kZ t (h.ne t B)
def Wo(f:List PT)(w:List Nat)(l:List Bool):Prop:=l.length=120/\∀a,l.getD a false=true↔∃t∈f,t.dL.aY w a
theorem Di.eH{s:ByteArray}{R:E0}{D:List PT}(h:Di s R D)(w:List Nat)(a:Nat):(∃t∈D,t.dL.aY w a)↔∃t∈D.map PT.gT,t.aY w a:=by
 constructor
 ·rintro⟨t,f,B⟩;exact⟨t.gT,List.mem_map_of_mem f,((h.dH f).last w a).2 B⟩
 ·rintro⟨_,G,B⟩;obtain⟨t,f,rfl⟩:=List.mem_map.1 G;exact⟨t,f,((h.dH f).last w a).1 B⟩
theorem Qn{l m:List Bool}(D:l.length=m.length)(h:∀a,l.getD a false=true↔m.getD a false=true):l=m:=by
 refine List.ext_getElem D fun i f B=>?_
 have:=h i;simp only[zC,zF f,zF B,Option.getD_some]at this;exact Bool.eq_iff_iff.2 this
theorem QD{s:ByteArray}{R:E0}{D:List PT}(h:Di s R D){v w:List Nat}{l m:List Bool}(G:v≠ [])(J:w≠ [])(f:Wo D v l)(B:Wo D w m):l=m↔Kb R v=Kb R w:=by
 rw[<-ZX h.bT h.kN G J];constructor
 ·rintro rfl a;rw[<-h.eH,<-h.eH,<-f.2 a,<-B.2 a]
 ·intro e;refine Qn (f.1.trans B.1.symm) fun a=>?_
  rw[f.2 a,B.2 a,h.eH,h.eH];exact e a
theorem TO{s:ByteArray}{R:E0}{B:List PT}(h:Di s R B){w:List Nat}{l:List Bool}(D:w≠ [])(f:Wo B w l):(∀a,l.getD a false=false)↔(Kb R w).isEmpty=true:=by
 rw[<-NU h.bT D];constructor
 ·intro e a G;have:=(f.2 a).2 ((h.eH w a).2 G);rw[e a]at this;cases this
 ·intro e a;cases hh:l.getD a false with
  |false=>rfl
  |true=>exact absurd ((h.eH w a).1 ((f.2 a).1 hh)) (e a)
def RV(f:List PT)(w:List Nat)(r:Int):Prop:=(r= -1/\∀t∈f,¬t.dL.aW w)\/∃i,∃h:i<f.length,r=(i:Int)/\f[i].dL.aW w/\∀j,(B:j<i)->¬(f[j]'(by omega)).dL.aW w
theorem Di.bM{s:ByteArray}{R:E0}{J:List PT}(h:Di s R J){w:List Nat}(V:w≠ []){r:Int}(U:RV J w r):r=R.aB (Kb R w):=by
 refine Ow.bX ?_ (EU h.bT w V);rcases U with⟨D,G⟩|⟨i,f,D,G,K⟩
 ·refine .inl ⟨D,fun i f B=>?_⟩;simp only[yB]at f;rw[List.getElem_map]at B;exact G J[i] (zG f) (((h.dH (zG f)).dA w).1 B)
 ·refine .inr ⟨i,by simpa using f,D,?_,fun j M B=>?_⟩
  ·rw[List.getElem_map];exact((h.dH (zG f)).dA w).2 G
  ·rw[List.getElem_map]at B;exact K j M (((h.dH (zG (by omega))).dA w).1 B)
def dY(L:List Nat)(p q:Nat):List Nat:=(L.drop p).take (q-p)
theorem Nw{L:List Nat}{p q:Nat}(h:q<=L.length):(dY L p q).length=q-p:=by simp[dY];omega
theorem Xz{L:List Nat}{p m q:Nat}(h:p<=m)(B:m<=q):dY L p m++dY L m q=dY L p q:=by
 unfold dY;have e:L.drop m=(L.drop p).drop (m-p):=by rw[List.drop_drop];congr 1;omega
 have f:q-p=(m-p)+(q-m):=by omega
 rw[e,f,List.take_add]
theorem CE{L:List Nat}{p q:Nat}{u v:List Nat}(G:p<=q)(J:q<=L.length)(h:dY L p q=u++v):∃m,p<=m/\m<=q/\dY L p m=u/\dY L m q=v:=by
 have D:=Nw (L:=L) (p:=p) J;rw[h]at D;simp at D;have f:=Xz (L:=L) (p:=p) (m:=p+u.length) (q:=q) (by omega) (by omega);rw[h]at f;have B:=List.append_inj f (by rw[Nw (by omega)];omega);exact⟨p+u.length,by omega,by omega,B.1,B.2⟩
theorem YG{L:List Nat}{p q:Nat}(f:p<=q)(B:q<=L.length)(h:dY L p q= []):p=q:=by
 have:=Nw (L:=L) (p:=p) B;rw[h]at this;simp at this;omega
theorem Yz(L:List Nat)(p:Nat):dY L p p= []:=by simp[dY]
theorem VQ{L:List Nat}{p:Nat}(h:p<L.length):dY L p (p+1)= [L[p]]:=by
 unfold dY;rw[show p+1-p=1 by omega,yA h];rfl
def Q8(L:List Nat)(P:List Nat->Prop)(p q:Nat):Prop:=p<=q/\q<=L.length/\P (dY L p q)
noncomputable def Oa (L:List Nat) (P:List Nat->Prop) (p:Nat):List Bool:=(List.range (L.length+1)).map (fun q=>@decide (Q8 L P p q) (Classical.propDecidable _))
theorem As(L:List Nat)(P:List Nat->Prop)(p:Nat):(Oa L P p).length=L.length+1:=by simp[Oa]
theorem AL{L:List Nat}{P:List Nat->Prop}{p q:Nat}(h:q<(Oa L P p).length):(Oa L P p)[q]=true↔Q8 L P p q:=by
 simp[Oa]
theorem D9{L:List Nat}{P:List Nat->Prop}{p q:Nat}:(Oa L P p).getD q false=true↔Q8 L P p q:=by
 by_cases h:q<(Oa L P p).length
 ·rw[zC,zF h];exact AL h
 ·rw[zC,yJ (by omega)];rw[As]at h;constructor
  ·intro e;cases e
  ·intro e;have:=e.2.1;omega
theorem Me{L:List Nat}{P:List Nat->Prop}{p:Nat}{l:List Bool}(D:l.length=L.length+1)(h:∀q,q<=L.length->(l.getD q false=true↔Q8 L P p q)):l=Oa L P p:=by
 refine List.ext_getElem (by rw[D,As]) fun q f B=>?_
 rw[Bool.eq_iff_iff,AL B,<-h q (by omega)];simp[f]
theorem Xx{L:List Nat}{P Q:List Nat->Prop}{p q:Nat}:Q8 L (fun w=>∃u v,w=u++v/\P u/\Q v) p q↔∃m,Q8 L P p m/\Q8 L Q m q:=by
 constructor
 ·rintro⟨f,h,u,v,B,D,G⟩;obtain⟨m,J,K,M,U⟩:=CE f h B;exact⟨m,⟨J,by omega,M ▸ D⟩,⟨K,h,U ▸ G⟩⟩
 ·rintro⟨m,⟨f,h,B⟩,⟨D,G,J⟩⟩;exact⟨by omega,G,_,_,(Xz f D).symm,B,J⟩
theorem ZY{L:List Nat}{P Q:List Nat->Prop}{p q:Nat}:Q8 L (fun w=>P w\/Q w) p q↔(Q8 L P p q\/Q8 L Q p q):=by
 constructor
 ·rintro⟨h,B,f|f⟩
  ·exact .inl ⟨h,B,f⟩
  ·exact .inr ⟨h,B,f⟩
 ·rintro(⟨h,B,f⟩|⟨h,B,f⟩)
  ·exact⟨h,B,.inl f⟩
  ·exact⟨h,B,.inr f⟩
theorem VM{L:List Nat}{P:List Nat->Prop}{p q:Nat}(D:p<=L.length):Q8 L (fun w=>w= []\/P w) p q↔(q=p\/Q8 L P p q):=by
 constructor
 ·rintro⟨h,B,f|f⟩
  ·exact .inl (YG h B f).symm
  ·exact .inr ⟨h,B,f⟩
 ·rintro(rfl|⟨h,B,f⟩)
  ·exact⟨zD _,D,.inl (Yz _ _)⟩
  ·exact⟨h,B,.inr f⟩
def Ci(al:Nat->I0)(b k:Nat):Prop:=k<=b/\al k=al b/\∀j,j<k->al j≠al b
theorem Ot(al:Nat->I0):∀n s,s∈V0 al n->∃b,b<n/\al b=s
 |0,s,h=>by simp[V0]at h
 |n+1,s,h=>by
  unfold V0 at h;split at h
  ·rw[zQ,zJ]at h;rcases h with h|h
   ·obtain⟨b,B,f⟩:=Ot al n s h;exact⟨b,by omega,f⟩
   ·exact⟨n,by omega,h.symm⟩
  ·obtain⟨b,B,f⟩:=Ot al n s h;exact⟨b,by omega,f⟩
theorem XF:∀(l:List I0) (s:I0),s∈l->H9 l s<l.length
 | [],s,h=>by simp at h
 |x::r,s,h=>by
  unfold H9;split
  ·simp
  ·rename_i e;rw[zU]at h;rcases h with h|h
   ·exact absurd h.symm e
   ·have:=XF r s h;simp;omega
theorem Ly:∀(l:List I0) (s:I0),s∉l->H9 l s=l.length
 | [],s,h=>rfl
 |x::r,s,h=>by
  unfold H9;rw[zU,not_or]at h;rw[if_neg (fun e=>h.1 e.symm),Ly r s h.2];simp
theorem Xu:∀{l m:List I0} {s:I0},l<+:m->s∈l->H9 m s=H9 l s
 | [],m,s,_,h=>by simp at h
 |x::l,[],s,hp,h=>by have:=hp.length_le;simp at this
 |x::l,y::m,s,hp,h=>by
  obtain⟨r,f⟩:=hp
  injection f with e1 e2
  subst e1;unfold H9;split
  ·rfl
  ·rename_i e;rw[zU]at h;rcases h with h|h
   ·exact absurd h.symm e
   ·rw[Xu ⟨r,e2⟩ h]
theorem SC{al:Nat->I0}{b k:Nat}(h:Ci al b k)(W:k<b):D3 al b=D3 al k/\V0 al (b+1)=V0 al b:=by
 have D:=Af al k (k+1) (by omega);have G:V0 al (k+1)<+:V0 al b:=by
  have:=Bc al (k+1) (b- (k+1))
  rwa [show k+1+(b- (k+1))=b by omega]at this
 have f:al k∈V0 al (k+1):=by
  rw[<-D.2,zC,zF D.1];exact zG _
 have K:H9 (V0 al b) (al b)=H9 (V0 al (k+1)) (al k):=by rw[<-h.2.1];exact Xu G f
 have U:=XF (V0 al b) (al b) (by rw[<-h.2.1];exact G.subset f);refine⟨?_,by rw[V0,if_neg (by omega)]⟩;unfold D3;rw[K];have M:V0 al (k+1)=(if H9 (V0 al k) (al k)=(V0 al k).length then V0 al k++ [al k]else V0 al k):=rfl;rw[M];have X:=Fi (V0 al k) (al k);split
 ·rename_i J;have V:=DJ _ _ J;rw[J];have:∀(l:List I0) (s:I0),s∉l->H9 (l++ [s]) s=l.length:=by
   intro l s B
   induction l with
   |nil=>simp[H9]
   |cons x r ih=>
    rw[zU,not_or]at B;show(if x=s then 0 else H9 (r++ [s]) s+1)=_;rw[if_neg (fun e=>B.1 e.symm),ih B.2];simp
  exact this _ _ V
 ·rfl
theorem Zq{al:Nat->I0}{b:Nat}(h:Ci al b b):D3 al b=(V0 al b).length/\V0 al (b+1)=V0 al b++ [al b]:=by
 have D:al b∉V0 al b:=fun e=>by
  obtain⟨j,f,B⟩:=Ot al b _ e;exact h.2.2 j f B
 have:=Ly _ _ D;exact⟨this,by rw[V0,if_pos this]⟩
theorem Gf(f k:I0):∀(K S:List I0),P8 f (K++ [k]) S=((P8 f K S).1++ [C6 (P8 f K S).2 (f.and k)],if C6 (P8 f K S).2 (f.and k)=((P8 f K S).2.length:Int)then(P8 f K S).2++ [f.and k]else(P8 f K S).2)
 | [],S=>rfl
 |x::K,S=>by
  show(_::(P8 f (K++ [k]) _).1,(P8 f (K++ [k]) _).2)=_;rw[Gf f k K];rfl
theorem ZK(f:I0)(K S:List I0):S<+:(P8 f K S).2:=(Xg f K S).1
theorem OD(f:I0):∀(M K S:List I0),(P8 f K S).2<+:(P8 f (K++M) S).2
 | [],K,S=>by simp
 |m::M,K,S=>by
  have h:=OD f M (K++ [m]) S;rw[yF]at h;refine List.IsPrefix.trans ?_ h;rw[Gf];simp only;split
  ·exact List.prefix_append _ _
  ·exact List.prefix_refl _
def Ol(R:E0)(S:List I0)(n:Nat):I0:=if 0<n then R.after (S.getD n I0.none)else R.first
theorem Ql{R:E0}{S f:List I0}{n:Nat}(h:S<+:f)(B:n<S.length):Ol R f n=Ol R S n:=by
 unfold Ol;rw[V8 h B]
structure Ei(R:E0)(S:List I0)(T:List (List Nat)):Prop where
 len:T.length=S.length
 bE:0<S.length
 zero:S.getD 0 I0.none=I0.none/\T.getD 0 []= []
 bytes:∀i,∀x∈T.getD i [],x<256
 set:∀i,0<i->i<S.length->T.getD i []≠ []/\Kb R (T.getD i [])=S.getD i I0.none/\(S.getD i I0.none).isEmpty=false
 dI:∀i,(T.getD i []).length<=i
theorem Ei.next{R:E0}{S:List I0}{T:List (List Nat)}(h:Ei R S T){n:Nat}(G:n<S.length)(b:Nat):Kb R (T.getD n []++ [b])=(Ol R S n).and (R.aJ b):=by
 unfold Ol
 by_cases f:0<n
 ·obtain⟨B,D,_⟩:=h.set n f G;rw[if_pos f,Du R b _ B,D];rfl
 ·rw[if_neg f,show n=0 by omega,h.zero.2];rfl
theorem Ei.push{R:E0}{S:List I0}{T:List (List Nat)}(h:Ei R S T){n b:Nat}(J:n<S.length)(M:b<256)(G:((Ol R S n).and (R.aJ b)).isEmpty=false):Ei R (S++ [(Ol R S n).and (R.aJ b)]) (T++ [T.getD n []++ [b]]):=by
 have K:=h.next J b;have U:=h.len;refine⟨by simp[h.len],by simp,⟨by rw[M5,if_pos h.bE];exact h.zero.1,by rw[M5,if_pos (by rw[h.len];exact h.bE)];exact h.zero.2⟩,fun i x f=>?_,fun i B f=>?_,fun i=>?_⟩
 ·rw[M5]at f;split at f
  ·exact h.bytes i x f
  ·split at f
   ·rw[zQ,zJ]at f;rcases f with f|f
    ·exact h.bytes n x f
    ·omega
   ·simp at f
 ·simp only[zL,yH,List.length_nil]at f;rw[M5,M5,h.len];split
  ·rename_i D;exact h.set i B D
  ·rw[if_pos (by omega),if_pos (by omega)];exact⟨by simp,K,G⟩
 ·rw[M5];split
  ·exact h.dI i
  ·split
   ·have:=h.dI n;rw[zL,yQ];omega
   ·simp
structure Yd(R:E0)(n:Nat)(S:List I0)(g:B0)(T:List (List Nat)):Prop where
 loop:J6 R (V0 R.aJ 256)=F4 R (V0 R.aJ 256) (63-n) n S g
 le:n<=S.length
 cV:S.length<=61
 bO:Ei R S T
 bR:S.Nodup
 ex:KV R (V0 R.aJ 256) S g n
theorem Yd.start(R:E0):Yd R 0 [I0.none] B0.aR [[]]:=
 ⟨rfl,by simp,by simp,⟨rfl,by simp,⟨rfl,rfl⟩,fun i x B=>by cases i <;>simp at B,fun i D h=>by simp at h;omega,fun i=>by cases i <;>simp⟩,by simp,
  ⟨rfl,rfl,⟨by simp,rfl⟩,fun j f=>by omega,fun j f=>by omega,fun j f=>by omega⟩⟩
structure M8(R:E0)(n b:Nat)(S0 S:List I0)(T:List (List Nat))(row:List Int):Prop where
 aI:S=(P8 (Ol R S0 n) (V0 R.aJ b) S0).2
 row:row=(P8 (Ol R S0 n) (V0 R.aJ b) S0).1
 cV:S.length<=61
 bO:Ei R S T
 bR:S.Nodup
theorem M8.start{R:E0}{n:Nat}{S:List I0}{g:B0}{T:List (List Nat)}(h:Yd R n S g T):M8 R n 0 S S T []:=⟨rfl,rfl,h.cV,h.bO,h.bR⟩
theorem M8.skip{R:E0}{n b k:Nat}{B S:List I0}{T:List (List Nat)}{f:List Int}(h:M8 R n b B S T f)(G:Ci R.aJ b k)(D:k<b):M8 R n (b+1) B S T f:=by
 have:=(SC G D).2;exact⟨by rw[this];exact h.aI,by rw[this];exact h.row,h.cV,h.bO,h.bR⟩
theorem M8.cY{R:E0}{n b:Nat}{B S:List I0}{T:List (List Nat)}{f:List Int}(h:M8 R n b B S T f):B<+:S:=by rw[h.aI];exact ZK _ _ _
theorem M8.set{R:E0}{n b:Nat}{f S:List I0}{T:List (List Nat)}{B:List Int}(h:M8 R n b f S T B)(D:n<f.length)(c:Nat):Kb R (T.getD n []++ [c])=(Ol R f n).and (R.aJ c):=by
 have:=h.cY.length_le;rw[h.bO.next (by omega),Ql h.cY D]
theorem M8.fF{R:E0}{n b:Nat}{B S:List I0}{T:List (List Nat)}{f:List Int}(h:M8 R n b B S T f)(J:n<B.length)(G:Ci R.aJ b b)(D:C6 S (Kb R (T.getD n []++ [b]))≠(S.length:Int)):
  M8 R n (b+1) B S T (f++ [C6 S (Kb R (T.getD n []++ [b]))]):=by
 rw[h.set J]at D⊢;have e:=(Zq G).2;refine⟨?_,?_,h.cV,h.bO,h.bR⟩
 ·rw[e,Gf,<-h.aI];simp only;rw[if_neg D]
 ·rw[e,Gf,<-h.aI,<-h.row]
theorem M8.fresh{R:E0}{n b:Nat}{B S:List I0}{T:List (List Nat)}{G:List Int}(h:M8 R n b B S T G)(K:n<B.length)(V:b<256)(W:Ci R.aJ b b)(f:C6 S (Kb R (T.getD n []++ [b]))=(S.length:Int))(Z:S.length+1<=61):
  M8 R n (b+1) B (S++ [Kb R (T.getD n []++ [b])]) (T++ [T.getD n []++ [b]]) (G++ [(S.length:Int)]):=by
 have M:=h.cY.length_le;have X:=h.set K b;rw[X]at f⊢;have e:=(Zq W).2;have D:((Ol R B n).and (R.aJ b)).isEmpty=false:=by
  cases hc:((Ol R B n).and (R.aJ b)).isEmpty with
  |false=>rfl
  |true=>unfold C6 at f;rw[hc]at f;simp at f
 refine⟨?_,?_,by simp;omega,?_,?_⟩
 ·rw[e,Gf,<-h.aI];simp only;rw[if_pos f]
 ·rw[e,Gf,<-h.aI,<-h.row,f]
 ·have:=h.bO.push (n:=n) (b:=b) (by omega) V (by rw[Ql h.cY K];exact D);rw[Ql h.cY K]at this;exact this
 ·rw[List.nodup_append];refine⟨h.bR,by simp,fun x Y y U=>?_⟩;rw[zJ]at U;subst U;intro J;subst J;have:=XF _ _ Y;unfold C6 at f;rw[D]at f;simp at f;omega
theorem M8.fail{R:E0}{n b:Nat}{f S:List I0}{T:List (List Nat)}{D:List Int}{g:B0}{U:List (List Nat)}(h:M8 R n b f S T D)(G:Yd R n f g U)(K:n<f.length)(Z:b<256)(W:Ci R.aJ b b)(J:C6 S (Kb R (T.getD n []++ [b]))=(S.length:Int))(ht:61<S.length+1):
  J6 R (V0 R.aJ 256)=none:=by
 have Y:=h.set K b;rw[Y]at J;have e:=(Zq W).2;have X:V0 R.aJ (b+1)<+:V0 R.aJ 256:=by
  have:=Bc R.aJ (b+1) (256- (b+1))
  rwa [show b+1+(256- (b+1))=256 by omega]at this
 obtain⟨M,V⟩:=X;have B:=(OD (Ol R f n) M (V0 R.aJ (b+1)) f).length_le;rw[V]at B;have:(P8 (Ol R f n) (V0 R.aJ (b+1)) f).2.length=S.length+1:=by
  rw[e,Gf,<-h.aI];simp only;rw[if_pos J];simp
 rw[G.loop];have:=G.cV;rw[show 63-n=(62-n)+1 by omega,F4,if_pos K];simp only;rw[if_pos];show 61<(P8 (Ol R f n) _ f).2.length;omega
theorem RX(f:I0)(K S:List I0):(P8 f K S).1.length=K.length:=(Xg f K S).2.1
theorem M8.done{R:E0}{n:Nat}{f S:List I0}{T:List (List Nat)}{J:List Int}{g:B0}{X:List (List Nat)}(h:M8 R n 256 f S T J)(K:Yd R n f g X)(Y:n<f.length):
  Yd R (n+1) S ⟨g.aB++ [R.aB (S.getD n I0.none)],g.next++ [J]⟩ T:=by
 have W:=K.cV;have V:=h.cY.length_le;have B:=K.ex;have D:=Xg (Ol R f n) (V0 R.aJ 256) f;rw[<-h.aI,<-h.row]at D;refine⟨?_,by omega,h.cV,h.bO,h.bR,?_⟩
 ·rw[K.loop,show 63-n=(62-n)+1 by omega,F4,if_pos Y];have e:(if 0<n then R.after (f.getD n I0.none)else R.first)=Ol R f n:=rfl;simp only;rw[e,<-h.aI,<-h.row,if_neg (by have:=h.cV;omega),show 63- (n+1)=62-n by omega]
 ·refine⟨by simp[B.rl],by simp[B.nl],⟨h.bO.bE,h.bO.zero.1⟩,fun j M=>?_,fun j M=>?_,fun j M k U=>?_⟩
  ·rw[M5,B.rl];split
   ·rename_i G;rw[B.aB j G,V8 D.1 (by omega)]
   ·rw[if_pos (by omega),show j=n by omega]
  ·rw[M5,B.nl];split
   ·rename_i G;exact B.row j G
   ·rw[if_pos (by omega)];exact D.2.1
  ·rw[M5,B.nl];split
   ·rename_i G;rw[V8 D.1 (by omega:j<f.length)];exact(B.next j G k U).mono D.1
   ·rw[if_pos (by omega),V8 D.1 (by omega:j<f.length),show j=n by omega];exact D.2.2 k U
theorem Yd.done{R:E0}{n:Nat}{S:List I0}{g:B0}{T:List (List Nat)}(h:Yd R n S g T)(f:S.length<=n):J6 R (V0 R.aJ 256)=some g:=by
 have:=h.le;have:=h.cV;rw[h.loop,show 63-n=(62-n)+1 by omega,F4,if_neg (by omega)]
theorem M8.get{R:E0}{n b:Nat}{B S:List I0}{T:List (List Nat)}{f:List Int}(h:M8 R n b B S T f):f.length=(V0 R.aJ b).length:=by rw[h.row,RX]
def BT.Tw(a b:Nat):BT->Prop
 |.leaf _ A=>A a=A b
 |.row l r=>l.Tw a b/\r.Tw a b
 |.or l r=>l.Tw a b/\r.Tw a b
 |.plus l=>l.Tw a b
 |.maybe l=>l.Tw a b
def TwR(a b:Nat)(R:E0):Prop:=∀q,R.A q a↔R.A q b
theorem Ye(a b:Nat):∀(t:BT) (R:E0),R.aC.length+t.places<=128->Bt R->(TwR a b (t.glush R).2↔(TwR a b R/\t.Tw a b))
 |.leaf i A,R,hn,hc=>by
  simp only[BT.places]at hn;have M:∀p x,(R.add A).A p x↔(R.A p x\/(p=R.aC.length/\A x=true)):=by
   intro p x;unfold E0.A E0.add Ae;simp only;split
   ·rename_i G;rw[Bb,Fe _ _ (by omega),G];simp only[yZ,decide_eq_true_eq,and_true];exact or_congr Iff.rfl ⟨fun e=>e.symm,fun e=>e.symm⟩
   ·rename_i G;simp[G]
  show TwR a b (R.add A)↔_;unfold TwR;simp only[M,BT.Tw];constructor
  ·intro h;refine⟨fun q=>?_,?_⟩
   ·have:=h q;have B:=hc.2 q a;have D:=hc.2 q b;constructor
    ·intro e;rcases this.1 (.inl e)with x|x
     ·exact x
     ·have:=B e;omega
    ·intro e;rcases this.2 (.inl e)with x|x
     ·exact x
     ·have:=D e;omega
   ·have:=h R.aC.length;have U:¬R.A R.aC.length a:=fun e=>by have:=hc.2 _ _ e;omega
    have V:¬R.A R.aC.length b:=fun e=>by have:=hc.2 _ _ e;omega
    simp only[U,V,false_or,true_and]at this;exact Bool.eq_iff_iff.2 this
  ·rintro⟨B,D⟩ q;rw[B q,D]
 |.row l r,R,hn,hc=>by
  simp only[BT.places]at hn;have f:=Qa (Y3 l R (by omega)) hc;have J:=Ye a b l R (by omega) hc;have K:=Ye a b r (l.glush R).2 (by rw[A5];omega) f;show TwR a b (r.glush (l.glush R).2).2↔_;rw[K,J,and_assoc];rfl
 |.or l r,R,hn,hc=>by
  simp only[BT.places]at hn;have f:=Qa (Y3 l R (by omega)) hc;have J:=Ye a b l R (by omega) hc;have K:=Ye a b r (l.glush R).2 (by rw[A5];omega) f;show TwR a b (r.glush (l.glush R).2).2↔_;rw[K,J,and_assoc];rfl
 |.plus l,R,hn,hc=>Ye a b l R hn hc
 |.maybe l,R,hn,hc=>Ye a b l R hn hc
theorem Qq(a b:Nat):∀(f B:List BT) (R:E0),Pf R B->R.aC.length+M6 f<=128->(TwR a b (B7 f R)↔(TwR a b R/\∀t∈f,t.Tw a b))
 | [],B,R,h,hn=>by simp[B7]
 |t::f,B,R,h,hn=>by
  unfold M6 at hn;unfold B7;have D:=Ye a b t R (by omega) h.aU;have G:=Qq a b f (B++ [t]) _ (h.step t (by omega)) (by show(t.glush R).2.aC.length+_<=128;rw[A5];omega);rw[G];have e:TwR a b ((t.glush R).2.endRule (t.glush R).1)↔TwR a b (t.glush R).2:=Iff.rfl;rw[e,D,and_assoc];simp
theorem OR(a b:Nat)(f:List BT)(D:M6 f<=128):(B7 f E0.aR).aJ a=(B7 f E0.aR).aJ b↔∀t∈f,t.Tw a b:=by
 have h:=Qq a b f [] E0.aR Pf.aR (by simp[E0.aR];exact D);have B:TwR a b E0.aR:=fun q=>by simp[E0.A,E0.aR]
 have e:(B7 f E0.aR).aJ a=(B7 f E0.aR).aJ b↔TwR a b (B7 f E0.aR):=by
  constructor
  ·intro e q;unfold E0.A;rw[e]
  ·intro e;exact Hz fun q=>Bool.eq_iff_iff.2 (e q)
 rw[e,h];simp[B]
mutual
def NT.Tw(a b:Nat):NT->Prop
 |.place i e A=>A a=A b
 |.node k l=>twL a b l
def twL(a b:Nat):List NT->Prop
 | []=>True
 |x::l=>x.Tw a b/\twL a b l
end
theorem EH(a b:Nat):∀l:List NT,twL a b l↔∀x∈l,x.Tw a b
 | []=>by simp[twL]
 |x::l=>by simp[twL,EH a b l]
theorem Hi(a b k:Nat)(l:List NT):(NT.node k l).Tw a b↔∀x∈l,x.Tw a b:=by rw[NT.Tw,EH]
def PT.Tw(a b:Nat):PT->Prop
 |.nil=>True
 |.bar r=>r.Tw a b
 |.leaf i e A m r=>A a=A b/\r.Tw a b
 |.group t m r=>t.Tw a b/\r.Tw a b
theorem EQ(a b m:Nat)(t:BT):(Cc m t).Tw a b↔t.Tw a b:=by
 unfold Cc;split
 ·rfl
 ·split
  ·rfl
  ·split <;>rfl
theorem XJ(a b m:Nat)(x:NT):(S6 m x).Tw a b↔x.Tw a b:=by
 unfold S6;split
 ·simp[Hi]
 ·split
  ·simp[Hi]
  ·split
   ·simp[Hi]
   ·rfl
def twO(a b:Nat):Option BT->Prop
 |none=>True
 |some t=>t.Tw a b
theorem GC(a b:Nat)(c:Option BT)(x:BT):(Eg c x).Tw a b↔(twO a b c/\x.Tw a b):=by cases c <;>simp[Eg,twO,BT.Tw]
theorem MJ(a b:Nat)(c:Option BT)(x:BT):(Xc c x).Tw a b↔(twO a b c/\x.Tw a b):=by cases c <;>simp[Xc,twO,BT.Tw]
theorem UP(a b:Nat)(c:Option BT):(c.getD LF).Tw a b↔twO a b c:=by cases c <;>simp[twO,LF,BT.Tw]
theorem PT.eY(a b:Nat):∀(t:PT) (f cur:Option BT),(t.bt f cur).Tw a b↔(twO a b f/\twO a b cur/\t.Tw a b)
 |.nil,f,cur=>by simp only[PT.bt,MJ,UP,PT.Tw,and_true]
 |.bar r,f,cur=>by
  simp only[PT.bt,PT.eY a b r,PT.Tw];simp only[twO,MJ,UP,true_and,and_assoc]
 |.leaf i e A m r,f,cur=>by
  simp only[PT.bt,PT.eY a b r,PT.Tw];simp only[twO,GC,EQ,BT.Tw,and_assoc]
 |.group t m r,f,cur=>by
  simp only[PT.bt,PT.eY a b r,PT.Tw];simp only[twO,GC,EQ,PT.eY a b t,true_and,and_assoc]
theorem PT.fI(a b:Nat):∀(t:PT) (K cur:List NT),(t.nt K cur).Tw a b↔((∀x∈K,x.Tw a b)/\(∀x∈cur,x.Tw a b)/\t.Tw a b)
 |.nil,K,cur=>by
  simp only[PT.nt,PT.Tw,and_true];rw[Hi];simp only[zQ,zJ];constructor
  ·intro h;exact⟨fun x f=>h x (.inl f),(Hi a b 1 cur).1 (h _ (.inr rfl))⟩
  ·rintro⟨D,B⟩ x (f|rfl)
   ·exact D x f
   ·exact(Hi a b 1 cur).2 B
 |.bar r,K,cur=>by
  simp only[PT.nt,PT.fI a b r,PT.Tw,zQ,zJ];constructor
  ·rintro⟨h,_,G⟩;exact⟨fun x f=>h x (.inl f),(Hi a b 1 cur).1 (h _ (.inr rfl)),G⟩
  ·rintro⟨D,B,G⟩;refine⟨?_,by simp,G⟩;rintro x (f|rfl)
   ·exact D x f
   ·exact(Hi a b 1 cur).2 B
 |.leaf i e A m r,K,cur=>by
  simp only[PT.nt,PT.fI a b r,PT.Tw,zQ,zJ];have J:=XJ a b m (.place i e A);rw[NT.Tw]at J;constructor
  ·rintro⟨D,B,G⟩;exact⟨D,fun x f=>B x (.inl f),J.1 (B _ (.inr rfl)),G⟩
  ·rintro⟨D,B,G,M⟩;refine⟨D,?_,M⟩;rintro x (f|rfl)
   ·exact B x f
   ·exact J.2 G
 |.group t m r,K,cur=>by
  simp only[PT.nt,PT.fI a b r,PT.Tw,zQ,zJ];have J:=XJ a b m (t.nt [] []);rw[PT.fI a b t]at J;simp only[List.not_mem_nil,false_implies,implies_true,true_and]at J;constructor
  ·rintro⟨D,B,G⟩;exact⟨D,fun x f=>B x (.inl f),J.1 (B _ (.inr rfl)),G⟩
  ·rintro⟨D,B,G,M⟩;refine⟨D,?_,M⟩;rintro x (f|rfl)
   ·exact B x f
   ·exact J.2 G
theorem LZ{s:ByteArray}(h:(Va s).1=true)(W:s.size<=120):∃f,Di s (Va s).2.2 f/\∀a b,(Va s).2.2.aJ a=(Va s).2.2.aJ b↔∀t∈f,t.dL.Tw a b:=by
 unfold Va at h⊢;simp only[yK,decide_eq_true_eq]at h⊢;obtain⟨f,K,M⟩:=Gx (s:=s) _ 0 E0.aR h.1 h.2 (Ex _ _ _ (by omega) h.1);obtain⟨J,V⟩:=K.dB (by omega);have B:M6 (f.map PT.gT)<=128:=by
  rw[<-Lp];have:=Wg s.size _ J.bR (fun x G=>(J.le x G).2);have e:Jd (f.map PT.gT)=Jd (f.map (fun t=>t.bt none none)):=rfl;rw[e];omega
 refine⟨f,⟨K,V,?_,J⟩,fun a b=>?_⟩
 ·rw[M];exact RM (f.map PT.gT) B
 ·rw[M];have e:=OR a b (f.map PT.gT) B;have U:B7 (f.map PT.gT) E0.aR=B7 (f.map (fun t=>t.bt none none)) E0.aR:=rfl;rw[U]at e;rw[e];have k:∀t:PT,t.gT.Tw a b↔t.dL.Tw a b:=fun t=>by
   show(t.bt none none).Tw a b↔(t.nt [] []).Tw a b;rw[PT.eY,PT.fI];simp[twO]
  constructor
  ·intro g t D;exact(k t).1 (g _ (List.mem_map_of_mem D))
  ·intro g x G;obtain⟨t,D,rfl⟩:=List.mem_map.1 G;exact(k t).2 (g t D)
theorem YW{al:Nat->I0}{tw:Nat->Nat->Bool}(h:∀a b,tw a b=true↔al a=al b){b k:Nat}(f:k<=b)(B:tw k b=true)(D:∀j,j<k->tw j b=false):Ci al b k:=
 ⟨f,(h k b).1 B,fun j G e=>by have:=(h j b).2 e;rw[D j G]at this;cases this⟩
theorem Fr(m:Nat)(x:NT):(S6 m x).aH<=x.aH+2:=by
 unfold S6;split
 ·simp[NT.aH,J1];omega
 ·split
  ·simp[NT.aH,J1];omega
  ·split
   ·simp[NT.aH,J1];omega
   ·omega
theorem PT.bV{s:ByteArray}:∀(t:PT) (i j:Nat) (f cur:List NT),t.Sp s i j->(t.nt f cur).aH<=J1 f+J1 cur+2+4*(j-i)
 |.nil,i,j,f,cur,h=>by
  simp only[PT.nt,NT.aH,L7,J1];omega
 |.bar r,i,j,f,cur,h=>by
  have V:=PT.cF h.2;have B:=PT.bV r (i+1) j (f++ [.node 1 cur]) [] h.2;simp only[PT.nt];simp only[L7,J1,NT.aH]at B;omega
 |.leaf a e A m r,i,j,f,cur,h=>by
  obtain⟨_,B,_,_,D⟩:=h;have K:=(Vf B).lt;have M:=PT.cF D;have G:=PT.bV r (e+F5 m) j f (cur++ [S6 m (.place a e A)]) D;have J:=Fr m (.place a e A);simp only[PT.nt];simp only[L7,J1]at G;simp only[NT.aH]at J;omega
 |.group t m r,i,j,f,cur,h=>by
  obtain⟨_,e,B,_,_,D⟩:=h;have K:=PT.cF B;have M:=PT.cF D;have G:=PT.bV r (e+1+F5 m) j f (cur++ [S6 m (t.nt [] [])]) D;have J:=Fr m (t.nt [] []);have U:=PT.bV t (i+1) e [] [] B;simp only[PT.nt];simp only[L7,J1]at G U;omega
theorem RSp.bV{s:ByteArray}:∀(B:List PT) (p:Nat),RSp s B p->p<=s.size->J1 (B.map PT.dL)<=6*(s.size-p)+2
 | [],p,h,_=>h.elim
 | [t],p,h,hp=>by
  have f:=PT.cF h.1;have D:=PT.bV t p s.size [] [] h.1;simp only[List.map_cons,List.map_nil,J1,PT.dL]at D⊢;omega
 |t::u::l,p,h,hp=>by
  obtain⟨q,f,_,G,J⟩:=h;have U:=PT.cF f;have V:=A1 (s:=s) (p:=q) (by rw[G];decide);have K:=RSp.bV (u::l) (q+1) J (by omega);have M:=PT.bV t p q [] [] f;rw[List.map_cons];simp only[J1,PT.dL]at M K⊢;omega
end Go.Proofs.YtcckhngbdoiikabGreat
