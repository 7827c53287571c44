import Derived.WalkKit
set_option maxRecDepth 20000
set_option maxHeartbeats 12800000
set_option linter.unusedVariables false
namespace Go.Proofs.YtcckhngbdoiikabGreat
abbrev Bw(w w':Go.World):Prop:=Go.RowKit.Below w.heap.size w w'
theorem zC.{u_1}:∀{α:Type u_1} {l:List α} {i:Nat} {a:α},l.getD i a=l[i]?.getD a:=@List.getD_eq_getElem?_getD
theorem zD:∀(n:Nat),n ≤ n:=@Nat.le_refl
theorem zE.{u}:∀{α:Type u} {val val_1:α},some val=some val_1 → val=val_1:=@Option.some.inj
theorem zF.{u_1}:∀{α:Type u_1} {l:List α} {i:Nat} (h:i<l.length),l[i]?=some l[i]:=@List.getElem?_eq_getElem
theorem zG.{u_1}:∀{α:Type u_1} {l:List α} {n:Nat} (h:n<l.length),l[n]∈l:=@List.getElem_mem
theorem zH:∀(n:Nat),(n:Int).toNat=n:=@Int.toNat_natCast
theorem zJ.{u_1}:∀{α:Type u_1} {a b:α},a∈ [b]↔a=b:=@List.mem_singleton
theorem zL.{u}:∀{α:Type u} {as bs:List α},(as++bs).length=as.length+bs.length:=@List.length_append
theorem zN:∀{a b:ByteArray},(a++b).size=a.size+b.size:=@ByteArray.size_append
theorem zO.{u_1}:∀{α:Type u_1} {i:Nat} {l:List α},l.length ≤ i → List.take i l=l:=@List.take_of_length_le
theorem zQ.{u_1}:∀{α:Type u_1} {a:α} {s t:List α},a∈s++t↔a∈s ∨ a∈t:=@List.mem_append
theorem zR.{u_1}:∀{α:Type u_1} {l₁ l₂:List α} {i:Nat},i<l₁.length → (l₁++l₂)[i]?=l₁[i]?:=@List.getElem?_append_left
theorem zU.{u_1}:∀{α:Type u_1} {b:α} {l:List α} {a:α},a∈b::l↔a=b ∨ a∈l:=@List.mem_cons
theorem zV.{u_1,u_2}:∀{α:Type u_1} {β:Type u_2} {f:α → β} {l₁ l₂:List α},List.map f (l₁++l₂)=List.map f l₁++List.map f l₂:=@List.map_append
theorem zX:(false=true)=False:=@Bool.false_eq_true
theorem zY.{u_1}:∀{α:Type u_1} {l₁ l₂:List α} {i:Nat},l₁.length ≤ i → (l₁++l₂)[i]?=l₂[i-l₁.length]?:=@List.getElem?_append_right
theorem yA.{u_1}:∀{α:Type u_1} {i:Nat} {l:List α} (h:i<l.length),List.drop i l=l[i]::List.drop (i+1) l:=@List.drop_eq_getElem_cons
theorem yB.{u_1,u_2}:∀{α:Type u_1} {β:Type u_2} {as:List α} (f:α → β),(List.map f as).length=as.length:=@List.length_map
theorem yC:∀(n:Nat),0 ≤ n:=@Nat.zero_le
theorem yD.{u}:∀{α:Type u} {n:Nat} {a:α},(List.replicate n a).length=n:=@List.length_replicate
theorem yE:∀(n m:Nat),n<m ∨ n≥m:=@Nat.lt_or_ge
theorem yF.{u}:∀{α:Type u} (as bs cs:List α),as++bs++cs=as++(bs++cs):=@List.append_assoc
theorem yG:∀{n m k:Nat},n<m → m ≤ k → n<k:=@Nat.lt_of_lt_of_le
theorem yH.{u}:∀{α:Type u} {a:α} {as:List α},(a::as).length=as.length+1:=@List.length_cons
theorem yI:∀{n m k:Nat},n ≤ m → m ≤ k → n ≤ k:=@Nat.le_trans
theorem yJ.{u_1}:∀{α:Type u_1} {l:List α} {i:Nat},l.length ≤ i → l[i]?=none:=@List.getElem?_eq_none
theorem yK:∀(a b:Bool),((a && b)=true)=(a=true ∧ b=true):=@Bool.and_eq_true
theorem yL.{u_1}:∀{α:Type u_1} {l:List α} {i:Nat} (h:i<l.length),List.take i l++ [l[i]]=List.take (i+1) l:=@List.take_append_getElem
theorem yM.{u_1}:∀{n:Nat} {α:Type u_1} {a:α} {i:Nat},(List.replicate n a)[i]?=if i<n then some a else none:=@List.getElem?_replicate
theorem yN.{u_1}:∀{α:Type u_1} {l:List α},l.length=0 → l= []:=@List.eq_nil_of_length_eq_zero
theorem yO.{u_1}:∀{α:Type u_1} {i:Nat} {l:List α} (h:i<l.length),List.take (i+1) l=List.take i l++ [l[i]]:=@List.take_succ_eq_append_getElem
theorem yP.{u}:∀{α:Type u} (as:List α),as++ []=as:=@List.append_nil
theorem yQ.{u}:∀{α:Type u} {a:α}, [a].length=1:=@List.length_singleton
theorem yR:(true=false)=False:=@Bool.true_eq_false
theorem yS:∀(n:Nat),n-n=0:=@Nat.sub_self
theorem yT.{u}:∀{α:Type u} {xs:List α} {i:Nat},xs.toArray[i]?=xs[i]?:=@List.getElem?_toArray
theorem yU.{u}:∀{α:Type u} (as:List α), []++as=as:=@List.nil_append
theorem yV.{u_1}:∀{α:Type u_1} (i:Nat) (l:List α),List.take i l++List.drop i l=l:=@List.take_append_drop
theorem yW.{u_1}:∀{α:Type u_1} {p:α → Bool} {a:α} {l:List α},List.find? p l=some a → a∈l:=@List.mem_of_find?_eq_some
theorem yX:∀(n:Nat),0+n=n:=@Nat.zero_add
theorem yY.{u_1}:∀{α:Type u_1} {i:Nat} {l:List α},l.length ≤ i → List.drop i l= []:=@List.drop_of_length_le
theorem yZ:∀(a b:Bool),((a || b)=true)=(a=true ∨ b=true):=@Bool.or_eq_true
theorem xA:∀{n m:Nat},n<m → n ≤ m:=@Nat.le_of_lt
theorem xB:∀(b:Bool),(false && b)=false:=@Bool.false_and
theorem xC:(!false)=true:=@Bool.not_false
theorem xD.{u_1}:∀{α:Type u_1} {xs:Array α} {i j:Nat} {a:α},(xs.setIfInBounds i a)[j]?=if i=j then if i<xs.size then some a else none else xs[j]?:=@Array.getElem?_setIfInBounds
theorem xE:∀{a b:Nat},¬a<b → b ≤ a:=@Nat.le_of_not_lt
theorem xF.{u}:∀{α:Type u} {as:List α} {i:Nat} {a:α},(as.set i a).length=as.length:=@List.length_set
theorem xG.{u}:∀{α:Type u} {l:List α},List.drop 0 l=l:=@List.drop_zero
theorem xH:(!true)=false:=@Bool.not_true
structure I0 where
 lo:BitVec 64
 hi:BitVec 64
 deriving DecidableEq,Inhabited
namespace I0
def none:I0:=⟨0,0⟩
def or(s t:I0):I0:=⟨s.lo ||| t.lo,s.hi ||| t.hi⟩
def and(s t:I0):I0:=⟨s.lo &&& t.lo,s.hi &&& t.hi⟩
def isEmpty(s:I0):Bool:=s.lo==0 && s.hi==0
def cL(s t:I0):Bool:=!(s.lo &&& t.lo==0) || !(s.hi &&& t.hi==0)
def only(p:Nat):I0:=if p<64 then⟨1#64<<<p,0⟩else if p<128 then⟨0,1#64<<<(p-64)⟩else none
def has(s:I0)(p:Nat):Bool:=s.cL (only p)
end I0
theorem NR(a b:BitVec 64):bits .or .u64 (a.toNat:Int) (b.toNat:Int)=(((a ||| b).toNat:Nat):Int):=by
 rw[u64_or_nat _ _ a.isLt b.isLt,BitVec.toNat_or]
theorem Ap(a b:BitVec 64):bits .and .u64 (a.toNat:Int) (b.toNat:Int)=(((a &&& b).toNat:Nat):Int):=by
 rw[u64_and_nat _ _ a.isLt b.isLt,BitVec.toNat_and]
end Go.Proofs.YtcckhngbdoiikabGreat

namespace Go.Proofs.YtcckhngbdoiikabGreat
def F0(s:ByteArray)(p:Nat):Int:=if h:p<s.size then(s[p].toNat:Int)else -1
theorem MK(s:ByteArray)(p:Nat):-1<=F0 s p:=by unfold F0;split <;>omega
theorem A1{s:ByteArray}{p:Nat}(h:F0 s p≠ -1):p<s.size:=by
 unfold F0 at h;split at h
 ·assumption
 ·exact absurd rfl h
def O5(s:ByteArray)(p:Nat):Int×Bool×Nat:=
 if F0 s p≠92 then(F0 s p,true,p+1)
 else if F0 s (p+1)= -1\/F0 s (p+1)=10 then(0,false,p+1)
 else if F0 s (p+1)=110 then(10,true,p+2)
 else(F0 s (p+1),true,p+2)
theorem Rv(s:ByteArray)(p:Nat)(h:p<s.size):p<(O5 s p).2.2/\(O5 s p).2.2<=s.size:=by
 unfold O5;split
 ·exact⟨by simp,by simp;omega⟩
 ·split
  ·exact⟨by simp,by simp;omega⟩
  ·rename_i B f;have:=A1 (s:=s) (p:=p+1) (fun e=>f (Or.inl e));split
   ·exact⟨by simp,by simp;omega⟩
   ·exact⟨by simp,by simp;omega⟩
def Lw(b:Int):Prop:=b= -1\/b=10\/b=93\/b=45
instance(b:Int):Decidable (Lw b):=by unfold Lw;exact inferInstance
def A4(s:ByteArray)(p:Nat):Int×Bool×Nat:=if Lw (F0 s p)then(0,false,p)else O5 s p
theorem Hj(s:ByteArray)(p:Nat)(h:p<=s.size):p<=(A4 s p).2.2/\(A4 s p).2.2<=s.size/\((A4 s p).2.1=true->p<(A4 s p).2.2):=by
 unfold A4;split
 ·simp;exact h
 ·rename_i B;have f:p<s.size:=A1 (fun e=>B (Or.inl e));have:=Rv s p f;exact⟨by omega,by omega,fun _=>by omega⟩
def B4(s:ByteArray)(p:Nat):Int×Int×Bool×Nat:=
 if(A4 s p).2.1=false\/F0 s (A4 s p).2.2≠45 then((A4 s p).1,(A4 s p).1,(A4 s p).2.1,(A4 s p).2.2)
 else if(A4 s ((A4 s p).2.2+1)).2.1=true/\(A4 s ((A4 s p).2.2+1)).1<(A4 s p).1 then(0,0,false,(A4 s ((A4 s p).2.2+1)).2.2-1)
 else((A4 s p).1,(A4 s ((A4 s p).2.2+1)).1,(A4 s ((A4 s p).2.2+1)).2.1,(A4 s ((A4 s p).2.2+1)).2.2)
theorem R7(s:ByteArray)(p:Nat)(h:p<=s.size):p<=(B4 s p).2.2.2/\(B4 s p).2.2.2<=s.size/\((B4 s p).2.2.1=true->p<(B4 s p).2.2.2):=by
 have D:=Hj s p h;unfold B4;split
 ·exact D
 ·rename_i B;have J:(A4 s p).2.1=true:=by
   cases e:(A4 s p).2.1
   ·exact absurd (Or.inl e) B
   ·rfl
  have f:F0 s (A4 s p).2.2=45:=Decidable.not_not.1 (fun e=>B (Or.inr e));have G:(A4 s p).2.2<s.size:=A1 (by rw[f];decide);have K:=Hj s ((A4 s p).2.2+1) (by omega);split
  ·exact⟨by simp;omega,by simp;omega,by simp⟩
  ·exact⟨by simp;omega,by simp;omega,fun _=>by simp;omega⟩
def P9(A:Nat->Bool)(h f:Int):Nat->Bool:=fun b=>A b || (decide (h<=(b:Int)) && decide ((b:Int)<=f))
def Px(A:Nat->Bool):Nat->Bool:=fun b=>!A b
def Ja:Nat->Bool:=fun _=>false
def C4(s:ByteArray):Nat->(Nat->Bool)->Bool->Nat->(Nat->Bool)×Bool×Nat
 |0,A,ok,p=>(A,ok,p)
 |n+1,A,ok,p=>if ok=true/\F0 s p≠93 then C4 s n (P9 A (B4 s p).1 (B4 s p).2.1) (B4 s p).2.2.1 (B4 s p).2.2.2 else(A,ok,p)
theorem Ir(s:ByteArray):∀(n:Nat) (A:Nat->Bool) (f:Bool) (p:Nat),p<=s.size->p<=(C4 s n A f p).2.2/\(C4 s n A f p).2.2<=s.size
 |0,A,f,p,h=>by simp[C4];exact h
 |n+1,A,f,p,h=>by
  unfold C4;split
  ·have:=R7 s p h;have:=Ir s n (P9 A (B4 s p).1 (B4 s p).2.1) (B4 s p).2.2.1 (B4 s p).2.2.2 this.2.1;omega
  ·simp;exact h
theorem U8(s:ByteArray)(n:Nat)(A:Nat->Bool)(f:Bool)(p:Nat)(h:¬(f=true/\F0 s p≠93)):C4 s n A f p=(A,f,p):=by
 cases n with
 |zero=>rfl
 |succ n=>unfold C4;rw[if_neg h]
theorem Hr(s:ByteArray):∀(n:Nat) (A:Nat->Bool) (B:Bool) (p:Nat),p<=s.size->(B=true->s.size<n+p)->(C4 s n A B p).2.1=true->F0 s (C4 s n A B p).2.2=93
 |0,A,B,p,h,hn,hok=>by
  simp only[C4]at hok⊢;have:=hn hok;omega
 |n+1,A,B,p,h,hn,hok=>by
  unfold C4 at hok⊢;split at hok
  ·rename_i f;rw[if_pos f];have D:=R7 s p h;exact Hr s n _ _ _ D.2.1 (fun e=>by have:=D.2.2 e;have:=hn f.1;omega) hok
  ·rename_i f;rw[if_neg f];simp only at hok⊢;exact Decidable.not_not.1 (fun e=>f ⟨hok,e⟩)
def Y7(s:ByteArray)(p:Nat):(Nat->Bool)×Bool×Nat:=
 let f:=decide (F0 s (p+1)=94)
 let m:=B4 s (if f=true then p+2 else p+1)
 let r:=C4 s (s.size+1) (P9 Ja m.1 m.2.1) m.2.2.1 m.2.2.2
 if r.2.1=true then(if f=true then Px r.1 else r.1,true,r.2.2+1)else(Ja,false,r.2.2)
theorem Mg{s:ByteArray}{p:Nat}{h G:Bool}{D B:Int}{q u:Nat}{R:(Nat->Bool)×Bool×Nat}(f:decide (F0 s (p+1)=94)=h)(M:(if h=true then p+2 else p+1)=u)
  (J:B4 s u=(D,B,G,q)) (K:C4 s (s.size+1) (P9 Ja D B) G q=R):
  Y7 s p=if R.2.1=true then(if h=true then Px R.1 else R.1,true,R.2.2+1)else(Ja,false,R.2.2):=by
 unfold Y7;simp only[f,M,J,K]
theorem PA(s:ByteArray)(p:Nat)(h:p<s.size):p<(Y7 s p).2.2/\(Y7 s p).2.2<=s.size:=by
 unfold Y7;have G:(if decide (F0 s (p+1)=94)=true then p+2 else p+1)<=s.size/\p<(if decide (F0 s (p+1)=94)=true then p+2 else p+1):=by
  split
  ·rename_i e;simp at e;have:=A1 (s:=s) (p:=p+1) (by rw[e];decide);omega
  ·omega
 have f:=R7 s _ G.1;simp only;generalize B4 s (if decide (F0 s (p+1)=94)=true then p+2 else p+1)=m at f⊢;have J:=Ir s (s.size+1) (P9 Ja m.1 m.2.1) m.2.2.1 m.2.2.2 f.2.1;have D:=Hr s (s.size+1) (P9 Ja m.1 m.2.1) m.2.2.1 m.2.2.2 f.2.1 (fun _=>by omega);generalize C4 s (s.size+1) (P9 Ja m.1 m.2.1) m.2.2.1 m.2.2.2=r at J D⊢;split
 ·rename_i B;have:=A1 (s:=s) (p:=r.2.2) (by rw[D B];decide);simp;omega
 ·simp;omega
def S7(b:Int):Prop:=b= -1\/b=10\/b=124\/b=42\/b=43\/b=63\/b=40\/b=41\/b=93
instance(b:Int):Decidable (S7 b):=by unfold S7;exact inferInstance
def W6(s:ByteArray)(p:Nat):(Nat->Bool)×Bool×Nat:=
 if S7 (F0 s p)then(Ja,false,p)
 else if F0 s p=46 then(Px Ja,true,p+1)
 else if F0 s p=91 then Y7 s p
 else(P9 Ja (O5 s p).1 (O5 s p).1,(O5 s p).2.1,(O5 s p).2.2)
theorem DO(s:ByteArray)(p:Nat)(h:p<=s.size):p<=(W6 s p).2.2/\(W6 s p).2.2<=s.size/\((W6 s p).2.1=true->p<(W6 s p).2.2):=by
 unfold W6;split
 ·simp;exact h
 ·rename_i B;have f:p<s.size:=A1 (fun e=>B (Or.inl e));split
  ·simp;omega
  ·split
   ·have:=PA s p f;exact⟨by omega,by omega,fun _=>by omega⟩
   ·have:=Rv s p f;exact⟨by simp;omega,by simp;omega,fun _=>by simp;omega⟩
structure E0 where
 aJ:Nat->I0
 first:I0
 aC:List I0
 last:List I0
structure Z6 where
 first:I0
 last:I0
 empty:Bool
 deriving DecidableEq,Inhabited
def E0.aR:E0:=⟨fun _=>I0.none,I0.none,[],[]⟩
def Z6.aR:Z6:=⟨I0.none,I0.none,false⟩
def Q7(a b:I0):Nat->List I0->List I0
 |_,[]=>[]
 |k,s::r=>(if a.has k then s.or b else s)::Q7 a b (k+1) r
def E0.link(R:E0)(a b:I0):E0:={ R with aC:=Q7 a b 0 R.aC }
theorem Jb(a b:I0):∀(k:Nat) (l:List I0),(Q7 a b k l).length=l.length
 |_,[]=>rfl
 |k,s::r=>by simp[Q7,Jb a b (k+1) r]
theorem Dl(a b:I0):∀(k:Nat) (l m:List I0),Q7 a b k (l++m)=Q7 a b k l++Q7 a b (k+l.length) m
 |k,[],m=>by simp[Q7]
 |k,s::r,m=>by simp[Q7,Dl a b (k+1) r m];congr 1;omega
theorem E7(R:E0)(a b:I0):(R.link a b).aC.length=R.aC.length:=Jb a b 0 _
def Ae(al:Nat->I0)(A:Nat->Bool)(p:I0):Nat->I0:=fun b=>if A b then(al b).or p else al b
def E0.add(R:E0)(A:Nat->Bool):E0:={ R with aC:=R.aC++ [I0.none],aJ:=Ae R.aJ A (I0.only R.aC.length) }
def E0.addPart(R:E0):Z6:=⟨I0.only R.aC.length,I0.only R.aC.length,false⟩
def E0.chain(R:E0)(a b:Z6):E0:=R.link a.last b.first
def J4(a b:Z6):Z6:=
 ⟨if a.empty then a.first.or b.first else a.first,if b.empty then b.last.or a.last else b.last,a.empty && b.empty⟩
def E8(a b:Z6):Z6:=⟨a.first.or b.first,a.last.or b.last,a.empty || b.empty⟩
def E0.endRule(R:E0)(p:Z6):E0:={ R with first:=R.first.or p.first,last:=R.last++ [p.last] }
def Y8(s:I0):Nat->List I0->I0->I0
 |_,[],aS=>aS
 |k,f::r,aS=>Y8 s (k+1) r (if s.has k then aS.or f else aS)
def E0.after(R:E0)(s:I0):I0:=Y8 s 0 R.aC I0.none
def Kc(s:I0):Nat->List I0->Int
 |_,[]=>-1
 |k,l::r=>if s.cL l then(k:Int)else Kc s (k+1) r
def E0.aB(R:E0)(s:I0):Int:=Kc s 0 R.last
structure Cg where
 part:Z6
 ok:Bool
 bD:Nat
 aD:E0
abbrev PFn:=Nat->E0->Cg
def Zb(b:Int):Bool:=decide (b= -1\/b=10\/b=124\/b=41)
def Ee(s:ByteArray)(ex:PFn):PFn:=fun p R=>
 if(ex (p+1) R).ok=true/\F0 s (ex (p+1) R).bD=41 then⟨(ex (p+1) R).part,true,(ex (p+1) R).bD+1,(ex (p+1) R).aD⟩
 else⟨Z6.aR,false,(ex (p+1) R).bD,(ex (p+1) R).aD⟩
def Ce(s:ByteArray)(ex:PFn):PFn:=fun p R=>
 if F0 s p=40 then Ee s ex p R
 else if(W6 s p).2.1=true then⟨R.addPart,true,(W6 s p).2.2,R.add (W6 s p).1⟩
 else⟨Z6.aR,false,(W6 s p).2.2,R⟩
def Ue(s:ByteArray)(a:Cg):Cg:=
 if a.ok=false then⟨Z6.aR,false,a.bD,a.aD⟩
 else if F0 s a.bD=42 then⟨{ a.part with empty:=true },true,a.bD+1,a.aD.link a.part.last a.part.first⟩
 else if F0 s a.bD=43 then⟨a.part,true,a.bD+1,a.aD.link a.part.last a.part.first⟩
 else if F0 s a.bD=63 then⟨{ a.part with empty:=true },true,a.bD+1,a.aD⟩
 else⟨a.part,true,a.bD,a.aD⟩
def H8(s:ByteArray)(ex:PFn):PFn:=fun p R=>Ue s (Ce s ex p R)
def I6(s:ByteArray)(ex:PFn):Nat->Cg->Cg
 |0,r=>r
 |n+1,r=>if r.ok=true/\Zb (F0 s r.bD)=false then
   I6 s ex n ⟨J4 r.part (H8 s ex r.bD r.aD).part,(H8 s ex r.bD r.aD).ok,(H8 s ex r.bD r.aD).bD,(H8 s ex r.bD r.aD).aD.chain r.part (H8 s ex r.bD r.aD).part⟩
  else r
def O2(s:ByteArray)(ex:PFn):PFn:=fun p R=>I6 s ex (s.size+1) (H8 s ex p R)
def X4(s:ByteArray)(ex:PFn):Nat->Cg->Cg
 |0,r=>r
 |n+1,r=>if r.ok=true/\F0 s r.bD=124 then
   X4 s ex n ⟨E8 r.part (O2 s ex (r.bD+1) r.aD).part,(O2 s ex (r.bD+1) r.aD).ok,(O2 s ex (r.bD+1) r.aD).bD,(O2 s ex (r.bD+1) r.aD).aD⟩
  else r
def Od(s:ByteArray)(ex:PFn):PFn:=fun p R=>X4 s ex (s.size+1) (O2 s ex p R)
def S5(s:ByteArray):Nat->PFn
 |0=>fun p R=>⟨Z6.aR,false,p,R⟩
 |f+1=>Od s (S5 s f)
structure Xn(s:ByteArray)(p:Nat)(R:E0)(r:Cg):Prop where
 le:p<=r.bD
 cV:r.bD<=s.size
 ok:r.ok=true->p<r.bD
 bU:r.aD.aC.length<=r.bD
 last:r.aD.last=R.last
 first:r.aD.first=R.first
def Re(s:ByteArray)(f:PFn):Prop:=∀p R,p<=s.size->R.aC.length<=p->Xn s p R (f p R)
theorem CJ{s:ByteArray}{ex:PFn}(h:Re s ex)(p:Nat)(R:E0)(D:p<s.size)(B:R.aC.length<=p):Xn s p R (Ee s ex p R):=by
 have g:=h (p+1) R (by omega) (by omega);unfold Ee;split
 ·rename_i f;have:=A1 (s:=s) (p:=(ex (p+1) R).bD) (by rw[f.2];decide);exact⟨by have:=g.le;simp;omega,by simp;omega,fun _=>by have:=g.le;simp;omega,by have:=g.bU;simp;omega,g.last,g.first⟩
 ·exact⟨by have:=g.le;simp;omega,g.cV,by simp,g.bU,g.last,g.first⟩
theorem Lx{s:ByteArray}{ex:PFn}(h:Re s ex):Re s (Ce s ex):=by
 intro p R G B;unfold Ce;split
 ·rename_i D;exact CJ h p R (A1 (by rw[D];decide)) B
 ·have q:=DO s p G;split
  ·rename_i f;have:=q.2.2 f;exact⟨q.1,q.2.1,fun _=>this,by simp[E0.add];omega,rfl,rfl⟩
  ·exact⟨q.1,q.2.1,by simp,by simp;omega,rfl,rfl⟩
theorem NN{s:ByteArray}{p:Nat}{R:E0}{a:Cg}(g:Xn s p R a):Xn s p R (Ue s a):=by
 unfold Ue;split
 ·exact⟨g.le,g.cV,by simp,g.bU,g.last,g.first⟩
 ·rename_i D;have h:a.ok=true:=by cases e:a.ok <;>simp_all
  have B:=g.ok h;split
  ·rename_i f;have:=A1 (s:=s) (p:=a.bD) (by rw[f];decide);exact⟨by simp;omega,by simp;omega,fun _=>by simp;omega,by have:=g.bU;simp[E7];omega,g.last,g.first⟩
  ·split
   ·rename_i f;have:=A1 (s:=s) (p:=a.bD) (by rw[f];decide);exact⟨by simp;omega,by simp;omega,fun _=>by simp;omega,by have:=g.bU;simp[E7];omega,g.last,g.first⟩
   ·split
    ·rename_i f;have:=A1 (s:=s) (p:=a.bD) (by rw[f];decide);exact⟨by simp;omega,by simp;omega,fun _=>by simp;omega,by have:=g.bU;simp;omega,g.last,g.first⟩
    ·exact⟨g.le,g.cV,fun _=>B,g.bU,g.last,g.first⟩
theorem Td{s:ByteArray}{ex:PFn}(h:Re s ex):Re s (H8 s ex):=fun p R B f=>NN (Lx h p R B f)
theorem Yj{s:ByteArray}{ex:PFn}(h:Re s ex){p:Nat}{R:E0}{r:Cg}(g:Xn s p R r)(f:r.ok=true):
  Xn s p R ⟨J4 r.part (H8 s ex r.bD r.aD).part,(H8 s ex r.bD r.aD).ok,(H8 s ex r.bD r.aD).bD,(H8 s ex r.bD r.aD).aD.chain r.part (H8 s ex r.bD r.aD).part⟩:=by
 have q:=Td h r.bD r.aD g.cV g.bU;have B:=g.ok f;exact⟨by have:=q.le;simp;omega,q.cV,fun _=>by have:=q.le;simp;omega,by have:=q.bU;simp[E0.chain,E7];omega,by simp[E0.chain,E0.link,q.last,g.last],by simp[E0.chain,E0.link,q.first,g.first]⟩
theorem Jo{s:ByteArray}{ex:PFn}(h:Re s ex){p:Nat}{R:E0}:∀(n:Nat) (r:Cg),Xn s p R r->Xn s p R (I6 s ex n r)
 |0,r,g=>g
 |n+1,r,g=>by
  unfold I6;split
  ·rename_i f;exact Jo h n _ (Yj h g f.1)
  ·exact g
theorem X7{s:ByteArray}{ex:PFn}(h:Re s ex):Re s (O2 s ex):=fun p R B f=>Jo h _ _ (Td h p R B f)
theorem Li{s:ByteArray}{ex:PFn}(h:Re s ex){p:Nat}{R:E0}{r:Cg}(g:Xn s p R r)(B:r.ok=true)(f:F0 s r.bD=124):
  Xn s p R ⟨E8 r.part (O2 s ex (r.bD+1) r.aD).part,(O2 s ex (r.bD+1) r.aD).ok,(O2 s ex (r.bD+1) r.aD).bD,(O2 s ex (r.bD+1) r.aD).aD⟩:=by
 have D:=A1 (s:=s) (p:=r.bD) (by rw[f];decide);have q:=X7 h (r.bD+1) r.aD (by omega) (by have:=g.bU;omega);have G:=g.ok B;exact⟨by have:=q.le;simp;omega,q.cV,fun _=>by have:=q.le;simp;omega,q.bU,q.last.trans g.last,q.first.trans g.first⟩
theorem Cm{s:ByteArray}{ex:PFn}(h:Re s ex){p:Nat}{R:E0}:∀(n:Nat) (r:Cg),Xn s p R r->Xn s p R (X4 s ex n r)
 |0,r,g=>g
 |n+1,r,g=>by
  unfold X4;split
  ·rename_i f;exact Cm h n _ (Li h g f.1 f.2)
  ·exact g
theorem Lt{s:ByteArray}{ex:PFn}(h:Re s ex):Re s (Od s ex):=fun p R B f=>Cm h _ _ (X7 h p R B f)
theorem Ya(s:ByteArray):∀f,Re s (S5 s f)
 |0=>fun p R B h=>⟨zD _,B,by simp[S5],h,rfl,rfl⟩
 |f+1=>Lt (Ya s f)
theorem Ko(s:ByteArray)(ex:PFn)(n:Nat)(r:Cg)(h:¬(r.ok=true/\Zb (F0 s r.bD)=false)):I6 s ex n r=r:=by
 cases n with
 |zero=>rfl
 |succ n=>unfold I6;rw[if_neg h]
theorem Dm(s:ByteArray)(ex:PFn)(n:Nat)(r:Cg)(h:¬(r.ok=true/\F0 s r.bD=124)):X4 s ex n r=r:=by
 cases n with
 |zero=>rfl
 |succ n=>unfold X4;rw[if_neg h]
def D6(s:ByteArray)(p:Nat)(R:E0):Bool×Nat×E0:=
 if(S5 s (s.size+1) p R).ok=true then(true,(S5 s (s.size+1) p R).bD,(S5 s (s.size+1) p R).aD.endRule (S5 s (s.size+1) p R).part)
 else(false,(S5 s (s.size+1) p R).bD,(S5 s (s.size+1) p R).aD)
def M3(s:ByteArray):Nat->Bool×Nat×E0->Bool×Nat×E0
 |0,r=>r
 |n+1,r=>if r.1=true/\F0 s r.2.1=10 then M3 s n (D6 s (r.2.1+1) r.2.2)else r
def Va(s:ByteArray):Bool×Nat×E0:=
 let r:=M3 s (s.size+1) (D6 s 0 E0.aR)
 (r.1 && decide (F0 s r.2.1= -1),r.2.1,r.2.2)
theorem Io(s:ByteArray)(n:Nat)(r:Bool×Nat×E0)(h:¬(r.1=true/\F0 s r.2.1=10)):M3 s n r=r:=by
 cases n with
 |zero=>rfl
 |succ n=>unfold M3;rw[if_neg h]
structure RRd where
 bN:Int
 depth:Int
 low:Int
def Cb(c:Int):Int:=if c=110 then 10 else c
def L2(r:RRd)(c:Int):RRd×Bool:=
 if c=10 then(r,false)
 else if r.bN=9 then(⟨6,r.depth,Cb c⟩,true)
 else if r.bN=10 then(⟨8,r.depth,r.low⟩,decide (r.low<=Cb c))
 else if r.bN=4/\c=94 then(⟨5,r.depth,r.low⟩,true)
 else if c=93 then(⟨1,r.depth,r.low⟩,decide (r.bN=6\/r.bN=8))
 else if c=45 then(⟨7,r.depth,r.low⟩,decide (r.bN=6))
 else if c=92 then(⟨if r.bN=7 then 10 else 9,r.depth,r.low⟩,true)
 else if r.bN=7 then(⟨8,r.depth,r.low⟩,decide (r.low<=c))
 else(⟨6,r.depth,c⟩,true)
def X2(r:RRd)(c:Int):RRd×Bool:=
 if 4<=r.bN then L2 r c
 else if r.bN=3 then(⟨1,r.depth,r.low⟩,decide (c≠10))
 else if c=10 then(⟨0,r.depth,r.low⟩,decide (r.bN≠0/\r.depth=0))
 else if c=124 then(⟨0,r.depth,r.low⟩,decide (r.bN≠0))
 else if c=41 then(⟨1,r.depth-1,r.low⟩,decide (r.bN≠0/\0<=r.depth-1))
 else if c=42\/c=43\/c=63 then(⟨2,r.depth,r.low⟩,decide (r.bN=1))
 else if c=40 then(⟨0,r.depth+1,r.low⟩,true)
 else if c=91 then(⟨4,r.depth,r.low⟩,true)
 else if c=92 then(⟨3,r.depth,r.low⟩,true)
 else if c=93 then(r,false)
 else(⟨1,r.depth,r.low⟩,true)
def Aa1(s:ByteArray):Nat->RRd->Nat->Int
 |0,r,p=>if 0<r.depth\/(r.bN≠1/\r.bN≠2)then(s.size:Int)else -1
 |n+1,r,p=>if(X2 r (F0 s p)).2=true then Aa1 s n (X2 r (F0 s p)).1 (p+1)else(p:Int)
def M4(s:ByteArray)(r:RRd)(p:Nat):Int:=Aa1 s (s.size-p) r p
def LG(s:ByteArray):Int:=M4 s ⟨0,0,0⟩ 0
theorem Lc{s:ByteArray}{r:RRd}{p:Nat}(f:s.size<=p):M4 s r p=if 0<r.depth\/(r.bN≠1/\r.bN≠2)then(s.size:Int)else -1:=by
 unfold M4;rw[show s.size-p=0 by omega];rfl
theorem Tj{s:ByteArray}{r:RRd}{p:Nat}(f:p<s.size):M4 s r p=if(X2 r (F0 s p)).2=true then M4 s (X2 r (F0 s p)).1 (p+1)else(p:Int):=by
 unfold M4;rw[show s.size-p=(s.size- (p+1))+1 by omega];rfl
theorem M7{s:ByteArray}{r r':RRd}{p:Nat}(f:p<s.size)(h:X2 r (F0 s p)=(r',true)):M4 s r p=M4 s r' (p+1):=by
 rw[Tj f,h];simp
theorem X5{s:ByteArray}{r r':RRd}{p:Nat}(f:p<s.size)(h:X2 r (F0 s p)=(r',false)):M4 s r p=(p:Int):=by
 rw[Tj f,h];simp
theorem Qd{s:ByteArray}{p:Nat}(h:F0 s p= -1):s.size<=p:=by
 apply xE;intro f;unfold F0 at h;rw[dif_pos f]at h;omega
theorem MU{s:ByteArray}{p:Nat}{m d l:Int}(hp:p<=s.size)(V:m=5\/(m=6/\F0 s p≠45/\F0 s p≠93)\/(m=8/\F0 s p≠93)):
  M4 s ⟨m,d,l⟩ p=if(A4 s p).2.1=true then M4 s ⟨6,d,(A4 s p).1⟩ (A4 s p).2.2 else((A4 s p).2.2:Int):=by
 unfold A4;split
 ·rename_i D;simp only[zX,if_false];rcases D with e|e|e|e
  ·have U:=Qd e;rw[Lc U,if_pos (Or.inr ⟨by simp;omega,by simp;omega⟩)];omega
  ·exact X5 (A1 (by rw[e];decide)) (r':=⟨m,d,l⟩) (by rw[e];simp[X2,L2];omega)
  ·refine X5 (A1 (by rw[e];decide)) (r':=⟨1,d,l⟩) ?_;rw[e];rcases V with rfl|⟨rfl,_,f⟩|⟨rfl,f⟩
   ·simp[X2,L2]
   ·exact absurd e f
   ·exact absurd e f
  ·refine X5 (A1 (by rw[e];decide)) (r':=⟨7,d,l⟩) ?_;rw[e];rcases V with rfl|⟨rfl,f,_⟩|⟨rfl,f⟩
   ·simp[X2,L2]
   ·exact absurd e f
   ·simp[X2,L2]
 ·rename_i D;have Y:F0 s p≠ -1:=fun e=>D (Or.inl e)
  have Z:F0 s p≠10:=fun e=>D (Or.inr (Or.inl e))
  have n3:F0 s p≠93:=fun e=>D (Or.inr (Or.inr (Or.inl e)))
  have n4:F0 s p≠45:=fun e=>D (Or.inr (Or.inr (Or.inr e)))
  have J:=A1 Y;have K:m=5\/m=6\/m=8:=by omega
  unfold O5;split
  ·rename_i B;simp only[if_true];refine M7 J ?_;rcases K with rfl|rfl|rfl <;>simp[X2,L2,Z,n3,n4,B]
  ·rename_i B;have G:F0 s p=92:=Decidable.not_not.1 B;rw[M7 J (r':=⟨9,d,l⟩) (by rw[G];rcases K with rfl|rfl|rfl <;>simp[X2,L2])];split
   ·rename_i f;simp only[zX,if_false];rcases f with e|e
    ·have U:=Qd e;rw[Lc U,if_pos (Or.inr ⟨by simp,by simp⟩)];omega
    ·exact X5 (A1 (by rw[e];decide)) (r':=⟨9,d,l⟩) (by rw[e];simp[X2,L2])
   ·rename_i f;have W:F0 s (p+1)≠ -1:=fun e=>f (Or.inl e)
    have X:F0 s (p+1)≠10:=fun e=>f (Or.inr e)
    have h:=A1 W;split
    ·rename_i M;simp only[if_true];exact M7 h (by rw[M];simp[X2,L2,Cb])
    ·rename_i M;simp only[if_true];exact M7 h (by simp[X2,L2,Cb,X,M])
theorem LU{s:ByteArray}{p:Nat}{d l:Int}(hp:p<=s.size):
  M4 s ⟨7,d,l⟩ p=if(A4 s p).2.1=true then(if(A4 s p).1<l then(((A4 s p).2.2-1:Nat):Int)else M4 s ⟨8,d,l⟩ (A4 s p).2.2)else((A4 s p).2.2:Int):=by
 unfold A4;split
 ·rename_i D;simp only[zX,if_false];rcases D with e|e|e|e
  ·have U:=Qd e;rw[Lc U,if_pos (Or.inr ⟨by simp,by simp⟩)];omega
  ·exact X5 (A1 (by rw[e];decide)) (r':=⟨7,d,l⟩) (by rw[e];simp[X2,L2])
  ·exact X5 (A1 (by rw[e];decide)) (r':=⟨1,d,l⟩) (by rw[e];simp[X2,L2])
  ·exact X5 (A1 (by rw[e];decide)) (r':=⟨7,d,l⟩) (by rw[e];simp[X2,L2])
 ·rename_i D;have n1:F0 s p≠ -1:=fun e=>D (Or.inl e)
  have W:F0 s p≠10:=fun e=>D (Or.inr (Or.inl e))
  have X:F0 s p≠93:=fun e=>D (Or.inr (Or.inr (Or.inl e)))
  have Y:F0 s p≠45:=fun e=>D (Or.inr (Or.inr (Or.inr e)))
  have B:=A1 n1;unfold O5;split
  ·rename_i h;simp only[if_true];split
   ·rename_i K;rw[X5 B (r':=⟨8,d,l⟩) (by simp[X2,L2,W,X,Y,h];omega)];simp
   ·rename_i K;exact M7 B (by simp[X2,L2,W,X,Y,h];omega)
  ·rename_i h;have J:F0 s p=92:=Decidable.not_not.1 h;rw[M7 B (r':=⟨10,d,l⟩) (by rw[J];simp[X2,L2])];split
   ·rename_i M;simp only[zX,if_false];rcases M with e|e
    ·have U:=Qd e;rw[Lc U,if_pos (Or.inr ⟨by simp,by simp⟩)];omega
    ·exact X5 (A1 (by rw[e];decide)) (r':=⟨10,d,l⟩) (by rw[e];simp[X2,L2])
   ·rename_i M;have Z:F0 s (p+1)≠ -1:=fun e=>M (Or.inl e)
    have V:F0 s (p+1)≠10:=fun e=>M (Or.inr e)
    have f:=A1 Z;split
    ·rename_i G;simp only[if_true];split
     ·rename_i K;rw[X5 f (r':=⟨8,d,l⟩) (by rw[G];simp[X2,L2,Cb];omega)];simp
     ·rename_i K;exact M7 f (by rw[G];simp[X2,L2,Cb];omega)
    ·rename_i G;simp only[if_true];split
     ·rename_i K;rw[X5 f (r':=⟨8,d,l⟩) (by simp[X2,L2,Cb,V,G];omega)];simp
     ·rename_i K;exact M7 f (by simp[X2,L2,Cb,V,G];omega)
def JV(s:ByteArray)(m:Int)(q:Nat):Prop:=(m=6/\F0 s q≠45)\/m=8
theorem Pv{s:ByteArray}{p:Nat}{m d l:Int}(M:p<=s.size)(V:m=5\/(m=6/\F0 s p≠45/\F0 s p≠93)\/(m=8/\F0 s p≠93)):
  ((B4 s p).2.2.1=true->∃U W,JV s U (B4 s p).2.2.2/\M4 s ⟨m,d,l⟩ p=M4 s ⟨U,d,W⟩ (B4 s p).2.2.2)
  /\((B4 s p).2.2.1=false->M4 s ⟨m,d,l⟩ p=((B4 s p).2.2.2:Int)):=by
 have B:=MU (d:=d) (l:=l) M V;have X:=Hj s p M;unfold B4;split
 ·rename_i J;simp only;constructor
  ·intro h;rcases J with e|e
   ·rw[h]at e;exact absurd e (by decide)
   ·rw[if_pos h]at B;exact⟨6,_,Or.inl ⟨rfl,e⟩,B⟩
  ·intro h;rw[h]at B;simpa using B
 ·rename_i J;have h:(A4 s p).2.1=true:=by
   cases e:(A4 s p).2.1
   ·exact absurd (Or.inl e) J
   ·rfl
  have D:F0 s (A4 s p).2.2=45:=Decidable.not_not.1 (fun e=>J (Or.inr e));have K:(A4 s p).2.2<s.size:=A1 (by rw[D];decide);rw[if_pos h,M7 K (r':=⟨7,d,(A4 s p).1⟩) (by rw[D];simp[X2,L2]),LU (by omega)]at B;split
  ·rename_i G;simp only[zX,false_implies,true_and,forall_const];rw[if_pos G.1,if_pos G.2]at B;exact B
  ·rename_i G;simp only;constructor
   ·intro f;rw[if_pos f,if_neg (fun e=>G ⟨f,e⟩)]at B;exact⟨8,_,Or.inr rfl,B⟩
   ·intro f;rw[f]at B;simpa using B
theorem Is{s:ByteArray}{d:Int}:∀(n:Nat) (A:Nat->Bool) (f:Bool) (p:Nat) (m l:Int),p<=s.size->s.size<n+p->f=true->JV s m p->
  ((C4 s n A f p).2.1=true->∃J,M4 s ⟨m,d,l⟩ p=M4 s ⟨1,d,J⟩ ((C4 s n A f p).2.2+1))
  /\((C4 s n A f p).2.1=false->M4 s ⟨m,d,l⟩ p=((C4 s n A f p).2.2:Int))
 |0,A,f,p,m,l,hp,hn,hok,hb=>by omega
 |n+1,A,f,p,m,l,hp,hn,hok,hb=>by
  unfold C4;split
  ·rename_i D;have V:m=5\/(m=6/\F0 s p≠45/\F0 s p≠93)\/(m=8/\F0 s p≠93):=by
    rcases hb with⟨e,h⟩|e
    ·exact Or.inr (Or.inl ⟨e,h,D.2⟩)
    ·exact Or.inr (Or.inr ⟨e,D.2⟩)
   have M:=Pv (d:=d) (l:=l) hp V;have K:=R7 s p hp;cases hok2:(B4 s p).2.2.1
   ·rw[U8 _ _ _ _ _ (by simp)];simp only[zX,false_implies,true_and,forall_const];exact M.2 hok2
   ·obtain⟨W,J,G,U⟩:=M.1 hok2;have:=K.2.2 hok2;rw[U];exact Is n _ true _ W J K.2.1 (by omega) rfl G
  ·rename_i D;have B:F0 s p=93:=Decidable.not_not.1 (fun e=>D ⟨hok,e⟩);subst hok;simp only[yR,false_implies,and_true,forall_const];refine⟨l,M7 (A1 (by rw[B];decide)) ?_⟩;rw[B];rcases hb with⟨rfl,_⟩|rfl <;>simp[X2,L2]
theorem NB{s:ByteArray}{p:Nat}{d l:Int}(hp:p<s.size):
  ((Y7 s p).2.1=true->∃Y,M4 s ⟨4,d,l⟩ (p+1)=M4 s ⟨1,d,Y⟩ (Y7 s p).2.2)
  /\((Y7 s p).2.1=false->M4 s ⟨4,d,l⟩ (p+1)=((Y7 s p).2.2:Int)):=by
 obtain⟨J,f⟩:∃J,decide (F0 s (p+1)=94)=J:=⟨_,rfl⟩;obtain⟨u,G⟩:∃u,(if J=true then p+2 else p+1)=u:=⟨_,rfl⟩;have B:u<=s.size/\M4 s ⟨4,d,l⟩ (p+1)=M4 s ⟨5,d,l⟩ u:=by
  cases J
  ·simp at f G;subst G;refine⟨by omega,?_⟩
   by_cases h:p+1<s.size
   ·rw[Tj h,Tj h];have:X2 ⟨4,d,l⟩ (F0 s (p+1))=X2 ⟨5,d,l⟩ (F0 s (p+1))\/F0 s (p+1)=10:=by
     by_cases D:F0 s (p+1)=10
     ·exact Or.inr D
     ·left;simp[X2,L2,f,D]
    rcases this with e|e
    ·rw[e]
    ·rw[e];simp[X2,L2]
   ·rw[Lc (by omega),Lc (by omega)];simp
  ·simp at f G;subst G;have h:=A1 (s:=s) (p:=p+1) (by rw[f];decide);exact⟨by omega,M7 h (by rw[f];simp[X2,L2])⟩
 obtain⟨⟨lo,hi,ok,q⟩,Z⟩:∃M,B4 s u=M:=⟨_,rfl⟩;obtain⟨R,K⟩:∃R,C4 s (s.size+1) (P9 Ja lo hi) ok q=R:=⟨_,rfl⟩;rw[Mg f G Z K,B.2];have U:=Pv (m:=5) (d:=d) (l:=l) B.1 (Or.inl rfl);have W:=R7 s u B.1;rw[Z]at U W;simp only at U W;cases ok
 ·rw[U8 _ _ _ _ _ (by simp)]at K;subst K;simp only[zX,if_false,false_implies,true_and,forall_const];exact U.2 rfl
 ·obtain⟨m',Y,V,he⟩:=U.1 rfl;rw[he];have X:=Is (d:=d) (s.size+1) (P9 Ja lo hi) true q m' Y W.2.1 (by omega) rfl V;rw[K]at X;cases e:R.2.1
  ·simp only[zX,if_false,false_implies,true_and,forall_const];exact X.2 e
  ·simp only[if_true,yR,false_implies,and_true,forall_const];exact X.1 e
theorem VO{s:ByteArray}{p:Nat}{m d l:Int}(hp:p<=s.size)(hm:m=0\/((m=1\/m=2)/\F0 s p≠ -1/\F0 s p≠10/\F0 s p≠124/\F0 s p≠41))(Y:m=1->F0 s p≠42/\F0 s p≠43/\F0 s p≠63)(Z:F0 s p≠40):
  ((W6 s p).2.1=true->∃l',M4 s ⟨m,d,l⟩ p=M4 s ⟨1,d,l'⟩ (W6 s p).2.2)
  /\((W6 s p).2.1=false->M4 s ⟨m,d,l⟩ p=((W6 s p).2.2:Int)):=by
 unfold W6;split
 ·rename_i X;simp only[zX,false_implies,true_and,forall_const];have D:F0 s p= -1\/F0 s p=10\/F0 s p=124\/F0 s p=41->m=0:=by omega
  rcases X with e|e|e|e|e|e|e|e|e
  ·have hz:=Qd e;rw[D (Or.inl e),Lc hz,if_pos (Or.inr ⟨by simp,by simp⟩)];omega
  ·rw[D (by omega)];exact X5 (A1 (by rw[e];decide)) (r':=⟨0,d,l⟩) (by rw[e];simp[X2])
  ·rw[D (by omega)];exact X5 (A1 (by rw[e];decide)) (r':=⟨0,d,l⟩) (by rw[e];simp[X2])
  ·have:m≠1:=fun h=>(Y h).1 e
   have B:m=0\/m=2:=by omega
   exact X5 (A1 (by rw[e];decide)) (r':=⟨2,d,l⟩) (by rw[e];rcases B with rfl|rfl <;>simp[X2])
  ·have:m≠1:=fun h=>(Y h).2.1 e
   have B:m=0\/m=2:=by omega
   exact X5 (A1 (by rw[e];decide)) (r':=⟨2,d,l⟩) (by rw[e];rcases B with rfl|rfl <;>simp[X2])
  ·have:m≠1:=fun h=>(Y h).2.2 e
   have B:m=0\/m=2:=by omega
   exact X5 (A1 (by rw[e];decide)) (r':=⟨2,d,l⟩) (by rw[e];rcases B with rfl|rfl <;>simp[X2])
  ·exact absurd e Z
  ·rw[D (by omega)];exact X5 (A1 (by rw[e];decide)) (r':=⟨1,d-1,l⟩) (by rw[e];simp[X2])
  ·have:¬4<=m/\m≠3:=by omega
   exact X5 (A1 (by rw[e];decide)) (r':=⟨m,d,l⟩) (by rw[e];simp[X2,this])
 ·rename_i X;simp only[S7,not_or]at X;obtain⟨n1,n2,n3,n4,n5,n6,n7,n8,n9⟩:=X;have f:=A1 n1;have G:¬4<=m/\m≠3:=by omega
  split
  ·rename_i M;simp only[yR,false_implies,and_true,forall_const];exact⟨l,M7 f (by rw[M];simp[X2,G])⟩
  ·split
   ·rename_i J;rw[M7 f (r':=⟨4,d,l⟩) (by rw[J];simp[X2,G])];exact NB f
   ·rename_i M J;unfold O5;split
    ·rename_i K;simp only[yR,false_implies,and_true,forall_const];exact⟨l,M7 f (by simp[X2,G,n2,n3,n4,n5,n6,n7,n8,n9,J,K])⟩
    ·rename_i K;have U:F0 s p=92:=Decidable.not_not.1 K;rw[M7 f (r':=⟨3,d,l⟩) (by rw[U];simp[X2,G])];split
     ·rename_i W;simp only[zX,false_implies,true_and,forall_const];rcases W with e|e
      ·have hz:=Qd e;rw[Lc hz,if_pos (Or.inr ⟨by simp,by simp⟩)];omega
      ·exact X5 (A1 (by rw[e];decide)) (r':=⟨1,d,l⟩) (by rw[e];simp[X2])
     ·rename_i W;have k1:F0 s (p+1)≠ -1:=fun e=>W (Or.inl e)
      have k2:F0 s (p+1)≠10:=fun e=>W (Or.inr e)
      have V:M4 s ⟨3,d,l⟩ (p+1)=M4 s ⟨1,d,l⟩ (p+2):=M7 (A1 k1) (by simp[X2,k2]);split
      ·simp only[yR,false_implies,and_true,forall_const];exact⟨l,V⟩
      ·simp only[yR,false_implies,and_true,forall_const];exact⟨l,V⟩
def IV(s:ByteArray)(m:Int)(p:Nat):Prop:=
 m=0\/((m=1\/m=2)/\Zb (F0 s p)=false/\(m=1->F0 s p≠42/\F0 s p≠43/\F0 s p≠63))
def Ac4(s:ByteArray)(m:Int)(q:Nat):Prop:=(m=1/\F0 s q≠42/\F0 s q≠43/\F0 s q≠63)\/m=2
def Zn(s:ByteArray)(m d l:Int)(p:Nat)(h:Bool)(q:Nat)(Q:Int->Prop):Prop:=
 (h=true->∃f B,Q f/\M4 s ⟨m,d,l⟩ p=M4 s ⟨f,d,B⟩ q)/\(h=false->M4 s ⟨m,d,l⟩ p=(q:Int))
theorem WR{b:Int}(h:Zb b=false):b≠ -1/\b≠10/\b≠124/\b≠41:=by
 unfold Zb at h;simp only[decide_eq_false_iff_not,not_or]at h;exact h
def LV(s:ByteArray)(ex:PFn)(f:Nat):Prop:=
 ∀p R d l,f<=p->p<=s.size->R.aC.length<=p->0<=d->Zn s 0 d l p (ex p R).ok (ex p R).bD (fun m=>(m=1\/m=2)/\Zb (F0 s (ex p R).bD)=true/\F0 s (ex p R).bD≠124)
theorem ZD{s:ByteArray}{ex:PFn}{k p:Nat}{R:E0}{m d l:Int}(h:LV s ex k)(hg:Re s ex)(hk:k<=p+1)(hp:p<=s.size)(hR:R.aC.length<=p)(hd:0<=d)(Z:IV s m p):
  Zn s m d l p (Ce s ex p R).ok (Ce s ex p R).bD (fun K=>K=1):=by
 unfold Ce;split
 ·rename_i B;have Y:=A1 (s:=s) (p:=p) (by rw[B];decide);have a0:¬4<=m/\m≠3:=by unfold IV at Z;omega
  have X:M4 s ⟨m,d,l⟩ p=M4 s ⟨0,d+1,l⟩ (p+1):=M7 Y (by rw[B];simp[X2,a0]);have hx:=h (p+1) R (d+1) l hk (by omega) (by omega) (by omega);unfold Ee;unfold Zn;rw[X];cases f:(ex (p+1) R).ok
  ·simp only[zX,false_and,if_false,false_implies,true_and,forall_const];exact hx.2 f
  ·obtain⟨K,V,⟨a3,U,a1⟩,G⟩:=hx.1 f;have D:¬4<=K/\K≠3/\K≠0:=by omega
   split
   ·rename_i M;simp only[yR,false_implies,and_true,forall_const];refine⟨1,V,rfl,?_⟩;rw[G];refine M7 (A1 (by rw[M.2];decide)) ?_;rw[M.2];simp[X2,D];omega
   ·rename_i M;simp only[zX,false_implies,true_and,forall_const];rw[G];have a2:F0 s (ex (p+1) R).bD≠41:=fun e=>M ⟨rfl,e⟩
    have W:F0 s (ex (p+1) R).bD= -1\/F0 s (ex (p+1) R).bD=10:=by
     unfold Zb at U;simp only[decide_eq_true_eq]at U;omega
    rcases W with e|e
    ·have hz:=Qd e;rw[Lc hz,if_pos (Or.inl (by simp;omega))];have:=(hg (p+1) R (by omega) (by omega)).cV;omega
    ·exact X5 (A1 (by rw[e];decide)) (r':=⟨0,d+1,V⟩) (by rw[e];simp[X2,D];omega)
 ·rename_i B;have J:=VO (m:=m) (d:=d) (l:=l) hp (by
   rcases Z with e|⟨e,h1,h2⟩
   ·exact Or.inl e
   ·exact Or.inr ⟨e,WR h1⟩) (fun e=>by
   rcases Z with e'|⟨_,_,h2⟩
   ·omega
   ·exact h2 e) B
  split
  ·rename_i f;obtain⟨V,U⟩:=J.1 f;exact⟨fun _=>⟨1,V,rfl,U⟩,fun e=>absurd e (by simp)⟩
  ·rename_i f;exact⟨fun e=>absurd e (by simp),fun _=>J.2 (by simpa using f)⟩
theorem AE{s:ByteArray}{p:Nat}{m d l:Int}{a:Cg}(h:Zn s m d l p a.ok a.bD (fun G=>G=1)):Zn s m d l p (Ue s a).ok (Ue s a).bD (fun G=>Ac4 s G (Ue s a).bD):=by
 unfold Ue;cases hok:a.ok
 ·simp only[if_true];exact⟨fun e=>absurd e (by simp),fun _=>h.2 hok⟩
 ·obtain⟨G,D,rfl,J⟩:=h.1 hok;simp only[yR,if_false];have B:F0 s a.bD=42\/F0 s a.bD=43\/F0 s a.bD=63->M4 s ⟨m,d,l⟩ p=M4 s ⟨2,d,D⟩ (a.bD+1):=by
   intro f;rw[J];refine M7 (A1 (by rcases f with e|e|e <;>rw[e] <;>decide)) ?_;rcases f with e|e|e <;>rw[e] <;>simp[X2]
  split
  ·rename_i f;exact⟨fun _=>⟨2,D,Or.inr rfl,B (Or.inl f)⟩,fun e=>absurd e (by simp)⟩
  ·split
   ·rename_i f;exact⟨fun _=>⟨2,D,Or.inr rfl,B (Or.inr (Or.inl f))⟩,fun e=>absurd e (by simp)⟩
   ·split
    ·rename_i f;exact⟨fun _=>⟨2,D,Or.inr rfl,B (Or.inr (Or.inr f))⟩,fun e=>absurd e (by simp)⟩
    ·rename_i K M U;exact⟨fun _=>⟨1,D,Or.inl ⟨rfl,K,M,U⟩,J⟩,fun e=>absurd e (by simp)⟩
theorem Hs{s:ByteArray}{ex:PFn}{k:Nat}{m d l:Int}{p:Nat}{R:E0}(h:LV s ex k)(K:Re s ex)(hk:k<=p+1)(hp:p<=s.size)(V:0<=d):∀(n:Nat) (r:Cg),Xn s p R r->(r.ok=true->s.size<n+r.bD)->
  Zn s m d l p r.ok r.bD (fun B=>Ac4 s B r.bD)->
  Zn s m d l p (I6 s ex n r).ok (I6 s ex n r).bD (fun B=>(B=1\/B=2)/\Zb (F0 s (I6 s ex n r).bD)=true)
 |0,r,g,hn,hs=>⟨fun f=>by
   have J:r.ok=true:=f;have:=g.cV;have:=hn J;omega,hs.2⟩
 |n+1,r,g,hn,hs=>by
  unfold I6;split
  ·rename_i D;have q:=Td K r.bD r.aD g.cV g.bU;refine Hs h K hk hp V n _ (Yj K g D.1) ?_ ?_
   ·intro f;have:=q.ok f;have:=hn D.1;simp only;omega
   ·obtain⟨B,U,G,M⟩:=hs.1 D.1;have Z:IV s B r.bD:=by
     rcases G with⟨e,W,X,Y⟩|e
     ·exact Or.inr ⟨Or.inl e,D.2,fun _=>⟨W,X,Y⟩⟩
     ·exact Or.inr ⟨Or.inr e,D.2,fun e'=>by omega⟩
    have hx:=AE (ZD (l:=U) h K (by have:=g.le;omega) g.cV g.bU V Z);simp only;unfold Zn;rw[M];exact hx
  ·rename_i D;refine⟨fun f=>?_,hs.2⟩;obtain⟨B,U,G,M⟩:=hs.1 f;refine⟨B,U,⟨?_,?_⟩,M⟩
   ·rcases G with⟨e,_⟩|e
    ·exact Or.inl e
    ·exact Or.inr e
   ·cases e:Zb (F0 s r.bD)
    ·exact absurd ⟨f,e⟩ D
    ·rfl
theorem GL{s:ByteArray}{ex:PFn}{k:Nat}{m d l:Int}{p:Nat}{R:E0}(h:LV s ex k)(f:Re s ex)(J:k<=p+1)(B:p<=s.size)(D:R.aC.length<=p)(G:0<=d):
  Zn s 0 d l p (O2 s ex p R).ok (O2 s ex p R).bD (fun K=>(K=1\/K=2)/\Zb (F0 s (O2 s ex p R).bD)=true):=by
 have q:=Td f p R B D;exact Hs h f J B G (s.size+1) _ q (fun _=>by omega) (AE (ZD h f J B D G (Or.inl rfl)))
theorem Po{s:ByteArray}{ex:PFn}{k:Nat}{m d l:Int}{p:Nat}{R:E0}(h:LV s ex k)(U:Re s ex)(hk:k<=p+1)(hp:p<=s.size)(Y:0<=d):∀(n:Nat) (r:Cg),Xn s p R r->(r.ok=true->s.size<n+r.bD)->
  Zn s m d l p r.ok r.bD (fun B=>(B=1\/B=2)/\Zb (F0 s r.bD)=true)->
  Zn s m d l p (X4 s ex n r).ok (X4 s ex n r).bD (fun B=>(B=1\/B=2)/\Zb (F0 s (X4 s ex n r).bD)=true/\F0 s (X4 s ex n r).bD≠124)
 |0,r,g,hn,hs=>⟨fun f=>by
   have K:r.ok=true:=f;have:=g.cV;have:=hn K;omega,hs.2⟩
 |n+1,r,g,hn,hs=>by
  unfold X4;split
  ·rename_i D;have X:=A1 (s:=s) (p:=r.bD) (by rw[D.2];decide);have q:=X7 U (r.bD+1) r.aD (by omega) (by have:=g.bU;omega);refine Po h U hk hp Y n _ (Li U g D.1 D.2) ?_ ?_
   ·intro f;have:=q.ok f;have:=hn D.1;simp only;omega
   ·obtain⟨B,M,⟨G,_⟩,V⟩:=hs.1 D.1;have J:¬4<=B/\B≠3/\B≠0:=by omega
    have hx:=GL (m:=m) (l:=M) (d:=d) h U (p:=r.bD+1) (R:=r.aD) (by have:=g.le;omega) (by omega) (by have:=g.bU;omega) Y;have W:M4 s ⟨B,d,M⟩ r.bD=M4 s ⟨0,d,M⟩ (r.bD+1):=M7 X (by rw[D.2];simp[X2,J]);simp only;unfold Zn;rw[V,W];exact hx
  ·rename_i D;refine⟨fun f=>?_,hs.2⟩;obtain⟨B,M,⟨G,Z⟩,V⟩:=hs.1 f;exact⟨B,M,⟨G,Z,fun e=>D ⟨f,e⟩⟩,V⟩
theorem Cu(s:ByteArray):∀(f:Nat),LV s (S5 s f) (s.size+1-f)
 |0=>fun p R d l J h B D=>by omega
 |f+1=>fun p R d l J h B D=>by
  have G:=Ya s f;have q:=X7 G p R h B;exact Po (m:=0) (l:=l) (Cu s f) G (by omega) h D (s.size+1) _ q (fun _=>by omega) (GL (m:=0) (Cu s f) G (by omega) h B D)
theorem BE{s:ByteArray}{p:Nat}{R:E0}{l:Int}(D:p<=s.size)(B:R.aC.length<=p):
  Zn s 0 0 l p (D6 s p R).1 (D6 s p R).2.1 (fun m=>(m=1\/m=2)/\Zb (F0 s (D6 s p R).2.1)=true/\F0 s (D6 s p R).2.1≠124):=by
 have h:=Cu s (s.size+1) p R 0 l (by omega) D B (by omega);unfold D6;split
 ·rename_i f;exact⟨fun _=>h.1 f,fun e=>absurd e (by simp)⟩
 ·rename_i f;exact⟨fun e=>absurd e (by simp),fun _=>h.2 (by simpa using f)⟩
theorem RD{s:ByteArray}{p:Nat}{R:E0}(h:p<=s.size)(f:R.aC.length<=p):
  p<=(D6 s p R).2.1/\(D6 s p R).2.1<=s.size/\(D6 s p R).2.2.aC.length<=(D6 s p R).2.1:=by
 have g:=Ya s (s.size+1) p R h f;unfold D6;split
 ·exact⟨g.le,g.cV,g.bU⟩
 ·exact⟨g.le,g.cV,g.bU⟩
theorem Gs{s:ByteArray}:∀(n:Nat) (r:Bool×Nat×E0),r.2.1<=s.size->r.2.2.aC.length<=r.2.1->(r.1=true->s.size<n+r.2.1)->
  Zn s 0 0 0 0 r.1 r.2.1 (fun m=>(m=1\/m=2)/\Zb (F0 s r.2.1)=true/\F0 s r.2.1≠124)->
  Zn s 0 0 0 0 (M3 s n r).1 (M3 s n r).2.1 (fun m=>(m=1\/m=2)/\Zb (F0 s (M3 s n r).2.1)=true/\F0 s (M3 s n r).2.1≠124/\F0 s (M3 s n r).2.1≠10)/\(M3 s n r).2.1<=s.size
 |0,r,hp,hR,hn,hs=>⟨⟨fun f=>by
   have K:r.1=true:=f;have:=hn K;omega,hs.2⟩,hp⟩
 |n+1,r,hp,hR,hn,hs=>by
  unfold M3;split
  ·rename_i h;have W:=A1 (s:=s) (p:=r.2.1) (by rw[h.2];decide);have q:=RD (s:=s) (p:=r.2.1+1) (R:=r.2.2) (by omega) (by omega);refine Gs n _ q.2.1 q.2.2 (fun f=>by have:=hn h.1;omega) ?_;obtain⟨B,M,⟨G,_⟩,U⟩:=hs.1 h.1;have J:¬4<=B/\B≠3/\B≠0:=by omega
   have V:M4 s ⟨B,0,M⟩ r.2.1=M4 s ⟨0,0,M⟩ (r.2.1+1):=M7 W (by rw[h.2];simp[X2,J]);unfold Zn;rw[U,V];exact BE (by omega) (by omega)
  ·rename_i h;refine⟨⟨fun f=>?_,hs.2⟩,hp⟩;obtain⟨B,M,⟨G,X,D⟩,U⟩:=hs.1 f;exact⟨B,M,⟨G,X,D,fun e=>h ⟨f,e⟩⟩,U⟩
theorem MD(s:ByteArray):LG s=if(Va s).1=true then -1 else((Va s).2.1:Int):=by
 have q:=RD (s:=s) (p:=0) (R:=E0.aR) (by omega) (by simp[E0.aR]);have h:=Gs (s:=s) (s.size+1) (D6 s 0 E0.aR) q.2.1 q.2.2 (fun _=>by omega) (BE (by omega) (by simp[E0.aR]));unfold Va LG;simp only;generalize M3 s (s.size+1) (D6 s 0 E0.aR)=r at h⊢;obtain⟨K,X⟩:=h;cases hok:r.1
 ·simp only[xB,zX,if_false];exact K.2 hok
 ·obtain⟨D,W,⟨V,J,G,M⟩,U⟩:=K.1 hok;have f:¬4<=D/\D≠3/\D≠0:=by omega
  rw[U]
  by_cases e:F0 s r.2.1= -1
  ·rw[Lc (Qd e),if_neg (by simp;omega),if_pos (by simp[e])]
  ·have B:F0 s r.2.1=41:=by
    unfold Zb at J;simp only[decide_eq_true_eq]at J;omega
   rw[if_neg (by simp[e])];exact X5 (A1 e) (r':=⟨1,0-1,W⟩) (by rw[B];simp[X2,f])
def I0.iV(s:I0)(p:Nat):Bool:=if p<64 then s.lo.getLsbD p else s.hi.getLsbD (p-64)
theorem QP(a:BitVec 64)(p:Nat):(a &&& (1#64<<<p)==0)=!(a.getLsbD p):=by
 have e:1#64<<<p=BitVec.twoPow 64 p:=by rw[BitVec.twoPow_eq]
 rw[e,BitVec.and_twoPow]
 by_cases h:a.getLsbD p=true
 ·have f:p<64:=BitVec.lt_of_getLsbD h;rw[if_pos h,h];have:BitVec.twoPow 64 p≠0#64:=by
   intro e;have:=congrArg (fun x=>x.getLsbD p) e;simp[f]at this
  simp[this]
 ·rw[if_neg h];simp at h;simp[h]
theorem Ek(s:I0)(p:Nat):s.has p=s.iV p:=by
 unfold I0.has I0.cL I0.only I0.iV
 by_cases f:p<64
 ·rw[if_pos f,if_pos f];simp only;rw[QP];simp
 ·rw[if_neg f,if_neg f]
  by_cases h:p<128
  ·rw[if_pos h];simp only;rw[QP];simp
  ·rw[if_neg h];simp[I0.none];exact BitVec.getLsbD_of_ge s.hi (p-64) (by omega)
theorem Bb(s t:I0)(p:Nat):(s.or t).has p=(s.has p || t.has p):=by
 simp only[Ek];unfold I0.iV I0.or;split <;>simp
theorem Xq(s t:I0)(p:Nat):(s.and t).has p=(s.has p && t.has p):=by
 simp only[Ek];unfold I0.iV I0.and;split <;>simp
theorem W9(p:Nat):I0.none.has p=false:=by
 simp only[Ek];unfold I0.iV I0.none;split <;>simp
theorem Fe(p q:Nat)(D:p<128):(I0.only p).has q=decide (p=q):=by
 rw[Ek];unfold I0.iV I0.only
 by_cases B:p<64
 ·rw[if_pos B]
  by_cases f:q<64
  ·rw[if_pos f];simp[f]
   by_cases h:p=q
   ·subst h;simp
   ·simp[h];omega
  ·rw[if_neg f];simp;omega
 ·rw[if_neg B,if_pos D]
  by_cases f:q<64
  ·rw[if_pos f];simp;omega
  ·rw[if_neg f]
   by_cases h:p=q
   ·subst h;simp[BitVec.getLsbD_shiftLeft];omega
   ·simp[BitVec.getLsbD_shiftLeft,h];omega
theorem Hz{s t:I0}(h:∀p,s.has p=t.has p):s=t:=by
 obtain⟨D,B⟩:=s;obtain⟨J,G⟩:=t
 congr 1
 ·refine BitVec.eq_of_getLsbD_eq fun i f=>?_
  have:=h i;simp only[Ek]at this;unfold I0.iV at this;rw[if_pos f,if_pos f]at this;exact this
 ·refine BitVec.eq_of_getLsbD_eq fun i f=>?_
  have:=h (i+64);simp only[Ek]at this;unfold I0.iV at this;rw[if_neg (by omega),if_neg (by omega)]at this;simpa using this
theorem Pd(s:I0):s.isEmpty=true↔∀p,s.has p=false:=by
 constructor
 ·intro h p;unfold I0.isEmpty at h;simp at h;rw[Ek];unfold I0.iV;split
  ·rw[h.1];simp
  ·rw[h.2];simp
 ·intro h;have:s=I0.none:=Hz fun p=>by rw[h p,W9]
  rw[this];rfl
theorem KJ{s:I0}(h:s.isEmpty=false):∃p,s.has p=true:=by
 refine Classical.byContradiction fun f=>?_
 have:s.isEmpty=true:=(Pd s).2 fun p=>by
  cases e:s.has p
  ·rfl
  ·exact absurd ⟨p,e⟩ f
 rw[h]at this;cases this
theorem DD(s t:I0):s.cL t=true↔∃p,s.has p=true/\t.has p=true:=by
 have e:s.cL t=!(s.and t).isEmpty:=by
  unfold I0.cL I0.isEmpty I0.and;simp only[Bool.not_and]
 rw[e];constructor
 ·intro h;simp at h;obtain⟨p,f⟩:=KJ h;rw[Xq,yK]at f;exact⟨p,f⟩
 ·rintro⟨p,B,D⟩;cases e:(s.and t).isEmpty
  ·rfl
  ·have:=(Pd _).1 e p;rw[Xq,B,D]at this;cases this
theorem Fh{l:List I0}:∀{k:Nat} {p:Nat} ,((l.getD k I0.none).has p=true)->k<l.length:=fun{k p} h=>by
 refine Classical.byContradiction fun f=>?_
 have e:l.getD k I0.none=I0.none:=by
  rw[zC,yJ (by omega)];rfl
 rw[e,W9]at h;cases h
theorem Eo(s:I0)(q:Nat):∀(l:List I0) (k:Nat) (D:I0),(Y8 s k l D).has q=true↔(D.has q=true\/∃i,s.has (k+i)=true/\(l.getD i I0.none).has q=true)
 | [],k,D=>by
  simp only[Y8];refine⟨fun h=>.inl h,fun h=>?_⟩;rcases h with h|⟨i,_,B⟩
  ·exact h
  ·have:=Fh B;simp at this
 |f::r,k,D=>by
  unfold Y8;rw[Eo s q r (k+1)];constructor
  ·rintro(h|⟨i,G,B⟩)
   ·split at h
    ·rename_i J;rw[Bb,yZ]at h;rcases h with h|h
     ·exact .inl h
     ·exact .inr ⟨0,J,by simpa using h⟩
    ·exact .inl h
   ·exact .inr ⟨i+1,by rw[show k+(i+1)=k+1+i by omega];exact G,by simpa using B⟩
  ·rintro(h|⟨i,G,B⟩)
   ·left;split
    ·rw[Bb,h];rfl
    ·exact h
   ·cases i with
    |zero=>
     left
     rw[if_pos (by simpa using G),Bb];simp at B;rw[B];simp
    |succ i=>exact .inr ⟨i,by rw[show k+1+i=k+(i+1) by omega];exact G,by simpa using B⟩
theorem XB(R:E0)(s:I0)(q:Nat):(R.after s).has q=true↔∃i,s.has i=true/\(R.aC.getD i I0.none).has q=true:=by
 unfold E0.after;rw[Eo];simp[W9]
theorem Er(a b:I0)(p q:Nat):∀(l:List I0) (k:Nat),((Q7 a b k l).getD p I0.none).has q=true↔((l.getD p I0.none).has q=true\/(p<l.length/\a.has (k+p)=true/\b.has q=true))
 | [],k=>by simp[Q7]
 |s::r,k=>by
  unfold Q7;cases p with
  |zero=>
   simp;split
   ·rename_i h;rw[Bb,yZ];simp[h]
   ·rename_i h;simp[h]
  |succ p=>
   simp only[List.getD_cons_succ,yH];rw[Er a b p q r (k+1),show k+1+p=k+(p+1) by omega];simp
theorem XW(R:E0)(a b:I0)(p q:Nat):(((R.link a b).aC.getD p I0.none).has q=true)↔((R.aC.getD p I0.none).has q=true\/(p<R.aC.length/\a.has p=true/\b.has q=true)):=by
 unfold E0.link;simp only;rw[Er];simp
theorem Si(s:I0):∀(l:List I0) (k:Nat),(Kc s k l= -1/\∀i,i<l.length->s.cL (l.getD i I0.none)=false)\/(∃i,i<l.length/\Kc s k l=((k+i:Nat):Int)/\s.cL (l.getD i I0.none)=true/\∀j,j<i->s.cL (l.getD j I0.none)=false)
 | [],k=>.inl ⟨rfl,fun i D=>by simp at D⟩
 |x::r,k=>by
  unfold Kc;cases h:s.cL x with
  |true=>exact .inr ⟨0,by simp,by simp,by simpa using h,fun j K=>by omega⟩
  |false=>
   simp only[zX,if_false];rcases Si s r (k+1)with⟨f,B⟩|⟨i,f,B,G,J⟩
   ·refine .inl ⟨f,fun i D=>?_⟩;cases i with
    |zero=>simpa using h
    |succ i=>simpa using B i (by simpa using D)
   ·refine .inr ⟨i+1,by simpa using f,by rw[B];omega,by simpa using G,fun j K=>?_⟩;cases j with
    |zero=>simpa using h
    |succ j=>simpa using J j (by omega)
inductive ZE where
 |leaf (k a b:Nat)
 |row (l r:ZE)
 |or(l r:ZE)
 |jD (l:ZE)
 |plus (l:ZE)
 |maybe (l:ZE)
 deriving Inhabited
namespace ZE
end ZE
inductive Sf(P:List Nat->Prop):List Nat->Prop where
 |nil:Sf P []
 |cons {u v:List Nat}:P u->Sf P v->Sf P (u++v)
def V2(F A:Nat->Nat->Prop):Nat->List Nat->Nat->Prop
 |_,[],_=>False
 |p,[x],q=>A p x/\p=q
 |p,x::y::w,q=>A p x/\∃f,F p f/\V2 F A f (y::w) q
theorem V2.ne{F A:Nat->Nat->Prop}{p q:Nat}{w:List Nat}(h:V2 F A p w q):w≠ []:=by rintro rfl;exact h
theorem V2.iF{F A:Nat->Nat->Prop}{D q:Nat}{v:List Nat}:∀{u:List Nat} {p f:Nat},V2 F A p u f->F f D->V2 F A D v q->V2 F A p (u++v) q
 | [],p,f,h,_,_=>h.elim
 | [x],p,f,h,hf,hr=>by
  obtain⟨B,rfl⟩:=h;cases v with
  |nil=>exact hr.elim
  |cons y v=>exact⟨B,D,hf,hr⟩
 |x::y::u,p,f,h,hf,hr=>by
  obtain⟨B,K,G,J⟩:=h;exact⟨B,K,G,V2.iF (u:=y::u) J hf hr⟩
theorem V2.kC{F A:Nat->Nat->Prop}{x q:Nat}:∀{u:List Nat} {p:Nat},u≠ []->(V2 F A p (u++ [x]) q↔(∃f,V2 F A p u f/\F f q)/\A q x)
 | [],p,h=>absurd rfl h
 | [y],p,_=>by
  constructor
  ·rintro⟨B,f,D,G,rfl⟩;exact⟨⟨p,⟨B,rfl⟩,D⟩,G⟩
  ·rintro⟨⟨f,⟨B,rfl⟩,D⟩,G⟩;exact⟨B,q,D,G,rfl⟩
 |y::z::u,p,_=>by
  have V:=fun p=>V2.kC (F:=F) (A:=A) (x:=x) (q:=q) (u:=z::u) (p:=p) (by simp)
  constructor
  ·rintro⟨B,f,D,G⟩;obtain⟨⟨U,J,K⟩,M⟩:=(V f).1 G;exact⟨⟨U,⟨B,f,D,J⟩,K⟩,M⟩
  ·rintro⟨⟨U,⟨B,f,D,J⟩,K⟩,M⟩;exact⟨B,f,D,(V f).2 ⟨⟨U,J,K⟩,M⟩⟩
theorem V2.mono{F G A B:Nat->Nat->Prop}{q:Nat}{I:Nat->Prop}(D:∀p x,I p->A p x->B p x)(J:∀p f,I p->F p f->G p f/\I f):∀{w:List Nat} {p:Nat},I p->V2 F A p w q->V2 G B p w q
 | [],p,_,h=>h.elim
 | [x],p,hi,h=>⟨D _ _ hi h.1,h.2⟩
 |x::y::w,p,hi,h=>by
  obtain⟨K,f,M,U⟩:=h;obtain⟨V,W⟩:=J _ _ hi M;exact⟨D _ _ hi K,f,V,V2.mono D J (w:=y::w) W U⟩
theorem V2.bT{F A:Nat->Nat->Prop}{q:Nat}{I:Nat->Prop}(B:∀p f,I p->F p f->I f):∀{w:List Nat} {p:Nat},I p->V2 F A p w q->I q
 | [],p,_,h=>h.elim
 | [x],p,hi,h=>h.2 ▸ hi
 |x::y::w,p,hi,h=>by
  obtain⟨J,f,D,G⟩:=h;exact V2.bT B (w:=y::w) (B _ _ hi D) G
theorem V2.part{F G A:Nat->Nat->Prop}{q:Nat}{a b:Nat->Prop}(W:∀p f,G p f->F p f\/(a p/\b f)):∀{w:List Nat} {p:Nat},V2 G A p w q->V2 F A p w q\/∃u v f B,w=u++v/\V2 F A p u f/\a f/\b B/\V2 G A B v q
 | [],p,h=>h.elim
 | [x],p,h=>.inl h
 |x::y::w,p,h=>by
  obtain⟨J,f,X,U⟩:=h;rcases W _ _ X with D|⟨D,Y⟩
  ·rcases V2.part W (w:=y::w) U with M|⟨u,v,r,r',M,V,Z,h9,K⟩
   ·exact .inl ⟨J,f,D,M⟩
   ·refine .inr ⟨x::u,v,r,r',by rw[M];rfl,?_,Z,h9,K⟩;cases u with
    |nil=>exact V.elim
    |cons z u=>exact⟨J,f,D,V⟩
  ·exact .inr ⟨[x],y::w,p,f,rfl,⟨J,rfl⟩,D,Y,U⟩
def E0.F(R:E0)(p q:Nat):Prop:=(R.aC.getD p I0.none).has q=true
def E0.A(R:E0)(p x:Nat):Prop:=(R.aJ x).has p=true
structure TE(R R':E0)(P:Z6):Prop where
 le:R.aC.length<=R'.aC.length
 eB:∀p q,p<R.aC.length->(R'.F p q↔R.F p q)
 newF:∀p q,R.aC.length<=p->R'.F p q->R.aC.length<=q/\q<R'.aC.length
 gQ:∀p x,p<R.aC.length->(R'.A p x↔R.A p x)
 gX:∀p x,R'.aC.length<=p->(R'.A p x↔R.A p x)
 first:∀p,P.first.has p=true->R.aC.length<=p/\p<R'.aC.length
 last:∀p,P.last.has p=true->R.aC.length<=p/\p<R'.aC.length
 dO:R'.first=R.first
 fH:R'.last=R.last
theorem Ad1{R:E0}{p q:Nat}(h:R.F p q):p<R.aC.length:=Fh h
theorem Ie(R:E0)(a b:I0)(p q:Nat):(R.link a b).F p q↔(R.F p q\/(p<R.aC.length/\a.has p=true/\b.has q=true)):=XW R a b p q
theorem YC{R D:E0}{P Q:Z6}{a b:I0}(h:TE R D P)(J:∀p,a.has p=true->R.aC.length<=p)(K:∀p,b.has p=true->R.aC.length<=p/\p<D.aC.length)
  (M:∀p,Q.first.has p=true->R.aC.length<=p/\p<D.aC.length) (U:∀p,Q.last.has p=true->R.aC.length<=p/\p<D.aC.length):TE R (D.link a b) Q:=by
 have f:=E7 D a b;refine⟨by rw[f];exact h.le,fun p q B=>?_,fun p q B G=>?_,h.gQ,fun p x B=>h.gX p x (by rw[f]at B;exact B),by rw[f];exact M,by rw[f];exact U,h.dO,h.fH⟩
 ·rw[Ie];constructor
  ·rintro(e|⟨_,e,_⟩)
   ·exact(h.eB p q B).1 e
   ·have:=J p e;omega
  ·intro e;exact .inl ((h.eB p q B).2 e)
 ·rw[Ie]at G;rw[f];rcases G with e|⟨_,_,e⟩
  ·exact h.newF p q B e
  ·exact K q e
theorem TE.trans{R D f:E0}{P Q S:Z6}(h:TE R D P)(g:TE D f Q)(K:∀p,S.first.has p=true->R.aC.length<=p/\p<f.aC.length)(M:∀p,S.last.has p=true->R.aC.length<=p/\p<f.aC.length):TE R f S:=by
 have U:=h.le;have V:=g.le;refine⟨by omega,fun p q B=>?_,fun p q B J=>?_,fun p x B=>?_,fun p x B=>?_,K,M,g.dO.trans h.dO,g.fH.trans h.fH⟩
 ·rw[g.eB p q (by omega),h.eB p q B]
 ·by_cases G:p<D.aC.length
  ·have:=h.newF p q B ((g.eB p q G).1 J);omega
  ·have:=g.newF p q (by omega) J;omega
 ·rw[g.gQ p x (by omega),h.gQ p x B]
 ·rw[g.gX p x B,h.gX p x (by omega)]
def VZ(R:E0)(P:Z6)(w:List Nat):Prop:=(w= []/\P.empty=true)\/∃p q,P.first.has p=true/\P.last.has q=true/\V2 R.F R.A p w q
theorem Tv{P:List Nat->Prop}{u v:List Nat}(h:Sf P u)(g:Sf P v):Sf P (u++v):=by
 induction h with
 |nil=>exact g
 | @cons a b h1 h2 ih=>rw[yF];exact .cons h1 ih
theorem BA{P:List Nat->Prop}{u:List Nat}(h:P u):Sf P u:=by
 have:=Sf.cons (P:=P) h .nil;simpa using this
theorem LN{R:E0}{P:Z6}(hl:∀p,P.last.has p=true->p<R.aC.length)(w:List Nat):
  (∃p q,P.first.has p=true/\P.last.has q=true/\V2 (R.link P.last P.first).F (R.link P.last P.first).A p w q)↔(w≠ []/\Sf (VZ R P) w):=by
 have f:∀{p q:Nat} {w:List Nat},V2 R.F R.A p w q->V2 (R.link P.last P.first).F (R.link P.last P.first).A p w q:=fun h=>
  V2.mono (I:=fun _=>True) (fun p x _ h=>h) (fun p B _ h=>⟨(Ie _ _ _ _ _).2 (.inl h),trivial⟩) trivial h
 have hG:∀p B,(R.link P.last P.first).F p B->R.F p B\/(P.last.has p=true/\P.first.has B=true):=by
  intro p B h;rcases(Ie _ _ _ _ _).1 h with e|⟨_,e1,e2⟩
  ·exact .inl e
  ·exact .inr ⟨e1,e2⟩
 constructor
 ·rintro⟨p,q,K,X,D⟩;refine⟨D.ne,?_⟩;generalize hn:w.length=n
  induction n using Nat.strongRecOn generalizing w p with
  |ind n ih=>
   rcases V2.part (F:=R.F) hG D with G|⟨u,v,B,W,rfl,J,M,U,V⟩
   ·exact BA (.inr ⟨p,q,K,X,G⟩)
   ·have hu:=J.ne;have:0<u.length:=List.length_pos_iff.2 hu;simp at hn;exact .cons (.inr ⟨p,B,K,M,J⟩) (ih v.length (by omega) v W U V rfl)
 ·rintro⟨Z,h⟩
  induction h with
  |nil=>exact absurd rfl Z
  | @cons u v K X ih=>
   rcases K with⟨rfl,_⟩|⟨p,q,D,G,J⟩
   ·simpa using ih (by simpa using Z)
   ·by_cases Y:v= []
    ·subst Y;rw[yP];exact⟨p,q,D,G,f J⟩
    ·obtain⟨B,q',M,U,V⟩:=ih Y;exact⟨p,q',D,U,V2.iF (f J) ((Ie _ _ _ _ _).2 (.inr ⟨hl _ G,G,M⟩)) V⟩
theorem Oh{P Q:List Nat->Prop}(h:∀w,P w↔Q w)(w:List Nat):Sf P w↔Sf Q w:=by
 constructor
 ·intro g
  induction g with
  |nil=>exact .nil
  |cons h1 h2 ih=>exact .cons ((h _).1 h1) ih
 ·intro g
  induction g with
  |nil=>exact .nil
  |cons h1 h2 ih=>exact .cons ((h _).2 h1) ih
theorem Oj{R G:E0}{P:Z6}(h:TE R G P)(J:∀p q,R.F p q->q<R.aC.length){p q:Nat}{w:List Nat}(K:p<R.aC.length):V2 G.F G.A p w q↔V2 R.F R.A p w q:=by
 constructor
 ·exact V2.mono (I:=fun p=>p<R.aC.length) (fun p x B f=>(h.gQ p x B).1 f) (fun p D B f=>⟨(h.eB p D B).1 f,J _ _ ((h.eB p D B).1 f)⟩) K
 ·exact V2.mono (I:=fun p=>p<R.aC.length) (fun p x B f=>(h.gQ p x B).2 f) (fun p D B f=>⟨(h.eB p D B).2 f,J _ _ f⟩) K
def Bt(R:E0):Prop:=(∀p q,R.F p q->q<R.aC.length)/\(∀p x,R.A p x->p<R.aC.length)
theorem Qa{R f:E0}{P:Z6}(h:TE R f P)(B:Bt R):Bt f:=by
 have:=h.le;refine⟨fun p q D=>?_,fun p x J=>?_⟩
 ·by_cases G:p<R.aC.length
  ·have:=B.1 p q ((h.eB p q G).1 D);omega
  ·exact(h.newF p q (by omega) D).2
 ·refine Classical.byContradiction fun K=>?_
  have:=B.2 p x ((h.gX p x (by omega)).1 J);omega
def H9:List I0->I0->Nat
 | [],_=>0
 |x::r,s=>if x=s then 0 else H9 r s+1
theorem Fi:∀(l:List I0) (s:I0),H9 l s<=l.length
 | [],_=>zD _
 |x::r,s=>by unfold H9;split;simp;have:=Fi r s;simp;omega
theorem Tg(l:List I0)(s:I0)(k:Nat)(h:k<l.length):H9 (l.drop k) s=if l[k]=s then 0 else H9 (l.drop (k+1)) s+1:=by
 rw[yA h];rfl
theorem I0.jI{a b:I0}(J:((a.lo.toNat:Int)==(b.lo.toNat:Int))=true)(K:((a.hi.toNat:Int)==(b.hi.toNat:Int))=true):a=b:=by
 obtain⟨al,f⟩:=a;obtain⟨B,h⟩:=b;simp at J K;have D:al=B:=BitVec.eq_of_toNat_eq (by omega);have G:f=h:=BitVec.eq_of_toNat_eq (by omega);rw[D,G]
theorem I0.jN{a b:I0}(f:((a.lo.toNat:Int)==(b.lo.toNat:Int))=false):a≠b:=fun e=>by subst e;simp at f
theorem I0.jM{a b:I0}(f:((a.hi.toNat:Int)==(b.hi.toNat:Int))=false):a≠b:=fun e=>by subst e;simp at f
def C6(l:List I0)(s:I0):Int:=if s.isEmpty then -1 else(H9 l s:Int)
def V0(al:Nat->I0):Nat->List I0
 |0=>[]
 |b+1=>if H9 (V0 al b) (al b)=(V0 al b).length then V0 al b++ [al b]else V0 al b
def D3(al:Nat->I0)(b:Nat):Nat:=H9 (V0 al b) (al b)
theorem Gk(al:Nat->I0):∀b,(V0 al b).length<=b
 |0=>zD _
 |b+1=>by have:=Gk al b;unfold V0;split;simp;omega;omega
def P8(f:I0):List I0->List I0->List Int×List I0
  | [],aI=>([],aI)
  |k::ks,aI=>
    ((C6 aI (f.and k))::(P8 f ks (if C6 aI (f.and k)=(aI.length:Int)then aI++ [f.and k]else aI)).1,
     (P8 f ks (if C6 aI (f.and k)=(aI.length:Int)then aI++ [f.and k]else aI)).2)
structure B0 where
 aB:List Int
 next:List (List Int)
 deriving Inhabited
def B0.aR:B0:=⟨[],[]⟩
def F4(R:E0)(f:List I0):Nat->Nat->List I0->B0->Option B0
 |0,_,_,_=>none
 |n+1,i,aI,g=>
  if i<aI.length then
   let r:=P8 (if 0<i then R.after (aI.getD i I0.none)else R.first) f aI
   if 61<r.2.length then none
   else F4 R f n (i+1) r.2 ⟨g.aB++ [R.aB (r.2.getD i I0.none)],g.next++ [r.1]⟩
  else some g
def J6(R:E0)(f:List I0):Option B0:=F4 R f 63 0 [I0.none] B0.aR
def Fg(h:List Int)(f:List Bool):Bool:=h.any (fun B=>B != -1 && f.getD B.toNat false)
def O6(g:B0)(f:List Bool):Nat->List Bool×Bool
 |0=>(f,false)
 |k+1=>
  if(O6 g f k).1.getD k false=false/\Fg (g.next.getD k []) (O6 g f k).1=true then((O6 g f k).1.set k true,true)
  else O6 g f k
def Ha(g:B0):Nat->List Bool->List Bool
 |0,alive=>alive
 |n+1,alive=>if(O6 g alive g.next.length).2=true then Ha g n (O6 g alive g.next.length).1 else(O6 g alive g.next.length).1
def Ua(g:B0):List Bool:=Ha g (g.aB.length+1) (g.aB.map (fun r=>r != -1))
def R4(f:List Bool)(h:List Int):List Int:=h.map (fun B=>if B != -1 && f.getD B.toNat false then B else -1)
def G0(g:B0):B0:=⟨g.aB,g.next.map (R4 (Ua g))⟩
def N4(aE:List Int)(a b:Int):Bool:=if a== -1 || b== -1 then a==b else aE.getD a.toNat 0==aE.getD b.toNat 0
def Oe(aE:List Int):List Int->List Int->Bool
 | [],_=>true
 |a::r,eG=>N4 aE a (eG.headD 0) && Oe aE r eG.tail
def I7(g:B0)(aE:List Int)(a b:Nat):Bool:=
 if aE.getD a 0≠aE.getD b 0\/g.aB.getD a 0≠g.aB.getD b 0 then false else Oe aE (g.next.getD a []) (g.next.getD b [])
def Rb(g:B0)(aE:List Int)(n:Nat):Nat->Nat->Option Nat
 |0,_=>none
 |f+1,k=>if k<n then(if I7 g aE k n then some k else Rb g aE n f (k+1))else none
def U0(g:B0)(aE:List Int):Nat->List Int×Nat
 |0=>([],0)
 |n+1=>match Rb g aE n (n+1) 0 with
  |some e=>((U0 g aE n).1++ [(U0 g aE n).1.getD e 0],(U0 g aE n).2)
  |none=>((U0 g aE n).1++ [((U0 g aE n).2:Int)],(U0 g aE n).2+1)
def C9(g:B0):Nat->List Int->Nat->List Int
 |0,aE,_=>aE
 |f+1,aE,count=>if(U0 g aE g.aB.length).2=count then(U0 g aE g.aB.length).1 else C9 g f (U0 g aE g.aB.length).1 (U0 g aE g.aB.length).2
def U1(g:B0):List Int:=C9 g (g.aB.length+1) (List.replicate g.aB.length 0) 0
def L3(aE:List Int):List Int->List Int×List Int->List Int×List Int
 | [],st=>st
 |to::r,st=>L3 aE r (if to != -1 && st.2.getD (aE.getD to.toNat 0).toNat 0== -1 then(st.1++ [to],st.2.set (aE.getD to.toNat 0).toNat (st.1.length:Int))else st)
def V5(g:B0)(aE:List Int):Nat->Nat->List Int×List Int->List Int×List Int
 |0,_,st=>st
 |f+1,i,st=>if i<st.1.length then V5 g aE f (i+1) (L3 aE (g.next.getD (st.1.getD i 0).toNat []) st)else st
def A2(g:B0)(aE:List Int):List Int×List Int:=
 V5 g aE (aE.length+1) 0 ([0],(List.replicate aE.length (-1:Int)).set (aE.getD 0 0).toNat 0)
def J2(aE f:List Int)(h:List Int):List Int:=h.map (fun B=>if B != -1 then f.getD (aE.getD B.toNat 0).toNat 0 else -1)
def E1(g:B0)(aE:List Int):B0:=
 ⟨(A2 g aE).1.map (fun n=>g.aB.getD n.toNat 0),(A2 g aE).1.map (fun n=>J2 aE (A2 g aE).2 (g.next.getD n.toNat []))⟩
def N3(R:E0):Option ((Nat->Nat)×B0):=
 match J6 R (V0 R.aJ 256)with
 |none=>none
 |some g=>some (D3 R.aJ,E1 (G0 g) (U1 (G0 g)))
end Go.Proofs.YtcckhngbdoiikabGreat
