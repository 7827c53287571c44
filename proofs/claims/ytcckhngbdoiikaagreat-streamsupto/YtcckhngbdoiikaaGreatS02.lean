import Derived.WalkKit
set_option maxRecDepth 20000
set_option maxHeartbeats 12800000
set_option linter.unusedVariables false
namespace Go.Proofs.YtcckhngbdoiikaaGreat
abbrev Bw(w w':Go.World):Prop:=Go.RowKit.Below w.heap.size w w'
theorem zC.{u_1}:∀{α:Type u_1} {l:List α} {i:Nat} {a:α},l.getD i a=l[i]?.getD a:=@List.getD_eq_getElem?_getD
theorem zD:∀(n:Nat),n ≤ n:=@Nat.le_refl
theorem zE.{u}:∀{α:Type u} {val val_1:α},some val=some val_1 → val=val_1:=@Option.some.inj
theorem zF.{u_1}:∀{α:Type u_1} {l:List α} {i:Nat} (h:i<l.length),l[i]?=some l[i]:=@List.getElem?_eq_getElem
theorem zG.{u_1}:∀{α:Type u_1} {l:List α} {n:Nat} (h:n<l.length),l[n]∈l:=@List.getElem_mem
theorem zH:∀(n:Nat),(n:Int).toNat=n:=@Int.toNat_natCast
theorem zJ.{u_1}:∀{α:Type u_1} {a b:α},a∈ [b]↔a=b:=@List.mem_singleton
theorem zL.{u}:∀{α:Type u} {as bs:List α},(as++bs).length=as.length+bs.length:=@List.length_append
theorem zN.{u_1}:∀{α:Type u_1} {i:Nat} {l:List α},l.length ≤ i → List.take i l=l:=@List.take_of_length_le
theorem zO.{u_1}:∀{α:Type u_1} {a:α} {s t:List α},a∈s++t↔a∈s ∨ a∈t:=@List.mem_append
theorem zQ.{u_1}:∀{α:Type u_1} {l₁ l₂:List α} {i:Nat},i<l₁.length → (l₁++l₂)[i]?=l₁[i]?:=@List.getElem?_append_left
theorem zR:∀{a b:ByteArray},(a++b).size=a.size+b.size:=@ByteArray.size_append
theorem zU.{u_1}:∀{α:Type u_1} {b:α} {l:List α} {a:α},a∈b::l↔a=b ∨ a∈l:=@List.mem_cons
theorem zV:(false=true)=False:=@Bool.false_eq_true
theorem zX.{u_1}:∀{α:Type u_1} {l₁ l₂:List α} {i:Nat},l₁.length ≤ i → (l₁++l₂)[i]?=l₂[i-l₁.length]?:=@List.getElem?_append_right
theorem zY.{u_1}:∀{α:Type u_1} {i:Nat} {l:List α} (h:i<l.length),List.drop i l=l[i]::List.drop (i+1) l:=@List.drop_eq_getElem_cons
theorem yA.{u_1,u_2}:∀{α:Type u_1} {β:Type u_2} {as:List α} (f:α → β),(List.map f as).length=as.length:=@List.length_map
theorem yB.{u_1,u_2}:∀{α:Type u_1} {β:Type u_2} {f:α → β} {l₁ l₂:List α},List.map f (l₁++l₂)=List.map f l₁++List.map f l₂:=@List.map_append
theorem yC:∀(n:Nat),0 ≤ n:=@Nat.zero_le
theorem yD.{u}:∀{α:Type u} {n:Nat} {a:α},(List.replicate n a).length=n:=@List.length_replicate
theorem yE:∀(n m:Nat),n<m ∨ n≥m:=@Nat.lt_or_ge
theorem yF.{u}:∀{α:Type u} (as bs cs:List α),as++bs++cs=as++(bs++cs):=@List.append_assoc
theorem yG:∀{n m k:Nat},n<m → m ≤ k → n<k:=@Nat.lt_of_lt_of_le
theorem yH.{u}:∀{α:Type u} {a:α} {as:List α},(a::as).length=as.length+1:=@List.length_cons
theorem yI.{u_1}:∀{α:Type u_1} {l:List α} {i:Nat},l.length ≤ i → l[i]?=none:=@List.getElem?_eq_none
theorem yJ.{u_1}:∀{α:Type u_1} {l:List α} {i:Nat} (h:i<l.length),List.take i l++ [l[i]]=List.take (i+1) l:=@List.take_append_getElem
theorem yK:∀{n m k:Nat},n ≤ m → m ≤ k → n ≤ k:=@Nat.le_trans
theorem yL:∀(a b:Bool),((a && b)=true)=(a=true ∧ b=true):=@Bool.and_eq_true
theorem yM.{u_1}:∀{α:Type u_1} {l:List α},l.length=0 → l= []:=@List.eq_nil_of_length_eq_zero
theorem yN.{u_1}:∀{α:Type u_1} {i:Nat} {l:List α} (h:i<l.length),List.take (i+1) l=List.take i l++ [l[i]]:=@List.take_succ_eq_append_getElem
theorem yO.{u}:∀{α:Type u} {a:α}, [a].length=1:=@List.length_singleton
theorem yP:(true=false)=False:=@Bool.true_eq_false
theorem yQ:∀(n:Nat),n-n=0:=@Nat.sub_self
theorem yR.{u}:∀{α:Type u} {xs:List α} {i:Nat},xs.toArray[i]?=xs[i]?:=@List.getElem?_toArray
theorem yS.{u}:∀{α:Type u} (as:List α),as++ []=as:=@List.append_nil
theorem yT.{u_1}:∀{α:Type u_1} (i:Nat) (l:List α),List.take i l++List.drop i l=l:=@List.take_append_drop
theorem yU:∀(n:Nat),0+n=n:=@Nat.zero_add
theorem yV.{u}:∀{α:Type u} (as:List α), []++as=as:=@List.nil_append
theorem yW.{u_1}:∀{n:Nat} {α:Type u_1} {a:α} {i:Nat},(List.replicate n a)[i]?=if i<n then some a else none:=@List.getElem?_replicate
theorem yX:∀(a b:Bool),((a || b)=true)=(a=true ∨ b=true):=@Bool.or_eq_true
theorem yY:∀{n m:Nat},n<m → n ≤ m:=@Nat.le_of_lt
theorem yZ:∀(b:Bool),(false && b)=false:=@Bool.false_and
theorem xA:(!false)=true:=@Bool.not_false
theorem xB.{u_1}:∀{α:Type u_1} {xs:Array α} {i j:Nat} {a:α},(xs.setIfInBounds i a)[j]?=if i=j then if i<xs.size then some a else none else xs[j]?:=@Array.getElem?_setIfInBounds
theorem xC:∀{a b:Nat},¬a<b → b ≤ a:=@Nat.le_of_not_lt
theorem xD.{u}:∀{α:Type u} {as:List α} {i:Nat} {a:α},(as.set i a).length=as.length:=@List.length_set
theorem xE:(!true)=false:=@Bool.not_true
theorem xF.{u_1}:∀{α:Type u_1} {i:Nat} {l:List α},l.length ≤ i → List.drop i l= []:=@List.drop_of_length_le
structure I0 where
 lo:BitVec 64
 hi:BitVec 64
 deriving DecidableEq,Inhabited
namespace I0
def none:I0:=⟨0,0⟩
def or(s t:I0):I0:=⟨s.lo ||| t.lo,s.hi ||| t.hi⟩
def and(s t:I0):I0:=⟨s.lo &&& t.lo,s.hi &&& t.hi⟩
def isEmpty(s:I0):Bool:=s.lo==0 && s.hi==0
def cK(s t:I0):Bool:=!(s.lo &&& t.lo==0) || !(s.hi &&& t.hi==0)
def only(p:Nat):I0:=if p<64 then⟨1#64<<<p,0⟩else if p<128 then⟨0,1#64<<<(p-64)⟩else none
def has(s:I0)(p:Nat):Bool:=s.cK (only p)
end I0
theorem NP(a b:BitVec 64):bits .or .u64 (a.toNat:Int) (b.toNat:Int)=(((a ||| b).toNat:Nat):Int):=by
 rw[u64_or_nat _ _ a.isLt b.isLt,BitVec.toNat_or]
theorem Ho(a b:BitVec 64):bits .and .u64 (a.toNat:Int) (b.toNat:Int)=(((a &&& b).toNat:Nat):Int):=by
 rw[u64_and_nat _ _ a.isLt b.isLt,BitVec.toNat_and]
end Go.Proofs.YtcckhngbdoiikaaGreat

namespace Go.Proofs.YtcckhngbdoiikaaGreat
def F0(s:ByteArray)(p:Nat):Int:=if h:p<s.size then(s[p].toNat:Int)else -1
theorem JI(s:ByteArray)(p:Nat):-1<=F0 s p:=by unfold F0;split <;>omega
theorem A1{s:ByteArray}{p:Nat}(h:F0 s p≠ -1):p<s.size:=by
 unfold F0 at h;split at h
 ·assumption
 ·exact absurd rfl h
def J5(s:ByteArray)(p:Nat):Int×Bool×Nat:=
 if F0 s p≠92 then(F0 s p,true,p+1)
 else if F0 s (p+1)= -1\/F0 s (p+1)=10 then(0,false,p+1)
 else if F0 s (p+1)=110 then(10,true,p+2)
 else(F0 s (p+1),true,p+2)
theorem Wu(s:ByteArray)(p:Nat)(h:p<s.size):p<(J5 s p).2.2/\(J5 s p).2.2<=s.size:=by
 unfold J5;split
 ·exact⟨by simp,by simp;omega⟩
 ·split
  ·exact⟨by simp,by simp;omega⟩
  ·rename_i B f;have:=A1 (s:=s) (p:=p+1) (fun e=>f (Or.inl e));split
   ·exact⟨by simp,by simp;omega⟩
   ·exact⟨by simp,by simp;omega⟩
def Pv(b:Int):Prop:=b= -1\/b=10\/b=93\/b=45
instance(b:Int):Decidable (Pv b):=by unfold Pv;exact inferInstance
def W3(s:ByteArray)(p:Nat):Int×Bool×Nat:=if Pv (F0 s p)then(0,false,p)else J5 s p
theorem Zi(s:ByteArray)(p:Nat)(h:p<=s.size):p<=(W3 s p).2.2/\(W3 s p).2.2<=s.size/\((W3 s p).2.1=true->p<(W3 s p).2.2):=by
 unfold W3;split
 ·simp;exact h
 ·rename_i B;have f:p<s.size:=A1 (fun e=>B (Or.inl e));have:=Wu s p f;exact⟨by omega,by omega,fun _=>by omega⟩
def X3(s:ByteArray)(p:Nat):Int×Int×Bool×Nat:=
 if(W3 s p).2.1=false\/F0 s (W3 s p).2.2≠45 then((W3 s p).1,(W3 s p).1,(W3 s p).2.1,(W3 s p).2.2)
 else if(W3 s ((W3 s p).2.2+1)).2.1=true/\(W3 s ((W3 s p).2.2+1)).1<(W3 s p).1 then(0,0,false,(W3 s ((W3 s p).2.2+1)).2.2-1)
 else((W3 s p).1,(W3 s ((W3 s p).2.2+1)).1,(W3 s ((W3 s p).2.2+1)).2.1,(W3 s ((W3 s p).2.2+1)).2.2)
theorem L7(s:ByteArray)(p:Nat)(h:p<=s.size):p<=(X3 s p).2.2.2/\(X3 s p).2.2.2<=s.size/\((X3 s p).2.2.1=true->p<(X3 s p).2.2.2):=by
 have D:=Zi s p h;unfold X3;split
 ·exact D
 ·rename_i B;have J:(W3 s p).2.1=true:=by
   cases e:(W3 s p).2.1
   ·exact absurd (Or.inl e) B
   ·rfl
  have f:F0 s (W3 s p).2.2=45:=Decidable.not_not.1 (fun e=>B (Or.inr e));have G:(W3 s p).2.2<s.size:=A1 (by rw[f];decide);have K:=Zi s ((W3 s p).2.2+1) (by omega);split
  ·exact⟨by simp;omega,by simp;omega,by simp⟩
  ·exact⟨by simp;omega,by simp;omega,fun _=>by simp;omega⟩
def F9(A:Nat->Bool)(h f:Int):Nat->Bool:=fun b=>A b || (decide (h<=(b:Int)) && decide ((b:Int)<=f))
def Rw(A:Nat->Bool):Nat->Bool:=fun b=>!A b
def Da:Nat->Bool:=fun _=>false
def Y3(s:ByteArray):Nat->(Nat->Bool)->Bool->Nat->(Nat->Bool)×Bool×Nat
 |0,A,ok,p=>(A,ok,p)
 |n+1,A,ok,p=>if ok=true/\F0 s p≠93 then Y3 s n (F9 A (X3 s p).1 (X3 s p).2.1) (X3 s p).2.2.1 (X3 s p).2.2.2 else(A,ok,p)
theorem Qq(s:ByteArray):∀(n:Nat) (A:Nat->Bool) (f:Bool) (p:Nat),p<=s.size->p<=(Y3 s n A f p).2.2/\(Y3 s n A f p).2.2<=s.size
 |0,A,f,p,h=>by simp[Y3];exact h
 |n+1,A,f,p,h=>by
  unfold Y3;split
  ·have:=L7 s p h;have:=Qq s n (F9 A (X3 s p).1 (X3 s p).2.1) (X3 s p).2.2.1 (X3 s p).2.2.2 this.2.1;omega
  ·simp;exact h
theorem L8(s:ByteArray)(n:Nat)(A:Nat->Bool)(f:Bool)(p:Nat)(h:¬(f=true/\F0 s p≠93)):Y3 s n A f p=(A,f,p):=by
 cases n with
 |zero=>rfl
 |succ n=>unfold Y3;rw[if_neg h]
theorem Pq(s:ByteArray):∀(n:Nat) (A:Nat->Bool) (B:Bool) (p:Nat),p<=s.size->(B=true->s.size<n+p)->(Y3 s n A B p).2.1=true->F0 s (Y3 s n A B p).2.2=93
 |0,A,B,p,h,hn,hok=>by
  simp only[Y3]at hok⊢;have:=hn hok;omega
 |n+1,A,B,p,h,hn,hok=>by
  unfold Y3 at hok⊢;split at hok
  ·rename_i f;rw[if_pos f];have D:=L7 s p h;exact Pq s n _ _ _ D.2.1 (fun e=>by have:=D.2.2 e;have:=hn f.1;omega) hok
  ·rename_i f;rw[if_neg f];simp only at hok⊢;exact Decidable.not_not.1 (fun e=>f ⟨hok,e⟩)
def S7(s:ByteArray)(p:Nat):(Nat->Bool)×Bool×Nat:=
 let f:=decide (F0 s (p+1)=94)
 let m:=X3 s (if f=true then p+2 else p+1)
 let r:=Y3 s (s.size+1) (F9 Da m.1 m.2.1) m.2.2.1 m.2.2.2
 if r.2.1=true then(if f=true then Rw r.1 else r.1,true,r.2.2+1)else(Da,false,r.2.2)
theorem Gg{s:ByteArray}{p:Nat}{h G:Bool}{D B:Int}{q u:Nat}{R:(Nat->Bool)×Bool×Nat}(f:decide (F0 s (p+1)=94)=h)(M:(if h=true then p+2 else p+1)=u)
  (J:X3 s u=(D,B,G,q)) (K:Y3 s (s.size+1) (F9 Da D B) G q=R):
  S7 s p=if R.2.1=true then(if h=true then Rw R.1 else R.1,true,R.2.2+1)else(Da,false,R.2.2):=by
 unfold S7;simp only[f,M,J,K]
theorem Jz(s:ByteArray)(p:Nat)(h:p<s.size):p<(S7 s p).2.2/\(S7 s p).2.2<=s.size:=by
 unfold S7;have G:(if decide (F0 s (p+1)=94)=true then p+2 else p+1)<=s.size/\p<(if decide (F0 s (p+1)=94)=true then p+2 else p+1):=by
  split
  ·rename_i e;simp at e;have:=A1 (s:=s) (p:=p+1) (by rw[e];decide);omega
  ·omega
 have f:=L7 s _ G.1;simp only;generalize X3 s (if decide (F0 s (p+1)=94)=true then p+2 else p+1)=m at f⊢;have J:=Qq s (s.size+1) (F9 Da m.1 m.2.1) m.2.2.1 m.2.2.2 f.2.1;have D:=Pq s (s.size+1) (F9 Da m.1 m.2.1) m.2.2.1 m.2.2.2 f.2.1 (fun _=>by omega);generalize Y3 s (s.size+1) (F9 Da m.1 m.2.1) m.2.2.1 m.2.2.2=r at J D⊢;split
 ·rename_i B;have:=A1 (s:=s) (p:=r.2.2) (by rw[D B];decide);simp;omega
 ·simp;omega
def M7(b:Int):Prop:=b= -1\/b=10\/b=124\/b=42\/b=43\/b=63\/b=40\/b=41\/b=93
instance(b:Int):Decidable (M7 b):=by unfold M7;exact inferInstance
def T6(s:ByteArray)(p:Nat):(Nat->Bool)×Bool×Nat:=
 if M7 (F0 s p)then(Da,false,p)
 else if F0 s p=46 then(Rw Da,true,p+1)
 else if F0 s p=91 then S7 s p
 else(F9 Da (J5 s p).1 (J5 s p).1,(J5 s p).2.1,(J5 s p).2.2)
theorem FM(s:ByteArray)(p:Nat)(h:p<=s.size):p<=(T6 s p).2.2/\(T6 s p).2.2<=s.size/\((T6 s p).2.1=true->p<(T6 s p).2.2):=by
 unfold T6;split
 ·simp;exact h
 ·rename_i B;have f:p<s.size:=A1 (fun e=>B (Or.inl e));split
  ·simp;omega
  ·split
   ·have:=Jz s p f;exact⟨by omega,by omega,fun _=>by omega⟩
   ·have:=Wu s p f;exact⟨by simp;omega,by simp;omega,fun _=>by simp;omega⟩
structure E0 where
 aJ:Nat->I0
 first:I0
 aC:List I0
 last:List I0
structure V6 where
 first:I0
 last:I0
 empty:Bool
 deriving DecidableEq,Inhabited
def E0.aQ:E0:=⟨fun _=>I0.none,I0.none,[],[]⟩
def V6.aQ:V6:=⟨I0.none,I0.none,false⟩
def K7(a b:I0):Nat->List I0->List I0
 |_,[]=>[]
 |k,s::r=>(if a.has k then s.or b else s)::K7 a b (k+1) r
def E0.link(R:E0)(a b:I0):E0:={ R with aC:=K7 a b 0 R.aC }
theorem Ab(a b:I0):∀(k:Nat) (l:List I0),(K7 a b k l).length=l.length
 |_,[]=>rfl
 |k,s::r=>by simp[K7,Ab a b (k+1) r]
theorem Sk(a b:I0):∀(k:Nat) (l m:List I0),K7 a b k (l++m)=K7 a b k l++K7 a b (k+l.length) m
 |k,[],m=>by simp[K7]
 |k,s::r,m=>by simp[K7,Sk a b (k+1) r m];congr 1;omega
theorem Z6(R:E0)(a b:I0):(R.link a b).aC.length=R.aC.length:=Ab a b 0 _
def Ud(al:Nat->I0)(A:Nat->Bool)(p:I0):Nat->I0:=fun b=>if A b then(al b).or p else al b
def E0.add(R:E0)(A:Nat->Bool):E0:={ R with aC:=R.aC++ [I0.none],aJ:=Ud R.aJ A (I0.only R.aC.length) }
def E0.addPart(R:E0):V6:=⟨I0.only R.aC.length,I0.only R.aC.length,false⟩
def E0.chain(R:E0)(a b:V6):E0:=R.link a.last b.first
def F4(a b:V6):V6:=
 ⟨if a.empty then a.first.or b.first else a.first,if b.empty then b.last.or a.last else b.last,a.empty && b.empty⟩
def X7(a b:V6):V6:=⟨a.first.or b.first,a.last.or b.last,a.empty || b.empty⟩
def E0.endRule(R:E0)(p:V6):E0:={ R with first:=R.first.or p.first,last:=R.last++ [p.last] }
def O8(s:I0):Nat->List I0->I0->I0
 |_,[],aR=>aR
 |k,f::r,aR=>O8 s (k+1) r (if s.has k then aR.or f else aR)
def E0.after(R:E0)(s:I0):I0:=O8 s 0 R.aC I0.none
def Ac(s:I0):Nat->List I0->Int
 |_,[]=>-1
 |k,l::r=>if s.cK l then(k:Int)else Ac s (k+1) r
def E0.aB(R:E0)(s:I0):Int:=Ac s 0 R.last
structure Vf where
 part:V6
 ok:Bool
 bC:Nat
 aD:E0
abbrev PFn:=Nat->E0->Vf
def Qb(b:Int):Bool:=decide (b= -1\/b=10\/b=124\/b=41)
def Ae(s:ByteArray)(ex:PFn):PFn:=fun p R=>
 if(ex (p+1) R).ok=true/\F0 s (ex (p+1) R).bC=41 then⟨(ex (p+1) R).part,true,(ex (p+1) R).bC+1,(ex (p+1) R).aD⟩
 else⟨V6.aQ,false,(ex (p+1) R).bC,(ex (p+1) R).aD⟩
def Wd(s:ByteArray)(ex:PFn):PFn:=fun p R=>
 if F0 s p=40 then Ae s ex p R
 else if(T6 s p).2.1=true then⟨R.addPart,true,(T6 s p).2.2,R.add (T6 s p).1⟩
 else⟨V6.aQ,false,(T6 s p).2.2,R⟩
def Pe(s:ByteArray)(a:Vf):Vf:=
 if a.ok=false then⟨V6.aQ,false,a.bC,a.aD⟩
 else if F0 s a.bC=42 then⟨{ a.part with empty:=true },true,a.bC+1,a.aD.link a.part.last a.part.first⟩
 else if F0 s a.bC=43 then⟨a.part,true,a.bC+1,a.aD.link a.part.last a.part.first⟩
 else if F0 s a.bC=63 then⟨{ a.part with empty:=true },true,a.bC+1,a.aD⟩
 else⟨a.part,true,a.bC,a.aD⟩
def A8(s:ByteArray)(ex:PFn):PFn:=fun p R=>Pe s (Wd s ex p R)
def C6(s:ByteArray)(ex:PFn):Nat->Vf->Vf
 |0,r=>r
 |n+1,r=>if r.ok=true/\Qb (F0 s r.bC)=false then
   C6 s ex n ⟨F4 r.part (A8 s ex r.bC r.aD).part,(A8 s ex r.bC r.aD).ok,(A8 s ex r.bC r.aD).bC,(A8 s ex r.bC r.aD).aD.chain r.part (A8 s ex r.bC r.aD).part⟩
  else r
def M2(s:ByteArray)(ex:PFn):PFn:=fun p R=>C6 s ex (s.size+1) (A8 s ex p R)
def T4(s:ByteArray)(ex:PFn):Nat->Vf->Vf
 |0,r=>r
 |n+1,r=>if r.ok=true/\F0 s r.bC=124 then
   T4 s ex n ⟨X7 r.part (M2 s ex (r.bC+1) r.aD).part,(M2 s ex (r.bC+1) r.aD).ok,(M2 s ex (r.bC+1) r.aD).bC,(M2 s ex (r.bC+1) r.aD).aD⟩
  else r
def Gd(s:ByteArray)(ex:PFn):PFn:=fun p R=>T4 s ex (s.size+1) (M2 s ex p R)
def N5(s:ByteArray):Nat->PFn
 |0=>fun p R=>⟨V6.aQ,false,p,R⟩
 |f+1=>Gd s (N5 s f)
structure Cn(s:ByteArray)(p:Nat)(R:E0)(r:Vf):Prop where
 le:p<=r.bC
 cT:r.bC<=s.size
 ok:r.ok=true->p<r.bC
 bV:r.aD.aC.length<=r.bC
 last:r.aD.last=R.last
 first:r.aD.first=R.first
def Me(s:ByteArray)(f:PFn):Prop:=∀p R,p<=s.size->R.aC.length<=p->Cn s p R (f p R)
theorem CH{s:ByteArray}{ex:PFn}(h:Me s ex)(p:Nat)(R:E0)(D:p<s.size)(B:R.aC.length<=p):Cn s p R (Ae s ex p R):=by
 have g:=h (p+1) R (by omega) (by omega);unfold Ae;split
 ·rename_i f;have:=A1 (s:=s) (p:=(ex (p+1) R).bC) (by rw[f.2];decide);exact⟨by have:=g.le;simp;omega,by simp;omega,fun _=>by have:=g.le;simp;omega,by have:=g.bV;simp;omega,g.last,g.first⟩
 ·exact⟨by have:=g.le;simp;omega,g.cT,by simp,g.bV,g.last,g.first⟩
theorem Nw{s:ByteArray}{ex:PFn}(h:Me s ex):Me s (Wd s ex):=by
 intro p R G B;unfold Wd;split
 ·rename_i D;exact CH h p R (A1 (by rw[D];decide)) B
 ·have q:=FM s p G;split
  ·rename_i f;have:=q.2.2 f;exact⟨q.1,q.2.1,fun _=>this,by simp[E0.add];omega,rfl,rfl⟩
  ·exact⟨q.1,q.2.1,by simp,by simp;omega,rfl,rfl⟩
theorem NL{s:ByteArray}{p:Nat}{R:E0}{a:Vf}(g:Cn s p R a):Cn s p R (Pe s a):=by
 unfold Pe;split
 ·exact⟨g.le,g.cT,by simp,g.bV,g.last,g.first⟩
 ·rename_i D;have h:a.ok=true:=by cases e:a.ok <;>simp_all
  have B:=g.ok h;split
  ·rename_i f;have:=A1 (s:=s) (p:=a.bC) (by rw[f];decide);exact⟨by simp;omega,by simp;omega,fun _=>by simp;omega,by have:=g.bV;simp[Z6];omega,g.last,g.first⟩
  ·split
   ·rename_i f;have:=A1 (s:=s) (p:=a.bC) (by rw[f];decide);exact⟨by simp;omega,by simp;omega,fun _=>by simp;omega,by have:=g.bV;simp[Z6];omega,g.last,g.first⟩
   ·split
    ·rename_i f;have:=A1 (s:=s) (p:=a.bC) (by rw[f];decide);exact⟨by simp;omega,by simp;omega,fun _=>by simp;omega,by have:=g.bV;simp;omega,g.last,g.first⟩
    ·exact⟨g.le,g.cT,fun _=>B,g.bV,g.last,g.first⟩
theorem Ld{s:ByteArray}{ex:PFn}(h:Me s ex):Me s (A8 s ex):=fun p R B f=>NL (Nw h p R B f)
theorem Oj{s:ByteArray}{ex:PFn}(h:Me s ex){p:Nat}{R:E0}{r:Vf}(g:Cn s p R r)(f:r.ok=true):
  Cn s p R ⟨F4 r.part (A8 s ex r.bC r.aD).part,(A8 s ex r.bC r.aD).ok,(A8 s ex r.bC r.aD).bC,(A8 s ex r.bC r.aD).aD.chain r.part (A8 s ex r.bC r.aD).part⟩:=by
 have q:=Ld h r.bC r.aD g.cT g.bV;have B:=g.ok f;exact⟨by have:=q.le;simp;omega,q.cT,fun _=>by have:=q.le;simp;omega,by have:=q.bV;simp[E0.chain,Z6];omega,by simp[E0.chain,E0.link,q.last,g.last],by simp[E0.chain,E0.link,q.first,g.first]⟩
theorem Pn{s:ByteArray}{ex:PFn}(h:Me s ex){p:Nat}{R:E0}:∀(n:Nat) (r:Vf),Cn s p R r->Cn s p R (C6 s ex n r)
 |0,r,g=>g
 |n+1,r,g=>by
  unfold C6;split
  ·rename_i f;exact Pn h n _ (Oj h g f.1)
  ·exact g
theorem R7{s:ByteArray}{ex:PFn}(h:Me s ex):Me s (M2 s ex):=fun p R B f=>Pn h _ _ (Ld h p R B f)
theorem Ai{s:ByteArray}{ex:PFn}(h:Me s ex){p:Nat}{R:E0}{r:Vf}(g:Cn s p R r)(B:r.ok=true)(f:F0 s r.bC=124):
  Cn s p R ⟨X7 r.part (M2 s ex (r.bC+1) r.aD).part,(M2 s ex (r.bC+1) r.aD).ok,(M2 s ex (r.bC+1) r.aD).bC,(M2 s ex (r.bC+1) r.aD).aD⟩:=by
 have D:=A1 (s:=s) (p:=r.bC) (by rw[f];decide);have q:=R7 h (r.bC+1) r.aD (by omega) (by have:=g.bV;omega);have G:=g.ok B;exact⟨by have:=q.le;simp;omega,q.cT,fun _=>by have:=q.le;simp;omega,q.bV,q.last.trans g.last,q.first.trans g.first⟩
theorem Ll{s:ByteArray}{ex:PFn}(h:Me s ex){p:Nat}{R:E0}:∀(n:Nat) (r:Vf),Cn s p R r->Cn s p R (T4 s ex n r)
 |0,r,g=>g
 |n+1,r,g=>by
  unfold T4;split
  ·rename_i f;exact Ll h n _ (Ai h g f.1 f.2)
  ·exact g
theorem Ms{s:ByteArray}{ex:PFn}(h:Me s ex):Me s (Gd s ex):=fun p R B f=>Ll h _ _ (R7 h p R B f)
theorem Sa(s:ByteArray):∀f,Me s (N5 s f)
 |0=>fun p R B h=>⟨zD _,B,by simp[N5],h,rfl,rfl⟩
 |f+1=>Ms (Sa s f)
theorem Qn(s:ByteArray)(ex:PFn)(n:Nat)(r:Vf)(h:¬(r.ok=true/\Qb (F0 s r.bC)=false)):C6 s ex n r=r:=by
 cases n with
 |zero=>rfl
 |succ n=>unfold C6;rw[if_neg h]
theorem Ml(s:ByteArray)(ex:PFn)(n:Nat)(r:Vf)(h:¬(r.ok=true/\F0 s r.bC=124)):T4 s ex n r=r:=by
 cases n with
 |zero=>rfl
 |succ n=>unfold T4;rw[if_neg h]
def X5(s:ByteArray)(p:Nat)(R:E0):Bool×Nat×E0:=
 if(N5 s (s.size+1) p R).ok=true then(true,(N5 s (s.size+1) p R).bC,(N5 s (s.size+1) p R).aD.endRule (N5 s (s.size+1) p R).part)
 else(false,(N5 s (s.size+1) p R).bC,(N5 s (s.size+1) p R).aD)
def J3(s:ByteArray):Nat->Bool×Nat×E0->Bool×Nat×E0
 |0,r=>r
 |n+1,r=>if r.1=true/\F0 s r.2.1=10 then J3 s n (X5 s (r.2.1+1) r.2.2)else r
def Pa(s:ByteArray):Bool×Nat×E0:=
 let r:=J3 s (s.size+1) (X5 s 0 E0.aQ)
 (r.1 && decide (F0 s r.2.1= -1),r.2.1,r.2.2)
theorem Nn(s:ByteArray)(n:Nat)(r:Bool×Nat×E0)(h:¬(r.1=true/\F0 s r.2.1=10)):J3 s n r=r:=by
 cases n with
 |zero=>rfl
 |succ n=>unfold J3;rw[if_neg h]
structure RRd where
 bM:Int
 depth:Int
 low:Int
def Ua(c:Int):Int:=if c=110 then 10 else c
def J2(r:RRd)(c:Int):RRd×Bool:=
 if c=10 then(r,false)
 else if r.bM=9 then(⟨6,r.depth,Ua c⟩,true)
 else if r.bM=10 then(⟨8,r.depth,r.low⟩,decide (r.low<=Ua c))
 else if r.bM=4/\c=94 then(⟨5,r.depth,r.low⟩,true)
 else if c=93 then(⟨1,r.depth,r.low⟩,decide (r.bM=6\/r.bM=8))
 else if c=45 then(⟨7,r.depth,r.low⟩,decide (r.bM=6))
 else if c=92 then(⟨if r.bM=7 then 10 else 9,r.depth,r.low⟩,true)
 else if r.bM=7 then(⟨8,r.depth,r.low⟩,decide (r.low<=c))
 else(⟨6,r.depth,c⟩,true)
def U2(r:RRd)(c:Int):RRd×Bool:=
 if 4<=r.bM then J2 r c
 else if r.bM=3 then(⟨1,r.depth,r.low⟩,decide (c≠10))
 else if c=10 then(⟨0,r.depth,r.low⟩,decide (r.bM≠0/\r.depth=0))
 else if c=124 then(⟨0,r.depth,r.low⟩,decide (r.bM≠0))
 else if c=41 then(⟨1,r.depth-1,r.low⟩,decide (r.bM≠0/\0<=r.depth-1))
 else if c=42\/c=43\/c=63 then(⟨2,r.depth,r.low⟩,decide (r.bM=1))
 else if c=40 then(⟨0,r.depth+1,r.low⟩,true)
 else if c=91 then(⟨4,r.depth,r.low⟩,true)
 else if c=92 then(⟨3,r.depth,r.low⟩,true)
 else if c=93 then(r,false)
 else(⟨1,r.depth,r.low⟩,true)
def LY(s:ByteArray):Nat->RRd->Nat->Int
 |0,r,p=>if 0<r.depth\/(r.bM≠1/\r.bM≠2)then(s.size:Int)else -1
 |n+1,r,p=>if(U2 r (F0 s p)).2=true then LY s n (U2 r (F0 s p)).1 (p+1)else(p:Int)
def J4(s:ByteArray)(r:RRd)(p:Nat):Int:=LY s (s.size-p) r p
def SE(s:ByteArray):Int:=J4 s ⟨0,0,0⟩ 0
theorem Cc{s:ByteArray}{r:RRd}{p:Nat}(f:s.size<=p):J4 s r p=if 0<r.depth\/(r.bM≠1/\r.bM≠2)then(s.size:Int)else -1:=by
 unfold J4;rw[show s.size-p=0 by omega];rfl
theorem Kj{s:ByteArray}{r:RRd}{p:Nat}(f:p<s.size):J4 s r p=if(U2 r (F0 s p)).2=true then J4 s (U2 r (F0 s p)).1 (p+1)else(p:Int):=by
 unfold J4;rw[show s.size-p=(s.size- (p+1))+1 by omega];rfl
theorem G7{s:ByteArray}{r r':RRd}{p:Nat}(f:p<s.size)(h:U2 r (F0 s p)=(r',true)):J4 s r p=J4 s r' (p+1):=by
 rw[Kj f,h];simp
theorem R5{s:ByteArray}{r r':RRd}{p:Nat}(f:p<s.size)(h:U2 r (F0 s p)=(r',false)):J4 s r p=(p:Int):=by
 rw[Kj f,h];simp
theorem Jd{s:ByteArray}{p:Nat}(h:F0 s p= -1):s.size<=p:=by
 apply xC;intro f;unfold F0 at h;rw[dif_pos f]at h;omega
theorem BS{s:ByteArray}{p:Nat}{m d l:Int}(hp:p<=s.size)(V:m=5\/(m=6/\F0 s p≠45/\F0 s p≠93)\/(m=8/\F0 s p≠93)):
  J4 s ⟨m,d,l⟩ p=if(W3 s p).2.1=true then J4 s ⟨6,d,(W3 s p).1⟩ (W3 s p).2.2 else((W3 s p).2.2:Int):=by
 unfold W3;split
 ·rename_i D;simp only[zV,if_false];rcases D with e|e|e|e
  ·have U:=Jd e;rw[Cc U,if_pos (Or.inr ⟨by simp;omega,by simp;omega⟩)];omega
  ·exact R5 (A1 (by rw[e];decide)) (r':=⟨m,d,l⟩) (by rw[e];simp[U2,J2];omega)
  ·refine R5 (A1 (by rw[e];decide)) (r':=⟨1,d,l⟩) ?_;rw[e];rcases V with rfl|⟨rfl,_,f⟩|⟨rfl,f⟩
   ·simp[U2,J2]
   ·exact absurd e f
   ·exact absurd e f
  ·refine R5 (A1 (by rw[e];decide)) (r':=⟨7,d,l⟩) ?_;rw[e];rcases V with rfl|⟨rfl,f,_⟩|⟨rfl,f⟩
   ·simp[U2,J2]
   ·exact absurd e f
   ·simp[U2,J2]
 ·rename_i D;have Y:F0 s p≠ -1:=fun e=>D (Or.inl e)
  have Z:F0 s p≠10:=fun e=>D (Or.inr (Or.inl e))
  have n3:F0 s p≠93:=fun e=>D (Or.inr (Or.inr (Or.inl e)))
  have n4:F0 s p≠45:=fun e=>D (Or.inr (Or.inr (Or.inr e)))
  have J:=A1 Y;have K:m=5\/m=6\/m=8:=by omega
  unfold J5;split
  ·rename_i B;simp only[if_true];refine G7 J ?_;rcases K with rfl|rfl|rfl <;>simp[U2,J2,Z,n3,n4,B]
  ·rename_i B;have G:F0 s p=92:=Decidable.not_not.1 B;rw[G7 J (r':=⟨9,d,l⟩) (by rw[G];rcases K with rfl|rfl|rfl <;>simp[U2,J2])];split
   ·rename_i f;simp only[zV,if_false];rcases f with e|e
    ·have U:=Jd e;rw[Cc U,if_pos (Or.inr ⟨by simp,by simp⟩)];omega
    ·exact R5 (A1 (by rw[e];decide)) (r':=⟨9,d,l⟩) (by rw[e];simp[U2,J2])
   ·rename_i f;have W:F0 s (p+1)≠ -1:=fun e=>f (Or.inl e)
    have X:F0 s (p+1)≠10:=fun e=>f (Or.inr e)
    have h:=A1 W;split
    ·rename_i M;simp only[if_true];exact G7 h (by rw[M];simp[U2,J2,Ua])
    ·rename_i M;simp only[if_true];exact G7 h (by simp[U2,J2,Ua,X,M])
theorem AS{s:ByteArray}{p:Nat}{d l:Int}(hp:p<=s.size):
  J4 s ⟨7,d,l⟩ p=if(W3 s p).2.1=true then(if(W3 s p).1<l then(((W3 s p).2.2-1:Nat):Int)else J4 s ⟨8,d,l⟩ (W3 s p).2.2)else((W3 s p).2.2:Int):=by
 unfold W3;split
 ·rename_i D;simp only[zV,if_false];rcases D with e|e|e|e
  ·have U:=Jd e;rw[Cc U,if_pos (Or.inr ⟨by simp,by simp⟩)];omega
  ·exact R5 (A1 (by rw[e];decide)) (r':=⟨7,d,l⟩) (by rw[e];simp[U2,J2])
  ·exact R5 (A1 (by rw[e];decide)) (r':=⟨1,d,l⟩) (by rw[e];simp[U2,J2])
  ·exact R5 (A1 (by rw[e];decide)) (r':=⟨7,d,l⟩) (by rw[e];simp[U2,J2])
 ·rename_i D;have n1:F0 s p≠ -1:=fun e=>D (Or.inl e)
  have W:F0 s p≠10:=fun e=>D (Or.inr (Or.inl e))
  have X:F0 s p≠93:=fun e=>D (Or.inr (Or.inr (Or.inl e)))
  have Y:F0 s p≠45:=fun e=>D (Or.inr (Or.inr (Or.inr e)))
  have B:=A1 n1;unfold J5;split
  ·rename_i h;simp only[if_true];split
   ·rename_i K;rw[R5 B (r':=⟨8,d,l⟩) (by simp[U2,J2,W,X,Y,h];omega)];simp
   ·rename_i K;exact G7 B (by simp[U2,J2,W,X,Y,h];omega)
  ·rename_i h;have J:F0 s p=92:=Decidable.not_not.1 h;rw[G7 B (r':=⟨10,d,l⟩) (by rw[J];simp[U2,J2])];split
   ·rename_i M;simp only[zV,if_false];rcases M with e|e
    ·have U:=Jd e;rw[Cc U,if_pos (Or.inr ⟨by simp,by simp⟩)];omega
    ·exact R5 (A1 (by rw[e];decide)) (r':=⟨10,d,l⟩) (by rw[e];simp[U2,J2])
   ·rename_i M;have Z:F0 s (p+1)≠ -1:=fun e=>M (Or.inl e)
    have V:F0 s (p+1)≠10:=fun e=>M (Or.inr e)
    have f:=A1 Z;split
    ·rename_i G;simp only[if_true];split
     ·rename_i K;rw[R5 f (r':=⟨8,d,l⟩) (by rw[G];simp[U2,J2,Ua];omega)];simp
     ·rename_i K;exact G7 f (by rw[G];simp[U2,J2,Ua];omega)
    ·rename_i G;simp only[if_true];split
     ·rename_i K;rw[R5 f (r':=⟨8,d,l⟩) (by simp[U2,J2,Ua,V,G];omega)];simp
     ·rename_i K;exact G7 f (by simp[U2,J2,Ua,V,G];omega)
def CT(s:ByteArray)(m:Int)(q:Nat):Prop:=(m=6/\F0 s q≠45)\/m=8
theorem Uu{s:ByteArray}{p:Nat}{m d l:Int}(M:p<=s.size)(V:m=5\/(m=6/\F0 s p≠45/\F0 s p≠93)\/(m=8/\F0 s p≠93)):
  ((X3 s p).2.2.1=true->∃U W,CT s U (X3 s p).2.2.2/\J4 s ⟨m,d,l⟩ p=J4 s ⟨U,d,W⟩ (X3 s p).2.2.2)
  /\((X3 s p).2.2.1=false->J4 s ⟨m,d,l⟩ p=((X3 s p).2.2.2:Int)):=by
 have B:=BS (d:=d) (l:=l) M V;have X:=Zi s p M;unfold X3;split
 ·rename_i J;simp only;constructor
  ·intro h;rcases J with e|e
   ·rw[h]at e;exact absurd e (by decide)
   ·rw[if_pos h]at B;exact⟨6,_,Or.inl ⟨rfl,e⟩,B⟩
  ·intro h;rw[h]at B;simpa using B
 ·rename_i J;have h:(W3 s p).2.1=true:=by
   cases e:(W3 s p).2.1
   ·exact absurd (Or.inl e) J
   ·rfl
  have D:F0 s (W3 s p).2.2=45:=Decidable.not_not.1 (fun e=>J (Or.inr e));have K:(W3 s p).2.2<s.size:=A1 (by rw[D];decide);rw[if_pos h,G7 K (r':=⟨7,d,(W3 s p).1⟩) (by rw[D];simp[U2,J2]),AS (by omega)]at B;split
  ·rename_i G;simp only[zV,false_implies,true_and,forall_const];rw[if_pos G.1,if_pos G.2]at B;exact B
  ·rename_i G;simp only;constructor
   ·intro f;rw[if_pos f,if_neg (fun e=>G ⟨f,e⟩)]at B;exact⟨8,_,Or.inr rfl,B⟩
   ·intro f;rw[f]at B;simpa using B
theorem Nr{s:ByteArray}{d:Int}:∀(n:Nat) (A:Nat->Bool) (f:Bool) (p:Nat) (m l:Int),p<=s.size->s.size<n+p->f=true->CT s m p->
  ((Y3 s n A f p).2.1=true->∃J,J4 s ⟨m,d,l⟩ p=J4 s ⟨1,d,J⟩ ((Y3 s n A f p).2.2+1))
  /\((Y3 s n A f p).2.1=false->J4 s ⟨m,d,l⟩ p=((Y3 s n A f p).2.2:Int))
 |0,A,f,p,m,l,hp,hn,hok,hb=>by omega
 |n+1,A,f,p,m,l,hp,hn,hok,hb=>by
  unfold Y3;split
  ·rename_i D;have V:m=5\/(m=6/\F0 s p≠45/\F0 s p≠93)\/(m=8/\F0 s p≠93):=by
    rcases hb with⟨e,h⟩|e
    ·exact Or.inr (Or.inl ⟨e,h,D.2⟩)
    ·exact Or.inr (Or.inr ⟨e,D.2⟩)
   have M:=Uu (d:=d) (l:=l) hp V;have K:=L7 s p hp;cases hok2:(X3 s p).2.2.1
   ·rw[L8 _ _ _ _ _ (by simp)];simp only[zV,false_implies,true_and,forall_const];exact M.2 hok2
   ·obtain⟨W,J,G,U⟩:=M.1 hok2;have:=K.2.2 hok2;rw[U];exact Nr n _ true _ W J K.2.1 (by omega) rfl G
  ·rename_i D;have B:F0 s p=93:=Decidable.not_not.1 (fun e=>D ⟨hok,e⟩);subst hok;simp only[yP,false_implies,and_true,forall_const];refine⟨l,G7 (A1 (by rw[B];decide)) ?_⟩;rw[B];rcases hb with⟨rfl,_⟩|rfl <;>simp[U2,J2]
theorem EA{s:ByteArray}{p:Nat}{d l:Int}(hp:p<s.size):
  ((S7 s p).2.1=true->∃Y,J4 s ⟨4,d,l⟩ (p+1)=J4 s ⟨1,d,Y⟩ (S7 s p).2.2)
  /\((S7 s p).2.1=false->J4 s ⟨4,d,l⟩ (p+1)=((S7 s p).2.2:Int)):=by
 obtain⟨J,f⟩:∃J,decide (F0 s (p+1)=94)=J:=⟨_,rfl⟩;obtain⟨u,G⟩:∃u,(if J=true then p+2 else p+1)=u:=⟨_,rfl⟩;have B:u<=s.size/\J4 s ⟨4,d,l⟩ (p+1)=J4 s ⟨5,d,l⟩ u:=by
  cases J
  ·simp at f G;subst G;refine⟨by omega,?_⟩
   by_cases h:p+1<s.size
   ·rw[Kj h,Kj h];have:U2 ⟨4,d,l⟩ (F0 s (p+1))=U2 ⟨5,d,l⟩ (F0 s (p+1))\/F0 s (p+1)=10:=by
     by_cases D:F0 s (p+1)=10
     ·exact Or.inr D
     ·left;simp[U2,J2,f,D]
    rcases this with e|e
    ·rw[e]
    ·rw[e];simp[U2,J2]
   ·rw[Cc (by omega),Cc (by omega)];simp
  ·simp at f G;subst G;have h:=A1 (s:=s) (p:=p+1) (by rw[f];decide);exact⟨by omega,G7 h (by rw[f];simp[U2,J2])⟩
 obtain⟨⟨lo,hi,ok,q⟩,Z⟩:∃M,X3 s u=M:=⟨_,rfl⟩;obtain⟨R,K⟩:∃R,Y3 s (s.size+1) (F9 Da lo hi) ok q=R:=⟨_,rfl⟩;rw[Gg f G Z K,B.2];have U:=Uu (m:=5) (d:=d) (l:=l) B.1 (Or.inl rfl);have W:=L7 s u B.1;rw[Z]at U W;simp only at U W;cases ok
 ·rw[L8 _ _ _ _ _ (by simp)]at K;subst K;simp only[zV,if_false,false_implies,true_and,forall_const];exact U.2 rfl
 ·obtain⟨m',Y,V,he⟩:=U.1 rfl;rw[he];have X:=Nr (d:=d) (s.size+1) (F9 Da lo hi) true q m' Y W.2.1 (by omega) rfl V;rw[K]at X;cases e:R.2.1
  ·simp only[zV,if_false,false_implies,true_and,forall_const];exact X.2 e
  ·simp only[if_true,yP,false_implies,and_true,forall_const];exact X.1 e
theorem WM{s:ByteArray}{p:Nat}{m d l:Int}(hp:p<=s.size)(hm:m=0\/((m=1\/m=2)/\F0 s p≠ -1/\F0 s p≠10/\F0 s p≠124/\F0 s p≠41))(Y:m=1->F0 s p≠42/\F0 s p≠43/\F0 s p≠63)(Z:F0 s p≠40):
  ((T6 s p).2.1=true->∃l',J4 s ⟨m,d,l⟩ p=J4 s ⟨1,d,l'⟩ (T6 s p).2.2)
  /\((T6 s p).2.1=false->J4 s ⟨m,d,l⟩ p=((T6 s p).2.2:Int)):=by
 unfold T6;split
 ·rename_i X;simp only[zV,false_implies,true_and,forall_const];have D:F0 s p= -1\/F0 s p=10\/F0 s p=124\/F0 s p=41->m=0:=by omega
  rcases X with e|e|e|e|e|e|e|e|e
  ·have hz:=Jd e;rw[D (Or.inl e),Cc hz,if_pos (Or.inr ⟨by simp,by simp⟩)];omega
  ·rw[D (by omega)];exact R5 (A1 (by rw[e];decide)) (r':=⟨0,d,l⟩) (by rw[e];simp[U2])
  ·rw[D (by omega)];exact R5 (A1 (by rw[e];decide)) (r':=⟨0,d,l⟩) (by rw[e];simp[U2])
  ·have:m≠1:=fun h=>(Y h).1 e
   have B:m=0\/m=2:=by omega
   exact R5 (A1 (by rw[e];decide)) (r':=⟨2,d,l⟩) (by rw[e];rcases B with rfl|rfl <;>simp[U2])
  ·have:m≠1:=fun h=>(Y h).2.1 e
   have B:m=0\/m=2:=by omega
   exact R5 (A1 (by rw[e];decide)) (r':=⟨2,d,l⟩) (by rw[e];rcases B with rfl|rfl <;>simp[U2])
  ·have:m≠1:=fun h=>(Y h).2.2 e
   have B:m=0\/m=2:=by omega
   exact R5 (A1 (by rw[e];decide)) (r':=⟨2,d,l⟩) (by rw[e];rcases B with rfl|rfl <;>simp[U2])
  ·exact absurd e Z
  ·rw[D (by omega)];exact R5 (A1 (by rw[e];decide)) (r':=⟨1,d-1,l⟩) (by rw[e];simp[U2])
  ·have:¬4<=m/\m≠3:=by omega
   exact R5 (A1 (by rw[e];decide)) (r':=⟨m,d,l⟩) (by rw[e];simp[U2,this])
 ·rename_i X;simp only[M7,not_or]at X;obtain⟨n1,n2,n3,n4,n5,n6,n7,n8,n9⟩:=X;have f:=A1 n1;have G:¬4<=m/\m≠3:=by omega
  split
  ·rename_i M;simp only[yP,false_implies,and_true,forall_const];exact⟨l,G7 f (by rw[M];simp[U2,G])⟩
  ·split
   ·rename_i J;rw[G7 f (r':=⟨4,d,l⟩) (by rw[J];simp[U2,G])];exact EA f
   ·rename_i M J;unfold J5;split
    ·rename_i K;simp only[yP,false_implies,and_true,forall_const];exact⟨l,G7 f (by simp[U2,G,n2,n3,n4,n5,n6,n7,n8,n9,J,K])⟩
    ·rename_i K;have U:F0 s p=92:=Decidable.not_not.1 K;rw[G7 f (r':=⟨3,d,l⟩) (by rw[U];simp[U2,G])];split
     ·rename_i W;simp only[zV,false_implies,true_and,forall_const];rcases W with e|e
      ·have hz:=Jd e;rw[Cc hz,if_pos (Or.inr ⟨by simp,by simp⟩)];omega
      ·exact R5 (A1 (by rw[e];decide)) (r':=⟨1,d,l⟩) (by rw[e];simp[U2])
     ·rename_i W;have k1:F0 s (p+1)≠ -1:=fun e=>W (Or.inl e)
      have k2:F0 s (p+1)≠10:=fun e=>W (Or.inr e)
      have V:J4 s ⟨3,d,l⟩ (p+1)=J4 s ⟨1,d,l⟩ (p+2):=G7 (A1 k1) (by simp[U2,k2]);split
      ·simp only[yP,false_implies,and_true,forall_const];exact⟨l,V⟩
      ·simp only[yP,false_implies,and_true,forall_const];exact⟨l,V⟩
def AT(s:ByteArray)(m:Int)(p:Nat):Prop:=
 m=0\/((m=1\/m=2)/\Qb (F0 s p)=false/\(m=1->F0 s p≠42/\F0 s p≠43/\F0 s p≠63))
def KZ(s:ByteArray)(m:Int)(q:Nat):Prop:=(m=1/\F0 s q≠42/\F0 s q≠43/\F0 s q≠63)\/m=2
def En(s:ByteArray)(m d l:Int)(p:Nat)(h:Bool)(q:Nat)(Q:Int->Prop):Prop:=
 (h=true->∃f B,Q f/\J4 s ⟨m,d,l⟩ p=J4 s ⟨f,d,B⟩ q)/\(h=false->J4 s ⟨m,d,l⟩ p=(q:Int))
theorem YP{b:Int}(h:Qb b=false):b≠ -1/\b≠10/\b≠124/\b≠41:=by
 unfold Qb at h;simp only[decide_eq_false_iff_not,not_or]at h;exact h
def ET(s:ByteArray)(ex:PFn)(f:Nat):Prop:=
 ∀p R d l,f<=p->p<=s.size->R.aC.length<=p->0<=d->En s 0 d l p (ex p R).ok (ex p R).bC (fun m=>(m=1\/m=2)/\Qb (F0 s (ex p R).bC)=true/\F0 s (ex p R).bC≠124)
theorem QC{s:ByteArray}{ex:PFn}{k p:Nat}{R:E0}{m d l:Int}(h:ET s ex k)(hg:Me s ex)(hk:k<=p+1)(hp:p<=s.size)(hR:R.aC.length<=p)(hd:0<=d)(Z:AT s m p):
  En s m d l p (Wd s ex p R).ok (Wd s ex p R).bC (fun K=>K=1):=by
 unfold Wd;split
 ·rename_i B;have Y:=A1 (s:=s) (p:=p) (by rw[B];decide);have a0:¬4<=m/\m≠3:=by unfold AT at Z;omega
  have X:J4 s ⟨m,d,l⟩ p=J4 s ⟨0,d+1,l⟩ (p+1):=G7 Y (by rw[B];simp[U2,a0]);have hx:=h (p+1) R (d+1) l hk (by omega) (by omega) (by omega);unfold Ae;unfold En;rw[X];cases f:(ex (p+1) R).ok
  ·simp only[zV,false_and,if_false,false_implies,true_and,forall_const];exact hx.2 f
  ·obtain⟨K,V,⟨a3,U,a1⟩,G⟩:=hx.1 f;have D:¬4<=K/\K≠3/\K≠0:=by omega
   split
   ·rename_i M;simp only[yP,false_implies,and_true,forall_const];refine⟨1,V,rfl,?_⟩;rw[G];refine G7 (A1 (by rw[M.2];decide)) ?_;rw[M.2];simp[U2,D];omega
   ·rename_i M;simp only[zV,false_implies,true_and,forall_const];rw[G];have a2:F0 s (ex (p+1) R).bC≠41:=fun e=>M ⟨rfl,e⟩
    have W:F0 s (ex (p+1) R).bC= -1\/F0 s (ex (p+1) R).bC=10:=by
     unfold Qb at U;simp only[decide_eq_true_eq]at U;omega
    rcases W with e|e
    ·have hz:=Jd e;rw[Cc hz,if_pos (Or.inl (by simp;omega))];have:=(hg (p+1) R (by omega) (by omega)).cT;omega
    ·exact R5 (A1 (by rw[e];decide)) (r':=⟨0,d+1,V⟩) (by rw[e];simp[U2,D];omega)
 ·rename_i B;have J:=WM (m:=m) (d:=d) (l:=l) hp (by
   rcases Z with e|⟨e,h1,h2⟩
   ·exact Or.inl e
   ·exact Or.inr ⟨e,YP h1⟩) (fun e=>by
   rcases Z with e'|⟨_,_,h2⟩
   ·omega
   ·exact h2 e) B
  split
  ·rename_i f;obtain⟨V,U⟩:=J.1 f;exact⟨fun _=>⟨1,V,rfl,U⟩,fun e=>absurd e (by simp)⟩
  ·rename_i f;exact⟨fun e=>absurd e (by simp),fun _=>J.2 (by simpa using f)⟩
theorem RC{s:ByteArray}{p:Nat}{m d l:Int}{a:Vf}(h:En s m d l p a.ok a.bC (fun G=>G=1)):En s m d l p (Pe s a).ok (Pe s a).bC (fun G=>KZ s G (Pe s a).bC):=by
 unfold Pe;cases hok:a.ok
 ·simp only[if_true];exact⟨fun e=>absurd e (by simp),fun _=>h.2 hok⟩
 ·obtain⟨G,D,rfl,J⟩:=h.1 hok;simp only[yP,if_false];have B:F0 s a.bC=42\/F0 s a.bC=43\/F0 s a.bC=63->J4 s ⟨m,d,l⟩ p=J4 s ⟨2,d,D⟩ (a.bC+1):=by
   intro f;rw[J];refine G7 (A1 (by rcases f with e|e|e <;>rw[e] <;>decide)) ?_;rcases f with e|e|e <;>rw[e] <;>simp[U2]
  split
  ·rename_i f;exact⟨fun _=>⟨2,D,Or.inr rfl,B (Or.inl f)⟩,fun e=>absurd e (by simp)⟩
  ·split
   ·rename_i f;exact⟨fun _=>⟨2,D,Or.inr rfl,B (Or.inr (Or.inl f))⟩,fun e=>absurd e (by simp)⟩
   ·split
    ·rename_i f;exact⟨fun _=>⟨2,D,Or.inr rfl,B (Or.inr (Or.inr f))⟩,fun e=>absurd e (by simp)⟩
    ·rename_i K M U;exact⟨fun _=>⟨1,D,Or.inl ⟨rfl,K,M,U⟩,J⟩,fun e=>absurd e (by simp)⟩
theorem Mr{s:ByteArray}{ex:PFn}{k:Nat}{m d l:Int}{p:Nat}{R:E0}(h:ET s ex k)(K:Me s ex)(hk:k<=p+1)(hp:p<=s.size)(V:0<=d):∀(n:Nat) (r:Vf),Cn s p R r->(r.ok=true->s.size<n+r.bC)->
  En s m d l p r.ok r.bC (fun B=>KZ s B r.bC)->
  En s m d l p (C6 s ex n r).ok (C6 s ex n r).bC (fun B=>(B=1\/B=2)/\Qb (F0 s (C6 s ex n r).bC)=true)
 |0,r,g,hn,hs=>⟨fun f=>by
   have J:r.ok=true:=f;have:=g.cT;have:=hn J;omega,hs.2⟩
 |n+1,r,g,hn,hs=>by
  unfold C6;split
  ·rename_i D;have q:=Ld K r.bC r.aD g.cT g.bV;refine Mr h K hk hp V n _ (Oj K g D.1) ?_ ?_
   ·intro f;have:=q.ok f;have:=hn D.1;simp only;omega
   ·obtain⟨B,U,G,M⟩:=hs.1 D.1;have Z:AT s B r.bC:=by
     rcases G with⟨e,W,X,Y⟩|e
     ·exact Or.inr ⟨Or.inl e,D.2,fun _=>⟨W,X,Y⟩⟩
     ·exact Or.inr ⟨Or.inr e,D.2,fun e'=>by omega⟩
    have hx:=RC (QC (l:=U) h K (by have:=g.le;omega) g.cT g.bV V Z);simp only;unfold En;rw[M];exact hx
  ·rename_i D;refine⟨fun f=>?_,hs.2⟩;obtain⟨B,U,G,M⟩:=hs.1 f;refine⟨B,U,⟨?_,?_⟩,M⟩
   ·rcases G with⟨e,_⟩|e
    ·exact Or.inl e
    ·exact Or.inr e
   ·cases e:Qb (F0 s r.bC)
    ·exact absurd ⟨f,e⟩ D
    ·rfl
theorem IJ{s:ByteArray}{ex:PFn}{k:Nat}{m d l:Int}{p:Nat}{R:E0}(h:ET s ex k)(f:Me s ex)(J:k<=p+1)(B:p<=s.size)(D:R.aC.length<=p)(G:0<=d):
  En s 0 d l p (M2 s ex p R).ok (M2 s ex p R).bC (fun K=>(K=1\/K=2)/\Qb (F0 s (M2 s ex p R).bC)=true):=by
 have q:=Ld f p R B D;exact Mr h f J B G (s.size+1) _ q (fun _=>by omega) (RC (QC h f J B D G (Or.inl rfl)))
theorem Vn{s:ByteArray}{ex:PFn}{k:Nat}{m d l:Int}{p:Nat}{R:E0}(h:ET s ex k)(U:Me s ex)(hk:k<=p+1)(hp:p<=s.size)(Y:0<=d):∀(n:Nat) (r:Vf),Cn s p R r->(r.ok=true->s.size<n+r.bC)->
  En s m d l p r.ok r.bC (fun B=>(B=1\/B=2)/\Qb (F0 s r.bC)=true)->
  En s m d l p (T4 s ex n r).ok (T4 s ex n r).bC (fun B=>(B=1\/B=2)/\Qb (F0 s (T4 s ex n r).bC)=true/\F0 s (T4 s ex n r).bC≠124)
 |0,r,g,hn,hs=>⟨fun f=>by
   have K:r.ok=true:=f;have:=g.cT;have:=hn K;omega,hs.2⟩
 |n+1,r,g,hn,hs=>by
  unfold T4;split
  ·rename_i D;have X:=A1 (s:=s) (p:=r.bC) (by rw[D.2];decide);have q:=R7 U (r.bC+1) r.aD (by omega) (by have:=g.bV;omega);refine Vn h U hk hp Y n _ (Ai U g D.1 D.2) ?_ ?_
   ·intro f;have:=q.ok f;have:=hn D.1;simp only;omega
   ·obtain⟨B,M,⟨G,_⟩,V⟩:=hs.1 D.1;have J:¬4<=B/\B≠3/\B≠0:=by omega
    have hx:=IJ (m:=m) (l:=M) (d:=d) h U (p:=r.bC+1) (R:=r.aD) (by have:=g.le;omega) (by omega) (by have:=g.bV;omega) Y;have W:J4 s ⟨B,d,M⟩ r.bC=J4 s ⟨0,d,M⟩ (r.bC+1):=G7 X (by rw[D.2];simp[U2,J]);simp only;unfold En;rw[V,W];exact hx
  ·rename_i D;refine⟨fun f=>?_,hs.2⟩;obtain⟨B,M,⟨G,Z⟩,V⟩:=hs.1 f;exact⟨B,M,⟨G,Z,fun e=>D ⟨f,e⟩⟩,V⟩
theorem Et(s:ByteArray):∀(f:Nat),ET s (N5 s f) (s.size+1-f)
 |0=>fun p R d l J h B D=>by omega
 |f+1=>fun p R d l J h B D=>by
  have G:=Sa s f;have q:=R7 G p R h B;exact Vn (m:=0) (l:=l) (Et s f) G (by omega) h D (s.size+1) _ q (fun _=>by omega) (IJ (m:=0) (Et s f) G (by omega) h B D)
theorem SC{s:ByteArray}{p:Nat}{R:E0}{l:Int}(D:p<=s.size)(B:R.aC.length<=p):
  En s 0 0 l p (X5 s p R).1 (X5 s p R).2.1 (fun m=>(m=1\/m=2)/\Qb (F0 s (X5 s p R).2.1)=true/\F0 s (X5 s p R).2.1≠124):=by
 have h:=Et s (s.size+1) p R 0 l (by omega) D B (by omega);unfold X5;split
 ·rename_i f;exact⟨fun _=>h.1 f,fun e=>absurd e (by simp)⟩
 ·rename_i f;exact⟨fun e=>absurd e (by simp),fun _=>h.2 (by simpa using f)⟩
theorem KC{s:ByteArray}{p:Nat}{R:E0}(h:p<=s.size)(f:R.aC.length<=p):
  p<=(X5 s p R).2.1/\(X5 s p R).2.1<=s.size/\(X5 s p R).2.2.aC.length<=(X5 s p R).2.1:=by
 have g:=Sa s (s.size+1) p R h f;unfold X5;split
 ·exact⟨g.le,g.cT,g.bV⟩
 ·exact⟨g.le,g.cT,g.bV⟩
theorem Lr{s:ByteArray}:∀(n:Nat) (r:Bool×Nat×E0),r.2.1<=s.size->r.2.2.aC.length<=r.2.1->(r.1=true->s.size<n+r.2.1)->
  En s 0 0 0 0 r.1 r.2.1 (fun m=>(m=1\/m=2)/\Qb (F0 s r.2.1)=true/\F0 s r.2.1≠124)->
  En s 0 0 0 0 (J3 s n r).1 (J3 s n r).2.1 (fun m=>(m=1\/m=2)/\Qb (F0 s (J3 s n r).2.1)=true/\F0 s (J3 s n r).2.1≠124/\F0 s (J3 s n r).2.1≠10)/\(J3 s n r).2.1<=s.size
 |0,r,hp,hR,hn,hs=>⟨⟨fun f=>by
   have K:r.1=true:=f;have:=hn K;omega,hs.2⟩,hp⟩
 |n+1,r,hp,hR,hn,hs=>by
  unfold J3;split
  ·rename_i h;have W:=A1 (s:=s) (p:=r.2.1) (by rw[h.2];decide);have q:=KC (s:=s) (p:=r.2.1+1) (R:=r.2.2) (by omega) (by omega);refine Lr n _ q.2.1 q.2.2 (fun f=>by have:=hn h.1;omega) ?_;obtain⟨B,M,⟨G,_⟩,U⟩:=hs.1 h.1;have J:¬4<=B/\B≠3/\B≠0:=by omega
   have V:J4 s ⟨B,0,M⟩ r.2.1=J4 s ⟨0,0,M⟩ (r.2.1+1):=G7 W (by rw[h.2];simp[U2,J]);unfold En;rw[U,V];exact SC (by omega) (by omega)
  ·rename_i h;refine⟨⟨fun f=>?_,hs.2⟩,hp⟩;obtain⟨B,M,⟨G,X,D⟩,U⟩:=hs.1 f;exact⟨B,M,⟨G,X,D,fun e=>h ⟨f,e⟩⟩,U⟩
theorem EC(s:ByteArray):SE s=if(Pa s).1=true then -1 else((Pa s).2.1:Int):=by
 have q:=KC (s:=s) (p:=0) (R:=E0.aQ) (by omega) (by simp[E0.aQ]);have h:=Lr (s:=s) (s.size+1) (X5 s 0 E0.aQ) q.2.1 q.2.2 (fun _=>by omega) (SC (by omega) (by simp[E0.aQ]));unfold Pa SE;simp only;generalize J3 s (s.size+1) (X5 s 0 E0.aQ)=r at h⊢;obtain⟨K,X⟩:=h;cases hok:r.1
 ·simp only[yZ,zV,if_false];exact K.2 hok
 ·obtain⟨D,W,⟨V,J,G,M⟩,U⟩:=K.1 hok;have f:¬4<=D/\D≠3/\D≠0:=by omega
  rw[U]
  by_cases e:F0 s r.2.1= -1
  ·rw[Cc (Jd e),if_neg (by simp;omega),if_pos (by simp[e])]
  ·have B:F0 s r.2.1=41:=by
    unfold Qb at J;simp only[decide_eq_true_eq]at J;omega
   rw[if_neg (by simp[e])];exact R5 (A1 e) (r':=⟨1,0-1,W⟩) (by rw[B];simp[U2,f])
def I0.iQ(s:I0)(p:Nat):Bool:=if p<64 then s.lo.getLsbD p else s.hi.getLsbD (p-64)
theorem NN(a:BitVec 64)(p:Nat):(a &&& (1#64<<<p)==0)=!(a.getLsbD p):=by
 have e:1#64<<<p=BitVec.twoPow 64 p:=by rw[BitVec.twoPow_eq]
 rw[e,BitVec.and_twoPow]
 by_cases h:a.getLsbD p=true
 ·have f:p<64:=BitVec.lt_of_getLsbD h;rw[if_pos h,h];have:BitVec.twoPow 64 p≠0#64:=by
   intro e;have:=congrArg (fun x=>x.getLsbD p) e;simp[f]at this
  simp[this]
 ·rw[if_neg h];simp at h;simp[h]
theorem Uj(s:I0)(p:Nat):s.has p=s.iQ p:=by
 unfold I0.has I0.cK I0.only I0.iQ
 by_cases f:p<64
 ·rw[if_pos f,if_pos f];simp only;rw[NN];simp
 ·rw[if_neg f,if_neg f]
  by_cases h:p<128
  ·rw[if_pos h];simp only;rw[NN];simp
  ·rw[if_neg h];simp[I0.none];exact BitVec.getLsbD_of_ge s.hi (p-64) (by omega)
theorem Ta(s t:I0)(p:Nat):(s.or t).has p=(s.has p || t.has p):=by
 simp only[Uj];unfold I0.iQ I0.or;split <;>simp
theorem Fq(s t:I0)(p:Nat):(s.and t).has p=(s.has p && t.has p):=by
 simp only[Uj];unfold I0.iQ I0.and;split <;>simp
theorem N9(p:Nat):I0.none.has p=false:=by
 simp only[Uj];unfold I0.iQ I0.none;split <;>simp
theorem Be(p q:Nat)(D:p<128):(I0.only p).has q=decide (p=q):=by
 rw[Uj];unfold I0.iQ I0.only
 by_cases B:p<64
 ·rw[if_pos B]
  by_cases f:q<64
  ·rw[if_pos f];simp[f]
   by_cases h:p=q
   ·subst h;simp
   ·simp[h];omega
  ·rw[if_neg f];simp;omega
 ·rw[if_neg B,if_pos D]
  by_cases f:q<64
  ·rw[if_pos f];simp;omega
  ·rw[if_neg f]
   by_cases h:p=q
   ·subst h;simp[BitVec.getLsbD_shiftLeft];omega
   ·simp[BitVec.getLsbD_shiftLeft,h];omega
theorem Iy{s t:I0}(h:∀p,s.has p=t.has p):s=t:=by
 obtain⟨D,B⟩:=s;obtain⟨J,G⟩:=t
 congr 1
 ·refine BitVec.eq_of_getLsbD_eq fun i f=>?_
  have:=h i;simp only[Uj]at this;unfold I0.iQ at this;rw[if_pos f,if_pos f]at this;exact this
 ·refine BitVec.eq_of_getLsbD_eq fun i f=>?_
  have:=h (i+64);simp only[Uj]at this;unfold I0.iQ at this;rw[if_neg (by omega),if_neg (by omega)]at this;simpa using this
theorem Hdx(s:I0):s.isEmpty=true↔∀p,s.has p=false:=by
 constructor
 ·intro h p;unfold I0.isEmpty at h;simp at h;rw[Uj];unfold I0.iQ;split
  ·rw[h.1];simp
  ·rw[h.2];simp
 ·intro h;have:s=I0.none:=Iy fun p=>by rw[h p,N9]
  rw[this];rfl
theorem KH{s:I0}(h:s.isEmpty=false):∃p,s.has p=true:=by
 refine Classical.byContradiction fun f=>?_
 have:s.isEmpty=true:=(Hdx s).2 fun p=>by
  cases e:s.has p
  ·rfl
  ·exact absurd ⟨p,e⟩ f
 rw[h]at this;cases this
theorem WB(s t:I0):s.cK t=true↔∃p,s.has p=true/\t.has p=true:=by
 have e:s.cK t=!(s.and t).isEmpty:=by
  unfold I0.cK I0.isEmpty I0.and;simp only[Bool.not_and]
 rw[e];constructor
 ·intro h;simp at h;obtain⟨p,f⟩:=KH h;rw[Fq,yL]at f;exact⟨p,f⟩
 ·rintro⟨p,B,D⟩;cases e:(s.and t).isEmpty
  ·rfl
  ·have:=(Hdx _).1 e p;rw[Fq,B,D]at this;cases this
theorem Vg{l:List I0}:∀{k:Nat} {p:Nat} ,((l.getD k I0.none).has p=true)->k<l.length:=fun{k p} h=>by
 refine Classical.byContradiction fun f=>?_
 have e:l.getD k I0.none=I0.none:=by
  rw[zC,yI (by omega)];rfl
 rw[e,N9]at h;cases h
theorem Kn(s:I0)(q:Nat):∀(l:List I0) (k:Nat) (D:I0),(O8 s k l D).has q=true↔(D.has q=true\/∃i,s.has (k+i)=true/\(l.getD i I0.none).has q=true)
 | [],k,D=>by
  simp only[O8];refine⟨fun h=>.inl h,fun h=>?_⟩;rcases h with h|⟨i,_,B⟩
  ·exact h
  ·have:=Vg B;simp at this
 |f::r,k,D=>by
  unfold O8;rw[Kn s q r (k+1)];constructor
  ·rintro(h|⟨i,G,B⟩)
   ·split at h
    ·rename_i J;rw[Ta,yX]at h;rcases h with h|h
     ·exact .inl h
     ·exact .inr ⟨0,J,by simpa using h⟩
    ·exact .inl h
   ·exact .inr ⟨i+1,by rw[show k+(i+1)=k+1+i by omega];exact G,by simpa using B⟩
  ·rintro(h|⟨i,G,B⟩)
   ·left;split
    ·rw[Ta,h];rfl
    ·exact h
   ·cases i with
    |zero=>
     left
     rw[if_pos (by simpa using G),Ta];simp at B;rw[B];simp
    |succ i=>exact .inr ⟨i,by rw[show k+1+i=k+(i+1) by omega];exact G,by simpa using B⟩
theorem PA(R:E0)(s:I0)(q:Nat):(R.after s).has q=true↔∃i,s.has i=true/\(R.aC.getD i I0.none).has q=true:=by
 unfold E0.after;rw[Kn];simp[N9]
theorem Mq(a b:I0)(p q:Nat):∀(l:List I0) (k:Nat),((K7 a b k l).getD p I0.none).has q=true↔((l.getD p I0.none).has q=true\/(p<l.length/\a.has (k+p)=true/\b.has q=true))
 | [],k=>by simp[K7]
 |s::r,k=>by
  unfold K7;cases p with
  |zero=>
   simp;split
   ·rename_i h;rw[Ta,yX];simp[h]
   ·rename_i h;simp[h]
  |succ p=>
   simp only[List.getD_cons_succ,yH];rw[Mq a b p q r (k+1),show k+1+p=k+(p+1) by omega];simp
theorem WU(R:E0)(a b:I0)(p q:Nat):(((R.link a b).aC.getD p I0.none).has q=true)↔((R.aC.getD p I0.none).has q=true\/(p<R.aC.length/\a.has p=true/\b.has q=true)):=by
 unfold E0.link;simp only;rw[Mq];simp
theorem Gi(s:I0):∀(l:List I0) (k:Nat),(Ac s k l= -1/\∀i,i<l.length->s.cK (l.getD i I0.none)=false)\/(∃i,i<l.length/\Ac s k l=((k+i:Nat):Int)/\s.cK (l.getD i I0.none)=true/\∀j,j<i->s.cK (l.getD j I0.none)=false)
 | [],k=>.inl ⟨rfl,fun i D=>by simp at D⟩
 |x::r,k=>by
  unfold Ac;cases h:s.cK x with
  |true=>exact .inr ⟨0,by simp,by simp,by simpa using h,fun j K=>by omega⟩
  |false=>
   simp only[zV,if_false];rcases Gi s r (k+1)with⟨f,B⟩|⟨i,f,B,G,J⟩
   ·refine .inl ⟨f,fun i D=>?_⟩;cases i with
    |zero=>simpa using h
    |succ i=>simpa using B i (by simpa using D)
   ·refine .inr ⟨i+1,by simpa using f,by rw[B];omega,by simpa using G,fun j K=>?_⟩;cases j with
    |zero=>simpa using h
    |succ j=>simpa using J j (by omega)
inductive ND where
 |leaf (k a b:Nat)
 |row (l r:ND)
 |or(l r:ND)
 |iZ (l:ND)
 |plus (l:ND)
 |maybe (l:ND)
 deriving Inhabited
namespace ND
end ND
end Go.Proofs.YtcckhngbdoiikaaGreat
