import Derived.WalkKit

namespace Go.Proofs.YtcckhngbdoiikaaGreat
structure PSet where
 lo:BitVec 64
 hi:BitVec 64
 deriving DecidableEq,Inhabited
namespace PSet
def none:PSet:=⟨0,0⟩
def or (s t:PSet):PSet:=⟨s.lo ||| t.lo,s.hi ||| t.hi⟩
def and (s t:PSet):PSet:=⟨s.lo &&& t.lo,s.hi &&& t.hi⟩
def isEmpty (s:PSet):Bool:=s.lo == 0 && s.hi == 0
def meets (s t:PSet):Bool:=!(s.lo &&& t.lo == 0) || !(s.hi &&& t.hi == 0)
def only (p:Nat):PSet:=if p < 64 then ⟨1#64 <<< p,0⟩ else if p < 128 then ⟨0,1#64 <<< (p - 64)⟩ else none
def has (s:PSet) (p:Nat):Bool:=s.meets (only p)
end PSet
theorem bits_or64 (a b:BitVec 64):bits .or .u64 (a.toNat:Int) (b.toNat:Int) = (((a ||| b).toNat:Nat):Int):=by
 rw [u64_or_nat _ _ a.isLt b.isLt,BitVec.toNat_or]
theorem bits_and64 (a b:BitVec 64):bits .and .u64 (a.toNat:Int) (b.toNat:Int) = (((a &&& b).toNat:Nat):Int):=by
 rw [u64_and_nat _ _ a.isLt b.isLt,BitVec.toNat_and]
end Go.Proofs.YtcckhngbdoiikaaGreat

namespace Go.Proofs.YtcckhngbdoiikaaGreat
set_option linter.unusedVariables false
def peekI (s:ByteArray) (p:Nat):Int:=if h:p < s.size then (s[p].toNat:Int) else -1
theorem peekI_lo (s:ByteArray) (p:Nat):-1 ≤ peekI s p:=by unfold peekI; split <;> omega
theorem peekI_in {s:ByteArray} {p:Nat} (h:peekI s p ≠ -1):p < s.size:=by
 unfold peekI at h; split at h
 ·assumption
 ·exact absurd rfl h
def singleF (s:ByteArray) (p:Nat):Int × Bool × Nat :=
 if peekI s p ≠ 92 then (peekI s p,true,p + 1)
 else if peekI s (p + 1) = -1∨peekI s (p + 1) = 10 then (0,false,p + 1)
 else if peekI s (p + 1) = 110 then (10,true,p + 2)
 else (peekI s (p + 1),true,p + 2)
theorem singleF_pos (s:ByteArray) (p:Nat) (h:p < s.size):p < (singleF s p).2.2∧(singleF s p).2.2 ≤ s.size:=by
 unfold singleF
 split
 ·exact ⟨by simp,by simp; omega⟩
 ·split
  ·exact ⟨by simp,by simp; omega⟩
  ·rename_i h1 h2
   have:=peekI_in (s:=s) (p:=p + 1) (fun e=>h2 (Or.inl e))
   split
   ·exact ⟨by simp,by simp; omega⟩
   ·exact ⟨by simp,by simp; omega⟩
def itemBar (b:Int):Prop:=b = -1∨b = 10∨b = 93∨b = 45
instance (b:Int):Decidable (itemBar b):=by unfold itemBar; exact inferInstance
def itemF (s:ByteArray) (p:Nat):Int × Bool × Nat:=if itemBar (peekI s p) then (0,false,p) else singleF s p
theorem itemF_pos (s:ByteArray) (p:Nat) (h:p ≤ s.size):p ≤ (itemF s p).2.2∧(itemF s p).2.2 ≤ s.size∧((itemF s p).2.1 = true→p < (itemF s p).2.2):=by
 unfold itemF
 split
 ·simp; exact h
 ·rename_i hb
  have h1:p < s.size:=peekI_in (fun e=>hb (Or.inl e))
  have:=singleF_pos s p h1
  exact ⟨by omega,by omega,fun _=>by omega⟩
def memberF (s:ByteArray) (p:Nat):Int × Int × Bool × Nat :=
 if (itemF s p).2.1 = false∨peekI s (itemF s p).2.2 ≠ 45 then ((itemF s p).1,(itemF s p).1,(itemF s p).2.1,(itemF s p).2.2)
 else if (itemF s ((itemF s p).2.2 + 1)).2.1 = true∧(itemF s ((itemF s p).2.2 + 1)).1 < (itemF s p).1 then (0,0,false,(itemF s ((itemF s p).2.2 + 1)).2.2 - 1)
 else ((itemF s p).1,(itemF s ((itemF s p).2.2 + 1)).1,(itemF s ((itemF s p).2.2 + 1)).2.1,(itemF s ((itemF s p).2.2 + 1)).2.2)
theorem memberF_pos (s:ByteArray) (p:Nat) (h:p ≤ s.size):p ≤ (memberF s p).2.2.2∧(memberF s p).2.2.2 ≤ s.size∧((memberF s p).2.2.1 = true→p < (memberF s p).2.2.2):=by
 have h1:=itemF_pos s p h
 unfold memberF
 split
 ·exact h1
 ·rename_i hc
  have hok:(itemF s p).2.1 = true:=by
   cases e:(itemF s p).2.1
   ·exact absurd (Or.inl e) hc
   ·rfl
  have hpk:peekI s (itemF s p).2.2 = 45:=Decidable.not_not.1 (fun e=>hc (Or.inr e))
  have hlt:(itemF s p).2.2 < s.size:=peekI_in (by rw [hpk]; decide)
  have h2:=itemF_pos s ((itemF s p).2.2 + 1) (by omega)
  split
  ·exact ⟨by simp; omega,by simp; omega,by simp⟩
  ·exact ⟨by simp; omega,by simp; omega,fun _=>by simp; omega⟩
def rangeF (A:Nat→Bool) (lo hi:Int):Nat→Bool:=fun b=>A b || (decide (lo ≤ (b:Int)) && decide ((b:Int) ≤ hi))
def butF (A:Nat→Bool):Nat→Bool:=fun b=>!A b
def noneF:Nat→Bool:=fun _=>false
def membersF (s:ByteArray):Nat→(Nat→Bool)→Bool→Nat→(Nat→Bool) × Bool × Nat
 | 0,A,ok,p=>(A,ok,p)
 |n + 1,A,ok,p=>if ok = true∧peekI s p ≠ 93 then membersF s n (rangeF A (memberF s p).1 (memberF s p).2.1) (memberF s p).2.2.1 (memberF s p).2.2.2 else (A,ok,p)
theorem membersF_pos (s:ByteArray):∀ (n:Nat) (A:Nat→Bool) (ok:Bool) (p:Nat),p ≤ s.size→p ≤ (membersF s n A ok p).2.2∧(membersF s n A ok p).2.2 ≤ s.size
 | 0,A,ok,p,h=>by simp [membersF]; exact h
 |n + 1,A,ok,p,h=>by
  unfold membersF
  split
  ·have:=memberF_pos s p h
   have:=membersF_pos s n (rangeF A (memberF s p).1 (memberF s p).2.1) (memberF s p).2.2.1 (memberF s p).2.2.2 this.2.1
   omega
  ·simp; exact h
theorem membersF_stop (s:ByteArray) (n:Nat) (A:Nat→Bool) (ok:Bool) (p:Nat) (h:¬ (ok = true∧peekI s p ≠ 93)):membersF s n A ok p = (A,ok,p):=by
 cases n with
 |zero=>rfl
 |succ n=>unfold membersF; rw [if_neg h]
theorem membersF_end (s:ByteArray):∀ (n:Nat) (A:Nat→Bool) (ok:Bool) (p:Nat),p ≤ s.size→(ok = true→s.size < n + p)→(membersF s n A ok p).2.1 = true→peekI s (membersF s n A ok p).2.2 = 93
 | 0,A,ok,p,h,hn,hok=>by
  simp only [membersF] at hok ⊢
  have:=hn hok
  omega
 |n + 1,A,ok,p,h,hn,hok=>by
  unfold membersF at hok ⊢
  split at hok
  ·rename_i hc
   rw [if_pos hc]
   have hm:=memberF_pos s p h
   exact membersF_end s n _ _ _ hm.2.1 (fun e=>by have:=hm.2.2 e; have:=hn hc.1; omega) hok
  ·rename_i hc
   rw [if_neg hc]
   simp only at hok ⊢
   exact Decidable.not_not.1 (fun e=>hc ⟨hok,e⟩)
def bracketsF (s:ByteArray) (p:Nat):(Nat→Bool) × Bool × Nat :=
 let inv:=decide (peekI s (p + 1) = 94)
 let m:=memberF s (if inv = true then p + 2 else p + 1)
 let r:=membersF s (s.size + 1) (rangeF noneF m.1 m.2.1) m.2.2.1 m.2.2.2
 if r.2.1 = true then (if inv = true then butF r.1 else r.1,true,r.2.2 + 1) else (noneF,false,r.2.2)
theorem bracketsF_eq {s:ByteArray} {p:Nat} {inv ok:Bool} {lo hi:Int} {q u:Nat} {R:(Nat→Bool) × Bool × Nat} (hinv:decide (peekI s (p + 1) = 94) = inv) (hu:(if inv = true then p + 2 else p + 1) = u)
  (hM:memberF s u = (lo,hi,ok,q)) (hR:membersF s (s.size + 1) (rangeF noneF lo hi) ok q = R) :
  bracketsF s p = if R.2.1 = true then (if inv = true then butF R.1 else R.1,true,R.2.2 + 1) else (noneF,false,R.2.2):=by
 unfold bracketsF; simp only [hinv,hu,hM,hR]
theorem bracketsF_pos (s:ByteArray) (p:Nat) (h:p < s.size):p < (bracketsF s p).2.2∧(bracketsF s p).2.2 ≤ s.size:=by
 unfold bracketsF
 have hq:(if decide (peekI s (p + 1) = 94) = true then p + 2 else p + 1) ≤ s.size∧p < (if decide (peekI s (p + 1) = 94) = true then p + 2 else p + 1):=by
  split
  ·rename_i e
   simp at e
   have:=peekI_in (s:=s) (p:=p + 1) (by rw [e]; decide)
   omega
  ·omega
 have hm:=memberF_pos s _ hq.1
 simp only
 generalize memberF s (if decide (peekI s (p + 1) = 94) = true then p + 2 else p + 1) = m at hm ⊢
 have hr:=membersF_pos s (s.size + 1) (rangeF noneF m.1 m.2.1) m.2.2.1 m.2.2.2 hm.2.1
 have he:=membersF_end s (s.size + 1) (rangeF noneF m.1 m.2.1) m.2.2.1 m.2.2.2 hm.2.1 (fun _=>by omega)
 generalize membersF s (s.size + 1) (rangeF noneF m.1 m.2.1) m.2.2.1 m.2.2.2 = r at hr he ⊢
 split
 ·rename_i hok
  have:=peekI_in (s:=s) (p:=r.2.2) (by rw [he hok]; decide)
  simp; omega
 ·simp; omega
def placeBar (b:Int):Prop:=b = -1∨b = 10∨b = 124∨b = 42∨b = 43∨b = 63∨b = 40∨b = 41∨b = 93
instance (b:Int):Decidable (placeBar b):=by unfold placeBar; exact inferInstance
def placeF (s:ByteArray) (p:Nat):(Nat→Bool) × Bool × Nat :=
 if placeBar (peekI s p) then (noneF,false,p)
 else if peekI s p = 46 then (butF noneF,true,p + 1)
 else if peekI s p = 91 then bracketsF s p
 else (rangeF noneF (singleF s p).1 (singleF s p).1,(singleF s p).2.1,(singleF s p).2.2)
theorem placeF_pos (s:ByteArray) (p:Nat) (h:p ≤ s.size):p ≤ (placeF s p).2.2∧(placeF s p).2.2 ≤ s.size∧((placeF s p).2.1 = true→p < (placeF s p).2.2):=by
 unfold placeF
 split
 ·simp; exact h
 ·rename_i hb
  have h1:p < s.size:=peekI_in (fun e=>hb (Or.inl e))
  split
  ·simp; omega
  ·split
   ·have:=bracketsF_pos s p h1
    exact ⟨by omega,by omega,fun _=>by omega⟩
   ·have:=singleF_pos s p h1
    exact ⟨by simp; omega,by simp; omega,fun _=>by simp; omega⟩
structure RulesT where
 allow:Nat→PSet
 first:PSet
 follow:List PSet
 last:List PSet
structure PartT where
 first:PSet
 last:PSet
 empty:Bool
 deriving DecidableEq,Inhabited
def RulesT.new:RulesT:=⟨fun _=>PSet.none,PSet.none,[],[]⟩
def PartT.new:PartT:=⟨PSet.none,PSet.none,false⟩
def linkFrom (a b:PSet):Nat→List PSet→List PSet
 |_,[]=>[]
 |k,s :: r=>(if a.has k then s.or b else s) :: linkFrom a b (k + 1) r
def RulesT.link (R:RulesT) (a b:PSet):RulesT:={ R with follow:=linkFrom a b 0 R.follow }
theorem linkFrom_length (a b:PSet):∀ (k:Nat) (l:List PSet),(linkFrom a b k l).length = l.length
 |_,[]=>rfl
 |k,s :: r=>by simp [linkFrom,linkFrom_length a b (k + 1) r]
theorem linkFrom_append (a b:PSet):∀ (k:Nat) (l m:List PSet),linkFrom a b k (l ++ m) = linkFrom a b k l ++ linkFrom a b (k + l.length) m
 |k,[],m=>by simp [linkFrom]
 |k,s :: r,m=>by simp [linkFrom,linkFrom_append a b (k + 1) r m]; congr 1; omega
theorem link_follow_length (R:RulesT) (a b:PSet):(R.link a b).follow.length = R.follow.length:=linkFrom_length a b 0 _
def addAllow (al:Nat→PSet) (A:Nat→Bool) (p:PSet):Nat→PSet:=fun b=>if A b then (al b).or p else al b
def RulesT.add (R:RulesT) (A:Nat→Bool):RulesT:={ R with follow:=R.follow ++ [PSet.none],allow:=addAllow R.allow A (PSet.only R.follow.length) }
def RulesT.addPart (R:RulesT):PartT:=⟨PSet.only R.follow.length,PSet.only R.follow.length,false⟩
def RulesT.chain (R:RulesT) (a b:PartT):RulesT:=R.link a.last b.first
def chainPart (a b:PartT):PartT :=
 ⟨if a.empty then a.first.or b.first else a.first,if b.empty then b.last.or a.last else b.last,a.empty && b.empty⟩
def eitherPart (a b:PartT):PartT:=⟨a.first.or b.first,a.last.or b.last,a.empty || b.empty⟩
def RulesT.endRule (R:RulesT) (p:PartT):RulesT:={ R with first:=R.first.or p.first,last:=R.last ++ [p.last] }
def afterFrom (s:PSet):Nat→List PSet→PSet→PSet
 |_,[],acc=>acc
 |k,f :: r,acc=>afterFrom s (k + 1) r (if s.has k then acc.or f else acc)
def RulesT.after (R:RulesT) (s:PSet):PSet:=afterFrom s 0 R.follow PSet.none
def ruleFrom (s:PSet):Nat→List PSet→Int
 |_,[]=>-1
 |k,l :: r=>if s.meets l then (k:Int) else ruleFrom s (k + 1) r
def RulesT.rule (R:RulesT) (s:PSet):Int:=ruleFrom s 0 R.last
structure PRes where
 part:PartT
 ok:Bool
 at':Nat
 rules:RulesT
abbrev PFn:=Nat→RulesT→PRes
def endsB (b:Int):Bool:=decide (b = -1∨b = 10∨b = 124∨b = 41)
def groupF (s:ByteArray) (ex:PFn):PFn:=fun p R =>
 if (ex (p + 1) R).ok = true∧peekI s (ex (p + 1) R).at' = 41 then ⟨(ex (p + 1) R).part,true,(ex (p + 1) R).at' + 1,(ex (p + 1) R).rules⟩
 else ⟨PartT.new,false,(ex (p + 1) R).at',(ex (p + 1) R).rules⟩
def atomF (s:ByteArray) (ex:PFn):PFn:=fun p R =>
 if peekI s p = 40 then groupF s ex p R
 else if (placeF s p).2.1 = true then ⟨R.addPart,true,(placeF s p).2.2,R.add (placeF s p).1⟩
 else ⟨PartT.new,false,(placeF s p).2.2,R⟩
def markF (s:ByteArray) (a:PRes):PRes :=
 if a.ok = false then ⟨PartT.new,false,a.at',a.rules⟩
 else if peekI s a.at' = 42 then ⟨{ a.part with empty:=true },true,a.at' + 1,a.rules.link a.part.last a.part.first⟩
 else if peekI s a.at' = 43 then ⟨a.part,true,a.at' + 1,a.rules.link a.part.last a.part.first⟩
 else if peekI s a.at' = 63 then ⟨{ a.part with empty:=true },true,a.at' + 1,a.rules⟩
 else ⟨a.part,true,a.at',a.rules⟩
def pieceF (s:ByteArray) (ex:PFn):PFn:=fun p R=>markF s (atomF s ex p R)
def altLoopF (s:ByteArray) (ex:PFn):Nat→PRes→PRes
 | 0,r=>r
 |n + 1,r=>if r.ok = true∧endsB (peekI s r.at') = false then
   altLoopF s ex n ⟨chainPart r.part (pieceF s ex r.at' r.rules).part,(pieceF s ex r.at' r.rules).ok,(pieceF s ex r.at' r.rules).at',(pieceF s ex r.at' r.rules).rules.chain r.part (pieceF s ex r.at' r.rules).part⟩
  else r
def alternativeF (s:ByteArray) (ex:PFn):PFn:=fun p R=>altLoopF s ex (s.size + 1) (pieceF s ex p R)
def exprLoopF (s:ByteArray) (ex:PFn):Nat→PRes→PRes
 | 0,r=>r
 |n + 1,r=>if r.ok = true∧peekI s r.at' = 124 then
   exprLoopF s ex n ⟨eitherPart r.part (alternativeF s ex (r.at' + 1) r.rules).part,(alternativeF s ex (r.at' + 1) r.rules).ok,(alternativeF s ex (r.at' + 1) r.rules).at',(alternativeF s ex (r.at' + 1) r.rules).rules⟩
  else r
def expressionF (s:ByteArray) (ex:PFn):PFn:=fun p R=>exprLoopF s ex (s.size + 1) (alternativeF s ex p R)
def exprF (s:ByteArray):Nat→PFn
 | 0=>fun p R=>⟨PartT.new,false,p,R⟩
 |f + 1=>expressionF s (exprF s f)
structure Good (s:ByteArray) (p:Nat) (R:RulesT) (r:PRes):Prop where
 le:p ≤ r.at'
 top:r.at' ≤ s.size
 ok:r.ok = true→p < r.at'
 few:r.rules.follow.length ≤ r.at'
 last:r.rules.last = R.last
 first:r.rules.first = R.first
def GoodF (s:ByteArray) (f:PFn):Prop:=∀ p R,p ≤ s.size→R.follow.length ≤ p→Good s p R (f p R)
theorem groupF_good {s:ByteArray} {ex:PFn} (h:GoodF s ex) (p:Nat) (R:RulesT) (hp:p < s.size) (hR:R.follow.length ≤ p):Good s p R (groupF s ex p R):=by
 have g:=h (p + 1) R (by omega) (by omega)
 unfold groupF
 split
 ·rename_i hc
  have:=peekI_in (s:=s) (p:=(ex (p + 1) R).at') (by rw [hc.2]; decide)
  exact ⟨by have:=g.le; simp; omega,by simp; omega,fun _=>by have:=g.le; simp; omega,by have:=g.few; simp; omega,g.last,g.first⟩
 ·exact ⟨by have:=g.le; simp; omega,g.top,by simp,g.few,g.last,g.first⟩
theorem atomF_good {s:ByteArray} {ex:PFn} (h:GoodF s ex):GoodF s (atomF s ex):=by
 intro p R hp hR
 unfold atomF
 split
 ·rename_i hc
  exact groupF_good h p R (peekI_in (by rw [hc]; decide)) hR
 ·have q:=placeF_pos s p hp
  split
  ·rename_i hok
   have:=q.2.2 hok
   exact ⟨q.1,q.2.1,fun _=>this,by simp [RulesT.add]; omega,rfl,rfl⟩
  ·exact ⟨q.1,q.2.1,by simp,by simp; omega,rfl,rfl⟩
theorem markF_good {s:ByteArray} {p:Nat} {R:RulesT} {a:PRes} (g:Good s p R a):Good s p R (markF s a):=by
 unfold markF
 split
 ·exact ⟨g.le,g.top,by simp,g.few,g.last,g.first⟩
 ·rename_i hok
  have hok':a.ok = true:=by cases e:a.ok <;> simp_all
  have h1:=g.ok hok'
  split
  ·rename_i hc
   have:=peekI_in (s:=s) (p:=a.at') (by rw [hc]; decide)
   exact ⟨by simp; omega,by simp; omega,fun _=>by simp; omega,by have:=g.few; simp [link_follow_length]; omega,g.last,g.first⟩
  ·split
   ·rename_i hc
    have:=peekI_in (s:=s) (p:=a.at') (by rw [hc]; decide)
    exact ⟨by simp; omega,by simp; omega,fun _=>by simp; omega,by have:=g.few; simp [link_follow_length]; omega,g.last,g.first⟩
   ·split
    ·rename_i hc
     have:=peekI_in (s:=s) (p:=a.at') (by rw [hc]; decide)
     exact ⟨by simp; omega,by simp; omega,fun _=>by simp; omega,by have:=g.few; simp; omega,g.last,g.first⟩
    ·exact ⟨g.le,g.top,fun _=>h1,g.few,g.last,g.first⟩
theorem pieceF_good {s:ByteArray} {ex:PFn} (h:GoodF s ex):GoodF s (pieceF s ex):=fun p R hp hR=>markF_good (atomF_good h p R hp hR)
theorem altStep_good {s:ByteArray} {ex:PFn} (h:GoodF s ex) {p:Nat} {R:RulesT} {r:PRes} (g:Good s p R r) (hok:r.ok = true) :
  Good s p R ⟨chainPart r.part (pieceF s ex r.at' r.rules).part,(pieceF s ex r.at' r.rules).ok,(pieceF s ex r.at' r.rules).at',(pieceF s ex r.at' r.rules).rules.chain r.part (pieceF s ex r.at' r.rules).part⟩:=by
 have q:=pieceF_good h r.at' r.rules g.top g.few
 have h1:=g.ok hok
 exact ⟨by have:=q.le; simp; omega,q.top,fun _=>by have:=q.le; simp; omega,by have:=q.few; simp [RulesT.chain,link_follow_length]; omega,by simp [RulesT.chain,RulesT.link,q.last,g.last],by simp [RulesT.chain,RulesT.link,q.first,g.first]⟩
theorem altLoopF_good {s:ByteArray} {ex:PFn} (h:GoodF s ex) {p:Nat} {R:RulesT}:∀ (n:Nat) (r:PRes),Good s p R r→Good s p R (altLoopF s ex n r)
 | 0,r,g=>g
 |n + 1,r,g=>by
  unfold altLoopF
  split
  ·rename_i hc
   exact altLoopF_good h n _ (altStep_good h g hc.1)
  ·exact g
theorem alternativeF_good {s:ByteArray} {ex:PFn} (h:GoodF s ex):GoodF s (alternativeF s ex):=fun p R hp hR=>altLoopF_good h _ _ (pieceF_good h p R hp hR)
theorem exprStep_good {s:ByteArray} {ex:PFn} (h:GoodF s ex) {p:Nat} {R:RulesT} {r:PRes} (g:Good s p R r) (hok:r.ok = true) (h124:peekI s r.at' = 124) :
  Good s p R ⟨eitherPart r.part (alternativeF s ex (r.at' + 1) r.rules).part,(alternativeF s ex (r.at' + 1) r.rules).ok,(alternativeF s ex (r.at' + 1) r.rules).at',(alternativeF s ex (r.at' + 1) r.rules).rules⟩:=by
 have hlt:=peekI_in (s:=s) (p:=r.at') (by rw [h124]; decide)
 have q:=alternativeF_good h (r.at' + 1) r.rules (by omega) (by have:=g.few; omega)
 have h1:=g.ok hok
 exact ⟨by have:=q.le; simp; omega,q.top,fun _=>by have:=q.le; simp; omega,q.few,q.last.trans g.last,q.first.trans g.first⟩
theorem exprLoopF_good {s:ByteArray} {ex:PFn} (h:GoodF s ex) {p:Nat} {R:RulesT}:∀ (n:Nat) (r:PRes),Good s p R r→Good s p R (exprLoopF s ex n r)
 | 0,r,g=>g
 |n + 1,r,g=>by
  unfold exprLoopF
  split
  ·rename_i hc
   exact exprLoopF_good h n _ (exprStep_good h g hc.1 hc.2)
  ·exact g
theorem expressionF_good {s:ByteArray} {ex:PFn} (h:GoodF s ex):GoodF s (expressionF s ex):=fun p R hp hR=>exprLoopF_good h _ _ (alternativeF_good h p R hp hR)
theorem exprF_good (s:ByteArray):∀ f,GoodF s (exprF s f)
 | 0=>fun p R hp hR=>⟨Nat.le_refl _,hp,by simp [exprF],hR,rfl,rfl⟩
 |f + 1=>expressionF_good (exprF_good s f)
theorem altLoopF_stop (s:ByteArray) (ex:PFn) (n:Nat) (r:PRes) (h:¬ (r.ok = true∧endsB (peekI s r.at') = false)):altLoopF s ex n r = r:=by
 cases n with
 |zero=>rfl
 |succ n=>unfold altLoopF; rw [if_neg h]
theorem exprLoopF_stop (s:ByteArray) (ex:PFn) (n:Nat) (r:PRes) (h:¬ (r.ok = true∧peekI s r.at' = 124)):exprLoopF s ex n r = r:=by
 cases n with
 |zero=>rfl
 |succ n=>unfold exprLoopF; rw [if_neg h]
def ruleF (s:ByteArray) (p:Nat) (R:RulesT):Bool × Nat × RulesT :=
 if (exprF s (s.size + 1) p R).ok = true then (true,(exprF s (s.size + 1) p R).at',(exprF s (s.size + 1) p R).rules.endRule (exprF s (s.size + 1) p R).part)
 else (false,(exprF s (s.size + 1) p R).at',(exprF s (s.size + 1) p R).rules)
def allLoopF (s:ByteArray):Nat→Bool × Nat × RulesT→Bool × Nat × RulesT
 | 0,r=>r
 |n + 1,r=>if r.1 = true∧peekI s r.2.1 = 10 then allLoopF s n (ruleF s (r.2.1 + 1) r.2.2) else r
def allF (s:ByteArray):Bool × Nat × RulesT :=
 let r:=allLoopF s (s.size + 1) (ruleF s 0 RulesT.new)
 (r.1 && decide (peekI s r.2.1 = -1),r.2.1,r.2.2)
theorem allLoopF_stop (s:ByteArray) (n:Nat) (r:Bool × Nat × RulesT) (h:¬ (r.1 = true∧peekI s r.2.1 = 10)):allLoopF s n r = r:=by
 cases n with
 |zero=>rfl
 |succ n=>unfold allLoopF; rw [if_neg h]
structure RRd where
 mode:Int
 depth:Int
 low:Int
def meantF (c:Int):Int:=if c = 110 then 10 else c
def inClassF (r:RRd) (c:Int):RRd × Bool :=
 if c = 10 then (r,false)
 else if r.mode = 9 then (⟨6,r.depth,meantF c⟩,true)
 else if r.mode = 10 then (⟨8,r.depth,r.low⟩,decide (r.low ≤ meantF c))
 else if r.mode = 4∧c = 94 then (⟨5,r.depth,r.low⟩,true)
 else if c = 93 then (⟨1,r.depth,r.low⟩,decide (r.mode = 6∨r.mode = 8))
 else if c = 45 then (⟨7,r.depth,r.low⟩,decide (r.mode = 6))
 else if c = 92 then (⟨if r.mode = 7 then 10 else 9,r.depth,r.low⟩,true)
 else if r.mode = 7 then (⟨8,r.depth,r.low⟩,decide (r.low ≤ c))
 else (⟨6,r.depth,c⟩,true)
def takeF (r:RRd) (c:Int):RRd × Bool :=
 if 4 ≤ r.mode then inClassF r c
 else if r.mode = 3 then (⟨1,r.depth,r.low⟩,decide (c ≠ 10))
 else if c = 10 then (⟨0,r.depth,r.low⟩,decide (r.mode ≠ 0∧r.depth = 0))
 else if c = 124 then (⟨0,r.depth,r.low⟩,decide (r.mode ≠ 0))
 else if c = 41 then (⟨1,r.depth - 1,r.low⟩,decide (r.mode ≠ 0∧0 ≤ r.depth - 1))
 else if c = 42∨c = 43∨c = 63 then (⟨2,r.depth,r.low⟩,decide (r.mode = 1))
 else if c = 40 then (⟨0,r.depth + 1,r.low⟩,true)
 else if c = 91 then (⟨4,r.depth,r.low⟩,true)
 else if c = 92 then (⟨3,r.depth,r.low⟩,true)
 else if c = 93 then (r,false)
 else (⟨1,r.depth,r.low⟩,true)
def scanF (s:ByteArray):Nat→RRd→Nat→Int
 | 0,r,p=>if 0 < r.depth∨(r.mode ≠ 1∧r.mode ≠ 2) then (s.size:Int) else -1
 |n + 1,r,p=>if (takeF r (peekI s p)).2 = true then scanF s n (takeF r (peekI s p)).1 (p + 1) else (p:Int)
def scanAt (s:ByteArray) (r:RRd) (p:Nat):Int:=scanF s (s.size - p) r p
def placeT (s:ByteArray):Int:=scanAt s ⟨0,0,0⟩ 0
theorem scan_end {s:ByteArray} {r:RRd} {p:Nat} (hp:s.size ≤ p):scanAt s r p = if 0 < r.depth∨(r.mode ≠ 1∧r.mode ≠ 2) then (s.size:Int) else -1:=by
 unfold scanAt; rw [show s.size - p = 0 by omega]; rfl
theorem scan_step {s:ByteArray} {r:RRd} {p:Nat} (hp:p < s.size):scanAt s r p = if (takeF r (peekI s p)).2 = true then scanAt s (takeF r (peekI s p)).1 (p + 1) else (p:Int):=by
 unfold scanAt; rw [show s.size - p = (s.size - (p + 1)) + 1 by omega]; rfl
theorem scan_go {s:ByteArray} {r r':RRd} {p:Nat} (hp:p < s.size) (h:takeF r (peekI s p) = (r',true)):scanAt s r p = scanAt s r' (p + 1):=by
 rw [scan_step hp,h]; simp
theorem scan_bad {s:ByteArray} {r r':RRd} {p:Nat} (hp:p < s.size) (h:takeF r (peekI s p) = (r',false)):scanAt s r p = (p:Int):=by
 rw [scan_step hp,h]; simp
theorem peekI_one {s:ByteArray} {p:Nat} (h:peekI s p = -1):s.size ≤ p:=by
 apply Nat.le_of_not_lt; intro hp; unfold peekI at h; rw [dif_pos hp] at h; omega
theorem scan_item {s:ByteArray} {p:Nat} {m d l:Int} (hp:p ≤ s.size) (hm:m = 5∨(m = 6∧peekI s p ≠ 45∧peekI s p ≠ 93)∨(m = 8∧peekI s p ≠ 93)) :
  scanAt s ⟨m,d,l⟩ p = if (itemF s p).2.1 = true then scanAt s ⟨6,d,(itemF s p).1⟩ (itemF s p).2.2 else ((itemF s p).2.2:Int):=by
 unfold itemF
 split
 ·rename_i hb
  simp only [Bool.false_eq_true,if_false]
  rcases hb with e | e | e | e
  ·have hz:=peekI_one e
   rw [scan_end hz,if_pos (Or.inr ⟨by simp; omega,by simp; omega⟩)]; omega
  ·exact scan_bad (peekI_in (by rw [e]; decide)) (r':=⟨m,d,l⟩) (by rw [e]; simp [takeF,inClassF]; omega)
  ·refine scan_bad (peekI_in (by rw [e]; decide)) (r':=⟨1,d,l⟩) ?_
   rw [e]
   rcases hm with rfl | ⟨rfl,_,h2⟩ | ⟨rfl,h2⟩
   ·simp [takeF,inClassF]
   ·exact absurd e h2
   ·exact absurd e h2
  ·refine scan_bad (peekI_in (by rw [e]; decide)) (r':=⟨7,d,l⟩) ?_
   rw [e]
   rcases hm with rfl | ⟨rfl,h2,_⟩ | ⟨rfl,h2⟩
   ·simp [takeF,inClassF]
   ·exact absurd e h2
   ·simp [takeF,inClassF]
 ·rename_i hb
  have n1:peekI s p ≠ -1:=fun e=>hb (Or.inl e)
  have n2:peekI s p ≠ 10:=fun e=>hb (Or.inr (Or.inl e))
  have n3:peekI s p ≠ 93:=fun e=>hb (Or.inr (Or.inr (Or.inl e)))
  have n4:peekI s p ≠ 45:=fun e=>hb (Or.inr (Or.inr (Or.inr e)))
  have hlt:=peekI_in n1
  have hm':m = 5∨m = 6∨m = 8:=by omega
  unfold singleF
  split
  ·rename_i h92
   simp only [if_true]
   refine scan_go hlt ?_
   rcases hm' with rfl | rfl | rfl <;> simp [takeF,inClassF,n2,n3,n4,h92]
  ·rename_i h92
   have h92':peekI s p = 92:=Decidable.not_not.1 h92
   rw [scan_go hlt (r':=⟨9,d,l⟩) (by rw [h92']; rcases hm' with rfl | rfl | rfl <;> simp [takeF,inClassF])]
   split
   ·rename_i h2
    simp only [Bool.false_eq_true,if_false]
    rcases h2 with e | e
    ·have hz:=peekI_one e
     rw [scan_end hz,if_pos (Or.inr ⟨by simp,by simp⟩)]; omega
    ·exact scan_bad (peekI_in (by rw [e]; decide)) (r':=⟨9,d,l⟩) (by rw [e]; simp [takeF,inClassF])
   ·rename_i h2
    have k1:peekI s (p + 1) ≠ -1:=fun e=>h2 (Or.inl e)
    have k2:peekI s (p + 1) ≠ 10:=fun e=>h2 (Or.inr e)
    have hlt2:=peekI_in k1
    split
    ·rename_i h3
     simp only [if_true]
     exact scan_go hlt2 (by rw [h3]; simp [takeF,inClassF,meantF])
    ·rename_i h3
     simp only [if_true]
     exact scan_go hlt2 (by simp [takeF,inClassF,meantF,k2,h3])
theorem scan_high {s:ByteArray} {p:Nat} {d l:Int} (hp:p ≤ s.size) :
  scanAt s ⟨7,d,l⟩ p = if (itemF s p).2.1 = true then (if (itemF s p).1 < l then (((itemF s p).2.2 - 1:Nat):Int) else scanAt s ⟨8,d,l⟩ (itemF s p).2.2) else ((itemF s p).2.2:Int):=by
 unfold itemF
 split
 ·rename_i hb
  simp only [Bool.false_eq_true,if_false]
  rcases hb with e | e | e | e
  ·have hz:=peekI_one e
   rw [scan_end hz,if_pos (Or.inr ⟨by simp,by simp⟩)]; omega
  ·exact scan_bad (peekI_in (by rw [e]; decide)) (r':=⟨7,d,l⟩) (by rw [e]; simp [takeF,inClassF])
  ·exact scan_bad (peekI_in (by rw [e]; decide)) (r':=⟨1,d,l⟩) (by rw [e]; simp [takeF,inClassF])
  ·exact scan_bad (peekI_in (by rw [e]; decide)) (r':=⟨7,d,l⟩) (by rw [e]; simp [takeF,inClassF])
 ·rename_i hb
  have n1:peekI s p ≠ -1:=fun e=>hb (Or.inl e)
  have n2:peekI s p ≠ 10:=fun e=>hb (Or.inr (Or.inl e))
  have n3:peekI s p ≠ 93:=fun e=>hb (Or.inr (Or.inr (Or.inl e)))
  have n4:peekI s p ≠ 45:=fun e=>hb (Or.inr (Or.inr (Or.inr e)))
  have hlt:=peekI_in n1
  unfold singleF
  split
  ·rename_i h92
   simp only [if_true]
   split
   ·rename_i hl
    rw [scan_bad hlt (r':=⟨8,d,l⟩) (by simp [takeF,inClassF,n2,n3,n4,h92]; omega)]; simp
   ·rename_i hl
    exact scan_go hlt (by simp [takeF,inClassF,n2,n3,n4,h92]; omega)
  ·rename_i h92
   have h92':peekI s p = 92:=Decidable.not_not.1 h92
   rw [scan_go hlt (r':=⟨10,d,l⟩) (by rw [h92']; simp [takeF,inClassF])]
   split
   ·rename_i h2
    simp only [Bool.false_eq_true,if_false]
    rcases h2 with e | e
    ·have hz:=peekI_one e
     rw [scan_end hz,if_pos (Or.inr ⟨by simp,by simp⟩)]; omega
    ·exact scan_bad (peekI_in (by rw [e]; decide)) (r':=⟨10,d,l⟩) (by rw [e]; simp [takeF,inClassF])
   ·rename_i h2
    have k1:peekI s (p + 1) ≠ -1:=fun e=>h2 (Or.inl e)
    have k2:peekI s (p + 1) ≠ 10:=fun e=>h2 (Or.inr e)
    have hlt2:=peekI_in k1
    split
    ·rename_i h3
     simp only [if_true]
     split
     ·rename_i hl
      rw [scan_bad hlt2 (r':=⟨8,d,l⟩) (by rw [h3]; simp [takeF,inClassF,meantF]; omega)]; simp
     ·rename_i hl
      exact scan_go hlt2 (by rw [h3]; simp [takeF,inClassF,meantF]; omega)
    ·rename_i h3
     simp only [if_true]
     split
     ·rename_i hl
      rw [scan_bad hlt2 (r':=⟨8,d,l⟩) (by simp [takeF,inClassF,meantF,k2,h3]; omega)]; simp
     ·rename_i hl
      exact scan_go hlt2 (by simp [takeF,inClassF,meantF,k2,h3]; omega)
def Behind (s:ByteArray) (m:Int) (q:Nat):Prop:=(m = 6∧peekI s q ≠ 45)∨m = 8
theorem scan_member {s:ByteArray} {p:Nat} {m d l:Int} (hp:p ≤ s.size) (hm:m = 5∨(m = 6∧peekI s p ≠ 45∧peekI s p ≠ 93)∨(m = 8∧peekI s p ≠ 93)) :
  ((memberF s p).2.2.1 = true→∃ m' l',Behind s m' (memberF s p).2.2.2∧scanAt s ⟨m,d,l⟩ p = scanAt s ⟨m',d,l'⟩ (memberF s p).2.2.2)
  ∧ ((memberF s p).2.2.1 = false→scanAt s ⟨m,d,l⟩ p = ((memberF s p).2.2.2:Int)):=by
 have h1:=scan_item (d:=d) (l:=l) hp hm
 have g1:=itemF_pos s p hp
 unfold memberF
 split
 ·rename_i hc
  simp only
  constructor
  ·intro hok
   rcases hc with e | e
   ·rw [hok] at e; exact absurd e (by decide)
   ·rw [if_pos hok] at h1
    exact ⟨6,_,Or.inl ⟨rfl,e⟩,h1⟩
  ·intro hok
   rw [hok] at h1; simpa using h1
 ·rename_i hc
  have hok:(itemF s p).2.1 = true:=by
   cases e:(itemF s p).2.1
   ·exact absurd (Or.inl e) hc
   ·rfl
  have hpk:peekI s (itemF s p).2.2 = 45:=Decidable.not_not.1 (fun e=>hc (Or.inr e))
  have hlt:(itemF s p).2.2 < s.size:=peekI_in (by rw [hpk]; decide)
  rw [if_pos hok,scan_go hlt (r':=⟨7,d,(itemF s p).1⟩) (by rw [hpk]; simp [takeF,inClassF]),scan_high (by omega)] at h1
  split
  ·rename_i h2
   simp only [Bool.false_eq_true,false_implies,true_and,forall_const]
   rw [if_pos h2.1,if_pos h2.2] at h1
   exact h1
  ·rename_i h2
   simp only
   constructor
   ·intro hok2
    rw [if_pos hok2,if_neg (fun e=>h2 ⟨hok2,e⟩)] at h1
    exact ⟨8,_,Or.inr rfl,h1⟩
   ·intro hok2
    rw [hok2] at h1; simpa using h1
theorem scan_members {s:ByteArray} {d:Int}:∀ (n:Nat) (A:Nat→Bool) (ok:Bool) (p:Nat) (m l:Int),p ≤ s.size→s.size < n + p→ok = true→Behind s m p →
  ((membersF s n A ok p).2.1 = true→∃ l',scanAt s ⟨m,d,l⟩ p = scanAt s ⟨1,d,l'⟩ ((membersF s n A ok p).2.2 + 1))
  ∧ ((membersF s n A ok p).2.1 = false→scanAt s ⟨m,d,l⟩ p = ((membersF s n A ok p).2.2:Int))
 | 0,A,ok,p,m,l,hp,hn,hok,hb=>by omega
 |n + 1,A,ok,p,m,l,hp,hn,hok,hb=>by
  unfold membersF
  split
  ·rename_i hc
   have hm:m = 5∨(m = 6∧peekI s p ≠ 45∧peekI s p ≠ 93)∨(m = 8∧peekI s p ≠ 93):=by
    rcases hb with ⟨e,h⟩ | e
    ·exact Or.inr (Or.inl ⟨e,h,hc.2⟩)
    ·exact Or.inr (Or.inr ⟨e,hc.2⟩)
   have hs:=scan_member (d:=d) (l:=l) hp hm
   have hg:=memberF_pos s p hp
   cases hok2:(memberF s p).2.2.1
   ·rw [membersF_stop _ _ _ _ _ (by simp)]
    simp only [Bool.false_eq_true,false_implies,true_and,forall_const]
    exact hs.2 hok2
   ·obtain ⟨m',l',hb',he⟩:=hs.1 hok2
    have:=hg.2.2 hok2
    rw [he]
    exact scan_members n _ true _ m' l' hg.2.1 (by omega) rfl hb'
  ·rename_i hc
   have h93:peekI s p = 93:=Decidable.not_not.1 (fun e=>hc ⟨hok,e⟩)
   subst hok
   simp only [Bool.true_eq_false,false_implies,and_true,forall_const]
   refine ⟨l,scan_go (peekI_in (by rw [h93]; decide)) ?_⟩
   rw [h93]
   rcases hb with ⟨rfl,_⟩ | rfl <;> simp [takeF,inClassF]
theorem scan_brackets {s:ByteArray} {p:Nat} {d l:Int} (hp:p < s.size) :
  ((bracketsF s p).2.1 = true→∃ l',scanAt s ⟨4,d,l⟩ (p + 1) = scanAt s ⟨1,d,l'⟩ (bracketsF s p).2.2)
  ∧ ((bracketsF s p).2.1 = false→scanAt s ⟨4,d,l⟩ (p + 1) = ((bracketsF s p).2.2:Int)):=by
 obtain ⟨inv,hinv⟩:∃ inv,decide (peekI s (p + 1) = 94) = inv:=⟨_,rfl⟩
 obtain ⟨u,hu⟩:∃ u,(if inv = true then p + 2 else p + 1) = u:=⟨_,rfl⟩
 have hu0:u ≤ s.size∧scanAt s ⟨4,d,l⟩ (p + 1) = scanAt s ⟨5,d,l⟩ u:=by
  cases inv
  ·simp at hinv hu
   subst hu
   refine ⟨by omega,?_⟩
   by_cases hlt:p + 1 < s.size
   ·rw [scan_step hlt,scan_step hlt]
    have:takeF ⟨4,d,l⟩ (peekI s (p + 1)) = takeF ⟨5,d,l⟩ (peekI s (p + 1))∨peekI s (p + 1) = 10:=by
     by_cases h10:peekI s (p + 1) = 10
     ·exact Or.inr h10
     ·left; simp [takeF,inClassF,hinv,h10]
    rcases this with e | e
    ·rw [e]
    ·rw [e]; simp [takeF,inClassF]
   ·rw [scan_end (by omega),scan_end (by omega)]; simp
  ·simp at hinv hu
   subst hu
   have hlt:=peekI_in (s:=s) (p:=p + 1) (by rw [hinv]; decide)
   exact ⟨by omega,scan_go hlt (by rw [hinv]; simp [takeF,inClassF])⟩
 obtain ⟨⟨lo,hi,ok,q⟩,hM⟩:∃ M,memberF s u = M:=⟨_,rfl⟩
 obtain ⟨R,hR⟩:∃ R,membersF s (s.size + 1) (rangeF noneF lo hi) ok q = R:=⟨_,rfl⟩
 rw [bracketsF_eq hinv hu hM hR,hu0.2]
 have hs:=scan_member (m:=5) (d:=d) (l:=l) hu0.1 (Or.inl rfl)
 have hg:=memberF_pos s u hu0.1
 rw [hM] at hs hg
 simp only at hs hg
 cases ok
 ·rw [membersF_stop _ _ _ _ _ (by simp)] at hR
  subst hR
  simp only [Bool.false_eq_true,if_false,false_implies,true_and,forall_const]
  exact hs.2 rfl
 ·obtain ⟨m',l',hb',he⟩:=hs.1 rfl
  rw [he]
  have hm:=scan_members (d:=d) (s.size + 1) (rangeF noneF lo hi) true q m' l' hg.2.1 (by omega) rfl hb'
  rw [hR] at hm
  cases e:R.2.1
  ·simp only [Bool.false_eq_true,if_false,false_implies,true_and,forall_const]
   exact hm.2 e
  ·simp only [if_true,Bool.true_eq_false,false_implies,and_true,forall_const]
   exact hm.1 e
theorem scan_place {s:ByteArray} {p:Nat} {m d l:Int} (hp:p ≤ s.size) (hm:m = 0∨((m = 1∨m = 2)∧peekI s p ≠ -1∧peekI s p ≠ 10∧peekI s p ≠ 124∧peekI s p ≠ 41)) (h1:m = 1→peekI s p ≠ 42∧peekI s p ≠ 43∧peekI s p ≠ 63) (h40:peekI s p ≠ 40) :
  ((placeF s p).2.1 = true→∃ l',scanAt s ⟨m,d,l⟩ p = scanAt s ⟨1,d,l'⟩ (placeF s p).2.2)
  ∧ ((placeF s p).2.1 = false→scanAt s ⟨m,d,l⟩ p = ((placeF s p).2.2:Int)):=by
 unfold placeF
 split
 ·rename_i hb
  simp only [Bool.false_eq_true,false_implies,true_and,forall_const]
  have hm0:peekI s p = -1∨peekI s p = 10∨peekI s p = 124∨peekI s p = 41→m = 0:=by omega
  rcases hb with e | e | e | e | e | e | e | e | e
  ·have hz:=peekI_one e
   rw [hm0 (Or.inl e),scan_end hz,if_pos (Or.inr ⟨by simp,by simp⟩)]; omega
  ·rw [hm0 (by omega)]
   exact scan_bad (peekI_in (by rw [e]; decide)) (r':=⟨0,d,l⟩) (by rw [e]; simp [takeF])
  ·rw [hm0 (by omega)]
   exact scan_bad (peekI_in (by rw [e]; decide)) (r':=⟨0,d,l⟩) (by rw [e]; simp [takeF])
  ·have:m ≠ 1:=fun h=>(h1 h).1 e
   have hm2:m = 0∨m = 2:=by omega
   exact scan_bad (peekI_in (by rw [e]; decide)) (r':=⟨2,d,l⟩) (by rw [e]; rcases hm2 with rfl | rfl <;> simp [takeF])
  ·have:m ≠ 1:=fun h=>(h1 h).2.1 e
   have hm2:m = 0∨m = 2:=by omega
   exact scan_bad (peekI_in (by rw [e]; decide)) (r':=⟨2,d,l⟩) (by rw [e]; rcases hm2 with rfl | rfl <;> simp [takeF])
  ·have:m ≠ 1:=fun h=>(h1 h).2.2 e
   have hm2:m = 0∨m = 2:=by omega
   exact scan_bad (peekI_in (by rw [e]; decide)) (r':=⟨2,d,l⟩) (by rw [e]; rcases hm2 with rfl | rfl <;> simp [takeF])
  ·exact absurd e h40
  ·rw [hm0 (by omega)]
   exact scan_bad (peekI_in (by rw [e]; decide)) (r':=⟨1,d - 1,l⟩) (by rw [e]; simp [takeF])
  ·have:¬ 4 ≤ m∧m ≠ 3:=by omega
   exact scan_bad (peekI_in (by rw [e]; decide)) (r':=⟨m,d,l⟩) (by rw [e]; simp [takeF,this])
 ·rename_i hb
  simp only [placeBar,not_or] at hb
  obtain ⟨n1,n2,n3,n4,n5,n6,n7,n8,n9⟩:=hb
  have hlt:=peekI_in n1
  have hmm:¬ 4 ≤ m∧m ≠ 3:=by omega
  split
  ·rename_i h46
   simp only [Bool.true_eq_false,false_implies,and_true,forall_const]
   exact ⟨l,scan_go hlt (by rw [h46]; simp [takeF,hmm])⟩
  ·split
   ·rename_i h91
    rw [scan_go hlt (r':=⟨4,d,l⟩) (by rw [h91]; simp [takeF,hmm])]
    exact scan_brackets hlt
   ·rename_i h46 h91
    unfold singleF
    split
    ·rename_i h92
     simp only [Bool.true_eq_false,false_implies,and_true,forall_const]
     exact ⟨l,scan_go hlt (by simp [takeF,hmm,n2,n3,n4,n5,n6,n7,n8,n9,h91,h92])⟩
    ·rename_i h92
     have h92':peekI s p = 92:=Decidable.not_not.1 h92
     rw [scan_go hlt (r':=⟨3,d,l⟩) (by rw [h92']; simp [takeF,hmm])]
     split
     ·rename_i h2
      simp only [Bool.false_eq_true,false_implies,true_and,forall_const]
      rcases h2 with e | e
      ·have hz:=peekI_one e
       rw [scan_end hz,if_pos (Or.inr ⟨by simp,by simp⟩)]; omega
      ·exact scan_bad (peekI_in (by rw [e]; decide)) (r':=⟨1,d,l⟩) (by rw [e]; simp [takeF])
     ·rename_i h2
      have k1:peekI s (p + 1) ≠ -1:=fun e=>h2 (Or.inl e)
      have k2:peekI s (p + 1) ≠ 10:=fun e=>h2 (Or.inr e)
      have hgo:scanAt s ⟨3,d,l⟩ (p + 1) = scanAt s ⟨1,d,l⟩ (p + 2):=scan_go (peekI_in k1) (by simp [takeF,k2])
      split
      ·simp only [Bool.true_eq_false,false_implies,and_true,forall_const]
       exact ⟨l,hgo⟩
      ·simp only [Bool.true_eq_false,false_implies,and_true,forall_const]
       exact ⟨l,hgo⟩
end Go.Proofs.YtcckhngbdoiikaaGreat
