import Derived.Test.YtcckhngbdoiikaaGreatG02

namespace Go.Proofs.YtcckhngbdoiikaaGreat
set_option linter.unusedVariables false
def Ahead (s:ByteArray) (m:Int) (p:Nat):Prop :=
 m = 0∨((m = 1∨m = 2)∧endsB (peekI s p) = false∧(m = 1→peekI s p ≠ 42∧peekI s p ≠ 43∧peekI s p ≠ 63))
def Past (s:ByteArray) (m:Int) (q:Nat):Prop:=(m = 1∧peekI s q ≠ 42∧peekI s q ≠ 43∧peekI s q ≠ 63)∨m = 2
def Same (s:ByteArray) (m d l:Int) (p:Nat) (ok:Bool) (q:Nat) (Q:Int→Prop):Prop :=
 (ok = true→∃ m' l',Q m'∧scanAt s ⟨m,d,l⟩ p = scanAt s ⟨m',d,l'⟩ q)∧(ok = false→scanAt s ⟨m,d,l⟩ p = (q:Int))
theorem endsB_not {b:Int} (h:endsB b = false):b ≠ -1∧b ≠ 10∧b ≠ 124∧b ≠ 41:=by
 unfold endsB at h; simp only [decide_eq_false_iff_not,not_or] at h; exact h
def ExPl (s:ByteArray) (ex:PFn) (from':Nat):Prop :=
 ∀ p R d l,from' ≤ p→p ≤ s.size→R.follow.length ≤ p→0 ≤ d→Same s 0 d l p (ex p R).ok (ex p R).at' (fun m=>(m = 1∨m = 2)∧endsB (peekI s (ex p R).at') = true∧peekI s (ex p R).at' ≠ 124)
theorem scan_atom {s:ByteArray} {ex:PFn} {k p:Nat} {R:RulesT} {m d l:Int} (h:ExPl s ex k) (hg:GoodF s ex) (hk:k ≤ p + 1) (hp:p ≤ s.size) (hR:R.follow.length ≤ p) (hd:0 ≤ d) (hm:Ahead s m p) :
  Same s m d l p (atomF s ex p R).ok (atomF s ex p R).at' (fun m'=>m' = 1):=by
 unfold atomF
 split
 ·rename_i h40
  have hlt:=peekI_in (s:=s) (p:=p) (by rw [h40]; decide)
  have hmm:¬ 4 ≤ m∧m ≠ 3:=by unfold Ahead at hm; omega
  have hgo:scanAt s ⟨m,d,l⟩ p = scanAt s ⟨0,d + 1,l⟩ (p + 1):=scan_go hlt (by rw [h40]; simp [takeF,hmm])
  have hx:=h (p + 1) R (d + 1) l hk (by omega) (by omega) (by omega)
  unfold groupF
  unfold Same
  rw [hgo]
  cases hok:(ex (p + 1) R).ok
  ·simp only [Bool.false_eq_true,false_and,if_false,false_implies,true_and,forall_const]
   exact hx.2 hok
  ·obtain ⟨m',l',⟨hm',he,h124⟩,heq⟩:=hx.1 hok
   have hmm':¬ 4 ≤ m'∧m' ≠ 3∧m' ≠ 0:=by omega
   split
   ·rename_i hc
    simp only [Bool.true_eq_false,false_implies,and_true,forall_const]
    refine ⟨1,l',rfl,?_⟩
    rw [heq]
    refine scan_go (peekI_in (by rw [hc.2]; decide)) ?_
    rw [hc.2]
    simp [takeF,hmm']
    omega
   ·rename_i hc
    simp only [Bool.false_eq_true,false_implies,true_and,forall_const]
    rw [heq]
    have h41:peekI s (ex (p + 1) R).at' ≠ 41:=fun e=>hc ⟨rfl,e⟩
    have he':peekI s (ex (p + 1) R).at' = -1∨peekI s (ex (p + 1) R).at' = 10:=by
     unfold endsB at he; simp only [decide_eq_true_eq] at he; omega
    rcases he' with e | e
    ·have hz:=peekI_one e
     rw [scan_end hz,if_pos (Or.inl (by simp; omega))]
     have:=(hg (p + 1) R (by omega) (by omega)).top
     omega
    ·exact scan_bad (peekI_in (by rw [e]; decide)) (r':=⟨0,d + 1,l'⟩) (by rw [e]; simp [takeF,hmm']; omega)
 ·rename_i h40
  have hpl:=scan_place (m:=m) (d:=d) (l:=l) hp (by
   rcases hm with e | ⟨e,h1,h2⟩
   ·exact Or.inl e
   ·exact Or.inr ⟨e,endsB_not h1⟩) (fun e=>by
   rcases hm with e' | ⟨_,_,h2⟩
   ·omega
   ·exact h2 e) h40
  split
  ·rename_i hok
   obtain ⟨l',he⟩:=hpl.1 hok
   exact ⟨fun _=>⟨1,l',rfl,he⟩,fun e=>absurd e (by simp)⟩
  ·rename_i hok
   exact ⟨fun e=>absurd e (by simp),fun _=>hpl.2 (by simpa using hok)⟩
theorem scan_mark {s:ByteArray} {p:Nat} {m d l:Int} {a:PRes} (h:Same s m d l p a.ok a.at' (fun m'=>m' = 1)):Same s m d l p (markF s a).ok (markF s a).at' (fun m'=>Past s m' (markF s a).at'):=by
 unfold markF
 cases hok:a.ok
 ·simp only [if_true]
  exact ⟨fun e=>absurd e (by simp),fun _=>h.2 hok⟩
 ·obtain ⟨m',l',rfl,he⟩:=h.1 hok
  simp only [Bool.true_eq_false,if_false]
  have hgo:peekI s a.at' = 42∨peekI s a.at' = 43∨peekI s a.at' = 63→scanAt s ⟨m,d,l⟩ p = scanAt s ⟨2,d,l'⟩ (a.at' + 1):=by
   intro hc
   rw [he]
   refine scan_go (peekI_in (by rcases hc with e | e | e <;> rw [e] <;> decide)) ?_
   rcases hc with e | e | e <;> rw [e] <;> simp [takeF]
  split
  ·rename_i hc
   exact ⟨fun _=>⟨2,l',Or.inr rfl,hgo (Or.inl hc)⟩,fun e=>absurd e (by simp)⟩
  ·split
   ·rename_i hc
    exact ⟨fun _=>⟨2,l',Or.inr rfl,hgo (Or.inr (Or.inl hc))⟩,fun e=>absurd e (by simp)⟩
   ·split
    ·rename_i hc
     exact ⟨fun _=>⟨2,l',Or.inr rfl,hgo (Or.inr (Or.inr hc))⟩,fun e=>absurd e (by simp)⟩
    ·rename_i h1 h2 h3
     exact ⟨fun _=>⟨1,l',Or.inl ⟨rfl,h1,h2,h3⟩,he⟩,fun e=>absurd e (by simp)⟩
theorem scan_altLoop {s:ByteArray} {ex:PFn} {k:Nat} {m d l:Int} {p:Nat} {R:RulesT} (h:ExPl s ex k) (hg:GoodF s ex) (hk:k ≤ p + 1) (hp:p ≤ s.size) (hd:0 ≤ d):∀ (n:Nat) (r:PRes),Good s p R r→(r.ok = true→s.size < n + r.at') →
  Same s m d l p r.ok r.at' (fun m'=>Past s m' r.at') →
  Same s m d l p (altLoopF s ex n r).ok (altLoopF s ex n r).at' (fun m'=>(m' = 1∨m' = 2)∧endsB (peekI s (altLoopF s ex n r).at') = true)
 | 0,r,g,hn,hs=>⟨fun hok=>by
   have hok':r.ok = true:=hok
   have:=g.top; have:=hn hok'; omega,hs.2⟩
 |n + 1,r,g,hn,hs=>by
  unfold altLoopF
  split
  ·rename_i hc
   have q:=pieceF_good hg r.at' r.rules g.top g.few
   refine scan_altLoop h hg hk hp hd n _ (altStep_good hg g hc.1) ?_ ?_
   ·intro hok; have:=q.ok hok; have:=hn hc.1; simp only; omega
   ·obtain ⟨m',l',hm',he⟩:=hs.1 hc.1
    have hA:Ahead s m' r.at':=by
     rcases hm' with ⟨e,h1,h2,h3⟩ | e
     ·exact Or.inr ⟨Or.inl e,hc.2,fun _=>⟨h1,h2,h3⟩⟩
     ·exact Or.inr ⟨Or.inr e,hc.2,fun e'=>by omega⟩
    have hx:=scan_mark (scan_atom (l:=l') h hg (by have:=g.le; omega) g.top g.few hd hA)
    simp only
    unfold Same
    rw [he]
    exact hx
  ·rename_i hc
   refine ⟨fun hok=>?_,hs.2⟩
   obtain ⟨m',l',hm',he⟩:=hs.1 hok
   refine ⟨m',l',⟨?_,?_⟩,he⟩
   ·rcases hm' with ⟨e,_⟩ | e
    ·exact Or.inl e
    ·exact Or.inr e
   ·cases e:endsB (peekI s r.at')
    ·exact absurd ⟨hok,e⟩ hc
    ·rfl
theorem scan_alt {s:ByteArray} {ex:PFn} {k:Nat} {m d l:Int} {p:Nat} {R:RulesT} (h:ExPl s ex k) (hg:GoodF s ex) (hk:k ≤ p + 1) (hp:p ≤ s.size) (hR:R.follow.length ≤ p) (hd:0 ≤ d) :
  Same s 0 d l p (alternativeF s ex p R).ok (alternativeF s ex p R).at' (fun m'=>(m' = 1∨m' = 2)∧endsB (peekI s (alternativeF s ex p R).at') = true):=by
 have q:=pieceF_good hg p R hp hR
 exact scan_altLoop h hg hk hp hd (s.size + 1) _ q (fun _=>by omega) (scan_mark (scan_atom h hg hk hp hR hd (Or.inl rfl)))
theorem scan_exprLoop {s:ByteArray} {ex:PFn} {k:Nat} {m d l:Int} {p:Nat} {R:RulesT} (h:ExPl s ex k) (hg:GoodF s ex) (hk:k ≤ p + 1) (hp:p ≤ s.size) (hd:0 ≤ d):∀ (n:Nat) (r:PRes),Good s p R r→(r.ok = true→s.size < n + r.at') →
  Same s m d l p r.ok r.at' (fun m'=>(m' = 1∨m' = 2)∧endsB (peekI s r.at') = true) →
  Same s m d l p (exprLoopF s ex n r).ok (exprLoopF s ex n r).at' (fun m'=>(m' = 1∨m' = 2)∧endsB (peekI s (exprLoopF s ex n r).at') = true∧peekI s (exprLoopF s ex n r).at' ≠ 124)
 | 0,r,g,hn,hs=>⟨fun hok=>by
   have hok':r.ok = true:=hok
   have:=g.top; have:=hn hok'; omega,hs.2⟩
 |n + 1,r,g,hn,hs=>by
  unfold exprLoopF
  split
  ·rename_i hc
   have hlt:=peekI_in (s:=s) (p:=r.at') (by rw [hc.2]; decide)
   have q:=alternativeF_good hg (r.at' + 1) r.rules (by omega) (by have:=g.few; omega)
   refine scan_exprLoop h hg hk hp hd n _ (exprStep_good hg g hc.1 hc.2) ?_ ?_
   ·intro hok; have:=q.ok hok; have:=hn hc.1; simp only; omega
   ·obtain ⟨m',l',⟨hm',_⟩,he⟩:=hs.1 hc.1
    have hmm':¬ 4 ≤ m'∧m' ≠ 3∧m' ≠ 0:=by omega
    have hx:=scan_alt (m:=m) (l:=l') (d:=d) h hg (p:=r.at' + 1) (R:=r.rules) (by have:=g.le; omega) (by omega) (by have:=g.few; omega) hd
    have hgo:scanAt s ⟨m',d,l'⟩ r.at' = scanAt s ⟨0,d,l'⟩ (r.at' + 1):=scan_go hlt (by rw [hc.2]; simp [takeF,hmm'])
    simp only
    unfold Same
    rw [he,hgo]
    exact hx
  ·rename_i hc
   refine ⟨fun hok=>?_,hs.2⟩
   obtain ⟨m',l',⟨hm',hb⟩,he⟩:=hs.1 hok
   exact ⟨m',l',⟨hm',hb,fun e=>hc ⟨hok,e⟩⟩,he⟩
theorem scan_expr (s:ByteArray):∀ (f:Nat),ExPl s (exprF s f) (s.size + 1 - f)
 | 0=>fun p R d l hk hp hR hd=>by omega
 |f + 1=>fun p R d l hk hp hR hd=>by
  have hg:=exprF_good s f
  have q:=alternativeF_good hg p R hp hR
  exact scan_exprLoop (m:=0) (l:=l) (scan_expr s f) hg (by omega) hp hd (s.size + 1) _ q (fun _=>by omega) (scan_alt (m:=0) (scan_expr s f) hg (by omega) hp hR hd)
theorem scan_rule {s:ByteArray} {p:Nat} {R:RulesT} {l:Int} (hp:p ≤ s.size) (hR:R.follow.length ≤ p) :
  Same s 0 0 l p (ruleF s p R).1 (ruleF s p R).2.1 (fun m=>(m = 1∨m = 2)∧endsB (peekI s (ruleF s p R).2.1) = true∧peekI s (ruleF s p R).2.1 ≠ 124):=by
 have h:=scan_expr s (s.size + 1) p R 0 l (by omega) hp hR (by omega)
 unfold ruleF
 split
 ·rename_i hok
  exact ⟨fun _=>h.1 hok,fun e=>absurd e (by simp)⟩
 ·rename_i hok
  exact ⟨fun e=>absurd e (by simp),fun _=>h.2 (by simpa using hok)⟩
theorem ruleF_pos {s:ByteArray} {p:Nat} {R:RulesT} (hp:p ≤ s.size) (hR:R.follow.length ≤ p) :
  p ≤ (ruleF s p R).2.1∧(ruleF s p R).2.1 ≤ s.size∧(ruleF s p R).2.2.follow.length ≤ (ruleF s p R).2.1:=by
 have g:=exprF_good s (s.size + 1) p R hp hR
 unfold ruleF
 split
 ·exact ⟨g.le,g.top,g.few⟩
 ·exact ⟨g.le,g.top,g.few⟩
theorem scan_allLoop {s:ByteArray}:∀ (n:Nat) (r:Bool × Nat × RulesT),r.2.1 ≤ s.size→r.2.2.follow.length ≤ r.2.1→(r.1 = true→s.size < n + r.2.1) →
  Same s 0 0 0 0 r.1 r.2.1 (fun m=>(m = 1∨m = 2)∧endsB (peekI s r.2.1) = true∧peekI s r.2.1 ≠ 124) →
  Same s 0 0 0 0 (allLoopF s n r).1 (allLoopF s n r).2.1 (fun m=>(m = 1∨m = 2)∧endsB (peekI s (allLoopF s n r).2.1) = true∧peekI s (allLoopF s n r).2.1 ≠ 124∧peekI s (allLoopF s n r).2.1 ≠ 10)∧(allLoopF s n r).2.1 ≤ s.size
 | 0,r,hp,hR,hn,hs=>⟨⟨fun hok=>by
   have hok':r.1 = true:=hok
   have:=hn hok'; omega,hs.2⟩,hp⟩
 |n + 1,r,hp,hR,hn,hs=>by
  unfold allLoopF
  split
  ·rename_i hc
   have hlt:=peekI_in (s:=s) (p:=r.2.1) (by rw [hc.2]; decide)
   have q:=ruleF_pos (s:=s) (p:=r.2.1 + 1) (R:=r.2.2) (by omega) (by omega)
   refine scan_allLoop n _ q.2.1 q.2.2 (fun hok=>by have:=hn hc.1; omega) ?_
   obtain ⟨m',l',⟨hm',_⟩,he⟩:=hs.1 hc.1
   have hmm':¬ 4 ≤ m'∧m' ≠ 3∧m' ≠ 0:=by omega
   have hgo:scanAt s ⟨m',0,l'⟩ r.2.1 = scanAt s ⟨0,0,l'⟩ (r.2.1 + 1):=scan_go hlt (by rw [hc.2]; simp [takeF,hmm'])
   unfold Same
   rw [he,hgo]
   exact scan_rule (by omega) (by omega)
  ·rename_i hc
   refine ⟨⟨fun hok=>?_,hs.2⟩,hp⟩
   obtain ⟨m',l',⟨hm',hb,h124⟩,he⟩:=hs.1 hok
   exact ⟨m',l',⟨hm',hb,h124,fun e=>hc ⟨hok,e⟩⟩,he⟩
theorem place_all (s:ByteArray):placeT s = if (allF s).1 = true then -1 else ((allF s).2.1:Int):=by
 have q:=ruleF_pos (s:=s) (p:=0) (R:=RulesT.new) (by omega) (by simp [RulesT.new])
 have h:=scan_allLoop (s:=s) (s.size + 1) (ruleF s 0 RulesT.new) q.2.1 q.2.2 (fun _=>by omega) (scan_rule (by omega) (by simp [RulesT.new]))
 unfold allF placeT
 simp only
 generalize allLoopF s (s.size + 1) (ruleF s 0 RulesT.new) = r at h ⊢
 obtain ⟨hs,hp⟩:=h
 cases hok:r.1
 ·simp only [Bool.false_and,Bool.false_eq_true,if_false]
  exact hs.2 hok
 ·obtain ⟨m',l',⟨hm',hb,h124,h10⟩,he⟩:=hs.1 hok
  have hmm':¬ 4 ≤ m'∧m' ≠ 3∧m' ≠ 0:=by omega
  rw [he]
  by_cases e:peekI s r.2.1 = -1
  ·rw [scan_end (peekI_one e),if_neg (by simp; omega),if_pos (by simp [e])]
  ·have h41:peekI s r.2.1 = 41:=by
    unfold endsB at hb; simp only [decide_eq_true_eq] at hb; omega
   rw [if_neg (by simp [e])]
   exact scan_bad (peekI_in e) (r':=⟨1,0 - 1,l'⟩) (by rw [h41]; simp [takeF,hmm'])
def PSet.bit (s:PSet) (p:Nat):Bool:=if p < 64 then s.lo.getLsbD p else s.hi.getLsbD (p - 64)
theorem and_shl (a:BitVec 64) (p:Nat):(a &&& (1#64 <<< p) == 0) = !(a.getLsbD p):=by
 have e:1#64 <<< p = BitVec.twoPow 64 p:=by rw [BitVec.twoPow_eq]
 rw [e,BitVec.and_twoPow]
 by_cases h:a.getLsbD p = true
 ·have hp:p < 64:=BitVec.lt_of_getLsbD h
  rw [if_pos h,h]
  have:BitVec.twoPow 64 p ≠ 0#64:=by
   intro e
   have:=congrArg (fun x=>x.getLsbD p) e
   simp [hp] at this
  simp [this]
 ·rw [if_neg h]
  simp at h
  simp [h]
theorem has_bit (s:PSet) (p:Nat):s.has p = s.bit p:=by
 unfold PSet.has PSet.meets PSet.only PSet.bit
 by_cases h1:p < 64
 ·rw [if_pos h1,if_pos h1]
  simp only
  rw [and_shl]
  simp
 ·rw [if_neg h1,if_neg h1]
  by_cases h2:p < 128
  ·rw [if_pos h2]
   simp only
   rw [and_shl]
   simp
  ·rw [if_neg h2]
   simp [PSet.none]
   exact BitVec.getLsbD_of_ge s.hi (p - 64) (by omega)
theorem has_or (s t:PSet) (p:Nat):(s.or t).has p = (s.has p || t.has p):=by
 simp only [has_bit]; unfold PSet.bit PSet.or; split <;> simp
theorem has_and (s t:PSet) (p:Nat):(s.and t).has p = (s.has p && t.has p):=by
 simp only [has_bit]; unfold PSet.bit PSet.and; split <;> simp
theorem has_none (p:Nat):PSet.none.has p = false:=by
 simp only [has_bit]; unfold PSet.bit PSet.none; split <;> simp
theorem has_only (p q:Nat) (hp:p < 128):(PSet.only p).has q = decide (p = q):=by
 rw [has_bit]
 unfold PSet.bit PSet.only
 by_cases h1:p < 64
 ·rw [if_pos h1]
  by_cases h2:q < 64
  ·rw [if_pos h2]
   simp [h2]
   by_cases h3:p = q
   ·subst h3; simp
   ·simp [h3]; omega
  ·rw [if_neg h2]
   simp
   omega
 ·rw [if_neg h1,if_pos hp]
  by_cases h2:q < 64
  ·rw [if_pos h2]
   simp
   omega
  ·rw [if_neg h2]
   by_cases h3:p = q
   ·subst h3; simp [BitVec.getLsbD_shiftLeft]; omega
   ·simp [BitVec.getLsbD_shiftLeft,h3]; omega
theorem pset_ext {s t:PSet} (h:∀ p,s.has p = t.has p):s = t:=by
 obtain ⟨sl,sh⟩:=s
 obtain ⟨tl,th⟩:=t
 congr 1
 ·refine BitVec.eq_of_getLsbD_eq fun i hi=>?_
  have:=h i
  simp only [has_bit] at this
  unfold PSet.bit at this
  rw [if_pos hi,if_pos hi] at this
  exact this
 ·refine BitVec.eq_of_getLsbD_eq fun i hi=>?_
  have:=h (i + 64)
  simp only [has_bit] at this
  unfold PSet.bit at this
  rw [if_neg (by omega),if_neg (by omega)] at this
  simpa using this
theorem isEmpty_iff (s:PSet):s.isEmpty = true↔∀ p,s.has p = false:=by
 constructor
 ·intro h p
  unfold PSet.isEmpty at h
  simp at h
  rw [has_bit]
  unfold PSet.bit
  split
  ·rw [h.1]; simp
  ·rw [h.2]; simp
 ·intro h
  have:s = PSet.none:=pset_ext fun p=>by rw [h p,has_none]
  rw [this]; rfl
theorem isEmpty_not {s:PSet} (h:s.isEmpty = false):∃ p,s.has p = true:=by
 refine Classical.byContradiction fun hn=>?_
 have:s.isEmpty = true:=(isEmpty_iff s).2 fun p=>by
  cases e:s.has p
  ·rfl
  ·exact absurd ⟨p,e⟩ hn
 rw [h] at this; cases this
theorem meets_iff (s t:PSet):s.meets t = true↔∃ p,s.has p = true∧t.has p = true:=by
 have e:s.meets t = !(s.and t).isEmpty:=by
  unfold PSet.meets PSet.isEmpty PSet.and
  simp only [Bool.not_and]
 rw [e]
 constructor
 ·intro h
  simp at h
  obtain ⟨p,hp⟩:=isEmpty_not h
  rw [has_and,Bool.and_eq_true] at hp
  exact ⟨p,hp⟩
 ·rintro ⟨p,h1,h2⟩
  cases e:(s.and t).isEmpty
  ·rfl
  ·have:=(isEmpty_iff _).1 e p
   rw [has_and,h1,h2] at this
   cases this
theorem has_of_mem {l:List PSet}:∀ {k:Nat} {p:Nat} ,((l.getD k PSet.none).has p = true)→k < l.length:=fun {k p} h=>by
 refine Classical.byContradiction fun hk=>?_
 have e:l.getD k PSet.none = PSet.none:=by
  rw [List.getD_eq_getElem?_getD,List.getElem?_eq_none (by omega)]; rfl
 rw [e,has_none] at h
 cases h
theorem afterFrom_has (s:PSet) (q:Nat):∀ (l:List PSet) (k:Nat) (acc:PSet),(afterFrom s k l acc).has q = true↔(acc.has q = true∨∃ i,s.has (k + i) = true∧(l.getD i PSet.none).has q = true)
 | [],k,acc=>by
  simp only [afterFrom]
  refine ⟨fun h=>.inl h,fun h=>?_⟩
  rcases h with h | ⟨i,_,h2⟩
  ·exact h
  ·have:=has_of_mem h2; simp at this
 |f :: r,k,acc=>by
  unfold afterFrom
  rw [afterFrom_has s q r (k + 1)]
  constructor
  ·rintro (h | ⟨i,h1,h2⟩)
   ·split at h
    ·rename_i hk
     rw [has_or,Bool.or_eq_true] at h
     rcases h with h | h
     ·exact .inl h
     ·exact .inr ⟨0,hk,by simpa using h⟩
    ·exact .inl h
   ·exact .inr ⟨i + 1,by rw [show k + (i + 1) = k + 1 + i by omega]; exact h1,by simpa using h2⟩
  ·rintro (h | ⟨i,h1,h2⟩)
   ·left; split
    ·rw [has_or,h]; rfl
    ·exact h
   ·cases i with
    |zero =>
     left
     rw [if_pos (by simpa using h1),has_or]
     simp at h2
     rw [h2]; simp
    |succ i=>exact .inr ⟨i,by rw [show k + 1 + i = k + (i + 1) by omega]; exact h1,by simpa using h2⟩
theorem after_has (R:RulesT) (s:PSet) (q:Nat):(R.after s).has q = true↔∃ i,s.has i = true∧(R.follow.getD i PSet.none).has q = true:=by
 unfold RulesT.after
 rw [afterFrom_has]
 simp [has_none]
theorem linkFrom_has (a b:PSet) (p q:Nat):∀ (l:List PSet) (k:Nat),((linkFrom a b k l).getD p PSet.none).has q = true↔((l.getD p PSet.none).has q = true∨(p < l.length∧a.has (k + p) = true∧b.has q = true))
 | [],k=>by simp [linkFrom]
 |s :: r,k=>by
  unfold linkFrom
  cases p with
  |zero =>
   simp
   split
   ·rename_i h
    rw [has_or,Bool.or_eq_true]
    simp [h]
   ·rename_i h
    simp [h]
  |succ p =>
   simp only [List.getD_cons_succ,List.length_cons]
   rw [linkFrom_has a b p q r (k + 1),show k + 1 + p = k + (p + 1) by omega]
   simp
theorem link_has (R:RulesT) (a b:PSet) (p q:Nat):(((R.link a b).follow.getD p PSet.none).has q = true)↔((R.follow.getD p PSet.none).has q = true∨(p < R.follow.length∧a.has p = true∧b.has q = true)):=by
 unfold RulesT.link
 simp only
 rw [linkFrom_has]
 simp
theorem ruleFrom_spec (s:PSet):∀ (l:List PSet) (k:Nat),(ruleFrom s k l = -1∧∀ i,i < l.length→s.meets (l.getD i PSet.none) = false)∨(∃ i,i < l.length∧ruleFrom s k l = ((k + i:Nat):Int)∧s.meets (l.getD i PSet.none) = true∧∀ j,j < i→s.meets (l.getD j PSet.none) = false)
 | [],k=>.inl ⟨rfl,fun i hi=>by simp at hi⟩
 |x :: r,k=>by
  unfold ruleFrom
  cases h:s.meets x with
  |true=>exact .inr ⟨0,by simp,by simp,by simpa using h,fun j hj=>by omega⟩
  |false =>
   simp only [Bool.false_eq_true,if_false]
   rcases ruleFrom_spec s r (k + 1) with ⟨h1,h2⟩ | ⟨i,h1,h2,h3,h4⟩
   ·refine .inl ⟨h1,fun i hi=>?_⟩
    cases i with
    |zero=>simpa using h
    |succ i=>simpa using h2 i (by simpa using hi)
   ·refine .inr ⟨i + 1,by simpa using h1,by rw [h2]; omega,by simpa using h3,fun j hj=>?_⟩
    cases j with
    |zero=>simpa using h
    |succ j=>simpa using h4 j (by omega)
inductive Tree where
 |leaf (k a b:Nat)
 |row (l r:Tree)
 |or (l r:Tree)
 |star (l:Tree)
 |plus (l:Tree)
 |maybe (l:Tree)
 deriving Inhabited
namespace Tree
end Tree
inductive Star (P:List Nat→Prop):List Nat→Prop where
 |nil:Star P []
 |cons {u v:List Nat}:P u→Star P v→Star P (u ++ v)
def Reads (F A:Nat→Nat→Prop):Nat→List Nat→Nat→Prop
 |_,[],_=>False
 |p,[x],q=>A p x∧p = q
 |p,x :: y :: w,q=>A p x∧∃ p',F p p'∧Reads F A p' (y :: w) q
theorem Reads.ne {F A:Nat→Nat→Prop} {p q:Nat} {w:List Nat} (h:Reads F A p w q):w ≠ []:=by rintro rfl; exact h
theorem Reads.join {F A:Nat→Nat→Prop} {q' q:Nat} {v:List Nat}:∀ {u:List Nat} {p p':Nat},Reads F A p u p'→F p' q'→Reads F A q' v q→Reads F A p (u ++ v) q
 | [],p,p',h,_,_=>h.elim
 | [x],p,p',h,hf,hr=>by
  obtain ⟨h1,rfl⟩:=h
  cases v with
  |nil=>exact hr.elim
  |cons y v=>exact ⟨h1,q',hf,hr⟩
 |x :: y :: u,p,p',h,hf,hr=>by
  obtain ⟨h1,p2,h2,h3⟩:=h
  exact ⟨h1,p2,h2,Reads.join (u:=y :: u) h3 hf hr⟩
theorem Reads.snoc {F A:Nat→Nat→Prop} {x q:Nat}:∀ {u:List Nat} {p:Nat},u ≠ []→(Reads F A p (u ++ [x]) q↔(∃ p',Reads F A p u p'∧F p' q)∧A q x)
 | [],p,h=>absurd rfl h
 | [y],p,_=>by
  constructor
  ·rintro ⟨h1,p',h2,h3,rfl⟩
   exact ⟨⟨p,⟨h1,rfl⟩,h2⟩,h3⟩
  ·rintro ⟨⟨p',⟨h1,rfl⟩,h2⟩,h3⟩
   exact ⟨h1,q,h2,h3,rfl⟩
 |y :: z :: u,p,_=>by
  have ih:=fun p=>Reads.snoc (F:=F) (A:=A) (x:=x) (q:=q) (u:=z :: u) (p:=p) (by simp)
  constructor
  ·rintro ⟨h1,p',h2,h3⟩
   obtain ⟨⟨p2,h4,h5⟩,h6⟩:=(ih p').1 h3
   exact ⟨⟨p2,⟨h1,p',h2,h4⟩,h5⟩,h6⟩
  ·rintro ⟨⟨p2,⟨h1,p',h2,h4⟩,h5⟩,h6⟩
   exact ⟨h1,p',h2,(ih p').2 ⟨⟨p2,h4,h5⟩,h6⟩⟩
theorem Reads.mono {F G A B:Nat→Nat→Prop} {q:Nat} {I:Nat→Prop} (hA:∀ p x,I p→A p x→B p x) (hF:∀ p p',I p→F p p'→G p p'∧I p'):∀ {w:List Nat} {p:Nat},I p→Reads F A p w q→Reads G B p w q
 | [],p,_,h=>h.elim
 | [x],p,hi,h=>⟨hA _ _ hi h.1,h.2⟩
 |x :: y :: w,p,hi,h=>by
  obtain ⟨h1,p',h2,h3⟩:=h
  obtain ⟨h4,h5⟩:=hF _ _ hi h2
  exact ⟨hA _ _ hi h1,p',h4,Reads.mono hA hF (w:=y :: w) h5 h3⟩
theorem Reads.inv {F A:Nat→Nat→Prop} {q:Nat} {I:Nat→Prop} (hF:∀ p p',I p→F p p'→I p'):∀ {w:List Nat} {p:Nat},I p→Reads F A p w q→I q
 | [],p,_,h=>h.elim
 | [x],p,hi,h=>h.2 ▸ hi
 |x :: y :: w,p,hi,h=>by
  obtain ⟨h1,p',h2,h3⟩:=h
  exact Reads.inv hF (w:=y :: w) (hF _ _ hi h2) h3
theorem Reads.part {F G A:Nat→Nat→Prop} {q:Nat} {a b:Nat→Prop} (hG:∀ p p',G p p'→F p p'∨(a p∧b p')):∀ {w:List Nat} {p:Nat},Reads G A p w q→Reads F A p w q∨∃ u v p' p'',w = u ++ v∧Reads F A p u p'∧a p'∧b p''∧Reads G A p'' v q
 | [],p,h=>h.elim
 | [x],p,h=>.inl h
 |x :: y :: w,p,h=>by
  obtain ⟨h1,p',h2,h3⟩:=h
  rcases hG _ _ h2 with h4 | ⟨h4,h5⟩
  ·rcases Reads.part hG (w:=y :: w) h3 with h6 | ⟨u,v,r,r',h6,h7,h8,h9,h10⟩
   ·exact .inl ⟨h1,p',h4,h6⟩
   ·refine .inr ⟨x :: u,v,r,r',by rw [h6]; rfl,?_,h8,h9,h10⟩
    cases u with
    |nil=>exact h7.elim
    |cons z u=>exact ⟨h1,p',h4,h7⟩
  ·exact .inr ⟨[x],y :: w,p,p',rfl,⟨h1,rfl⟩,h4,h5,h3⟩
def RulesT.F (R:RulesT) (p q:Nat):Prop:=(R.follow.getD p PSet.none).has q = true
def RulesT.A (R:RulesT) (p x:Nat):Prop:=(R.allow x).has p = true
structure Fits (R R':RulesT) (P:PartT):Prop where
 le:R.follow.length ≤ R'.follow.length
 oldF:∀ p q,p < R.follow.length→(R'.F p q↔R.F p q)
 newF:∀ p q,R.follow.length ≤ p→R'.F p q→R.follow.length ≤ q∧q < R'.follow.length
 oldA:∀ p x,p < R.follow.length→(R'.A p x↔R.A p x)
 farA:∀ p x,R'.follow.length ≤ p→(R'.A p x↔R.A p x)
 first:∀ p,P.first.has p = true→R.follow.length ≤ p∧p < R'.follow.length
 last:∀ p,P.last.has p = true→R.follow.length ≤ p∧p < R'.follow.length
 firstR:R'.first = R.first
 lastR:R'.last = R.last
theorem F_lt {R:RulesT} {p q:Nat} (h:R.F p q):p < R.follow.length:=has_of_mem h
theorem link_F (R:RulesT) (a b:PSet) (p q:Nat):(R.link a b).F p q↔(R.F p q∨(p < R.follow.length∧a.has p = true∧b.has q = true)):=link_has R a b p q
theorem link_fits {R R':RulesT} {P Q:PartT} {a b:PSet} (h:Fits R R' P) (ha:∀ p,a.has p = true→R.follow.length ≤ p) (hb:∀ p,b.has p = true→R.follow.length ≤ p∧p < R'.follow.length)
  (hf:∀ p,Q.first.has p = true→R.follow.length ≤ p∧p < R'.follow.length) (hl:∀ p,Q.last.has p = true→R.follow.length ≤ p∧p < R'.follow.length):Fits R (R'.link a b) Q:=by
 have hlen:=link_follow_length R' a b
 refine ⟨by rw [hlen]; exact h.le,fun p q hp=>?_,fun p q hp hq=>?_,h.oldA,fun p x hp=>h.farA p x (by rw [hlen] at hp; exact hp),by rw [hlen]; exact hf,by rw [hlen]; exact hl,h.firstR,h.lastR⟩
 ·rw [link_F]
  constructor
  ·rintro (e | ⟨_,e,_⟩)
   ·exact (h.oldF p q hp).1 e
   ·have:=ha p e; omega
  ·intro e; exact .inl ((h.oldF p q hp).2 e)
 ·rw [link_F] at hq
  rw [hlen]
  rcases hq with e | ⟨_,_,e⟩
  ·exact h.newF p q hp e
  ·exact hb q e
theorem Fits.trans {R R' R'':RulesT} {P Q S:PartT} (h:Fits R R' P) (g:Fits R' R'' Q) (hf:∀ p,S.first.has p = true→R.follow.length ≤ p∧p < R''.follow.length) (hl:∀ p,S.last.has p = true→R.follow.length ≤ p∧p < R''.follow.length):Fits R R'' S:=by
 have l1:=h.le
 have l2:=g.le
 refine ⟨by omega,fun p q hp=>?_,fun p q hp hq=>?_,fun p x hp=>?_,fun p x hp=>?_,hf,hl,g.firstR.trans h.firstR,g.lastR.trans h.lastR⟩
 ·rw [g.oldF p q (by omega),h.oldF p q hp]
 ·by_cases hp':p < R'.follow.length
  ·have:=h.newF p q hp ((g.oldF p q hp').1 hq)
   omega
  ·have:=g.newF p q (by omega) hq
   omega
 ·rw [g.oldA p x (by omega),h.oldA p x hp]
 ·rw [g.farA p x hp,h.farA p x (by omega)]
def PWord (R:RulesT) (P:PartT) (w:List Nat):Prop:=(w = []∧P.empty = true)∨∃ p q,P.first.has p = true∧P.last.has q = true∧Reads R.F R.A p w q
theorem star_append {P:List Nat→Prop} {u v:List Nat} (h:Star P u) (g:Star P v):Star P (u ++ v):=by
 induction h with
 |nil=>exact g
 | @cons a b h1 h2 ih=>rw [List.append_assoc]; exact .cons h1 ih
theorem star_one {P:List Nat→Prop} {u:List Nat} (h:P u):Star P u:=by
 have:=Star.cons (P:=P) h .nil
 simpa using this
theorem loop_words {R:RulesT} {P:PartT} (hl:∀ p,P.last.has p = true→p < R.follow.length) (w:List Nat) :
  (∃ p q,P.first.has p = true∧P.last.has q = true∧Reads (R.link P.last P.first).F (R.link P.last P.first).A p w q)↔(w ≠ []∧Star (PWord R P) w):=by
 have hsub:∀ {p q:Nat} {w:List Nat},Reads R.F R.A p w q→Reads (R.link P.last P.first).F (R.link P.last P.first).A p w q:=fun h =>
  Reads.mono (I:=fun _=>True) (fun p x _ h=>h) (fun p p' _ h=>⟨(link_F _ _ _ _ _).2 (.inl h),trivial⟩) trivial h
 have hG:∀ p p',(R.link P.last P.first).F p p'→R.F p p'∨(P.last.has p = true∧P.first.has p' = true):=by
  intro p p' h
  rcases (link_F _ _ _ _ _).1 h with e | ⟨_,e1,e2⟩
  ·exact .inl e
  ·exact .inr ⟨e1,e2⟩
 constructor
 ·rintro ⟨p,q,h1,h2,h3⟩
  refine ⟨h3.ne,?_⟩
  generalize hn:w.length = n
  induction n using Nat.strongRecOn generalizing w p with
  |ind n ih =>
   rcases Reads.part (F:=R.F) hG h3 with h4 | ⟨u,v,p',p'',rfl,h5,h6,h7,h8⟩
   ·exact star_one (.inr ⟨p,q,h1,h2,h4⟩)
   ·have hu:=h5.ne
    have:0 < u.length:=List.length_pos_iff.2 hu
    simp at hn
    exact .cons (.inr ⟨p,p',h1,h6,h5⟩) (ih v.length (by omega) v p'' h7 h8 rfl)
 ·rintro ⟨hw,h⟩
  induction h with
  |nil=>exact absurd rfl hw
  | @cons u v h1 h2 ih =>
   rcases h1 with ⟨rfl,_⟩ | ⟨p,q,h3,h4,h5⟩
   ·simpa using ih (by simpa using hw)
   ·by_cases hv:v = []
    ·subst hv
     rw [List.append_nil]
     exact ⟨p,q,h3,h4,hsub h5⟩
    ·obtain ⟨p',q',h6,h7,h8⟩:=ih hv
     exact ⟨p,q',h3,h7,Reads.join (hsub h5) ((link_F _ _ _ _ _).2 (.inr ⟨hl _ h4,h4,h6⟩)) h8⟩
theorem star_congr {P Q:List Nat→Prop} (h:∀ w,P w↔Q w) (w:List Nat):Star P w↔Star Q w:=by
 constructor
 ·intro g
  induction g with
  |nil=>exact .nil
  |cons h1 h2 ih=>exact .cons ((h _).1 h1) ih
 ·intro g
  induction g with
  |nil=>exact .nil
  |cons h1 h2 ih=>exact .cons ((h _).2 h1) ih
theorem reads_old {R R':RulesT} {P:PartT} (h:Fits R R' P) (h0:∀ p q,R.F p q→q < R.follow.length) {p q:Nat} {w:List Nat} (hp:p < R.follow.length):Reads R'.F R'.A p w q↔Reads R.F R.A p w q:=by
 constructor
 ·exact Reads.mono (I:=fun p=>p < R.follow.length) (fun p x hi h'=>(h.oldA p x hi).1 h') (fun p p' hi h'=>⟨(h.oldF p p' hi).1 h',h0 _ _ ((h.oldF p p' hi).1 h')⟩) hp
 ·exact Reads.mono (I:=fun p=>p < R.follow.length) (fun p x hi h'=>(h.oldA p x hi).2 h') (fun p p' hi h'=>⟨(h.oldF p p' hi).2 h',h0 _ _ h'⟩) hp
def Closed (R:RulesT):Prop:=(∀ p q,R.F p q→q < R.follow.length)∧(∀ p x,R.A p x→p < R.follow.length)
theorem fits_closed {R R':RulesT} {P:PartT} (h:Fits R R' P) (hc:Closed R):Closed R':=by
 have:=h.le
 refine ⟨fun p q hq=>?_,fun p x hx=>?_⟩
 ·by_cases hp:p < R.follow.length
  ·have:=hc.1 p q ((h.oldF p q hp).1 hq); omega
  ·exact (h.newF p q (by omega) hq).2
 ·refine Classical.byContradiction fun hn=>?_
  have:=hc.2 p x ((h.farA p x (by omega)).1 hx)
  omega
def idxF:List PSet→PSet→Nat
 | [],_=>0
 |x :: r,s=>if x = s then 0 else idxF r s + 1
theorem idxF_le:∀ (l:List PSet) (s:PSet),idxF l s ≤ l.length
 | [],_=>Nat.le_refl _
 |x :: r,s=>by unfold idxF; split; simp; have:=idxF_le r s; simp; omega
theorem idxF_drop (l:List PSet) (s:PSet) (k:Nat) (h:k < l.length):idxF (l.drop k) s = if l[k] = s then 0 else idxF (l.drop (k + 1)) s + 1:=by
 rw [List.drop_eq_getElem_cons h]; rfl
theorem PSet.eq_of {a b:PSet} (h1:((a.lo.toNat:Int) == (b.lo.toNat:Int)) = true) (h2:((a.hi.toNat:Int) == (b.hi.toNat:Int)) = true):a = b:=by
 obtain ⟨al,ah⟩:=a
 obtain ⟨bl,bh⟩:=b
 simp at h1 h2
 have e1:al = bl:=BitVec.eq_of_toNat_eq (by omega)
 have e2:ah = bh:=BitVec.eq_of_toNat_eq (by omega)
 rw [e1,e2]
theorem PSet.ne_lo {a b:PSet} (h1:((a.lo.toNat:Int) == (b.lo.toNat:Int)) = false):a ≠ b:=fun e=>by subst e; simp at h1
theorem PSet.ne_hi {a b:PSet} (h1:((a.hi.toNat:Int) == (b.hi.toNat:Int)) = false):a ≠ b:=fun e=>by subst e; simp at h1
def findF (l:List PSet) (s:PSet):Int:=if s.isEmpty then -1 else (idxF l s:Int)
def kindsAt (al:Nat→PSet):Nat→List PSet
 | 0=>[]
 |b + 1=>if idxF (kindsAt al b) (al b) = (kindsAt al b).length then kindsAt al b ++ [al b] else kindsAt al b
def kindOf (al:Nat→PSet) (b:Nat):Nat:=idxF (kindsAt al b) (al b)
theorem kindsAt_le (al:Nat→PSet):∀ b,(kindsAt al b).length ≤ b
 | 0=>Nat.le_refl _
 |b + 1=>by have:=kindsAt_le al b; unfold kindsAt; split; simp; omega; omega
def rowF (aft:PSet):List PSet→List PSet→List Int × List PSet
  | [],sets=>([],sets)
  | k :: ks,sets =>
    ((findF sets (aft.and k)) :: (rowF aft ks (if findF sets (aft.and k) = (sets.length:Int) then sets ++ [aft.and k] else sets)).1,
     (rowF aft ks (if findF sets (aft.and k) = (sets.length:Int) then sets ++ [aft.and k] else sets)).2)
structure Graph where
 rule:List Int
 next:List (List Int)
 deriving Inhabited
def Graph.new:Graph:=⟨[],[]⟩
def exploreLoop (R:RulesT) (kinds:List PSet):Nat→Nat→List PSet→Graph→Option Graph
 | 0,_,_,_=>none
 |n + 1,i,sets,g =>
  if i < sets.length then
   let r:=rowF (if 0 < i then R.after (sets.getD i PSet.none) else R.first) kinds sets
   if 61 < r.2.length then none
   else exploreLoop R kinds n (i + 1) r.2 ⟨g.rule ++ [R.rule (r.2.getD i PSet.none)],g.next ++ [r.1]⟩
  else some g
def exploreF (R:RulesT) (kinds:List PSet):Option Graph:=exploreLoop R kinds 63 0 [PSet.none] Graph.new
def leadsF (row:List Int) (marked:List Bool):Bool:=row.any (fun to=>to != -1 && marked.getD to.toNat false)
def passF (g:Graph) (alive:List Bool):Nat→List Bool × Bool
 | 0=>(alive,false)
 |k + 1 =>
  if (passF g alive k).1.getD k false = false∧leadsF (g.next.getD k []) (passF g alive k).1 = true then ((passF g alive k).1.set k true,true)
  else passF g alive k
def aliveLoop (g:Graph):Nat→List Bool→List Bool
 | 0,alive=>alive
 |n + 1,alive=>if (passF g alive g.next.length).2 = true then aliveLoop g n (passF g alive g.next.length).1 else (passF g alive g.next.length).1
def aliveF (g:Graph):List Bool:=aliveLoop g (g.rule.length + 1) (g.rule.map (fun r=>r != -1))
def pruneRow (alive:List Bool) (row:List Int):List Int:=row.map (fun to=>if to != -1 && alive.getD to.toNat false then to else -1)
def pruneF (g:Graph):Graph:=⟨g.rule,g.next.map (pruneRow (aliveF g))⟩
def stepSame (cls:List Int) (a b:Int):Bool:=if a == -1 || b == -1 then a == b else cls.getD a.toNat 0 == cls.getD b.toNat 0
def rowsSame (cls:List Int):List Int→List Int→Bool
 | [],_=>true
 |a :: r,other=>stepSame cls a (other.headD 0) && rowsSame cls r other.tail
def togetherF (g:Graph) (cls:List Int) (a b:Nat):Bool :=
 if cls.getD a 0 ≠ cls.getD b 0∨g.rule.getD a 0 ≠ g.rule.getD b 0 then false else rowsSame cls (g.next.getD a []) (g.next.getD b [])
def mateF (g:Graph) (cls:List Int) (n:Nat):Nat→Nat→Option Nat
 | 0,_=>none
 |f + 1,k=>if k < n then (if togetherF g cls k n then some k else mateF g cls n f (k + 1)) else none
def refineAt (g:Graph) (cls:List Int):Nat→List Int × Nat
 | 0=>([],0)
 |n + 1=>match mateF g cls n (n + 1) 0 with
  |some e=>((refineAt g cls n).1 ++ [(refineAt g cls n).1.getD e 0],(refineAt g cls n).2)
  |none=>((refineAt g cls n).1 ++ [((refineAt g cls n).2:Int)],(refineAt g cls n).2 + 1)
def mergeLoop (g:Graph):Nat→List Int→Nat→List Int
 | 0,cls,_=>cls
 |f + 1,cls,count=>if (refineAt g cls g.rule.length).2 = count then (refineAt g cls g.rule.length).1 else mergeLoop g f (refineAt g cls g.rule.length).1 (refineAt g cls g.rule.length).2
def mergeF (g:Graph):List Int:=mergeLoop g (g.rule.length + 1) (List.replicate g.rule.length 0) 0
def visitRow (cls:List Int):List Int→List Int × List Int→List Int × List Int
 | [],st=>st
 |to :: r,st=>visitRow cls r (if to != -1 && st.2.getD (cls.getD to.toNat 0).toNat 0 == -1 then (st.1 ++ [to],st.2.set (cls.getD to.toNat 0).toNat (st.1.length:Int)) else st)
def visitLoop (g:Graph) (cls:List Int):Nat→Nat→List Int × List Int→List Int × List Int
 | 0,_,st=>st
 |f + 1,i,st=>if i < st.1.length then visitLoop g cls f (i + 1) (visitRow cls (g.next.getD (st.1.getD i 0).toNat []) st) else st
def visitF (g:Graph) (cls:List Int):List Int × List Int :=
 visitLoop g cls (cls.length + 1) 0 ([0],(List.replicate cls.length (-1:Int)).set (cls.getD 0 0).toNat 0)
def numberRow (cls numbers:List Int) (row:List Int):List Int:=row.map (fun to=>if to != -1 then numbers.getD (cls.getD to.toNat 0).toNat 0 else -1)
def numberF (g:Graph) (cls:List Int):Graph :=
 ⟨(visitF g cls).1.map (fun n=>g.rule.getD n.toNat 0),(visitF g cls).1.map (fun n=>numberRow cls (visitF g cls).2 (g.next.getD n.toNat []))⟩
def buildF (R:RulesT):Option ((Nat→Nat) × Graph) :=
 match exploreF R (kindsAt R.allow 256) with
 |none=>none
 |some g=>some (kindOf R.allow,numberF (pruneF g) (mergeF (pruneF g)))
def stepS (R:RulesT) (s:PSet) (x:Nat):PSet:=(R.after s).and (R.allow x)
def setW (R:RulesT):List Nat→PSet
 | []=>PSet.none
 |x :: w=>w.foldl (stepS R) (R.first.and (R.allow x))
theorem setW_snoc (R:RulesT) (x:Nat):∀ (w:List Nat),w ≠ []→setW R (w ++ [x]) = stepS R (setW R w) x
 | [],h=>absurd rfl h
 |y :: w,_=>by simp [setW]
theorem setW_has (R:RulesT) (q:Nat) (w:List Nat):w ≠ []→((setW R w).has q = true↔∃ p,R.first.has p = true∧Reads R.F R.A p w q):=by
 generalize hn:w.length = n
 induction n using Nat.strongRecOn generalizing w q with
 |ind n ih =>
  intro hw
  obtain ⟨u,x,rfl⟩:∃ u x,w = u ++ [x]:=⟨w.dropLast,w.getLast hw,(List.dropLast_concat_getLast hw).symm⟩
  by_cases hu:u = []
  ·subst hu
   show ((R.first.and (R.allow x)).has q = true)↔_
   rw [has_and,Bool.and_eq_true]
   constructor
   ·rintro ⟨h1,h2⟩; exact ⟨q,h1,h2,rfl⟩
   ·rintro ⟨p,h1,h2,rfl⟩; exact ⟨h1,h2⟩
  ·rw [setW_snoc R x u hu]
   unfold stepS
   rw [has_and,Bool.and_eq_true,after_has]
   simp at hn
   constructor
   ·rintro ⟨⟨i,h1,h2⟩,h3⟩
    obtain ⟨p,h4,h5⟩:=(ih u.length (by omega) i u rfl hu).1 h1
    exact ⟨p,h4,(Reads.snoc hu).2 ⟨⟨i,h5,h2⟩,h3⟩⟩
   ·rintro ⟨p,h4,h5⟩
    obtain ⟨⟨i,h6,h7⟩,h3⟩:=(Reads.snoc hu).1 h5
    exact ⟨⟨i,(ih u.length (by omega) i u rfl hu).2 ⟨p,h4,h6⟩,h7⟩,h3⟩
theorem idxF_get:∀ (l:List PSet) (s:PSet),idxF l s < l.length→l.getD (idxF l s) PSet.none = s
 | [],s,h=>by simp at h
 |x :: r,s,h=>by
  unfold idxF at h ⊢
  split
  ·rename_i e; simpa using e
  ·rename_i e
   rw [if_neg e] at h
   simp at h
   simpa using idxF_get r s h
theorem idxF_mem:∀ (l:List PSet) (s:PSet),idxF l s = l.length→s ∉ l
 | [],s,_=>by simp
 |x :: r,s,h=>by
  unfold idxF at h
  split at h
  ·simp at h
  ·rename_i e
   simp at h
   have:=idxF_mem r s h
   simp
   exact ⟨fun he=>e he.symm,this⟩
theorem kindsAt_prefix (al:Nat→PSet) (b:Nat):∀ d,kindsAt al b <+: kindsAt al (b + d)
 | 0=>List.prefix_refl _
 |d + 1=>by
  refine (kindsAt_prefix al b d).trans ?_
  show kindsAt al (b + d) <+: (if idxF (kindsAt al (b + d)) (al (b + d)) = (kindsAt al (b + d)).length then kindsAt al (b + d) ++ [al (b + d)] else kindsAt al (b + d))
  split
  ·exact List.prefix_append _ _
  ·exact List.prefix_refl _
theorem prefix_getD {l m:List PSet} (h:l <+: m) {k:Nat} (hk:k < l.length):m.getD k PSet.none = l.getD k PSet.none:=by
 obtain ⟨r,rfl⟩:=h
 rw [List.getD_eq_getElem?_getD,List.getElem?_append_left hk,← List.getD_eq_getElem?_getD]
theorem kindOf_get (al:Nat→PSet) (b n:Nat) (h:b < n):kindOf al b < (kindsAt al n).length∧(kindsAt al n).getD (kindOf al b) PSet.none = al b:=by
 have hp:kindsAt al (b + 1) <+: kindsAt al n:=by
  have:=kindsAt_prefix al (b + 1) (n - (b + 1))
  rwa [show b + 1 + (n - (b + 1)) = n by omega] at this
 have h1:=idxF_le (kindsAt al b) (al b)
 have e:kindsAt al (b + 1) = (if idxF (kindsAt al b) (al b) = (kindsAt al b).length then kindsAt al b ++ [al b] else kindsAt al b):=rfl
 have h2:kindOf al b < (kindsAt al (b + 1)).length∧(kindsAt al (b + 1)).getD (kindOf al b) PSet.none = al b:=by
  unfold kindOf
  rw [e]
  split
  ·rename_i hx
   rw [hx]; simp
  ·exact ⟨by omega,idxF_get _ _ (by omega)⟩
 refine ⟨by have:=hp.length_le; omega,?_⟩
 rw [prefix_getD hp h2.1,h2.2]
def StepOk (sets:List PSet) (to:Int) (s:PSet):Prop:=(s.isEmpty = true∧to = -1)∨(s.isEmpty = false∧∃ m:Nat,to = (m:Int)∧m < sets.length∧sets.getD m PSet.none = s)
theorem StepOk.mono {l m:List PSet} {to:Int} {s:PSet} (h:StepOk l to s) (hp:l <+: m):StepOk m to s:=by
 rcases h with h | ⟨h1,k,h2,h3,h4⟩
 ·exact .inl h
 ·exact .inr ⟨h1,k,h2,by have:=hp.length_le; omega,by rw [prefix_getD hp h3,h4]⟩
theorem rowF_sets (aft:PSet):∀ (kinds sets:List PSet),sets <+: (rowF aft kinds sets).2∧(rowF aft kinds sets).1.length = kinds.length∧∀ k,k < kinds.length→StepOk (rowF aft kinds sets).2 ((rowF aft kinds sets).1.getD k 0) (aft.and (kinds.getD k PSet.none))
 | [],sets=>⟨List.prefix_refl _,rfl,fun k hk=>by simp at hk⟩
 |x :: r,sets=>by
  unfold rowF
  simp only
  have ih:=rowF_sets aft r (if findF sets (aft.and x) = (sets.length:Int) then sets ++ [aft.and x] else sets)
  have hp:sets <+: (if findF sets (aft.and x) = (sets.length:Int) then sets ++ [aft.and x] else sets):=by
   split
   ·exact List.prefix_append _ _
   ·exact List.prefix_refl _
  refine ⟨hp.trans ih.1,by simp [ih.2.1],fun k hk=>?_⟩
  cases k with
  |zero =>
   simp only [List.getD_cons_zero]
   refine StepOk.mono (l:=(if findF sets (aft.and x) = (sets.length:Int) then sets ++ [aft.and x] else sets)) ?_ ih.1
   unfold findF
   cases he:(aft.and x).isEmpty with
   |true=>exact .inl ⟨he,by simp⟩
   |false =>
    simp only [Bool.false_eq_true,if_false]
    refine .inr ⟨he,idxF sets (aft.and x),rfl,?_⟩
    have hle:=idxF_le sets (aft.and x)
    by_cases hx:(idxF sets (aft.and x):Int) = (sets.length:Int)
    ·rw [if_pos hx]
     have hx':idxF sets (aft.and x) = sets.length:=by omega
     rw [hx']; simp
    ·rw [if_neg hx]
     exact ⟨by omega,idxF_get _ _ (by omega)⟩
  |succ k =>
   simp only [List.getD_cons_succ]
   exact ih.2.2 k (by simpa using hk)
structure ExOk (R:RulesT) (kinds sets:List PSet) (g:Graph) (i:Nat):Prop where
 rl:g.rule.length = i
 nl:g.next.length = i
 zero:0 < sets.length∧sets.getD 0 PSet.none = PSet.none
 rule:∀ j,j < i→g.rule.getD j 0 = R.rule (sets.getD j PSet.none)
 row:∀ j,j < i→(g.next.getD j []).length = kinds.length
 next:∀ j,j < i→∀ k,k < kinds.length→StepOk sets ((g.next.getD j []).getD k 0) ((if 0 < j then R.after (sets.getD j PSet.none) else R.first).and (kinds.getD k PSet.none))
theorem getD_snoc {α:Type} (l:List α) (x d:α) (j:Nat):(l ++ [x]).getD j d = if j < l.length then l.getD j d else if j = l.length then x else d:=by
 rw [List.getD_eq_getElem?_getD,List.getElem?_append]
 split
 ·rw [← List.getD_eq_getElem?_getD]
 ·split
  ·rename_i h1 h2; rw [h2]; simp
  ·rename_i h1 h2
   have:j - l.length ≠ 0:=by omega
   obtain ⟨m,hm⟩:=Nat.exists_eq_succ_of_ne_zero this
   rw [hm]; simp
def stepK (g:Graph) (s:Int) (k:Nat):Int:=if s < 0 then -1 else (g.next.getD s.toNat []).getD k 0
def runK (g:Graph) (s:Int) (ks:List Nat):Int:=ks.foldl (stepK g) s
def accK (g:Graph) (s:Int):Int:=if s < 0 then -1 else g.rule.getD s.toNat 0
theorem runK_dead (g:Graph):∀ (ks:List Nat) (s:Int),s < 0→runK g s ks = if ks = [] then s else -1
 | [],s,h=>rfl
 |k :: ks,s,h=>by
  show runK g (stepK g s k) ks = _
  have e:stepK g s k = -1:=by unfold stepK; rw [if_pos h]
  rw [e,runK_dead g ks (-1) (by omega)]
  simp
end Go.Proofs.YtcckhngbdoiikaaGreat
