import Derived.Test.YtmgpdaemcbbikaaC01

namespace Go.Proofs.Ytmgpdaemcbbikaa
set_option linter.unusedVariables false

def PSet.bit (s : PSet) (p : Nat) : Bool := if p < 64 then s.lo.getLsbD p else s.hi.getLsbD (p - 64)

theorem and_shl (a : BitVec 64) (p : Nat) : (a &&& (1#64 <<< p) == 0) = !(a.getLsbD p) := by
  have e : 1#64 <<< p = BitVec.twoPow 64 p := by rw [BitVec.twoPow_eq]
  rw [e, BitVec.and_twoPow]
  by_cases h : a.getLsbD p = true
  · have hp : p < 64 := BitVec.lt_of_getLsbD h
    rw [if_pos h, h]
    have : BitVec.twoPow 64 p ≠ 0#64 := by
      intro e
      have := congrArg (fun x => x.getLsbD p) e
      simp [hp] at this
    simp [this]
  · rw [if_neg h]
    simp at h
    simp [h]
theorem has_bit (s : PSet) (p : Nat) : s.has p = s.bit p := by
  unfold PSet.has PSet.meets PSet.only PSet.bit
  by_cases h1 : p < 64
  · rw [if_pos h1, if_pos h1]
    simp only
    rw [and_shl]
    simp
  · rw [if_neg h1, if_neg h1]
    by_cases h2 : p < 128
    · rw [if_pos h2]
      simp only
      rw [and_shl]
      simp
    · rw [if_neg h2]
      simp [PSet.none]
      exact BitVec.getLsbD_of_ge s.hi (p - 64) (by omega)
theorem has_lt {s : PSet} {p : Nat} (h : s.has p = true) : p < 128 := by
  rw [has_bit] at h
  unfold PSet.bit at h
  split at h
  · omega
  · have := BitVec.lt_of_getLsbD h; omega
theorem has_or (s t : PSet) (p : Nat) : (s.or t).has p = (s.has p || t.has p) := by
  simp only [has_bit]; unfold PSet.bit PSet.or; split <;> simp
theorem has_and (s t : PSet) (p : Nat) : (s.and t).has p = (s.has p && t.has p) := by
  simp only [has_bit]; unfold PSet.bit PSet.and; split <;> simp
theorem has_none (p : Nat) : PSet.none.has p = false := by
  simp only [has_bit]; unfold PSet.bit PSet.none; split <;> simp
theorem has_only (p q : Nat) (hp : p < 128) : (PSet.only p).has q = decide (p = q) := by
  rw [has_bit]
  unfold PSet.bit PSet.only
  by_cases h1 : p < 64
  · rw [if_pos h1]
    by_cases h2 : q < 64
    · rw [if_pos h2]
      simp [h2]
      by_cases h3 : p = q
      · subst h3; simp
      · simp [h3]; omega
    · rw [if_neg h2]
      simp
      omega
  · rw [if_neg h1, if_pos hp]
    by_cases h2 : q < 64
    · rw [if_pos h2]
      simp
      omega
    · rw [if_neg h2]
      by_cases h3 : p = q
      · subst h3; simp [BitVec.getLsbD_shiftLeft]; omega
      · simp [BitVec.getLsbD_shiftLeft, h3]; omega
theorem pset_ext {s t : PSet} (h : ∀ p, s.has p = t.has p) : s = t := by
  obtain ⟨sl, sh⟩ := s
  obtain ⟨tl, th⟩ := t
  congr 1
  · refine BitVec.eq_of_getLsbD_eq fun i hi => ?_
    have := h i
    simp only [has_bit] at this
    unfold PSet.bit at this
    rw [if_pos hi, if_pos hi] at this
    exact this
  · refine BitVec.eq_of_getLsbD_eq fun i hi => ?_
    have := h (i + 64)
    simp only [has_bit] at this
    unfold PSet.bit at this
    rw [if_neg (by omega), if_neg (by omega)] at this
    simpa using this
theorem isEmpty_iff (s : PSet) : s.isEmpty = true ↔ ∀ p, s.has p = false := by
  constructor
  · intro h p
    unfold PSet.isEmpty at h
    simp at h
    rw [has_bit]
    unfold PSet.bit
    split
    · rw [h.1]; simp
    · rw [h.2]; simp
  · intro h
    have : s = PSet.none := pset_ext fun p => by rw [h p, has_none]
    rw [this]; rfl
theorem isEmpty_not {s : PSet} (h : s.isEmpty = false) : ∃ p, s.has p = true := by
  refine Classical.byContradiction fun hn => ?_
  have : s.isEmpty = true := (isEmpty_iff s).2 fun p => by
    cases e : s.has p
    · rfl
    · exact absurd ⟨p, e⟩ hn
  rw [h] at this; cases this
theorem meets_iff (s t : PSet) : s.meets t = true ↔ ∃ p, s.has p = true ∧ t.has p = true := by
  have e : s.meets t = !(s.and t).isEmpty := by
    unfold PSet.meets PSet.isEmpty PSet.and
    simp only [Bool.not_and]
  rw [e]
  constructor
  · intro h
    simp at h
    obtain ⟨p, hp⟩ := isEmpty_not h
    rw [has_and, Bool.and_eq_true] at hp
    exact ⟨p, hp⟩
  · rintro ⟨p, h1, h2⟩
    cases e : (s.and t).isEmpty
    · rfl
    · have := (isEmpty_iff _).1 e p
      rw [has_and, h1, h2] at this
      cases this
theorem has_of_mem {l : List PSet} : ∀ {k : Nat} {p : Nat} , ((l.getD k PSet.none).has p = true) → k < l.length := fun {k p} h => by
  refine Classical.byContradiction fun hk => ?_
  have e : l.getD k PSet.none = PSet.none := by
    rw [List.getD_eq_getElem?_getD, List.getElem?_eq_none (by omega)]; rfl
  rw [e, has_none] at h
  cases h

theorem afterFrom_has (s : PSet) (q : Nat) : ∀ (l : List PSet) (k : Nat) (acc : PSet), (afterFrom s k l acc).has q = true ↔ (acc.has q = true ∨ ∃ i, s.has (k + i) = true ∧ (l.getD i PSet.none).has q = true)
  | [], k, acc => by
    simp only [afterFrom]
    refine ⟨fun h => .inl h, fun h => ?_⟩
    rcases h with h | ⟨i, _, h2⟩
    · exact h
    · have := has_of_mem h2; simp at this
  | f :: r, k, acc => by
    unfold afterFrom
    rw [afterFrom_has s q r (k + 1)]
    constructor
    · rintro (h | ⟨i, h1, h2⟩)
      · split at h
        · rename_i hk
          rw [has_or, Bool.or_eq_true] at h
          rcases h with h | h
          · exact .inl h
          · exact .inr ⟨0, hk, by simpa using h⟩
        · exact .inl h
      · exact .inr ⟨i + 1, by rw [show k + (i + 1) = k + 1 + i by omega]; exact h1, by simpa using h2⟩
    · rintro (h | ⟨i, h1, h2⟩)
      · left; split
        · rw [has_or, h]; rfl
        · exact h
      · cases i with
        | zero =>
          left
          rw [if_pos (by simpa using h1), has_or]
          simp at h2
          rw [h2]; simp
        | succ i => exact .inr ⟨i, by rw [show k + 1 + i = k + (i + 1) by omega]; exact h1, by simpa using h2⟩
theorem after_has (R : RulesT) (s : PSet) (q : Nat) : (R.after s).has q = true ↔ ∃ i, s.has i = true ∧ (R.follow.getD i PSet.none).has q = true := by
  unfold RulesT.after
  rw [afterFrom_has]
  simp [has_none]
theorem linkFrom_has (a b : PSet) (p q : Nat) : ∀ (l : List PSet) (k : Nat), ((linkFrom a b k l).getD p PSet.none).has q = true ↔ ((l.getD p PSet.none).has q = true ∨ (p < l.length ∧ a.has (k + p) = true ∧ b.has q = true))
  | [], k => by simp [linkFrom]
  | s :: r, k => by
    unfold linkFrom
    cases p with
    | zero =>
      simp
      split
      · rename_i h
        rw [has_or, Bool.or_eq_true]
        simp [h]
      · rename_i h
        simp [h]
    | succ p =>
      simp only [List.getD_cons_succ, List.length_cons]
      rw [linkFrom_has a b p q r (k + 1), show k + 1 + p = k + (p + 1) by omega]
      simp
theorem link_has (R : RulesT) (a b : PSet) (p q : Nat) : (((R.link a b).follow.getD p PSet.none).has q = true) ↔ ((R.follow.getD p PSet.none).has q = true ∨ (p < R.follow.length ∧ a.has p = true ∧ b.has q = true)) := by
  unfold RulesT.link
  simp only
  rw [linkFrom_has]
  simp
theorem ruleFrom_spec (s : PSet) : ∀ (l : List PSet) (k : Nat), (ruleFrom s k l = -1 ∧ ∀ i, i < l.length → s.meets (l.getD i PSet.none) = false) ∨ (∃ i, i < l.length ∧ ruleFrom s k l = ((k + i : Nat) : Int) ∧ s.meets (l.getD i PSet.none) = true ∧ ∀ j, j < i → s.meets (l.getD j PSet.none) = false)
  | [], k => .inl ⟨rfl, fun i hi => by simp at hi⟩
  | x :: r, k => by
    unfold ruleFrom
    cases h : s.meets x with
    | true => exact .inr ⟨0, by simp, by simp, by simpa using h, fun j hj => by omega⟩
    | false =>
      simp only [Bool.false_eq_true, if_false]
      rcases ruleFrom_spec s r (k + 1) with ⟨h1, h2⟩ | ⟨i, h1, h2, h3, h4⟩
      · refine .inl ⟨h1, fun i hi => ?_⟩
        cases i with
        | zero => simpa using h
        | succ i => simpa using h2 i (by simpa using hi)
      · refine .inr ⟨i + 1, by simpa using h1, by rw [h2]; omega, by simpa using h3, fun j hj => ?_⟩
        cases j with
        | zero => simpa using h
        | succ j => simpa using h4 j (by omega)
end Go.Proofs.Ytmgpdaemcbbikaa
