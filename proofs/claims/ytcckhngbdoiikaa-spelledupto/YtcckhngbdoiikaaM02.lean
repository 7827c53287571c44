import Derived.Test.YtcckhngbdoiikaaM01

namespace Go.Proofs.Ytcckhngbdoiikaa
set_option linter.unusedVariables false

def Agree (s t : ByteArray) (k : Nat) : Prop := ∀ i, i ≤ k → peekI t i = peekI s i
section
variable {s t : ByteArray} {k : Nat}
theorem peekI_ne {p : Nat} (h : p < s.size) : peekI s p ≠ -1 := by unfold peekI; rw [dif_pos h]; omega
theorem Agree.le (a : Agree s t k) {p : Nat} (hp : p ≤ k) (hs : p ≤ s.size) : p ≤ t.size := by
  rcases Nat.eq_zero_or_pos p with e | e
  · omega
  · have h1 := peekI_ne (s := s) (p := p - 1) (by omega)
    rw [← a (p - 1) (by omega)] at h1
    have := peekI_in h1
    omega
theorem singleF_congr (a : Agree s t k) (p : Nat) (h : (singleF s p).2.2 ≤ k ∨ ((singleF s p).2.1 = true ∧ (singleF s p).2.2 ≤ k + 1)) : singleF t p = singleF s p := by
  have h0 : p ≤ k := by
    unfold singleF at h
    split at h
    · simp at h; omega
    · split at h
      · simp at h; omega
      · split at h <;> simp at h <;> omega
  unfold singleF at h ⊢
  rw [a p h0]
  split at h
  · rename_i h1; rw [if_pos h1, if_pos h1]
  · rename_i h1
    rw [if_neg h1, if_neg h1]
    have h2 : p + 1 ≤ k := by
      split at h
      · simp at h; omega
      · split at h <;> simp at h <;> omega
    rw [a (p + 1) h2]
theorem itemF_congr (a : Agree s t k) (p : Nat) (h : (itemF s p).2.2 ≤ k ∨ ((itemF s p).2.1 = true ∧ (itemF s p).2.2 ≤ k + 1)) : itemF t p = itemF s p := by
  by_cases hb : itemBar (peekI s p)
  · unfold itemF at h ⊢
    rw [if_pos hb] at h ⊢
    simp at h
    rw [a p h, if_pos hb]
  · unfold itemF at h ⊢
    rw [if_neg hb] at h ⊢
    have h1 := singleF_congr a p h
    have h0 : p ≤ k := by
      have hlt := singleF_pos s p (peekI_in (fun e => hb (Or.inl e)))
      omega
    rw [a p h0, if_neg hb, h1]
theorem memberF_congr (a : Agree s t k) (p : Nat) (hp : p ≤ s.size) (h : (memberF s p).2.2.2 ≤ k) : memberF t p = memberF s p := by
  have q := itemF_pos s p hp
  have hi : (itemF s p).2.2 ≤ k := by
    unfold memberF at h
    split at h
    · exact h
    · rename_i hc
      have hpk : peekI s (itemF s p).2.2 = 45 := Decidable.not_not.1 (fun e => hc (Or.inr e))
      have hlt : (itemF s p).2.2 < s.size := peekI_in (by rw [hpk]; decide)
      have q2 := itemF_pos s ((itemF s p).2.2 + 1) (by omega)
      split at h
      · rename_i hc2
        have := q2.2.2 hc2.1
        simp at h; omega
      · simp at h; omega
  have h1 := itemF_congr a p (.inl hi)
  unfold memberF at h ⊢
  rw [h1, a _ hi]
  split at h
  · rename_i hc; rw [if_pos hc, if_pos hc]
  · rename_i hc
    rw [if_neg hc, if_neg hc]
    have h2 : itemF t ((itemF s p).2.2 + 1) = itemF s ((itemF s p).2.2 + 1) := by
      apply itemF_congr a
      split at h
      · rename_i hc2
        right
        simp at h
        exact ⟨hc2.1, by omega⟩
      · exact .inl h
    rw [h2]
theorem membersF_congr (a : Agree s t k) : ∀ (n m : Nat) (A : Nat → Bool) (ok : Bool) (p : Nat), p ≤ s.size → (ok = true → s.size < n + p) → (ok = true → t.size < m + p) → (membersF s n A ok p).2.2 ≤ k → membersF t m A ok p = membersF s n A ok p
  | 0, m, A, ok, p, hp, hn, hm, h => by
    have hok : ¬ ok = true := fun e => by have := hn e; omega
    rw [membersF_stop t m A ok p (fun e => hok e.1)]; rfl
  | n + 1, m, A, ok, p, hp, hn, hm, h => by
    have hpk : p ≤ k := by have := membersF_pos s (n + 1) A ok p hp; omega
    by_cases hc : ok = true ∧ peekI s p ≠ 93
    · have e1 : membersF s (n + 1) A ok p = membersF s n (rangeF A (memberF s p).1 (memberF s p).2.1) (memberF s p).2.2.1 (memberF s p).2.2.2 := by
        show (if _ then _ else _) = _; rw [if_pos hc]
      rw [e1] at h ⊢
      have hmp := memberF_pos s p hp
      have hq := membersF_pos s n (rangeF A (memberF s p).1 (memberF s p).2.1) (memberF s p).2.2.1 (memberF s p).2.2.2 hmp.2.1
      have hm1 := memberF_congr a p hp (by omega)
      have hpt := a.le hpk hp
      match m with
      | 0 => exact absurd (hm hc.1) (by omega)
      | m + 1 =>
        have e2 : membersF t (m + 1) A ok p = membersF t m (rangeF A (memberF s p).1 (memberF s p).2.1) (memberF s p).2.2.1 (memberF s p).2.2.2 := by
          show (if _ then _ else _) = _
          rw [a p hpk, if_pos hc, hm1]
        rw [e2]
        exact membersF_congr a n m _ _ _ hmp.2.1 (fun e => by have := hmp.2.2 e; have := hn hc.1; omega) (fun e => by have := hmp.2.2 e; have := hm hc.1; omega) h
    · rw [membersF_stop s (n + 1) A ok p hc, membersF_stop t m A ok p (by rw [a p hpk]; exact hc)]
theorem bracketsF_congr (a : Agree s t k) (p : Nat) (hp : p < s.size) (h : (bracketsF s p).2.2 ≤ k) : bracketsF t p = bracketsF s p := by
  have hpos := bracketsF_pos s p hp
  have hinv : decide (peekI t (p + 1) = 94) = decide (peekI s (p + 1) = 94) := by rw [a (p + 1) (by omega)]
  have hu : (if decide (peekI s (p + 1) = 94) = true then p + 2 else p + 1) ≤ s.size := by
    split
    · rename_i e
      simp at e
      have := peekI_in (s := s) (p := p + 1) (by rw [e]; decide)
      omega
    · omega
  unfold bracketsF at h ⊢
  rw [hinv]
  simp only at h ⊢
  generalize (if decide (peekI s (p + 1) = 94) = true then p + 2 else p + 1) = u at hu h ⊢
  have hm := memberF_pos s u hu
  have hr := membersF_pos s (s.size + 1) (rangeF noneF (memberF s u).1 (memberF s u).2.1) (memberF s u).2.2.1 (memberF s u).2.2.2 hm.2.1
  have hrk : (membersF s (s.size + 1) (rangeF noneF (memberF s u).1 (memberF s u).2.1) (memberF s u).2.2.1 (memberF s u).2.2.2).2.2 ≤ k := by
    split at h
    · simp at h; omega
    · exact h
  rw [memberF_congr a u hu (by omega), membersF_congr a (s.size + 1) (t.size + 1) _ _ _ hm.2.1 (fun _ => by omega) (fun _ => by omega) hrk]
theorem placeF_congr (a : Agree s t k) (p : Nat) (hp : p ≤ s.size) (h : (placeF s p).2.2 ≤ k) : placeF t p = placeF s p := by
  have hpos := placeF_pos s p hp
  have hpk := a p (by omega)
  by_cases hb : placeBar (peekI s p)
  · unfold placeF; rw [hpk, if_pos hb, if_pos hb]
  · have hlt : p < s.size := peekI_in (fun e => hb (Or.inl e))
    unfold placeF at h ⊢
    rw [hpk, if_neg hb] at *
    split at h
    · rename_i h1; rw [if_pos h1, if_pos h1, if_neg hb]
    · rename_i h1
      rw [if_neg hb, if_neg h1, if_neg h1]
      split at h
      · rename_i h2
        rw [if_pos h2, if_pos h2]
        exact bracketsF_congr a p hlt h
      · rename_i h2
        rw [if_neg h2, if_neg h2, singleF_congr a p (.inl h)]
end
end Go.Proofs.Ytcckhngbdoiikaa
