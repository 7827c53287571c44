/-
  THE PLAIN FUNCTIONS of the reader: places. No Go, no program in sight.
-/
import Derived.Test.YtmgpdaemcbbikaaPlain
namespace Go.Proofs.Ytmgpdaemcbbikaa
set_option linter.unusedVariables false

def peekI (s : ByteArray) (p : Nat) : Int := if h : p < s.size then (s[p].toNat : Int) else -1
theorem peekI_lo (s : ByteArray) (p : Nat) : -1 ≤ peekI s p := by unfold peekI; split <;> omega
theorem peekI_hi (s : ByteArray) (p : Nat) : peekI s p ≤ 255 := by
  unfold peekI; split
  · have := s[p].toNat_lt; omega
  · omega
theorem peekI_in {s : ByteArray} {p : Nat} (h : peekI s p ≠ -1) : p < s.size := by
  unfold peekI at h; split at h
  · assumption
  · exact absurd rfl h
theorem peekI_out {s : ByteArray} {p : Nat} (h : s.size ≤ p) : peekI s p = -1 := by
  unfold peekI; rw [dif_neg (by omega)]

/-- 'single': the byte, whether, where it stands then. -/
def singleF (s : ByteArray) (p : Nat) : Int × Bool × Nat :=
  if peekI s p ≠ 92 then (peekI s p, true, p + 1)
  else if peekI s (p + 1) = -1 ∨ peekI s (p + 1) = 10 then (0, false, p + 1)
  else if peekI s (p + 1) = 110 then (10, true, p + 2)
  else (peekI s (p + 1), true, p + 2)
theorem singleF_pos (s : ByteArray) (p : Nat) (h : p < s.size) : p < (singleF s p).2.2 ∧ (singleF s p).2.2 ≤ s.size := by
  unfold singleF
  split
  · exact ⟨by simp, by simp; omega⟩
  · split
    · exact ⟨by simp, by simp; omega⟩
    · rename_i h1 h2
      have := peekI_in (s := s) (p := p + 1) (fun e => h2 (Or.inl e))
      split
      · exact ⟨by simp, by simp; omega⟩
      · exact ⟨by simp, by simp; omega⟩

def itemBar (b : Int) : Prop := b = -1 ∨ b = 10 ∨ b = 93 ∨ b = 45
instance (b : Int) : Decidable (itemBar b) := by unfold itemBar; exact inferInstance
def itemF (s : ByteArray) (p : Nat) : Int × Bool × Nat := if itemBar (peekI s p) then (0, false, p) else singleF s p
theorem itemF_pos (s : ByteArray) (p : Nat) (h : p ≤ s.size) : p ≤ (itemF s p).2.2 ∧ (itemF s p).2.2 ≤ s.size ∧ ((itemF s p).2.1 = true → p < (itemF s p).2.2) := by
  unfold itemF
  split
  · simp; exact h
  · rename_i hb
    have h1 : p < s.size := peekI_in (fun e => hb (Or.inl e))
    have := singleF_pos s p h1
    exact ⟨by omega, by omega, fun _ => by omega⟩

/-- 'member': low, high, whether, where it stands then. -/
def memberF (s : ByteArray) (p : Nat) : Int × Int × Bool × Nat :=
  if (itemF s p).2.1 = false ∨ peekI s (itemF s p).2.2 ≠ 45 then ((itemF s p).1, (itemF s p).1, (itemF s p).2.1, (itemF s p).2.2)
  else if (itemF s ((itemF s p).2.2 + 1)).2.1 = true ∧ (itemF s ((itemF s p).2.2 + 1)).1 < (itemF s p).1 then (0, 0, false, (itemF s ((itemF s p).2.2 + 1)).2.2 - 1)
  else ((itemF s p).1, (itemF s ((itemF s p).2.2 + 1)).1, (itemF s ((itemF s p).2.2 + 1)).2.1, (itemF s ((itemF s p).2.2 + 1)).2.2)
theorem memberF_pos (s : ByteArray) (p : Nat) (h : p ≤ s.size) : p ≤ (memberF s p).2.2.2 ∧ (memberF s p).2.2.2 ≤ s.size ∧ ((memberF s p).2.2.1 = true → p < (memberF s p).2.2.2) := by
  have h1 := itemF_pos s p h
  unfold memberF
  split
  · exact h1
  · rename_i hc
    have hok : (itemF s p).2.1 = true := by
      cases e : (itemF s p).2.1
      · exact absurd (Or.inl e) hc
      · rfl
    have hpk : peekI s (itemF s p).2.2 = 45 := Decidable.not_not.1 (fun e => hc (Or.inr e))
    have hlt : (itemF s p).2.2 < s.size := peekI_in (by rw [hpk]; decide)
    have h2 := itemF_pos s ((itemF s p).2.2 + 1) (by omega)
    split
    · exact ⟨by simp; omega, by simp; omega, by simp⟩
    · exact ⟨by simp; omega, by simp; omega, fun _ => by simp; omega⟩

def rangeF (A : Nat → Bool) (lo hi : Int) : Nat → Bool := fun b => A b || (decide (lo ≤ (b : Int)) && decide ((b : Int) ≤ hi))
def butF (A : Nat → Bool) : Nat → Bool := fun b => !A b
def noneF : Nat → Bool := fun _ => false

/-- The loop of 'brackets'. -/
def membersF (s : ByteArray) : Nat → (Nat → Bool) → Bool → Nat → (Nat → Bool) × Bool × Nat
  | 0, A, ok, p => (A, ok, p)
  | n + 1, A, ok, p => if ok = true ∧ peekI s p ≠ 93 then membersF s n (rangeF A (memberF s p).1 (memberF s p).2.1) (memberF s p).2.2.1 (memberF s p).2.2.2 else (A, ok, p)
theorem membersF_pos (s : ByteArray) : ∀ (n : Nat) (A : Nat → Bool) (ok : Bool) (p : Nat), p ≤ s.size → p ≤ (membersF s n A ok p).2.2 ∧ (membersF s n A ok p).2.2 ≤ s.size
  | 0, A, ok, p, h => by simp [membersF]; exact h
  | n + 1, A, ok, p, h => by
    unfold membersF
    split
    · have := memberF_pos s p h
      have := membersF_pos s n (rangeF A (memberF s p).1 (memberF s p).2.1) (memberF s p).2.2.1 (memberF s p).2.2.2 this.2.1
      omega
    · simp; exact h
theorem membersF_stop (s : ByteArray) (n : Nat) (A : Nat → Bool) (ok : Bool) (p : Nat) (h : ¬ (ok = true ∧ peekI s p ≠ 93)) : membersF s n A ok p = (A, ok, p) := by
  cases n with
  | zero => rfl
  | succ n => unfold membersF; rw [if_neg h]
theorem membersF_end (s : ByteArray) : ∀ (n : Nat) (A : Nat → Bool) (ok : Bool) (p : Nat), p ≤ s.size → (ok = true → s.size < n + p) → (membersF s n A ok p).2.1 = true → peekI s (membersF s n A ok p).2.2 = 93
  | 0, A, ok, p, h, hn, hok => by
    simp only [membersF] at hok ⊢
    have := hn hok
    omega
  | n + 1, A, ok, p, h, hn, hok => by
    unfold membersF at hok ⊢
    split at hok
    · rename_i hc
      rw [if_pos hc]
      have hm := memberF_pos s p h
      exact membersF_end s n _ _ _ hm.2.1 (fun e => by have := hm.2.2 e; have := hn hc.1; omega) hok
    · rename_i hc
      rw [if_neg hc]
      simp only at hok ⊢
      exact Decidable.not_not.1 (fun e => hc ⟨hok, e⟩)

/-- 'brackets': the bytes, whether, where it stands then. -/
def bracketsF (s : ByteArray) (p : Nat) : (Nat → Bool) × Bool × Nat :=
  let inv := decide (peekI s (p + 1) = 94)
  let m := memberF s (if inv = true then p + 2 else p + 1)
  let r := membersF s (s.size + 1) (rangeF noneF m.1 m.2.1) m.2.2.1 m.2.2.2
  if r.2.1 = true then (if inv = true then butF r.1 else r.1, true, r.2.2 + 1) else (noneF, false, r.2.2)
theorem bracketsF_eq {s : ByteArray} {p : Nat} {inv ok : Bool} {lo hi : Int} {q u : Nat} {R : (Nat → Bool) × Bool × Nat} (hinv : decide (peekI s (p + 1) = 94) = inv) (hu : (if inv = true then p + 2 else p + 1) = u)
    (hM : memberF s u = (lo, hi, ok, q)) (hR : membersF s (s.size + 1) (rangeF noneF lo hi) ok q = R) :
    bracketsF s p = if R.2.1 = true then (if inv = true then butF R.1 else R.1, true, R.2.2 + 1) else (noneF, false, R.2.2) := by
  unfold bracketsF; simp only [hinv, hu, hM, hR]
theorem bracketsF_pos (s : ByteArray) (p : Nat) (h : p < s.size) : p < (bracketsF s p).2.2 ∧ (bracketsF s p).2.2 ≤ s.size := by
  unfold bracketsF
  have hq : (if decide (peekI s (p + 1) = 94) = true then p + 2 else p + 1) ≤ s.size ∧ p < (if decide (peekI s (p + 1) = 94) = true then p + 2 else p + 1) := by
    split
    · rename_i e
      simp at e
      have := peekI_in (s := s) (p := p + 1) (by rw [e]; decide)
      omega
    · omega
  have hm := memberF_pos s _ hq.1
  simp only
  generalize memberF s (if decide (peekI s (p + 1) = 94) = true then p + 2 else p + 1) = m at hm ⊢
  have hr := membersF_pos s (s.size + 1) (rangeF noneF m.1 m.2.1) m.2.2.1 m.2.2.2 hm.2.1
  have he := membersF_end s (s.size + 1) (rangeF noneF m.1 m.2.1) m.2.2.1 m.2.2.2 hm.2.1 (fun _ => by omega)
  generalize membersF s (s.size + 1) (rangeF noneF m.1 m.2.1) m.2.2.1 m.2.2.2 = r at hr he ⊢
  split
  · rename_i hok
    have := peekI_in (s := s) (p := r.2.2) (by rw [he hok]; decide)
    simp; omega
  · simp; omega

def placeBar (b : Int) : Prop := b = -1 ∨ b = 10 ∨ b = 124 ∨ b = 42 ∨ b = 43 ∨ b = 63 ∨ b = 40 ∨ b = 41 ∨ b = 93
instance (b : Int) : Decidable (placeBar b) := by unfold placeBar; exact inferInstance
/-- 'place': the bytes, whether, where it stands then. -/
def placeF (s : ByteArray) (p : Nat) : (Nat → Bool) × Bool × Nat :=
  if placeBar (peekI s p) then (noneF, false, p)
  else if peekI s p = 46 then (butF noneF, true, p + 1)
  else if peekI s p = 91 then bracketsF s p
  else (rangeF noneF (singleF s p).1 (singleF s p).1, (singleF s p).2.1, (singleF s p).2.2)
theorem placeF_pos (s : ByteArray) (p : Nat) (h : p ≤ s.size) : p ≤ (placeF s p).2.2 ∧ (placeF s p).2.2 ≤ s.size ∧ ((placeF s p).2.1 = true → p < (placeF s p).2.2) := by
  unfold placeF
  split
  · simp; exact h
  · rename_i hb
    have h1 : p < s.size := peekI_in (fun e => hb (Or.inl e))
    split
    · simp; omega
    · split
      · have := bracketsF_pos s p h1
        exact ⟨by omega, by omega, fun _ => by omega⟩
      · have := singleF_pos s p h1
        exact ⟨by simp; omega, by simp; omega, fun _ => by simp; omega⟩
end Go.Proofs.Ytmgpdaemcbbikaa
