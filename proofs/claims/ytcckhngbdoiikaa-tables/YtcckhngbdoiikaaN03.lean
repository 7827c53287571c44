import Derived.Test.YtcckhngbdoiikaaN02

namespace Go.Proofs.Ytcckhngbdoiikaa
set_option linter.unusedVariables false

/-- Behind a member. -/
def Behind (s : ByteArray) (m : Int) (q : Nat) : Prop := (m = 6 ∧ peekI s q ≠ 45) ∨ m = 8

theorem scan_member {s : ByteArray} {p : Nat} {m d l : Int} (hp : p ≤ s.size) (hm : m = 5 ∨ (m = 6 ∧ peekI s p ≠ 45 ∧ peekI s p ≠ 93) ∨ (m = 8 ∧ peekI s p ≠ 93)) :
    ((memberF s p).2.2.1 = true → ∃ m' l', Behind s m' (memberF s p).2.2.2 ∧ scanAt s ⟨m, d, l⟩ p = scanAt s ⟨m', d, l'⟩ (memberF s p).2.2.2)
    ∧ ((memberF s p).2.2.1 = false → scanAt s ⟨m, d, l⟩ p = ((memberF s p).2.2.2 : Int)) := by
  have h1 := scan_item (d := d) (l := l) hp hm
  have g1 := itemF_pos s p hp
  unfold memberF
  split
  · rename_i hc
    simp only
    constructor
    · intro hok
      rcases hc with e | e
      · rw [hok] at e; exact absurd e (by decide)
      · rw [if_pos hok] at h1
        exact ⟨6, _, Or.inl ⟨rfl, e⟩, h1⟩
    · intro hok
      rw [hok] at h1; simpa using h1
  · rename_i hc
    have hok : (itemF s p).2.1 = true := by
      cases e : (itemF s p).2.1
      · exact absurd (Or.inl e) hc
      · rfl
    have hpk : peekI s (itemF s p).2.2 = 45 := Decidable.not_not.1 (fun e => hc (Or.inr e))
    have hlt : (itemF s p).2.2 < s.size := peekI_in (by rw [hpk]; decide)
    rw [if_pos hok, scan_go hlt (r' := ⟨7, d, (itemF s p).1⟩) (by rw [hpk]; simp [takeF, inClassF]), scan_high (by omega)] at h1
    split
    · rename_i h2
      simp only [Bool.false_eq_true, false_implies, true_and, forall_const]
      rw [if_pos h2.1, if_pos h2.2] at h1
      exact h1
    · rename_i h2
      simp only
      constructor
      · intro hok2
        rw [if_pos hok2, if_neg (fun e => h2 ⟨hok2, e⟩)] at h1
        exact ⟨8, _, Or.inr rfl, h1⟩
      · intro hok2
        rw [hok2] at h1; simpa using h1

theorem scan_members {s : ByteArray} {d : Int} : ∀ (n : Nat) (A : Nat → Bool) (ok : Bool) (p : Nat) (m l : Int), p ≤ s.size → s.size < n + p → ok = true → Behind s m p →
    ((membersF s n A ok p).2.1 = true → ∃ l', scanAt s ⟨m, d, l⟩ p = scanAt s ⟨1, d, l'⟩ ((membersF s n A ok p).2.2 + 1))
    ∧ ((membersF s n A ok p).2.1 = false → scanAt s ⟨m, d, l⟩ p = ((membersF s n A ok p).2.2 : Int))
  | 0, A, ok, p, m, l, hp, hn, hok, hb => by omega
  | n + 1, A, ok, p, m, l, hp, hn, hok, hb => by
    unfold membersF
    split
    · rename_i hc
      have hm : m = 5 ∨ (m = 6 ∧ peekI s p ≠ 45 ∧ peekI s p ≠ 93) ∨ (m = 8 ∧ peekI s p ≠ 93) := by
        rcases hb with ⟨e, h⟩ | e
        · exact Or.inr (Or.inl ⟨e, h, hc.2⟩)
        · exact Or.inr (Or.inr ⟨e, hc.2⟩)
      have hs := scan_member (d := d) (l := l) hp hm
      have hg := memberF_pos s p hp
      cases hok2 : (memberF s p).2.2.1
      · rw [membersF_stop _ _ _ _ _ (by simp)]
        simp only [Bool.false_eq_true, false_implies, true_and, forall_const]
        exact hs.2 hok2
      · obtain ⟨m', l', hb', he⟩ := hs.1 hok2
        have := hg.2.2 hok2
        rw [he]
        exact scan_members n _ true _ m' l' hg.2.1 (by omega) rfl hb'
    · rename_i hc
      have h93 : peekI s p = 93 := Decidable.not_not.1 (fun e => hc ⟨hok, e⟩)
      subst hok
      simp only [Bool.true_eq_false, false_implies, and_true, forall_const]
      refine ⟨l, scan_go (peekI_in (by rw [h93]; decide)) ?_⟩
      rw [h93]
      rcases hb with ⟨rfl, _⟩ | rfl <;> simp [takeF, inClassF]

theorem scan_brackets {s : ByteArray} {p : Nat} {d l : Int} (hp : p < s.size) :
    ((bracketsF s p).2.1 = true → ∃ l', scanAt s ⟨4, d, l⟩ (p + 1) = scanAt s ⟨1, d, l'⟩ (bracketsF s p).2.2)
    ∧ ((bracketsF s p).2.1 = false → scanAt s ⟨4, d, l⟩ (p + 1) = ((bracketsF s p).2.2 : Int)) := by
  obtain ⟨inv, hinv⟩ : ∃ inv, decide (peekI s (p + 1) = 94) = inv := ⟨_, rfl⟩
  obtain ⟨u, hu⟩ : ∃ u, (if inv = true then p + 2 else p + 1) = u := ⟨_, rfl⟩
  have hu0 : u ≤ s.size ∧ scanAt s ⟨4, d, l⟩ (p + 1) = scanAt s ⟨5, d, l⟩ u := by
    cases inv
    · simp at hinv hu
      subst hu
      refine ⟨by omega, ?_⟩
      by_cases hlt : p + 1 < s.size
      · rw [scan_step hlt, scan_step hlt]
        have : takeF ⟨4, d, l⟩ (peekI s (p + 1)) = takeF ⟨5, d, l⟩ (peekI s (p + 1)) ∨ peekI s (p + 1) = 10 := by
          by_cases h10 : peekI s (p + 1) = 10
          · exact Or.inr h10
          · left; simp [takeF, inClassF, hinv, h10]
        rcases this with e | e
        · rw [e]
        · rw [e]; simp [takeF, inClassF]
      · rw [scan_end (by omega), scan_end (by omega)]; simp
    · simp at hinv hu
      subst hu
      have hlt := peekI_in (s := s) (p := p + 1) (by rw [hinv]; decide)
      exact ⟨by omega, scan_go hlt (by rw [hinv]; simp [takeF, inClassF])⟩
  obtain ⟨⟨lo, hi, ok, q⟩, hM⟩ : ∃ M, memberF s u = M := ⟨_, rfl⟩
  obtain ⟨R, hR⟩ : ∃ R, membersF s (s.size + 1) (rangeF noneF lo hi) ok q = R := ⟨_, rfl⟩
  rw [bracketsF_eq hinv hu hM hR, hu0.2]
  have hs := scan_member (m := 5) (d := d) (l := l) hu0.1 (Or.inl rfl)
  have hg := memberF_pos s u hu0.1
  rw [hM] at hs hg
  simp only at hs hg
  cases ok
  · rw [membersF_stop _ _ _ _ _ (by simp)] at hR
    subst hR
    simp only [Bool.false_eq_true, if_false, false_implies, true_and, forall_const]
    exact hs.2 rfl
  · obtain ⟨m', l', hb', he⟩ := hs.1 rfl
    rw [he]
    have hm := scan_members (d := d) (s.size + 1) (rangeF noneF lo hi) true q m' l' hg.2.1 (by omega) rfl hb'
    rw [hR] at hm
    cases e : R.2.1
    · simp only [Bool.false_eq_true, if_false, false_implies, true_and, forall_const]
      exact hm.2 e
    · simp only [if_true, Bool.true_eq_false, false_implies, and_true, forall_const]
      exact hm.1 e

/-- A place, where an atom may begin. -/
theorem scan_place {s : ByteArray} {p : Nat} {m d l : Int} (hp : p ≤ s.size) (hm : m = 0 ∨ ((m = 1 ∨ m = 2) ∧ peekI s p ≠ -1 ∧ peekI s p ≠ 10 ∧ peekI s p ≠ 124 ∧ peekI s p ≠ 41)) (h1 : m = 1 → peekI s p ≠ 42 ∧ peekI s p ≠ 43 ∧ peekI s p ≠ 63) (h40 : peekI s p ≠ 40) :
    ((placeF s p).2.1 = true → ∃ l', scanAt s ⟨m, d, l⟩ p = scanAt s ⟨1, d, l'⟩ (placeF s p).2.2)
    ∧ ((placeF s p).2.1 = false → scanAt s ⟨m, d, l⟩ p = ((placeF s p).2.2 : Int)) := by
  unfold placeF
  split
  · rename_i hb
    simp only [Bool.false_eq_true, false_implies, true_and, forall_const]
    have hm0 : peekI s p = -1 ∨ peekI s p = 10 ∨ peekI s p = 124 ∨ peekI s p = 41 → m = 0 := by omega
    rcases hb with e | e | e | e | e | e | e | e | e
    · have hz := peekI_one e
      rw [hm0 (Or.inl e), scan_end hz, if_pos (Or.inr ⟨by simp, by simp⟩)]; omega
    · rw [hm0 (by omega)]
      exact scan_bad (peekI_in (by rw [e]; decide)) (r' := ⟨0, d, l⟩) (by rw [e]; simp [takeF])
    · rw [hm0 (by omega)]
      exact scan_bad (peekI_in (by rw [e]; decide)) (r' := ⟨0, d, l⟩) (by rw [e]; simp [takeF])
    · have : m ≠ 1 := fun h => (h1 h).1 e
      have hm2 : m = 0 ∨ m = 2 := by omega
      exact scan_bad (peekI_in (by rw [e]; decide)) (r' := ⟨2, d, l⟩) (by rw [e]; rcases hm2 with rfl | rfl <;> simp [takeF])
    · have : m ≠ 1 := fun h => (h1 h).2.1 e
      have hm2 : m = 0 ∨ m = 2 := by omega
      exact scan_bad (peekI_in (by rw [e]; decide)) (r' := ⟨2, d, l⟩) (by rw [e]; rcases hm2 with rfl | rfl <;> simp [takeF])
    · have : m ≠ 1 := fun h => (h1 h).2.2 e
      have hm2 : m = 0 ∨ m = 2 := by omega
      exact scan_bad (peekI_in (by rw [e]; decide)) (r' := ⟨2, d, l⟩) (by rw [e]; rcases hm2 with rfl | rfl <;> simp [takeF])
    · exact absurd e h40
    · rw [hm0 (by omega)]
      exact scan_bad (peekI_in (by rw [e]; decide)) (r' := ⟨1, d - 1, l⟩) (by rw [e]; simp [takeF])
    · have : ¬ 4 ≤ m ∧ m ≠ 3 := by omega
      exact scan_bad (peekI_in (by rw [e]; decide)) (r' := ⟨m, d, l⟩) (by rw [e]; simp [takeF, this])
  · rename_i hb
    simp only [placeBar, not_or] at hb
    obtain ⟨n1, n2, n3, n4, n5, n6, n7, n8, n9⟩ := hb
    have hlt := peekI_in n1
    have hmm : ¬ 4 ≤ m ∧ m ≠ 3 := by omega
    split
    · rename_i h46
      simp only [Bool.true_eq_false, false_implies, and_true, forall_const]
      exact ⟨l, scan_go hlt (by rw [h46]; simp [takeF, hmm])⟩
    · split
      · rename_i h91
        rw [scan_go hlt (r' := ⟨4, d, l⟩) (by rw [h91]; simp [takeF, hmm])]
        exact scan_brackets hlt
      · rename_i h46 h91
        unfold singleF
        split
        · rename_i h92
          simp only [Bool.true_eq_false, false_implies, and_true, forall_const]
          exact ⟨l, scan_go hlt (by simp [takeF, hmm, n2, n3, n4, n5, n6, n7, n8, n9, h91, h92])⟩
        · rename_i h92
          have h92' : peekI s p = 92 := Decidable.not_not.1 h92
          rw [scan_go hlt (r' := ⟨3, d, l⟩) (by rw [h92']; simp [takeF, hmm])]
          split
          · rename_i h2
            simp only [Bool.false_eq_true, false_implies, true_and, forall_const]
            rcases h2 with e | e
            · have hz := peekI_one e
              rw [scan_end hz, if_pos (Or.inr ⟨by simp, by simp⟩)]; omega
            · exact scan_bad (peekI_in (by rw [e]; decide)) (r' := ⟨1, d, l⟩) (by rw [e]; simp [takeF])
          · rename_i h2
            have k1 : peekI s (p + 1) ≠ -1 := fun e => h2 (Or.inl e)
            have k2 : peekI s (p + 1) ≠ 10 := fun e => h2 (Or.inr e)
            have hgo : scanAt s ⟨3, d, l⟩ (p + 1) = scanAt s ⟨1, d, l⟩ (p + 2) := scan_go (peekI_in k1) (by simp [takeF, k2])
            split
            · simp only [Bool.true_eq_false, false_implies, and_true, forall_const]
              exact ⟨l, hgo⟩
            · simp only [Bool.true_eq_false, false_implies, and_true, forall_const]
              exact ⟨l, hgo⟩
end Go.Proofs.Ytcckhngbdoiikaa

namespace Go.Proofs.Ytcckhngbdoiikaa
set_option linter.unusedVariables false

/-- What may stand ahead of an atom. -/
def Ahead (s : ByteArray) (m : Int) (p : Nat) : Prop :=
  m = 0 ∨ ((m = 1 ∨ m = 2) ∧ endsB (peekI s p) = false ∧ (m = 1 → peekI s p ≠ 42 ∧ peekI s p ≠ 43 ∧ peekI s p ≠ 63))
/-- What stands behind a piece. -/
def Past (s : ByteArray) (m : Int) (q : Nat) : Prop := (m = 1 ∧ peekI s q ≠ 42 ∧ peekI s q ≠ 43 ∧ peekI s q ≠ 63) ∨ m = 2
/-- The same answer: from (m, d) at p on to a mode of Q, or just there no further. -/
def Same (s : ByteArray) (m d l : Int) (p : Nat) (ok : Bool) (q : Nat) (Q : Int → Prop) : Prop :=
  (ok = true → ∃ m' l', Q m' ∧ scanAt s ⟨m, d, l⟩ p = scanAt s ⟨m', d, l'⟩ q) ∧ (ok = false → scanAt s ⟨m, d, l⟩ p = (q : Int))

theorem endsB_not {b : Int} (h : endsB b = false) : b ≠ -1 ∧ b ≠ 10 ∧ b ≠ 124 ∧ b ≠ 41 := by
  unfold endsB at h; simp only [decide_eq_false_iff_not, not_or] at h; exact h

/-- What is asked of the expressions within brackets. -/
def ExPl (s : ByteArray) (ex : PFn) (from' : Nat) : Prop :=
  ∀ p R d l, from' ≤ p → p ≤ s.size → R.follow.length ≤ p → 0 ≤ d → Same s 0 d l p (ex p R).ok (ex p R).at' (fun m => (m = 1 ∨ m = 2) ∧ endsB (peekI s (ex p R).at') = true ∧ peekI s (ex p R).at' ≠ 124)

theorem scan_atom {s : ByteArray} {ex : PFn} {k p : Nat} {R : RulesT} {m d l : Int} (h : ExPl s ex k) (hg : GoodF s ex) (hk : k ≤ p + 1) (hp : p ≤ s.size) (hR : R.follow.length ≤ p) (hd : 0 ≤ d) (hm : Ahead s m p) :
    Same s m d l p (atomF s ex p R).ok (atomF s ex p R).at' (fun m' => m' = 1) := by
  unfold atomF
  split
  · rename_i h40
    have hlt := peekI_in (s := s) (p := p) (by rw [h40]; decide)
    have hmm : ¬ 4 ≤ m ∧ m ≠ 3 := by unfold Ahead at hm; omega
    have hgo : scanAt s ⟨m, d, l⟩ p = scanAt s ⟨0, d + 1, l⟩ (p + 1) := scan_go hlt (by rw [h40]; simp [takeF, hmm])
    have hx := h (p + 1) R (d + 1) l hk (by omega) (by omega) (by omega)
    unfold groupF
    unfold Same
    rw [hgo]
    cases hok : (ex (p + 1) R).ok
    · simp only [Bool.false_eq_true, false_and, if_false, false_implies, true_and, forall_const]
      exact hx.2 hok
    · obtain ⟨m', l', ⟨hm', he, h124⟩, heq⟩ := hx.1 hok
      have hmm' : ¬ 4 ≤ m' ∧ m' ≠ 3 ∧ m' ≠ 0 := by omega
      split
      · rename_i hc
        simp only [Bool.true_eq_false, false_implies, and_true, forall_const]
        refine ⟨1, l', rfl, ?_⟩
        rw [heq]
        refine scan_go (peekI_in (by rw [hc.2]; decide)) ?_
        rw [hc.2]
        simp [takeF, hmm']
        omega
      · rename_i hc
        simp only [Bool.false_eq_true, false_implies, true_and, forall_const]
        rw [heq]
        have h41 : peekI s (ex (p + 1) R).at' ≠ 41 := fun e => hc ⟨rfl, e⟩
        have he' : peekI s (ex (p + 1) R).at' = -1 ∨ peekI s (ex (p + 1) R).at' = 10 := by
          unfold endsB at he; simp only [decide_eq_true_eq] at he; omega
        rcases he' with e | e
        · have hz := peekI_one e
          rw [scan_end hz, if_pos (Or.inl (by simp; omega))]
          have := (hg (p + 1) R (by omega) (by omega)).top
          omega
        · exact scan_bad (peekI_in (by rw [e]; decide)) (r' := ⟨0, d + 1, l'⟩) (by rw [e]; simp [takeF, hmm']; omega)
  · rename_i h40
    have hpl := scan_place (m := m) (d := d) (l := l) hp (by
      rcases hm with e | ⟨e, h1, h2⟩
      · exact Or.inl e
      · exact Or.inr ⟨e, endsB_not h1⟩) (fun e => by
      rcases hm with e' | ⟨_, _, h2⟩
      · omega
      · exact h2 e) h40
    split
    · rename_i hok
      obtain ⟨l', he⟩ := hpl.1 hok
      exact ⟨fun _ => ⟨1, l', rfl, he⟩, fun e => absurd e (by simp)⟩
    · rename_i hok
      exact ⟨fun e => absurd e (by simp), fun _ => hpl.2 (by simpa using hok)⟩

theorem scan_mark {s : ByteArray} {p : Nat} {m d l : Int} {a : PRes} (h : Same s m d l p a.ok a.at' (fun m' => m' = 1)) : Same s m d l p (markF s a).ok (markF s a).at' (fun m' => Past s m' (markF s a).at') := by
  unfold markF
  cases hok : a.ok
  · simp only [if_true]
    exact ⟨fun e => absurd e (by simp), fun _ => h.2 hok⟩
  · obtain ⟨m', l', rfl, he⟩ := h.1 hok
    simp only [Bool.true_eq_false, if_false]
    have hgo : peekI s a.at' = 42 ∨ peekI s a.at' = 43 ∨ peekI s a.at' = 63 → scanAt s ⟨m, d, l⟩ p = scanAt s ⟨2, d, l'⟩ (a.at' + 1) := by
      intro hc
      rw [he]
      refine scan_go (peekI_in (by rcases hc with e | e | e <;> rw [e] <;> decide)) ?_
      rcases hc with e | e | e <;> rw [e] <;> simp [takeF]
    split
    · rename_i hc
      exact ⟨fun _ => ⟨2, l', Or.inr rfl, hgo (Or.inl hc)⟩, fun e => absurd e (by simp)⟩
    · split
      · rename_i hc
        exact ⟨fun _ => ⟨2, l', Or.inr rfl, hgo (Or.inr (Or.inl hc))⟩, fun e => absurd e (by simp)⟩
      · split
        · rename_i hc
          exact ⟨fun _ => ⟨2, l', Or.inr rfl, hgo (Or.inr (Or.inr hc))⟩, fun e => absurd e (by simp)⟩
        · rename_i h1 h2 h3
          exact ⟨fun _ => ⟨1, l', Or.inl ⟨rfl, h1, h2, h3⟩, he⟩, fun e => absurd e (by simp)⟩

theorem scan_altLoop {s : ByteArray} {ex : PFn} {k : Nat} {m d l : Int} {p : Nat} {R : RulesT} (h : ExPl s ex k) (hg : GoodF s ex) (hk : k ≤ p + 1) (hp : p ≤ s.size) (hd : 0 ≤ d) : ∀ (n : Nat) (r : PRes), Good s p R r → (r.ok = true → s.size < n + r.at') →
    Same s m d l p r.ok r.at' (fun m' => Past s m' r.at') →
    Same s m d l p (altLoopF s ex n r).ok (altLoopF s ex n r).at' (fun m' => (m' = 1 ∨ m' = 2) ∧ endsB (peekI s (altLoopF s ex n r).at') = true)
  | 0, r, g, hn, hs => ⟨fun hok => by
      have hok' : r.ok = true := hok
      have := g.top; have := hn hok'; omega, hs.2⟩
  | n + 1, r, g, hn, hs => by
    unfold altLoopF
    split
    · rename_i hc
      have q := pieceF_good hg r.at' r.rules g.top g.few
      refine scan_altLoop h hg hk hp hd n _ (altStep_good hg g hc.1) ?_ ?_
      · intro hok; have := q.ok hok; have := hn hc.1; simp only; omega
      · obtain ⟨m', l', hm', he⟩ := hs.1 hc.1
        have hA : Ahead s m' r.at' := by
          rcases hm' with ⟨e, h1, h2, h3⟩ | e
          · exact Or.inr ⟨Or.inl e, hc.2, fun _ => ⟨h1, h2, h3⟩⟩
          · exact Or.inr ⟨Or.inr e, hc.2, fun e' => by omega⟩
        have hx := scan_mark (scan_atom (l := l') h hg (by have := g.le; omega) g.top g.few hd hA)
        simp only
        unfold Same
        rw [he]
        exact hx
    · rename_i hc
      refine ⟨fun hok => ?_, hs.2⟩
      obtain ⟨m', l', hm', he⟩ := hs.1 hok
      refine ⟨m', l', ⟨?_, ?_⟩, he⟩
      · rcases hm' with ⟨e, _⟩ | e
        · exact Or.inl e
        · exact Or.inr e
      · cases e : endsB (peekI s r.at')
        · exact absurd ⟨hok, e⟩ hc
        · rfl

theorem scan_alt {s : ByteArray} {ex : PFn} {k : Nat} {m d l : Int} {p : Nat} {R : RulesT} (h : ExPl s ex k) (hg : GoodF s ex) (hk : k ≤ p + 1) (hp : p ≤ s.size) (hR : R.follow.length ≤ p) (hd : 0 ≤ d) :
    Same s 0 d l p (alternativeF s ex p R).ok (alternativeF s ex p R).at' (fun m' => (m' = 1 ∨ m' = 2) ∧ endsB (peekI s (alternativeF s ex p R).at') = true) := by
  have q := pieceF_good hg p R hp hR
  exact scan_altLoop h hg hk hp hd (s.size + 1) _ q (fun _ => by omega) (scan_mark (scan_atom h hg hk hp hR hd (Or.inl rfl)))

theorem scan_exprLoop {s : ByteArray} {ex : PFn} {k : Nat} {m d l : Int} {p : Nat} {R : RulesT} (h : ExPl s ex k) (hg : GoodF s ex) (hk : k ≤ p + 1) (hp : p ≤ s.size) (hd : 0 ≤ d) : ∀ (n : Nat) (r : PRes), Good s p R r → (r.ok = true → s.size < n + r.at') →
    Same s m d l p r.ok r.at' (fun m' => (m' = 1 ∨ m' = 2) ∧ endsB (peekI s r.at') = true) →
    Same s m d l p (exprLoopF s ex n r).ok (exprLoopF s ex n r).at' (fun m' => (m' = 1 ∨ m' = 2) ∧ endsB (peekI s (exprLoopF s ex n r).at') = true ∧ peekI s (exprLoopF s ex n r).at' ≠ 124)
  | 0, r, g, hn, hs => ⟨fun hok => by
      have hok' : r.ok = true := hok
      have := g.top; have := hn hok'; omega, hs.2⟩
  | n + 1, r, g, hn, hs => by
    unfold exprLoopF
    split
    · rename_i hc
      have hlt := peekI_in (s := s) (p := r.at') (by rw [hc.2]; decide)
      have q := alternativeF_good hg (r.at' + 1) r.rules (by omega) (by have := g.few; omega)
      refine scan_exprLoop h hg hk hp hd n _ (exprStep_good hg g hc.1 hc.2) ?_ ?_
      · intro hok; have := q.ok hok; have := hn hc.1; simp only; omega
      · obtain ⟨m', l', ⟨hm', _⟩, he⟩ := hs.1 hc.1
        have hmm' : ¬ 4 ≤ m' ∧ m' ≠ 3 ∧ m' ≠ 0 := by omega
        have hx := scan_alt (m := m) (l := l') (d := d) h hg (p := r.at' + 1) (R := r.rules) (by have := g.le; omega) (by omega) (by have := g.few; omega) hd
        have hgo : scanAt s ⟨m', d, l'⟩ r.at' = scanAt s ⟨0, d, l'⟩ (r.at' + 1) := scan_go hlt (by rw [hc.2]; simp [takeF, hmm'])
        simp only
        unfold Same
        rw [he, hgo]
        exact hx
    · rename_i hc
      refine ⟨fun hok => ?_, hs.2⟩
      obtain ⟨m', l', ⟨hm', hb⟩, he⟩ := hs.1 hok
      exact ⟨m', l', ⟨hm', hb, fun e => hc ⟨hok, e⟩⟩, he⟩

theorem scan_expr (s : ByteArray) : ∀ (f : Nat), ExPl s (exprF s f) (s.size + 1 - f)
  | 0 => fun p R d l hk hp hR hd => by omega
  | f + 1 => fun p R d l hk hp hR hd => by
    have hg := exprF_good s f
    have q := alternativeF_good hg p R hp hR
    exact scan_exprLoop (m := 0) (l := l) (scan_expr s f) hg (by omega) hp hd (s.size + 1) _ q (fun _ => by omega) (scan_alt (m := 0) (scan_expr s f) hg (by omega) hp hR hd)

theorem scan_rule {s : ByteArray} {p : Nat} {R : RulesT} {l : Int} (hp : p ≤ s.size) (hR : R.follow.length ≤ p) :
    Same s 0 0 l p (ruleF s p R).1 (ruleF s p R).2.1 (fun m => (m = 1 ∨ m = 2) ∧ endsB (peekI s (ruleF s p R).2.1) = true ∧ peekI s (ruleF s p R).2.1 ≠ 124) := by
  have h := scan_expr s (s.size + 1) p R 0 l (by omega) hp hR (by omega)
  unfold ruleF
  split
  · rename_i hok
    exact ⟨fun _ => h.1 hok, fun e => absurd e (by simp)⟩
  · rename_i hok
    exact ⟨fun e => absurd e (by simp), fun _ => h.2 (by simpa using hok)⟩
theorem ruleF_pos {s : ByteArray} {p : Nat} {R : RulesT} (hp : p ≤ s.size) (hR : R.follow.length ≤ p) :
    p ≤ (ruleF s p R).2.1 ∧ (ruleF s p R).2.1 ≤ s.size ∧ (ruleF s p R).2.2.follow.length ≤ (ruleF s p R).2.1 := by
  have g := exprF_good s (s.size + 1) p R hp hR
  unfold ruleF
  split
  · exact ⟨g.le, g.top, g.few⟩
  · exact ⟨g.le, g.top, g.few⟩

theorem scan_allLoop {s : ByteArray} : ∀ (n : Nat) (r : Bool × Nat × RulesT), r.2.1 ≤ s.size → r.2.2.follow.length ≤ r.2.1 → (r.1 = true → s.size < n + r.2.1) →
    Same s 0 0 0 0 r.1 r.2.1 (fun m => (m = 1 ∨ m = 2) ∧ endsB (peekI s r.2.1) = true ∧ peekI s r.2.1 ≠ 124) →
    Same s 0 0 0 0 (allLoopF s n r).1 (allLoopF s n r).2.1 (fun m => (m = 1 ∨ m = 2) ∧ endsB (peekI s (allLoopF s n r).2.1) = true ∧ peekI s (allLoopF s n r).2.1 ≠ 124 ∧ peekI s (allLoopF s n r).2.1 ≠ 10) ∧ (allLoopF s n r).2.1 ≤ s.size
  | 0, r, hp, hR, hn, hs => ⟨⟨fun hok => by
      have hok' : r.1 = true := hok
      have := hn hok'; omega, hs.2⟩, hp⟩
  | n + 1, r, hp, hR, hn, hs => by
    unfold allLoopF
    split
    · rename_i hc
      have hlt := peekI_in (s := s) (p := r.2.1) (by rw [hc.2]; decide)
      have q := ruleF_pos (s := s) (p := r.2.1 + 1) (R := r.2.2) (by omega) (by omega)
      refine scan_allLoop n _ q.2.1 q.2.2 (fun hok => by have := hn hc.1; omega) ?_
      obtain ⟨m', l', ⟨hm', _⟩, he⟩ := hs.1 hc.1
      have hmm' : ¬ 4 ≤ m' ∧ m' ≠ 3 ∧ m' ≠ 0 := by omega
      have hgo : scanAt s ⟨m', 0, l'⟩ r.2.1 = scanAt s ⟨0, 0, l'⟩ (r.2.1 + 1) := scan_go hlt (by rw [hc.2]; simp [takeF, hmm'])
      unfold Same
      rw [he, hgo]
      exact scan_rule (by omega) (by omega)
    · rename_i hc
      refine ⟨⟨fun hok => ?_, hs.2⟩, hp⟩
      obtain ⟨m', l', ⟨hm', hb, h124⟩, he⟩ := hs.1 hok
      exact ⟨m', l', ⟨hm', hb, h124, fun e => hc ⟨hok, e⟩⟩, he⟩

/-- The place at which a text cannot go on: the program's reader and the document's answer say the same. -/
theorem place_all (s : ByteArray) : placeT s = if (allF s).1 = true then -1 else ((allF s).2.1 : Int) := by
  have q := ruleF_pos (s := s) (p := 0) (R := RulesT.new) (by omega) (by simp [RulesT.new])
  have h := scan_allLoop (s := s) (s.size + 1) (ruleF s 0 RulesT.new) q.2.1 q.2.2 (fun _ => by omega) (scan_rule (by omega) (by simp [RulesT.new]))
  unfold allF placeT
  simp only
  generalize allLoopF s (s.size + 1) (ruleF s 0 RulesT.new) = r at h ⊢
  obtain ⟨hs, hp⟩ := h
  cases hok : r.1
  · simp only [Bool.false_and, Bool.false_eq_true, if_false]
    exact hs.2 hok
  · obtain ⟨m', l', ⟨hm', hb, h124, h10⟩, he⟩ := hs.1 hok
    have hmm' : ¬ 4 ≤ m' ∧ m' ≠ 3 ∧ m' ≠ 0 := by omega
    rw [he]
    by_cases e : peekI s r.2.1 = -1
    · rw [scan_end (peekI_one e), if_neg (by simp; omega), if_pos (by simp [e])]
    · have h41 : peekI s r.2.1 = 41 := by
        unfold endsB at hb; simp only [decide_eq_true_eq] at hb; omega
      rw [if_neg (by simp [e])]
      exact scan_bad (peekI_in e) (r' := ⟨1, 0 - 1, l'⟩) (by rw [h41]; simp [takeF, hmm'])
end Go.Proofs.Ytcckhngbdoiikaa

namespace Go.Proofs.Ytcckhngbdoiikaa
set_option linter.unusedVariables false

def PSet.bit (s : PSet) (p : Nat) : Bool := if p < 64 then s.lo.getLsbD p else s.hi.getLsbD (p - 64)

theorem and_shl (a : BitVec 64) (p : Nat) : (a &&& (1#64 <<< p) == 0) = !(a.getLsbD p) := by
  have e : 1#64 <<< p = BitVec.twoPow 64 p := by rw [BitVec.twoPow_eq]
  rw [e, BitVec.and_twoPow]
  by_cases h : a.getLsbD p = true
  · have hp : p < 64 := BitVec.lt_of_getLsbD h
    rw [if_pos h, h]
    have : BitVec.twoPow 64 p ≠ 0#64 := by
      intro e
      have := congrArg (fun x => x.getLsbD p) e
      simp [hp] at this
    simp [this]
  · rw [if_neg h]
    simp at h
    simp [h]
theorem has_bit (s : PSet) (p : Nat) : s.has p = s.bit p := by
  unfold PSet.has PSet.meets PSet.only PSet.bit
  by_cases h1 : p < 64
  · rw [if_pos h1, if_pos h1]
    simp only
    rw [and_shl]
    simp
  · rw [if_neg h1, if_neg h1]
    by_cases h2 : p < 128
    · rw [if_pos h2]
      simp only
      rw [and_shl]
      simp
    · rw [if_neg h2]
      simp [PSet.none]
      exact BitVec.getLsbD_of_ge s.hi (p - 64) (by omega)
theorem has_or (s t : PSet) (p : Nat) : (s.or t).has p = (s.has p || t.has p) := by
  simp only [has_bit]; unfold PSet.bit PSet.or; split <;> simp
theorem has_and (s t : PSet) (p : Nat) : (s.and t).has p = (s.has p && t.has p) := by
  simp only [has_bit]; unfold PSet.bit PSet.and; split <;> simp
theorem has_none (p : Nat) : PSet.none.has p = false := by
  simp only [has_bit]; unfold PSet.bit PSet.none; split <;> simp
theorem has_only (p q : Nat) (hp : p < 128) : (PSet.only p).has q = decide (p = q) := by
  rw [has_bit]
  unfold PSet.bit PSet.only
  by_cases h1 : p < 64
  · rw [if_pos h1]
    by_cases h2 : q < 64
    · rw [if_pos h2]
      simp [h2]
      by_cases h3 : p = q
      · subst h3; simp
      · simp [h3]; omega
    · rw [if_neg h2]
      simp
      omega
  · rw [if_neg h1, if_pos hp]
    by_cases h2 : q < 64
    · rw [if_pos h2]
      simp
      omega
    · rw [if_neg h2]
      by_cases h3 : p = q
      · subst h3; simp [BitVec.getLsbD_shiftLeft]; omega
      · simp [BitVec.getLsbD_shiftLeft, h3]; omega
theorem pset_ext {s t : PSet} (h : ∀ p, s.has p = t.has p) : s = t := by
  obtain ⟨sl, sh⟩ := s
  obtain ⟨tl, th⟩ := t
  congr 1
  · refine BitVec.eq_of_getLsbD_eq fun i hi => ?_
    have := h i
    simp only [has_bit] at this
    unfold PSet.bit at this
    rw [if_pos hi, if_pos hi] at this
    exact this
  · refine BitVec.eq_of_getLsbD_eq fun i hi => ?_
    have := h (i + 64)
    simp only [has_bit] at this
    unfold PSet.bit at this
    rw [if_neg (by omega), if_neg (by omega)] at this
    simpa using this
theorem isEmpty_iff (s : PSet) : s.isEmpty = true ↔ ∀ p, s.has p = false := by
  constructor
  · intro h p
    unfold PSet.isEmpty at h
    simp at h
    rw [has_bit]
    unfold PSet.bit
    split
    · rw [h.1]; simp
    · rw [h.2]; simp
  · intro h
    have : s = PSet.none := pset_ext fun p => by rw [h p, has_none]
    rw [this]; rfl
theorem isEmpty_not {s : PSet} (h : s.isEmpty = false) : ∃ p, s.has p = true := by
  refine Classical.byContradiction fun hn => ?_
  have : s.isEmpty = true := (isEmpty_iff s).2 fun p => by
    cases e : s.has p
    · rfl
    · exact absurd ⟨p, e⟩ hn
  rw [h] at this; cases this
theorem meets_iff (s t : PSet) : s.meets t = true ↔ ∃ p, s.has p = true ∧ t.has p = true := by
  have e : s.meets t = !(s.and t).isEmpty := by
    unfold PSet.meets PSet.isEmpty PSet.and
    simp only [Bool.not_and]
  rw [e]
  constructor
  · intro h
    simp at h
    obtain ⟨p, hp⟩ := isEmpty_not h
    rw [has_and, Bool.and_eq_true] at hp
    exact ⟨p, hp⟩
  · rintro ⟨p, h1, h2⟩
    cases e : (s.and t).isEmpty
    · rfl
    · have := (isEmpty_iff _).1 e p
      rw [has_and, h1, h2] at this
      cases this
theorem has_of_mem {l : List PSet} : ∀ {k : Nat} {p : Nat} , ((l.getD k PSet.none).has p = true) → k < l.length := fun {k p} h => by
  refine Classical.byContradiction fun hk => ?_
  have e : l.getD k PSet.none = PSet.none := by
    rw [List.getD_eq_getElem?_getD, List.getElem?_eq_none (by omega)]; rfl
  rw [e, has_none] at h
  cases h

theorem afterFrom_has (s : PSet) (q : Nat) : ∀ (l : List PSet) (k : Nat) (acc : PSet), (afterFrom s k l acc).has q = true ↔ (acc.has q = true ∨ ∃ i, s.has (k + i) = true ∧ (l.getD i PSet.none).has q = true)
  | [], k, acc => by
    simp only [afterFrom]
    refine ⟨fun h => .inl h, fun h => ?_⟩
    rcases h with h | ⟨i, _, h2⟩
    · exact h
    · have := has_of_mem h2; simp at this
  | f :: r, k, acc => by
    unfold afterFrom
    rw [afterFrom_has s q r (k + 1)]
    constructor
    · rintro (h | ⟨i, h1, h2⟩)
      · split at h
        · rename_i hk
          rw [has_or, Bool.or_eq_true] at h
          rcases h with h | h
          · exact .inl h
          · exact .inr ⟨0, hk, by simpa using h⟩
        · exact .inl h
      · exact .inr ⟨i + 1, by rw [show k + (i + 1) = k + 1 + i by omega]; exact h1, by simpa using h2⟩
    · rintro (h | ⟨i, h1, h2⟩)
      · left; split
        · rw [has_or, h]; rfl
        · exact h
      · cases i with
        | zero =>
          left
          rw [if_pos (by simpa using h1), has_or]
          simp at h2
          rw [h2]; simp
        | succ i => exact .inr ⟨i, by rw [show k + 1 + i = k + (i + 1) by omega]; exact h1, by simpa using h2⟩
theorem after_has (R : RulesT) (s : PSet) (q : Nat) : (R.after s).has q = true ↔ ∃ i, s.has i = true ∧ (R.follow.getD i PSet.none).has q = true := by
  unfold RulesT.after
  rw [afterFrom_has]
  simp [has_none]
theorem linkFrom_has (a b : PSet) (p q : Nat) : ∀ (l : List PSet) (k : Nat), ((linkFrom a b k l).getD p PSet.none).has q = true ↔ ((l.getD p PSet.none).has q = true ∨ (p < l.length ∧ a.has (k + p) = true ∧ b.has q = true))
  | [], k => by simp [linkFrom]
  | s :: r, k => by
    unfold linkFrom
    cases p with
    | zero =>
      simp
      split
      · rename_i h
        rw [has_or, Bool.or_eq_true]
        simp [h]
      · rename_i h
        simp [h]
    | succ p =>
      simp only [List.getD_cons_succ, List.length_cons]
      rw [linkFrom_has a b p q r (k + 1), show k + 1 + p = k + (p + 1) by omega]
      simp
theorem link_has (R : RulesT) (a b : PSet) (p q : Nat) : (((R.link a b).follow.getD p PSet.none).has q = true) ↔ ((R.follow.getD p PSet.none).has q = true ∨ (p < R.follow.length ∧ a.has p = true ∧ b.has q = true)) := by
  unfold RulesT.link
  simp only
  rw [linkFrom_has]
  simp
theorem ruleFrom_spec (s : PSet) : ∀ (l : List PSet) (k : Nat), (ruleFrom s k l = -1 ∧ ∀ i, i < l.length → s.meets (l.getD i PSet.none) = false) ∨ (∃ i, i < l.length ∧ ruleFrom s k l = ((k + i : Nat) : Int) ∧ s.meets (l.getD i PSet.none) = true ∧ ∀ j, j < i → s.meets (l.getD j PSet.none) = false)
  | [], k => .inl ⟨rfl, fun i hi => by simp at hi⟩
  | x :: r, k => by
    unfold ruleFrom
    cases h : s.meets x with
    | true => exact .inr ⟨0, by simp, by simp, by simpa using h, fun j hj => by omega⟩
    | false =>
      simp only [Bool.false_eq_true, if_false]
      rcases ruleFrom_spec s r (k + 1) with ⟨h1, h2⟩ | ⟨i, h1, h2, h3, h4⟩
      · refine .inl ⟨h1, fun i hi => ?_⟩
        cases i with
        | zero => simpa using h
        | succ i => simpa using h2 i (by simpa using hi)
      · refine .inr ⟨i + 1, by simpa using h1, by rw [h2]; omega, by simpa using h3, fun j hj => ?_⟩
        cases j with
        | zero => simpa using h
        | succ j => simpa using h4 j (by omega)
end Go.Proofs.Ytcckhngbdoiikaa

namespace Go.Proofs.Ytcckhngbdoiikaa
set_option linter.unusedVariables false

inductive Tree where
  | leaf (k a b : Nat)
  | row (l r : Tree)
  | or (l r : Tree)
  | star (l : Tree)
  | plus (l : Tree)
  | maybe (l : Tree)
  deriving Inhabited

def leafA (k a b : Nat) : Nat → Bool := fun x => if k = 1 then true else if k = 2 then decide (a ≤ x ∧ x ≤ b) else if k = 3 then decide (x < a ∨ b < x) else decide (x = a)
/-- What a place of a tree must be. -/
def leafOk (k a b : Nat) : Prop := a < 256 ∧ b < 256 ∧ (k = 2 ∨ k = 3 → a ≤ b)

namespace Tree
def ok : Tree → Prop
  | leaf k a b => leafOk k a b
  | row l r => l.ok ∧ r.ok
  | or l r => l.ok ∧ r.ok
  | star l => l.ok
  | plus l => l.ok
  | maybe l => l.ok
def depth : Tree → Nat
  | leaf _ _ _ => 0
  | row l r => max l.depth r.depth + 1
  | or l r => max l.depth r.depth + 1
  | star l => l.depth + 1
  | plus l => l.depth + 1
  | maybe l => l.depth + 1
def places : Tree → Nat
  | leaf _ _ _ => 1
  | row l r => l.places + r.places
  | or l r => l.places + r.places
  | star l => l.places
  | plus l => l.places
  | maybe l => l.places
/-- What the reader makes of it. -/
def glush : Tree → RulesT → PartT × RulesT
  | leaf k a b, R => (R.addPart, R.add (leafA k a b))
  | row l r, R => (chainPart (l.glush R).1 (r.glush (l.glush R).2).1, (r.glush (l.glush R).2).2.chain (l.glush R).1 (r.glush (l.glush R).2).1)
  | or l r, R => (eitherPart (l.glush R).1 (r.glush (l.glush R).2).1, (r.glush (l.glush R).2).2)
  | star l, R => ({ (l.glush R).1 with empty := true }, (l.glush R).2.link (l.glush R).1.last (l.glush R).1.first)
  | plus l, R => ((l.glush R).1, (l.glush R).2.link (l.glush R).1.last (l.glush R).1.first)
  | maybe l, R => ({ (l.glush R).1 with empty := true }, (l.glush R).2)
end Tree

end Go.Proofs.Ytcckhngbdoiikaa
