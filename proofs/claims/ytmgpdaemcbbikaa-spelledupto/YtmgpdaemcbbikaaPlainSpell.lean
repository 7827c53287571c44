import Derived.Test.YtmgpdaemcbbikaaPlainCongr2
import Derived.Test.YtmgpdaemcbbikaaSureN
namespace Go.Proofs.Ytmgpdaemcbbikaa
set_option linter.unusedVariables false

theorem agree_upto {s t : ByteArray} {n : Nat} (h : ∀ i (h1 : i < s.size) (h2 : i < t.size), i < n → s[i] = t[i]) (hs : n ≤ s.size) (ht : n ≤ t.size) {k : Nat} (hk : k < n) : Agree s t k := by
  intro i hi
  unfold peekI
  rw [dif_pos (by omega), dif_pos (by omega), h i (by omega) (by omega) (by omega)]
/-- The first n bytes. -/
theorem extract_get {s : ByteArray} {n i : Nat} (hn : n ≤ s.size) (hi : i < n) : peekI (s.extract 0 n) i = peekI s i := by
  have hz : (s.extract 0 n).size = n := by simp; omega
  unfold peekI
  rw [dif_pos (by omega), dif_pos (by omega)]
  simp [ByteArray.getElem_extract]
theorem extract_size {s : ByteArray} {n : Nat} (hn : n ≤ s.size) : (s.extract 0 n).size = n := by simp; omega
theorem append_get {s t : ByteArray} {i : Nat} (hi : i < s.size) : peekI (s ++ t) i = peekI s i := by
  unfold peekI
  rw [dif_pos (by simp; omega), dif_pos hi]
  simp [ByteArray.getElem_append_left, hi]
/-- Where a text cannot go on, nothing behind that place matters. -/
theorem allF_behind {s u : ByteArray} (h : (allF s).2.1 < s.size) : allF (s.extract 0 ((allF s).2.1 + 1) ++ u) = allF s := by
  have hz := extract_size (s := s) (n := (allF s).2.1 + 1) (by omega)
  exact allF_congr (k := (allF s).2.1) (fun i hi => by rw [append_get (by omega), extract_get (by omega) (by omega)]) (Nat.le_refl _)
/-- The beginning of a text is a rule text, or ends too early, unless the text itself cannot go on before that. -/
theorem allF_begin {s : ByteArray} {n : Nat} (hn : n ≤ s.size) (h : (allF s).1 = true ∨ n ≤ (allF s).2.1) : (allF (s.extract 0 n)).1 = true ∨ (allF (s.extract 0 n)).2.1 = n := by
  have hz := extract_size hn
  have hg := (allF_good (s.extract 0 n)).1
  by_cases hlt : (allF (s.extract 0 n)).2.1 < n
  · have hc : allF s = allF (s.extract 0 n) := allF_congr (k := (allF (s.extract 0 n)).2.1) (fun i hi => (extract_get hn (by omega)).symm) (Nat.le_refl _)
    rcases h with h | h
    · left; rw [← hc]; exact h
    · rw [hc] at h; omega
  · right; omega
theorem newF_of {s : ByteArray} (hs : s.size ≤ 120) : ((allF s).1 = false → newF s = .bad 2 (allF s).2.1) ∧ ((allF s).1 = true → newF s = .bad 3 0 ∨ ∃ kd g, newF s = .lexer kd g) := by
  unfold newF
  rw [if_neg (by omega)]
  refine ⟨fun h => by rw [if_pos h], fun h => ?_⟩
  rw [if_neg (by simp [h])]
  split
  · exact .inl rfl
  · exact .inr ⟨_, _, rfl⟩
theorem newF_begin {s : ByteArray} {n : Nat} (hs : s.size ≤ 120) (hn : n ≤ s.size) (h : (allF s).1 = true ∨ n ≤ (allF s).2.1) : newF (s.extract 0 n) = .bad 2 n ∨ newF (s.extract 0 n) = .bad 3 0 ∨ ∃ kd g, newF (s.extract 0 n) = .lexer kd g := by
  have hz := extract_size hn
  have hb := allF_begin hn h
  have ho := newF_of (s := s.extract 0 n) (by omega)
  cases hok : (allF (s.extract 0 n)).1 with
  | false =>
    left
    rw [ho.1 hok]
    rcases hb with e | e
    · rw [hok] at e; cases e
    · rw [e]
  | true => exact .inr (ho.2 hok)
theorem newF_behind {s u : ByteArray} (hf : (allF s).1 = false) (h : (allF s).2.1 < s.size) : newF (s.extract 0 ((allF s).2.1 + 1) ++ u) = if 120 < (allF s).2.1 + 1 + u.size then .bad 1 0 else .bad 2 (allF s).2.1 := by
  have hz := extract_size (s := s) (n := (allF s).2.1 + 1) (by omega)
  have hc := allF_behind (u := u) h
  have hsz : (s.extract 0 ((allF s).2.1 + 1) ++ u).size = (allF s).2.1 + 1 + u.size := by rw [ByteArray.size_append, hz]
  by_cases hb : 120 < (allF s).2.1 + 1 + u.size
  · unfold newF; rw [if_pos (by omega), if_pos hb]
  · rw [if_neg hb, (newF_of (by omega)).1 (by rw [hc]; exact hf), hc]
end Go.Proofs.Ytmgpdaemcbbikaa
