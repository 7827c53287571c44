import Derived.Test.YtcckhngbdoiikaaM02
import Derived.Test.YtcckhngbdoiikaaM20

namespace Go.Proofs.Ytcckhngbdoiikaa
set_option linter.unusedVariables false

/-- es does on t what ex does on s, from place q0 on, where ex stands at k at most then. -/
def CongF (s : ByteArray) (k q0 : Nat) (ex es : PFn) : Prop := ∀ p R, q0 ≤ p → p ≤ s.size → R.follow.length ≤ p → (ex p R).at' ≤ k → es p R = ex p R
section
variable {s t : ByteArray} {k q0 : Nat} {ex es : PFn}
theorem groupF_congr (a : Agree s t k) (g : GoodF s ex) (c : CongF s k (q0 + 1) ex es) (p : Nat) (R : RulesT) (hq : q0 ≤ p) (hp : p < s.size) (hR : R.follow.length ≤ p) (h : (groupF s ex p R).at' ≤ k) : groupF t es p R = groupF s ex p R := by
  have hk : (ex (p + 1) R).at' ≤ k := by
    unfold groupF at h
    split at h
    · simp at h; omega
    · exact h
  unfold groupF
  rw [c (p + 1) R (by omega) (by omega) (by omega) hk, a _ hk]
theorem atomF_congr (a : Agree s t k) (g : GoodF s ex) (c : CongF s k (q0 + 1) ex es) : CongF s k q0 (atomF s ex) (atomF t es) := by
  intro p R hq hp hR h
  have gd := atomF_good g p R hp hR
  have hpk := a p (by have := gd.le; omega)
  unfold atomF at h ⊢
  rw [hpk]
  split at h
  · rename_i h1
    rw [if_pos h1, if_pos h1]
    exact groupF_congr a g c p R hq (peekI_in (by rw [h1]; decide)) hR h
  · rename_i h1
    have h2 : (placeF s p).2.2 ≤ k := by split at h <;> exact h
    rw [if_neg h1, if_neg h1, placeF_congr a p hp h2]
theorem markF_at (x : PRes) : x.at' ≤ (markF s x).at' := by
  unfold markF
  split
  · exact Nat.le_refl _
  · split
    · simp
    · split
      · simp
      · split <;> simp
theorem markF_congr (a : Agree s t k) (x : PRes) (h : (markF s x).at' ≤ k) : markF t x = markF s x := by
  have := markF_at (s := s) x
  unfold markF
  rw [a x.at' (by omega)]
theorem pieceF_congr (a : Agree s t k) (g : GoodF s ex) (c : CongF s k (q0 + 1) ex es) : CongF s k q0 (pieceF s ex) (pieceF t es) := by
  intro p R hq hp hR h
  have h1 := markF_at (s := s) (atomF s ex p R)
  unfold pieceF at h ⊢
  rw [atomF_congr a g c p R hq hp hR (by omega), markF_congr a _ h]
theorem altLoopF_at (g : GoodF s ex) {p : Nat} {R : RulesT} : ∀ (n : Nat) (r : PRes), Good s p R r → r.at' ≤ (altLoopF s ex n r).at'
  | 0, r, gr => Nat.le_refl _
  | n + 1, r, gr => by
    unfold altLoopF
    split
    · rename_i hc
      have h1 := altLoopF_at g n _ (altStep_good g gr hc.1)
      have q := pieceF_good g r.at' r.rules gr.top gr.few
      have := q.le
      exact Nat.le_trans this h1
    · exact Nat.le_refl _
theorem altLoopF_congr (a : Agree s t k) (g : GoodF s ex) (c : CongF s k (q0 + 1) ex es) {p : Nat} {R : RulesT} : ∀ (n m : Nat) (r : PRes), Good s p R r → q0 ≤ r.at' → (r.ok = true → s.size < n + r.at') → (r.ok = true → t.size < m + r.at') → (altLoopF s ex n r).at' ≤ k → altLoopF t es m r = altLoopF s ex n r
  | 0, m, r, gr, hq, hn, hm, h => by
    have hok : ¬ r.ok = true := fun e => by have := hn e; have := gr.top; omega
    rw [altLoopF_stop t es m r (fun e => hok e.1)]; rfl
  | n + 1, m, r, gr, hq, hn, hm, h => by
    have hrk : r.at' ≤ k := Nat.le_trans (altLoopF_at g (n + 1) r gr) h
    by_cases hc : r.ok = true ∧ endsB (peekI s r.at') = false
    · have q := pieceF_good g r.at' r.rules gr.top gr.few
      have gs := altStep_good g gr hc.1
      have e1 : altLoopF s ex (n + 1) r = altLoopF s ex n ⟨chainPart r.part (pieceF s ex r.at' r.rules).part, (pieceF s ex r.at' r.rules).ok, (pieceF s ex r.at' r.rules).at', (pieceF s ex r.at' r.rules).rules.chain r.part (pieceF s ex r.at' r.rules).part⟩ := by
        show (if _ then _ else _) = _; rw [if_pos hc]
      rw [e1] at h ⊢
      have hle := altLoopF_at g n _ gs
      have hpk : (pieceF s ex r.at' r.rules).at' ≤ k := Nat.le_trans hle h
      have hpc := pieceF_congr a g c r.at' r.rules hq gr.top gr.few hpk
      have hrt := a.le hrk gr.top
      match m with
      | 0 => exact absurd (hm hc.1) (by omega)
      | m + 1 =>
        have e2 : altLoopF t es (m + 1) r = altLoopF t es m ⟨chainPart r.part (pieceF s ex r.at' r.rules).part, (pieceF s ex r.at' r.rules).ok, (pieceF s ex r.at' r.rules).at', (pieceF s ex r.at' r.rules).rules.chain r.part (pieceF s ex r.at' r.rules).part⟩ := by
          show (if _ then _ else _) = _
          rw [a _ hrk, if_pos hc, hpc]
        rw [e2]
        refine altLoopF_congr a g c n m _ gs ?_ (fun e => ?_) (fun e => ?_) h
        · have := q.le; simp only; omega
        · have := q.ok e; have := hn hc.1; simp only; omega
        · have := q.ok e; have := hm hc.1; simp only; omega
    · rw [altLoopF_stop s ex (n + 1) r hc, altLoopF_stop t es m r (by rw [a _ hrk]; exact hc)]
theorem alternativeF_congr (a : Agree s t k) (g : GoodF s ex) (c : CongF s k (q0 + 1) ex es) : CongF s k q0 (alternativeF s ex) (alternativeF t es) := by
  intro p R hq hp hR h
  have gp := pieceF_good g p R hp hR
  have hle := altLoopF_at g (s.size + 1) _ gp
  unfold alternativeF at h ⊢
  have hpk : (pieceF s ex p R).at' ≤ k := Nat.le_trans hle h
  rw [pieceF_congr a g c p R hq hp hR hpk]
  exact altLoopF_congr a g c _ _ _ gp (by have := gp.le; omega) (fun _ => by omega) (fun _ => by omega) h
theorem exprLoopF_at (g : GoodF s ex) {p : Nat} {R : RulesT} : ∀ (n : Nat) (r : PRes), Good s p R r → r.at' ≤ (exprLoopF s ex n r).at'
  | 0, r, gr => Nat.le_refl _
  | n + 1, r, gr => by
    unfold exprLoopF
    split
    · rename_i hc
      have h1 := exprLoopF_at g n _ (exprStep_good g gr hc.1 hc.2)
      have hlt := peekI_in (s := s) (p := r.at') (by rw [hc.2]; decide)
      have q := alternativeF_good g (r.at' + 1) r.rules (by omega) (by have := gr.few; omega)
      have := q.le
      simp only at h1
      omega
    · exact Nat.le_refl _
theorem exprLoopF_congr (a : Agree s t k) (g : GoodF s ex) (c : CongF s k (q0 + 1) ex es) {p : Nat} {R : RulesT} : ∀ (n m : Nat) (r : PRes), Good s p R r → q0 ≤ r.at' → (r.ok = true → s.size < n + r.at') → (r.ok = true → t.size < m + r.at') → (exprLoopF s ex n r).at' ≤ k → exprLoopF t es m r = exprLoopF s ex n r
  | 0, m, r, gr, hq, hn, hm, h => by
    have hok : ¬ r.ok = true := fun e => by have := hn e; have := gr.top; omega
    rw [exprLoopF_stop t es m r (fun e => hok e.1)]; rfl
  | n + 1, m, r, gr, hq, hn, hm, h => by
    have hrk : r.at' ≤ k := Nat.le_trans (exprLoopF_at g (n + 1) r gr) h
    by_cases hc : r.ok = true ∧ peekI s r.at' = 124
    · have hlt := peekI_in (s := s) (p := r.at') (by rw [hc.2]; decide)
      have q := alternativeF_good g (r.at' + 1) r.rules (by omega) (by have := gr.few; omega)
      have gs := exprStep_good g gr hc.1 hc.2
      have e1 : exprLoopF s ex (n + 1) r = exprLoopF s ex n ⟨eitherPart r.part (alternativeF s ex (r.at' + 1) r.rules).part, (alternativeF s ex (r.at' + 1) r.rules).ok, (alternativeF s ex (r.at' + 1) r.rules).at', (alternativeF s ex (r.at' + 1) r.rules).rules⟩ := by
        show (if _ then _ else _) = _; rw [if_pos hc]
      rw [e1] at h ⊢
      have hle := exprLoopF_at g n _ gs
      have hpk : (alternativeF s ex (r.at' + 1) r.rules).at' ≤ k := Nat.le_trans hle h
      have hpc := alternativeF_congr a g c (r.at' + 1) r.rules (by omega) (by omega) (by have := gr.few; omega) hpk
      have hrt := a.le hrk gr.top
      match m with
      | 0 => exact absurd (hm hc.1) (by omega)
      | m + 1 =>
        have e2 : exprLoopF t es (m + 1) r = exprLoopF t es m ⟨eitherPart r.part (alternativeF s ex (r.at' + 1) r.rules).part, (alternativeF s ex (r.at' + 1) r.rules).ok, (alternativeF s ex (r.at' + 1) r.rules).at', (alternativeF s ex (r.at' + 1) r.rules).rules⟩ := by
          show (if _ then _ else _) = _
          rw [a _ hrk, if_pos hc, hpc]
        rw [e2]
        refine exprLoopF_congr a g c n m _ gs ?_ (fun e => ?_) (fun e => ?_) h
        · have := q.le; simp only; omega
        · have := q.ok e; have := hn hc.1; simp only; omega
        · have := q.ok e; have := hm hc.1; simp only; omega
    · rw [exprLoopF_stop s ex (n + 1) r hc, exprLoopF_stop t es m r (by rw [a _ hrk]; exact hc)]
theorem expressionF_congr (a : Agree s t k) (g : GoodF s ex) (c : CongF s k (q0 + 1) ex es) : CongF s k q0 (expressionF s ex) (expressionF t es) := by
  intro p R hq hp hR h
  have gp := alternativeF_good g p R hp hR
  have hle := exprLoopF_at g (s.size + 1) _ gp
  unfold expressionF at h ⊢
  have hpk : (alternativeF s ex p R).at' ≤ k := Nat.le_trans hle h
  rw [alternativeF_congr a g c p R hq hp hR hpk]
  exact exprLoopF_congr a g c _ _ _ gp (by have := gp.le; omega) (fun _ => by omega) (fun _ => by omega) h
end
theorem exprF_congr {s t : ByteArray} {k : Nat} (a : Agree s t k) : ∀ (f f' q0 : Nat), s.size < f + q0 → t.size < f' + q0 → CongF s k q0 (exprF s f) (exprF t f')
  | 0, f', q0, h1, h2 => fun p R hq hp hR h => absurd hp (by omega)
  | f + 1, f', q0, h1, h2 => fun p R hq hp hR h => by
    have gd := exprF_good s (f + 1) p R hp hR
    have hpt := a.le (p := p) (by have := gd.le; omega) hp
    match f' with
    | 0 => omega
    | f' + 1 => exact expressionF_congr a (exprF_good s f) (exprF_congr a f f' (q0 + 1) (by omega) (by omega)) p R hq hp hR h
theorem ruleF_congr {s t : ByteArray} {k : Nat} (a : Agree s t k) (p : Nat) (R : RulesT) (hp : p ≤ s.size) (hR : R.follow.length ≤ p) (h : (ruleF s p R).2.1 ≤ k) : ruleF t p R = ruleF s p R := by
  have h1 : (exprF s (s.size + 1) p R).at' ≤ k := by
    unfold ruleF at h
    split at h <;> exact h
  unfold ruleF
  rw [exprF_congr a (s.size + 1) (t.size + 1) 0 (by omega) (by omega) p R (by omega) hp hR h1]
theorem allLoopF_at (s : ByteArray) : ∀ (n : Nat) (r : Bool × Nat × RulesT), r.2.1 ≤ s.size ∧ r.2.2.follow.length ≤ r.2.1 ∧ r.2.2.last.length ≤ r.2.1 → r.2.1 ≤ (allLoopF s n r).2.1
  | 0, r, h => Nat.le_refl _
  | n + 1, r, h => by
    unfold allLoopF
    split
    · rename_i hc
      have hlt := peekI_in (s := s) (p := r.2.1) (by rw [hc.2]; decide)
      have g := ruleF_good s (r.2.1 + 1) r.2.2 (by omega) (by omega) (by omega)
      have := allLoopF_at s n _ ⟨g.top, g.few, g.last⟩
      have := g.le
      omega
    · exact Nat.le_refl _
theorem allLoopF_congr {s t : ByteArray} {k : Nat} (a : Agree s t k) : ∀ (n m : Nat) (r : Bool × Nat × RulesT), r.2.1 ≤ s.size ∧ r.2.2.follow.length ≤ r.2.1 ∧ r.2.2.last.length ≤ r.2.1 → (r.1 = true → s.size < n + r.2.1) → (r.1 = true → t.size < m + r.2.1) → (allLoopF s n r).2.1 ≤ k → allLoopF t m r = allLoopF s n r
  | 0, m, r, g, hn, hm, h => by
    have hok : ¬ r.1 = true := fun e => by have := hn e; omega
    rw [allLoopF_stop t m r (fun e => hok e.1)]; rfl
  | n + 1, m, r, gr, hn, hm, h => by
    have hrk : r.2.1 ≤ k := Nat.le_trans (allLoopF_at s (n + 1) r gr) h
    by_cases hc : r.1 = true ∧ peekI s r.2.1 = 10
    · have hlt := peekI_in (s := s) (p := r.2.1) (by rw [hc.2]; decide)
      have g := ruleF_good s (r.2.1 + 1) r.2.2 (by omega) (by omega) (by omega)
      have e1 : allLoopF s (n + 1) r = allLoopF s n (ruleF s (r.2.1 + 1) r.2.2) := by
        show (if _ then _ else _) = _; rw [if_pos hc]
      rw [e1] at h ⊢
      have hle := allLoopF_at s n _ ⟨g.top, g.few, g.last⟩
      have hru := ruleF_congr a (r.2.1 + 1) r.2.2 (by omega) (by omega) (by omega)
      have hrt := a.le hrk gr.1
      match m with
      | 0 => exact absurd (hm hc.1) (by omega)
      | m + 1 =>
        have e2 : allLoopF t (m + 1) r = allLoopF t m (ruleF s (r.2.1 + 1) r.2.2) := by
          show (if _ then _ else _) = _
          rw [a _ hrk, if_pos hc, hru]
        rw [e2]
        exact allLoopF_congr a n m _ ⟨g.top, g.few, g.last⟩ (fun e => by have := g.ok e; have := hn hc.1; omega) (fun e => by have := g.ok e; have := hm hc.1; omega) h
    · rw [allLoopF_stop s (n + 1) r hc, allLoopF_stop t m r (by rw [a _ hrk]; exact hc)]
theorem allF_congr {s t : ByteArray} {k : Nat} (a : Agree s t k) (h : (allF s).2.1 ≤ k) : allF t = allF s := by
  have g := ruleF_good s 0 RulesT.new (by omega) (by simp [RulesT.new]) (by simp [RulesT.new])
  have hg : (ruleF s 0 RulesT.new).2.1 ≤ s.size ∧ (ruleF s 0 RulesT.new).2.2.follow.length ≤ (ruleF s 0 RulesT.new).2.1 ∧ (ruleF s 0 RulesT.new).2.2.last.length ≤ (ruleF s 0 RulesT.new).2.1 := ⟨g.top, g.few, g.last⟩
  have hat : (allLoopF s (s.size + 1) (ruleF s 0 RulesT.new)).2.1 ≤ k := h
  have hle := allLoopF_at s (s.size + 1) _ hg
  have h1 := ruleF_congr a 0 RulesT.new (by omega) (by simp [RulesT.new]) (by omega)
  have h2 := allLoopF_congr a (s.size + 1) (t.size + 1) _ hg (fun _ => by omega) (fun _ => by omega) hat
  unfold allF
  rw [h1, h2]
  simp only
  rw [a _ hat]
end Go.Proofs.Ytcckhngbdoiikaa

namespace Go.Proofs.Ytcckhngbdoiikaa
set_option linter.unusedVariables false

theorem agree_upto {s t : ByteArray} {n : Nat} (h : ∀ i (h1 : i < s.size) (h2 : i < t.size), i < n → s[i] = t[i]) (hs : n ≤ s.size) (ht : n ≤ t.size) {k : Nat} (hk : k < n) : Agree s t k := by
  intro i hi
  unfold peekI
  rw [dif_pos (by omega), dif_pos (by omega), h i (by omega) (by omega) (by omega)]
/-- The first n bytes. -/
theorem extract_get {s : ByteArray} {n i : Nat} (hn : n ≤ s.size) (hi : i < n) : peekI (s.extract 0 n) i = peekI s i := by
  have hz : (s.extract 0 n).size = n := by simp; omega
  unfold peekI
  rw [dif_pos (by omega), dif_pos (by omega)]
  simp [ByteArray.getElem_extract]
theorem extract_size {s : ByteArray} {n : Nat} (hn : n ≤ s.size) : (s.extract 0 n).size = n := by simp; omega
theorem append_get {s t : ByteArray} {i : Nat} (hi : i < s.size) : peekI (s ++ t) i = peekI s i := by
  unfold peekI
  rw [dif_pos (by simp; omega), dif_pos hi]
  simp [ByteArray.getElem_append_left, hi]
/-- Where a text cannot go on, nothing behind that place matters. -/
theorem allF_behind {s u : ByteArray} (h : (allF s).2.1 < s.size) : allF (s.extract 0 ((allF s).2.1 + 1) ++ u) = allF s := by
  have hz := extract_size (s := s) (n := (allF s).2.1 + 1) (by omega)
  exact allF_congr (k := (allF s).2.1) (fun i hi => by rw [append_get (by omega), extract_get (by omega) (by omega)]) (Nat.le_refl _)
/-- The beginning of a text is a rule text, or ends too early, unless the text itself cannot go on before that. -/
theorem allF_begin {s : ByteArray} {n : Nat} (hn : n ≤ s.size) (h : (allF s).1 = true ∨ n ≤ (allF s).2.1) : (allF (s.extract 0 n)).1 = true ∨ (allF (s.extract 0 n)).2.1 = n := by
  have hz := extract_size hn
  have hg := (allF_good (s.extract 0 n)).1
  by_cases hlt : (allF (s.extract 0 n)).2.1 < n
  · have hc : allF s = allF (s.extract 0 n) := allF_congr (k := (allF (s.extract 0 n)).2.1) (fun i hi => (extract_get hn (by omega)).symm) (Nat.le_refl _)
    rcases h with h | h
    · left; rw [← hc]; exact h
    · rw [hc] at h; omega
  · right; omega
theorem newF_of {s : ByteArray} (hs : s.size ≤ 120) : ((allF s).1 = false → newF s = .bad 2 (allF s).2.1) ∧ ((allF s).1 = true → newF s = .bad 3 0 ∨ ∃ kd g, newF s = .lexer kd g) := by
  unfold newF
  rw [if_neg (by omega)]
  refine ⟨fun h => by rw [if_pos h], fun h => ?_⟩
  rw [if_neg (by simp [h])]
  split
  · exact .inl rfl
  · exact .inr ⟨_, _, rfl⟩
theorem newF_begin {s : ByteArray} {n : Nat} (hs : s.size ≤ 120) (hn : n ≤ s.size) (h : (allF s).1 = true ∨ n ≤ (allF s).2.1) : newF (s.extract 0 n) = .bad 2 n ∨ newF (s.extract 0 n) = .bad 3 0 ∨ ∃ kd g, newF (s.extract 0 n) = .lexer kd g := by
  have hz := extract_size hn
  have hb := allF_begin hn h
  have ho := newF_of (s := s.extract 0 n) (by omega)
  cases hok : (allF (s.extract 0 n)).1 with
  | false =>
    left
    rw [ho.1 hok]
    rcases hb with e | e
    · rw [hok] at e; cases e
    · rw [e]
  | true => exact .inr (ho.2 hok)
theorem newF_behind {s u : ByteArray} (hf : (allF s).1 = false) (h : (allF s).2.1 < s.size) : newF (s.extract 0 ((allF s).2.1 + 1) ++ u) = if 120 < (allF s).2.1 + 1 + u.size then .bad 1 0 else .bad 2 (allF s).2.1 := by
  have hz := extract_size (s := s) (n := (allF s).2.1 + 1) (by omega)
  have hc := allF_behind (u := u) h
  have hsz : (s.extract 0 ((allF s).2.1 + 1) ++ u).size = (allF s).2.1 + 1 + u.size := by rw [ByteArray.size_append, hz]
  by_cases hb : 120 < (allF s).2.1 + 1 + u.size
  · unfold newF; rw [if_pos (by omega), if_pos hb]
  · rw [if_neg hb, (newF_of (by omega)).1 (by rw [hc]; exact hf), hc]
end Go.Proofs.Ytcckhngbdoiikaa

namespace Go.Proofs.Ytcckhngbdoiikaa
open Go.RowKit Go.Deep
set_option linter.unusedVariables false

theorem Below4 {w w1 w2 w3 w4 : World} (h1 : Below w.heap.size w w1) (h2 : Below w1.heap.size w1 w2) (h3 : Below w2.heap.size w2 w3) (h4 : Below w3.heap.size w3 w4) : Below w.heap.size w w4 := by
  have z1 := h1.size
  have z2 := h2.size
  have z3 := h3.size
  exact ((h1.trans (h2.mono z1)).trans (h3.mono (by omega))).trans (h4.mono (by omega))

set_option maxRecDepth 20000 in
set_option maxHeartbeats 3200000 in
theorem spelled_any (text other : ByteArray) (cut : Int) (ht : text.size ≤ 140737488355328) (ho : other.size ≤ 140737488355328) (hc : -9223372036854775808 ≤ cut ∧ cut ≤ 9223372036854775807) (w : World) :
    Calls Try.prog 4 #[.string text, .string other, .int .i64 cut] w fun e w' => e = .returned (.bool true) ∧ Below w.heap.size w w' := by
  have HSU := hide (sure_any w)
  have HNE := hide (fun (s : ByteArray) (hs : s.size ≤ 140737488355328 + 200) (W : World) => new_any s (by unfold maxLen; omega) W)
  by_cases hl : 120 < text.size
  · have hX : newF text = .bad 1 0 := by unfold newF; rw [if_pos hl]
    have HX := hide hX
    have e1 : decide ((120 : Int) < (text.size : Int)) = true := by simp; omega
    clear hX
    go_enter Try.func4, Try.ntmps4
    go_wp2_with fail
    refine HSU.out.mono ?_
    rintro e w1 ⟨rfl, hb1⟩
    have HB1 := hide hb1
    clear hb1
    go_wp2_with fail
    refine (HNE.out text (by omega) w1).mono ?_
    rw [HX.out]
    rintro e w2 ⟨hb2, rfl⟩
    go_wp2_with fail
    go_ret
    exact ⟨rfl, HB1.out.trans (hb2.mono HB1.out.size)⟩
  · have e1 : decide ((120 : Int) < (text.size : Int)) = false := by simp; omega
    have hgd := allF_good text
    have hno := newF_of (s := text) (by omega)
    have hbe := fun n (hn : n ≤ text.size) => newF_begin (s := text) (n := n) (by omega) hn
    have hbh := newF_behind (s := text) (u := other)
    generalize allF text = F at hgd hno hbe hbh
    obtain ⟨ok, p, R⟩ := F
    simp only at hgd hno hbe hbh
    cases ok with
    | false =>
      have hX := hno.1 rfl
      have HX := hide hX
      have HBE := hide (hbe p hgd.1 (.inr (Nat.le_refl _)))
      have HBH := hide (hbh rfl)
      have hp := hgd.1
      clear hX hno hbe hbh hgd
      have e2 : decide ((p : Int) < 0) = false := by simp
      have e3 : decide ((text.size : Int) < (p : Int)) = false := by simp; omega
      have e5 : ∃ b, ((p : Int) != 0) = b := ⟨_, rfl⟩
      obtain ⟨b5, e5⟩ := e5
      by_cases hpe : p = text.size
      · have e4 : ((p : Int) == (text.size : Int)) = true := by simp [hpe]
        clear hpe
        go_enter Try.func4, Try.ntmps4
        go_wp2_with fail
        refine HSU.out.mono ?_
        rintro e w1 ⟨rfl, hb1⟩
        have HB1 := hide hb1
        clear hb1
        go_wp2_with fail
        refine (HNE.out text (by omega) w1).mono ?_
        rw [HX.out]
        rintro e w2 ⟨hb2, rfl⟩
        have HB2 := hide hb2
        clear hb2
        cases b5 <;>
          (go_wp2_with fail
           go_ret
           exact ⟨rfl, HB1.out.trans (HB2.out.mono HB1.out.size)⟩)
      · have hlt : p < text.size := by omega
        have e4 : ((p : Int) == (text.size : Int)) = false := by simp; omega
        clear hpe
        go_enter Try.func4, Try.ntmps4
        go_wp2_with fail
        refine HSU.out.mono ?_
        rintro e w1 ⟨rfl, hb1⟩
        have HB1 := hide hb1
        clear hb1
        go_wp2_with fail
        refine (HNE.out text (by omega) w1).mono ?_
        rw [HX.out]
        rintro e w2 ⟨hb2, rfl⟩
        have HB2 := hide hb2
        clear hb2
        have hI0 : (0 : Int) ≤ (p : Int) + 1 := by omega
        have hI1 : (p : Int) + 1 ≤ (text.size : Int) := by omega
        have hI2 : (p : Int) ≤ (text.size : Int) := by omega
        have hI3 : (0 : Int) ≤ (p : Int) := by omega
        have hT : (text.extract 0 (p + 1) ++ other).size ≤ 140737488355328 + 200 := by rw [ByteArray.size_append, extract_size (by omega)]; omega
        have hU : (text.extract 0 p).size ≤ 140737488355328 + 200 := by rw [extract_size (by omega)]; omega
        have HT := hide hT
        have HU := hide hU
        have hbh := HBH.out hlt
        clear hT hU
        by_cases hbig : 120 < p + 1 + other.size
        · rw [if_pos hbig] at hbh
          have e6 : decide ((120 : Int) < (p : Int) + 1 + (other.size : Int)) = true := by simp; omega
          have HT2 := hide hbh
          clear hbh hbig
          cases b5 <;> rcases HBE.out with hz | hz | ⟨kd, g, hz⟩
          all_goals
            have HZ := hide hz
            clear hz
            go_wp2_with fail
            refine (HNE.out _ HT.out w2).mono ?_
            rw [HT2.out]
            rintro e w3 ⟨hb3, rfl⟩
            have HB3 := hide hb3
            clear hb3
            go_wp2_with fail
            refine (HNE.out _ HU.out w3).mono ?_
            rw [HZ.out]
            first
            | (rintro e w4 ⟨hb4, rfl⟩)
            | (rintro e w4 ⟨hb4, pb, rfl, hL⟩; clear hL)
            have HB4 := hide hb4
            clear hb4
            go_wp2_with fail
            go_ret
            exact ⟨rfl, Below4 HB1.out HB2.out HB3.out HB4.out⟩
        · rw [if_neg hbig] at hbh
          have e6 : decide ((120 : Int) < (p : Int) + 1 + (other.size : Int)) = false := by simp; omega
          have HT2 := hide hbh
          clear hbh hbig
          cases b5 <;> rcases HBE.out with hz | hz | ⟨kd, g, hz⟩
          all_goals
            have HZ := hide hz
            clear hz
            go_wp2_with fail
            refine (HNE.out _ HT.out w2).mono ?_
            rw [HT2.out]
            rintro e w3 ⟨hb3, rfl⟩
            have HB3 := hide hb3
            clear hb3
            go_wp2_with fail
            refine (HNE.out _ HU.out w3).mono ?_
            rw [HZ.out]
            first
            | (rintro e w4 ⟨hb4, rfl⟩)
            | (rintro e w4 ⟨hb4, pb, rfl, hL⟩; clear hL)
            have HB4 := hide hb4
            clear hb4
            go_wp2_with fail
            go_ret
            exact ⟨rfl, Below4 HB1.out HB2.out HB3.out HB4.out⟩
    | true =>
      have hX := hno.2 rfl
      have hlen1 : 0 < text.size + 1 := by omega
      have hpk := pickF_lt cut (text.size + 1) hlen1
      have HPK := hide (fun W => pick_any cut (text.size + 1) hc hlen1 (by omega) W)
      generalize pickF cut (text.size + 1) = n at hpk HPK
      have HBE := hide (hbe n (by omega) (.inl rfl))
      have hI2 : (n : Int) ≤ (text.size : Int) := by omega
      have hI3 : (0 : Int) ≤ (n : Int) := by omega
      have hU : (text.extract 0 n).size ≤ 140737488355328 + 200 := by rw [extract_size (by omega)]; omega
      have HU := hide hU
      clear hno hbe hbh hgd hU
      rcases hX with hX | ⟨kd1, g1, hX⟩ <;> rcases HBE.out with hz | hz | ⟨kd, g, hz⟩
      all_goals
        have HX := hide hX
        have HZ := hide hz
        clear hX hz
        go_enter Try.func4, Try.ntmps4
        go_wp2_with fail
        refine HSU.out.mono ?_
        rintro e w1 ⟨rfl, hb1⟩
        have HB1 := hide hb1
        clear hb1
        go_wp2_with fail
        refine (HNE.out text (by omega) w1).mono ?_
        rw [HX.out]
        first
        | (rintro e w2 ⟨hb2, rfl⟩)
        | (rintro e w2 ⟨hb2, pb1, rfl, hL1⟩; clear hL1)
        have HB2 := hide hb2
        clear hb2
        go_wp2_with fail
        refine (HPK.out w2).mono ?_
        rintro e w3 ⟨rfl, rfl⟩
        go_wp2_with fail
        refine (HNE.out _ HU.out w3).mono ?_
        rw [HZ.out]
        first
        | (rintro e w4 ⟨hb4, rfl⟩)
        | (rintro e w4 ⟨hb4, pb, rfl, hL⟩; clear hL)
        have HB4 := hide hb4
        clear hb4
        go_wp2_with fail
        go_ret
        exact ⟨rfl, Below4 HB1.out HB2.out (Below.refl _ _) HB4.out⟩
end Go.Proofs.Ytcckhngbdoiikaa
