import Derived.Test.YtmgpdaemcbbikaaPlainCongr
import Derived.Test.YtmgpdaemcbbikaaNew
namespace Go.Proofs.Ytmgpdaemcbbikaa
set_option linter.unusedVariables false

/-- es does on t what ex does on s, from place q0 on, where ex stands at k at most then. -/
def CongF (s : ByteArray) (k q0 : Nat) (ex es : PFn) : Prop := ∀ p R, q0 ≤ p → p ≤ s.size → R.follow.length ≤ p → (ex p R).at' ≤ k → es p R = ex p R
section
variable {s t : ByteArray} {k q0 : Nat} {ex es : PFn}
theorem groupF_congr (a : Agree s t k) (g : GoodF s ex) (c : CongF s k (q0 + 1) ex es) (p : Nat) (R : RulesT) (hq : q0 ≤ p) (hp : p < s.size) (hR : R.follow.length ≤ p) (h : (groupF s ex p R).at' ≤ k) : groupF t es p R = groupF s ex p R := by
  have hk : (ex (p + 1) R).at' ≤ k := by
    unfold groupF at h
    split at h
    · simp at h; omega
    · exact h
  unfold groupF
  rw [c (p + 1) R (by omega) (by omega) (by omega) hk, a _ hk]
theorem atomF_congr (a : Agree s t k) (g : GoodF s ex) (c : CongF s k (q0 + 1) ex es) : CongF s k q0 (atomF s ex) (atomF t es) := by
  intro p R hq hp hR h
  have gd := atomF_good g p R hp hR
  have hpk := a p (by have := gd.le; omega)
  unfold atomF at h ⊢
  rw [hpk]
  split at h
  · rename_i h1
    rw [if_pos h1, if_pos h1]
    exact groupF_congr a g c p R hq (peekI_in (by rw [h1]; decide)) hR h
  · rename_i h1
    have h2 : (placeF s p).2.2 ≤ k := by split at h <;> exact h
    rw [if_neg h1, if_neg h1, placeF_congr a p hp h2]
theorem markF_at (x : PRes) : x.at' ≤ (markF s x).at' := by
  unfold markF
  split
  · exact Nat.le_refl _
  · split
    · simp
    · split
      · simp
      · split <;> simp
theorem markF_congr (a : Agree s t k) (x : PRes) (h : (markF s x).at' ≤ k) : markF t x = markF s x := by
  have := markF_at (s := s) x
  unfold markF
  rw [a x.at' (by omega)]
theorem pieceF_congr (a : Agree s t k) (g : GoodF s ex) (c : CongF s k (q0 + 1) ex es) : CongF s k q0 (pieceF s ex) (pieceF t es) := by
  intro p R hq hp hR h
  have h1 := markF_at (s := s) (atomF s ex p R)
  unfold pieceF at h ⊢
  rw [atomF_congr a g c p R hq hp hR (by omega), markF_congr a _ h]
theorem altLoopF_at (g : GoodF s ex) {p : Nat} {R : RulesT} : ∀ (n : Nat) (r : PRes), Good s p R r → r.at' ≤ (altLoopF s ex n r).at'
  | 0, r, gr => Nat.le_refl _
  | n + 1, r, gr => by
    unfold altLoopF
    split
    · rename_i hc
      have h1 := altLoopF_at g n _ (altStep_good g gr hc.1)
      have q := pieceF_good g r.at' r.rules gr.top gr.few
      have := q.le
      exact Nat.le_trans this h1
    · exact Nat.le_refl _
theorem altLoopF_congr (a : Agree s t k) (g : GoodF s ex) (c : CongF s k (q0 + 1) ex es) {p : Nat} {R : RulesT} : ∀ (n m : Nat) (r : PRes), Good s p R r → q0 ≤ r.at' → (r.ok = true → s.size < n + r.at') → (r.ok = true → t.size < m + r.at') → (altLoopF s ex n r).at' ≤ k → altLoopF t es m r = altLoopF s ex n r
  | 0, m, r, gr, hq, hn, hm, h => by
    have hok : ¬ r.ok = true := fun e => by have := hn e; have := gr.top; omega
    rw [altLoopF_stop t es m r (fun e => hok e.1)]; rfl
  | n + 1, m, r, gr, hq, hn, hm, h => by
    have hrk : r.at' ≤ k := Nat.le_trans (altLoopF_at g (n + 1) r gr) h
    by_cases hc : r.ok = true ∧ endsB (peekI s r.at') = false
    · have q := pieceF_good g r.at' r.rules gr.top gr.few
      have gs := altStep_good g gr hc.1
      have e1 : altLoopF s ex (n + 1) r = altLoopF s ex n ⟨chainPart r.part (pieceF s ex r.at' r.rules).part, (pieceF s ex r.at' r.rules).ok, (pieceF s ex r.at' r.rules).at', (pieceF s ex r.at' r.rules).rules.chain r.part (pieceF s ex r.at' r.rules).part⟩ := by
        show (if _ then _ else _) = _; rw [if_pos hc]
      rw [e1] at h ⊢
      have hle := altLoopF_at g n _ gs
      have hpk : (pieceF s ex r.at' r.rules).at' ≤ k := Nat.le_trans hle h
      have hpc := pieceF_congr a g c r.at' r.rules hq gr.top gr.few hpk
      have hrt := a.le hrk gr.top
      match m with
      | 0 => exact absurd (hm hc.1) (by omega)
      | m + 1 =>
        have e2 : altLoopF t es (m + 1) r = altLoopF t es m ⟨chainPart r.part (pieceF s ex r.at' r.rules).part, (pieceF s ex r.at' r.rules).ok, (pieceF s ex r.at' r.rules).at', (pieceF s ex r.at' r.rules).rules.chain r.part (pieceF s ex r.at' r.rules).part⟩ := by
          show (if _ then _ else _) = _
          rw [a _ hrk, if_pos hc, hpc]
        rw [e2]
        refine altLoopF_congr a g c n m _ gs ?_ (fun e => ?_) (fun e => ?_) h
        · have := q.le; simp only; omega
        · have := q.ok e; have := hn hc.1; simp only; omega
        · have := q.ok e; have := hm hc.1; simp only; omega
    · rw [altLoopF_stop s ex (n + 1) r hc, altLoopF_stop t es m r (by rw [a _ hrk]; exact hc)]
theorem alternativeF_congr (a : Agree s t k) (g : GoodF s ex) (c : CongF s k (q0 + 1) ex es) : CongF s k q0 (alternativeF s ex) (alternativeF t es) := by
  intro p R hq hp hR h
  have gp := pieceF_good g p R hp hR
  have hle := altLoopF_at g (s.size + 1) _ gp
  unfold alternativeF at h ⊢
  have hpk : (pieceF s ex p R).at' ≤ k := Nat.le_trans hle h
  rw [pieceF_congr a g c p R hq hp hR hpk]
  exact altLoopF_congr a g c _ _ _ gp (by have := gp.le; omega) (fun _ => by omega) (fun _ => by omega) h
theorem exprLoopF_at (g : GoodF s ex) {p : Nat} {R : RulesT} : ∀ (n : Nat) (r : PRes), Good s p R r → r.at' ≤ (exprLoopF s ex n r).at'
  | 0, r, gr => Nat.le_refl _
  | n + 1, r, gr => by
    unfold exprLoopF
    split
    · rename_i hc
      have h1 := exprLoopF_at g n _ (exprStep_good g gr hc.1 hc.2)
      have hlt := peekI_in (s := s) (p := r.at') (by rw [hc.2]; decide)
      have q := alternativeF_good g (r.at' + 1) r.rules (by omega) (by have := gr.few; omega)
      have := q.le
      simp only at h1
      omega
    · exact Nat.le_refl _
theorem exprLoopF_congr (a : Agree s t k) (g : GoodF s ex) (c : CongF s k (q0 + 1) ex es) {p : Nat} {R : RulesT} : ∀ (n m : Nat) (r : PRes), Good s p R r → q0 ≤ r.at' → (r.ok = true → s.size < n + r.at') → (r.ok = true → t.size < m + r.at') → (exprLoopF s ex n r).at' ≤ k → exprLoopF t es m r = exprLoopF s ex n r
  | 0, m, r, gr, hq, hn, hm, h => by
    have hok : ¬ r.ok = true := fun e => by have := hn e; have := gr.top; omega
    rw [exprLoopF_stop t es m r (fun e => hok e.1)]; rfl
  | n + 1, m, r, gr, hq, hn, hm, h => by
    have hrk : r.at' ≤ k := Nat.le_trans (exprLoopF_at g (n + 1) r gr) h
    by_cases hc : r.ok = true ∧ peekI s r.at' = 124
    · have hlt := peekI_in (s := s) (p := r.at') (by rw [hc.2]; decide)
      have q := alternativeF_good g (r.at' + 1) r.rules (by omega) (by have := gr.few; omega)
      have gs := exprStep_good g gr hc.1 hc.2
      have e1 : exprLoopF s ex (n + 1) r = exprLoopF s ex n ⟨eitherPart r.part (alternativeF s ex (r.at' + 1) r.rules).part, (alternativeF s ex (r.at' + 1) r.rules).ok, (alternativeF s ex (r.at' + 1) r.rules).at', (alternativeF s ex (r.at' + 1) r.rules).rules⟩ := by
        show (if _ then _ else _) = _; rw [if_pos hc]
      rw [e1] at h ⊢
      have hle := exprLoopF_at g n _ gs
      have hpk : (alternativeF s ex (r.at' + 1) r.rules).at' ≤ k := Nat.le_trans hle h
      have hpc := alternativeF_congr a g c (r.at' + 1) r.rules (by omega) (by omega) (by have := gr.few; omega) hpk
      have hrt := a.le hrk gr.top
      match m with
      | 0 => exact absurd (hm hc.1) (by omega)
      | m + 1 =>
        have e2 : exprLoopF t es (m + 1) r = exprLoopF t es m ⟨eitherPart r.part (alternativeF s ex (r.at' + 1) r.rules).part, (alternativeF s ex (r.at' + 1) r.rules).ok, (alternativeF s ex (r.at' + 1) r.rules).at', (alternativeF s ex (r.at' + 1) r.rules).rules⟩ := by
          show (if _ then _ else _) = _
          rw [a _ hrk, if_pos hc, hpc]
        rw [e2]
        refine exprLoopF_congr a g c n m _ gs ?_ (fun e => ?_) (fun e => ?_) h
        · have := q.le; simp only; omega
        · have := q.ok e; have := hn hc.1; simp only; omega
        · have := q.ok e; have := hm hc.1; simp only; omega
    · rw [exprLoopF_stop s ex (n + 1) r hc, exprLoopF_stop t es m r (by rw [a _ hrk]; exact hc)]
theorem expressionF_congr (a : Agree s t k) (g : GoodF s ex) (c : CongF s k (q0 + 1) ex es) : CongF s k q0 (expressionF s ex) (expressionF t es) := by
  intro p R hq hp hR h
  have gp := alternativeF_good g p R hp hR
  have hle := exprLoopF_at g (s.size + 1) _ gp
  unfold expressionF at h ⊢
  have hpk : (alternativeF s ex p R).at' ≤ k := Nat.le_trans hle h
  rw [alternativeF_congr a g c p R hq hp hR hpk]
  exact exprLoopF_congr a g c _ _ _ gp (by have := gp.le; omega) (fun _ => by omega) (fun _ => by omega) h
end
theorem exprF_congr {s t : ByteArray} {k : Nat} (a : Agree s t k) : ∀ (f f' q0 : Nat), s.size < f + q0 → t.size < f' + q0 → CongF s k q0 (exprF s f) (exprF t f')
  | 0, f', q0, h1, h2 => fun p R hq hp hR h => absurd hp (by omega)
  | f + 1, f', q0, h1, h2 => fun p R hq hp hR h => by
    have gd := exprF_good s (f + 1) p R hp hR
    have hpt := a.le (p := p) (by have := gd.le; omega) hp
    match f' with
    | 0 => omega
    | f' + 1 => exact expressionF_congr a (exprF_good s f) (exprF_congr a f f' (q0 + 1) (by omega) (by omega)) p R hq hp hR h
theorem ruleF_congr {s t : ByteArray} {k : Nat} (a : Agree s t k) (p : Nat) (R : RulesT) (hp : p ≤ s.size) (hR : R.follow.length ≤ p) (h : (ruleF s p R).2.1 ≤ k) : ruleF t p R = ruleF s p R := by
  have h1 : (exprF s (s.size + 1) p R).at' ≤ k := by
    unfold ruleF at h
    split at h <;> exact h
  unfold ruleF
  rw [exprF_congr a (s.size + 1) (t.size + 1) 0 (by omega) (by omega) p R (by omega) hp hR h1]
theorem allLoopF_at (s : ByteArray) : ∀ (n : Nat) (r : Bool × Nat × RulesT), r.2.1 ≤ s.size ∧ r.2.2.follow.length ≤ r.2.1 ∧ r.2.2.last.length ≤ r.2.1 → r.2.1 ≤ (allLoopF s n r).2.1
  | 0, r, h => Nat.le_refl _
  | n + 1, r, h => by
    unfold allLoopF
    split
    · rename_i hc
      have hlt := peekI_in (s := s) (p := r.2.1) (by rw [hc.2]; decide)
      have g := ruleF_good s (r.2.1 + 1) r.2.2 (by omega) (by omega) (by omega)
      have := allLoopF_at s n _ ⟨g.top, g.few, g.last⟩
      have := g.le
      omega
    · exact Nat.le_refl _
theorem allLoopF_congr {s t : ByteArray} {k : Nat} (a : Agree s t k) : ∀ (n m : Nat) (r : Bool × Nat × RulesT), r.2.1 ≤ s.size ∧ r.2.2.follow.length ≤ r.2.1 ∧ r.2.2.last.length ≤ r.2.1 → (r.1 = true → s.size < n + r.2.1) → (r.1 = true → t.size < m + r.2.1) → (allLoopF s n r).2.1 ≤ k → allLoopF t m r = allLoopF s n r
  | 0, m, r, g, hn, hm, h => by
    have hok : ¬ r.1 = true := fun e => by have := hn e; omega
    rw [allLoopF_stop t m r (fun e => hok e.1)]; rfl
  | n + 1, m, r, gr, hn, hm, h => by
    have hrk : r.2.1 ≤ k := Nat.le_trans (allLoopF_at s (n + 1) r gr) h
    by_cases hc : r.1 = true ∧ peekI s r.2.1 = 10
    · have hlt := peekI_in (s := s) (p := r.2.1) (by rw [hc.2]; decide)
      have g := ruleF_good s (r.2.1 + 1) r.2.2 (by omega) (by omega) (by omega)
      have e1 : allLoopF s (n + 1) r = allLoopF s n (ruleF s (r.2.1 + 1) r.2.2) := by
        show (if _ then _ else _) = _; rw [if_pos hc]
      rw [e1] at h ⊢
      have hle := allLoopF_at s n _ ⟨g.top, g.few, g.last⟩
      have hru := ruleF_congr a (r.2.1 + 1) r.2.2 (by omega) (by omega) (by omega)
      have hrt := a.le hrk gr.1
      match m with
      | 0 => exact absurd (hm hc.1) (by omega)
      | m + 1 =>
        have e2 : allLoopF t (m + 1) r = allLoopF t m (ruleF s (r.2.1 + 1) r.2.2) := by
          show (if _ then _ else _) = _
          rw [a _ hrk, if_pos hc, hru]
        rw [e2]
        exact allLoopF_congr a n m _ ⟨g.top, g.few, g.last⟩ (fun e => by have := g.ok e; have := hn hc.1; omega) (fun e => by have := g.ok e; have := hm hc.1; omega) h
    · rw [allLoopF_stop s (n + 1) r hc, allLoopF_stop t m r (by rw [a _ hrk]; exact hc)]
theorem allF_congr {s t : ByteArray} {k : Nat} (a : Agree s t k) (h : (allF s).2.1 ≤ k) : allF t = allF s := by
  have g := ruleF_good s 0 RulesT.new (by omega) (by simp [RulesT.new]) (by simp [RulesT.new])
  have hg : (ruleF s 0 RulesT.new).2.1 ≤ s.size ∧ (ruleF s 0 RulesT.new).2.2.follow.length ≤ (ruleF s 0 RulesT.new).2.1 ∧ (ruleF s 0 RulesT.new).2.2.last.length ≤ (ruleF s 0 RulesT.new).2.1 := ⟨g.top, g.few, g.last⟩
  have hat : (allLoopF s (s.size + 1) (ruleF s 0 RulesT.new)).2.1 ≤ k := h
  have hle := allLoopF_at s (s.size + 1) _ hg
  have h1 := ruleF_congr a 0 RulesT.new (by omega) (by simp [RulesT.new]) (by omega)
  have h2 := allLoopF_congr a (s.size + 1) (t.size + 1) _ hg (fun _ => by omega) (fun _ => by omega) hat
  unfold allF
  rw [h1, h2]
  simp only
  rw [a _ hat]
end Go.Proofs.Ytmgpdaemcbbikaa
