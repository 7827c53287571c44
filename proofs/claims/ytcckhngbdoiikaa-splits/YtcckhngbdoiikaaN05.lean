import Derived.Test.YtcckhngbdoiikaaN04

namespace Go.Proofs.Ytcckhngbdoiikaa
set_option linter.unusedVariables false

/-- The set of a text of one byte or more. -/
def stepS (R : RulesT) (s : PSet) (x : Nat) : PSet := (R.after s).and (R.allow x)
def setW (R : RulesT) : List Nat → PSet
  | [] => PSet.none
  | x :: w => w.foldl (stepS R) (R.first.and (R.allow x))
theorem setW_snoc (R : RulesT) (x : Nat) : ∀ (w : List Nat), w ≠ [] → setW R (w ++ [x]) = stepS R (setW R w) x
  | [], h => absurd rfl h
  | y :: w, _ => by simp [setW]
theorem setW_has (R : RulesT) (q : Nat) (w : List Nat) : w ≠ [] → ((setW R w).has q = true ↔ ∃ p, R.first.has p = true ∧ Reads R.F R.A p w q) := by
  generalize hn : w.length = n
  induction n using Nat.strongRecOn generalizing w q with
  | ind n ih =>
    intro hw
    obtain ⟨u, x, rfl⟩ : ∃ u x, w = u ++ [x] := ⟨w.dropLast, w.getLast hw, (List.dropLast_concat_getLast hw).symm⟩
    by_cases hu : u = []
    · subst hu
      show ((R.first.and (R.allow x)).has q = true) ↔ _
      rw [has_and, Bool.and_eq_true]
      constructor
      · rintro ⟨h1, h2⟩; exact ⟨q, h1, h2, rfl⟩
      · rintro ⟨p, h1, h2, rfl⟩; exact ⟨h1, h2⟩
    · rw [setW_snoc R x u hu]
      unfold stepS
      rw [has_and, Bool.and_eq_true, after_has]
      simp at hn
      constructor
      · rintro ⟨⟨i, h1, h2⟩, h3⟩
        obtain ⟨p, h4, h5⟩ := (ih u.length (by omega) i u rfl hu).1 h1
        exact ⟨p, h4, (Reads.snoc hu).2 ⟨⟨i, h5, h2⟩, h3⟩⟩
      · rintro ⟨p, h4, h5⟩
        obtain ⟨⟨i, h6, h7⟩, h3⟩ := (Reads.snoc hu).1 h5
        exact ⟨⟨i, (ih u.length (by omega) i u rfl hu).2 ⟨p, h4, h6⟩, h7⟩, h3⟩

/-- What holds of all rules so far. -/
structure RInv (R : RulesT) (ts : List Tree) : Prop where
  closed : Closed R
  first : ∀ p, R.first.has p = true → p < R.follow.length
  len : R.last.length = ts.length
  last : ∀ i p, (R.last.getD i PSet.none).has p = true → p < R.follow.length
  word : ∀ i, (h : i < ts.length) → ∀ w, w ≠ [] → ((∃ p q, R.first.has p = true ∧ (R.last.getD i PSet.none).has q = true ∧ Reads R.F R.A p w q) ↔ ts[i].Word w)
theorem RInv.new : RInv RulesT.new [] where
  closed := ⟨fun p q h => by simp [RulesT.F, RulesT.new, has_none] at h, fun p x h => by simp [RulesT.A, RulesT.new, has_none] at h⟩
  first := fun p h => by simp [RulesT.new, has_none] at h
  len := rfl
  last := fun i p h => by simp [RulesT.new, has_none] at h
  word := fun i h => by simp at h
theorem RInv.step {R : RulesT} {ts : List Tree} (h : RInv R ts) (t : Tree) (hn : R.follow.length + t.places ≤ 128) : RInv ((t.glush R).2.endRule (t.glush R).1) (ts ++ [t]) := by
  have g := glush_fits t R hn
  have c := fits_closed g h.closed
  have gw := glush_word t R hn h.closed
  generalize (t.glush R).1 = P at *
  generalize (t.glush R).2 = R1 at *
  have l1 := g.le
  have eF : (R1.endRule P).F = R1.F := rfl
  have eA : (R1.endRule P).A = R1.A := rfl
  have ef : ∀ p, (R1.endRule P).first.has p = true ↔ (R.first.has p = true ∨ P.first.has p = true) := by
    intro p
    show ((R1.first.or P.first).has p = true) ↔ _
    rw [has_or, Bool.or_eq_true, g.firstR]
  have el : (R1.endRule P).last = R.last ++ [P.last] := by show R1.last ++ [P.last] = _; rw [g.lastR]
  have elo : ∀ i, i < ts.length → (R1.endRule P).last.getD i PSet.none = R.last.getD i PSet.none := fun i hi => by
    rw [el, List.getD_eq_getElem?_getD, List.getElem?_append_left (by rw [h.len]; exact hi), ← List.getD_eq_getElem?_getD]
  have eln : (R1.endRule P).last.getD ts.length PSet.none = P.last := by rw [el, ← h.len]; simp
  refine ⟨c, fun p hp => ?_, by rw [el]; simp [h.len], fun i p hp => ?_, fun i hi w hw => ?_⟩
  · show p < R1.follow.length
    rcases (ef p).1 hp with e | e
    · have := h.first p e; omega
    · exact (g.first p e).2
  · show p < R1.follow.length
    by_cases hi : i < ts.length
    · rw [elo i hi] at hp; have := h.last i p hp; omega
    · by_cases hi2 : i = ts.length
      · rw [hi2, eln] at hp; exact (g.last p hp).2
      · have := has_of_mem hp; rw [el] at this; simp [h.len] at this; omega
  · rw [eF, eA]
    have hold : ∀ {p q : Nat} {w : List Nat}, p < R.follow.length → (Reads R1.F R1.A p w q ↔ Reads R.F R.A p w q) := fun hp => reads_old g h.closed.1 hp
    have hnew : ∀ {p q : Nat} {w : List Nat}, R.follow.length ≤ p → Reads R1.F R1.A p w q → R.follow.length ≤ q := fun hp hr =>
      Reads.inv (I := fun p => R.follow.length ≤ p) (fun p p' hi h => (g.newF p p' hi h).1) hp hr
    by_cases hi2 : i < ts.length
    · rw [elo i hi2, List.getElem_append_left hi2, ← h.word i hi2 w hw]
      constructor
      · rintro ⟨p, q, h1, h2, h3⟩
        rcases (ef p).1 h1 with e | e
        · exact ⟨p, q, e, h2, (hold (h.first p e)).1 h3⟩
        · have := hnew (g.first p e).1 h3
          have := h.last i q h2
          omega
      · rintro ⟨p, q, h1, h2, h3⟩
        exact ⟨p, q, (ef p).2 (.inl h1), h2, (hold (h.first p h1)).2 h3⟩
    · have hi3 : i = ts.length := by simp at hi; omega
      subst hi3
      rw [eln]
      simp only [List.getElem_append_right (Nat.le_refl _), Nat.sub_self, List.getElem_cons_zero]
      rw [← gw w]
      constructor
      · rintro ⟨p, q, h1, h2, h3⟩
        rcases (ef p).1 h1 with e | e
        · have h3' := (hold (h.first p e)).1 h3
          have := Reads.inv (I := fun p => p < R.follow.length) (fun p p' hi h' => h.closed.1 _ _ h') (h.first p e) h3'
          have := g.last q h2
          omega
        · exact .inr ⟨p, q, e, h2, h3⟩
      · rintro (⟨e, _⟩ | ⟨p, q, h1, h2, h3⟩)
        · exact absurd e hw
        · exact ⟨p, q, (ef p).2 (.inr h1), h2, h3⟩
/-- The rule of a text. -/
def TokIs (ts : List Tree) (w : List Nat) (r : Int) : Prop := (r = -1 ∧ ∀ i, (h : i < ts.length) → ¬ ts[i].Word w) ∨ ∃ i, ∃ h : i < ts.length, r = (i : Int) ∧ ts[i].Word w ∧ ∀ j, (hj : j < i) → ¬ (ts[j]'(by omega)).Word w
theorem TokIs.one {ts : List Tree} {w : List Nat} {r s : Int} (h : TokIs ts w r) (g : TokIs ts w s) : r = s := by
  rcases h with ⟨h1, h2⟩ | ⟨i, hi, h1, h2, h3⟩ <;> rcases g with ⟨g1, g2⟩ | ⟨j, hj, g1, g2, g3⟩
  · rw [h1, g1]
  · exact absurd g2 (h2 j hj)
  · exact absurd h2 (g2 i hi)
  · rcases Nat.lt_trichotomy i j with e | e | e
    · exact absurd h2 (g3 i e)
    · rw [h1, g1, e]
    · exact absurd g2 (h3 j e)
theorem idxF_get : ∀ (l : List PSet) (s : PSet), idxF l s < l.length → l.getD (idxF l s) PSet.none = s
  | [], s, h => by simp at h
  | x :: r, s, h => by
    unfold idxF at h ⊢
    split
    · rename_i e; simpa using e
    · rename_i e
      rw [if_neg e] at h
      simp at h
      simpa using idxF_get r s h
theorem idxF_mem : ∀ (l : List PSet) (s : PSet), idxF l s = l.length → s ∉ l
  | [], s, _ => by simp
  | x :: r, s, h => by
    unfold idxF at h
    split at h
    · simp at h
    · rename_i e
      simp at h
      have := idxF_mem r s h
      simp
      exact ⟨fun he => e he.symm, this⟩
theorem kindsAt_prefix (al : Nat → PSet) (b : Nat) : ∀ d, kindsAt al b <+: kindsAt al (b + d)
  | 0 => List.prefix_refl _
  | d + 1 => by
    refine (kindsAt_prefix al b d).trans ?_
    show kindsAt al (b + d) <+: (if idxF (kindsAt al (b + d)) (al (b + d)) = (kindsAt al (b + d)).length then kindsAt al (b + d) ++ [al (b + d)] else kindsAt al (b + d))
    split
    · exact List.prefix_append _ _
    · exact List.prefix_refl _
theorem prefix_getD {l m : List PSet} (h : l <+: m) {k : Nat} (hk : k < l.length) : m.getD k PSet.none = l.getD k PSet.none := by
  obtain ⟨r, rfl⟩ := h
  rw [List.getD_eq_getElem?_getD, List.getElem?_append_left hk, ← List.getD_eq_getElem?_getD]
theorem kindOf_get (al : Nat → PSet) (b n : Nat) (h : b < n) : kindOf al b < (kindsAt al n).length ∧ (kindsAt al n).getD (kindOf al b) PSet.none = al b := by
  have hp : kindsAt al (b + 1) <+: kindsAt al n := by
    have := kindsAt_prefix al (b + 1) (n - (b + 1))
    rwa [show b + 1 + (n - (b + 1)) = n by omega] at this
  have h1 := idxF_le (kindsAt al b) (al b)
  have e : kindsAt al (b + 1) = (if idxF (kindsAt al b) (al b) = (kindsAt al b).length then kindsAt al b ++ [al b] else kindsAt al b) := rfl
  have h2 : kindOf al b < (kindsAt al (b + 1)).length ∧ (kindsAt al (b + 1)).getD (kindOf al b) PSet.none = al b := by
    unfold kindOf
    rw [e]
    split
    · rename_i hx
      rw [hx]; simp
    · exact ⟨by omega, idxF_get _ _ (by omega)⟩
  refine ⟨by have := hp.length_le; omega, ?_⟩
  rw [prefix_getD hp h2.1, h2.2]

/-- Where a step leads, by the sets. -/
def StepOk (sets : List PSet) (to : Int) (s : PSet) : Prop := (s.isEmpty = true ∧ to = -1) ∨ (s.isEmpty = false ∧ ∃ m : Nat, to = (m : Int) ∧ m < sets.length ∧ sets.getD m PSet.none = s)
theorem StepOk.mono {l m : List PSet} {to : Int} {s : PSet} (h : StepOk l to s) (hp : l <+: m) : StepOk m to s := by
  rcases h with h | ⟨h1, k, h2, h3, h4⟩
  · exact .inl h
  · exact .inr ⟨h1, k, h2, by have := hp.length_le; omega, by rw [prefix_getD hp h3, h4]⟩
theorem rowF_sets (aft : PSet) : ∀ (kinds sets : List PSet), sets <+: (rowF aft kinds sets).2 ∧ (rowF aft kinds sets).1.length = kinds.length ∧ ∀ k, k < kinds.length → StepOk (rowF aft kinds sets).2 ((rowF aft kinds sets).1.getD k 0) (aft.and (kinds.getD k PSet.none))
  | [], sets => ⟨List.prefix_refl _, rfl, fun k hk => by simp at hk⟩
  | x :: r, sets => by
    unfold rowF
    simp only
    have ih := rowF_sets aft r (if findF sets (aft.and x) = (sets.length : Int) then sets ++ [aft.and x] else sets)
    have hp : sets <+: (if findF sets (aft.and x) = (sets.length : Int) then sets ++ [aft.and x] else sets) := by
      split
      · exact List.prefix_append _ _
      · exact List.prefix_refl _
    refine ⟨hp.trans ih.1, by simp [ih.2.1], fun k hk => ?_⟩
    cases k with
    | zero =>
      simp only [List.getD_cons_zero]
      refine StepOk.mono (l := (if findF sets (aft.and x) = (sets.length : Int) then sets ++ [aft.and x] else sets)) ?_ ih.1
      unfold findF
      cases he : (aft.and x).isEmpty with
      | true => exact .inl ⟨he, by simp⟩
      | false =>
        simp only [Bool.false_eq_true, if_false]
        refine .inr ⟨he, idxF sets (aft.and x), rfl, ?_⟩
        have hle := idxF_le sets (aft.and x)
        by_cases hx : (idxF sets (aft.and x) : Int) = (sets.length : Int)
        · rw [if_pos hx]
          have hx' : idxF sets (aft.and x) = sets.length := by omega
          rw [hx']; simp
        · rw [if_neg hx]
          exact ⟨by omega, idxF_get _ _ (by omega)⟩
    | succ k =>
      simp only [List.getD_cons_succ]
      exact ih.2.2 k (by simpa using hk)
/-- What holds of the graph of all sets. -/
structure ExOk (R : RulesT) (kinds sets : List PSet) (g : Graph) (i : Nat) : Prop where
  rl : g.rule.length = i
  nl : g.next.length = i
  zero : 0 < sets.length ∧ sets.getD 0 PSet.none = PSet.none
  rule : ∀ j, j < i → g.rule.getD j 0 = R.rule (sets.getD j PSet.none)
  row : ∀ j, j < i → (g.next.getD j []).length = kinds.length
  next : ∀ j, j < i → ∀ k, k < kinds.length → StepOk sets ((g.next.getD j []).getD k 0) ((if 0 < j then R.after (sets.getD j PSet.none) else R.first).and (kinds.getD k PSet.none))
theorem getD_snoc {α : Type} (l : List α) (x d : α) (j : Nat) : (l ++ [x]).getD j d = if j < l.length then l.getD j d else if j = l.length then x else d := by
  rw [List.getD_eq_getElem?_getD, List.getElem?_append]
  split
  · rw [← List.getD_eq_getElem?_getD]
  · split
    · rename_i h1 h2; rw [h2]; simp
    · rename_i h1 h2
      have : j - l.length ≠ 0 := by omega
      obtain ⟨m, hm⟩ := Nat.exists_eq_succ_of_ne_zero this
      rw [hm]; simp
/-- Going along kinds of bytes. -/
def stepK (g : Graph) (s : Int) (k : Nat) : Int := if s < 0 then -1 else (g.next.getD s.toNat []).getD k 0
def runK (g : Graph) (s : Int) (ks : List Nat) : Int := ks.foldl (stepK g) s
def accK (g : Graph) (s : Int) : Int := if s < 0 then -1 else g.rule.getD s.toNat 0
theorem runK_dead (g : Graph) : ∀ (ks : List Nat) (s : Int), s < 0 → runK g s ks = if ks = [] then s else -1
  | [], s, h => rfl
  | k :: ks, s, h => by
    show runK g (stepK g s k) ks = _
    have e : stepK g s k = -1 := by unfold stepK; rw [if_pos h]
    rw [e, runK_dead g ks (-1) (by omega)]
    simp
end Go.Proofs.Ytcckhngbdoiikaa
