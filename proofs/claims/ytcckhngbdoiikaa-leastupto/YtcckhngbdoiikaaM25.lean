import Derived.Test.YtcckhngbdoiikaaM24
import Derived.Test.YtcckhngbdoiikaaM01

namespace Go.Proofs.Ytcckhngbdoiikaa
set_option linter.unusedVariables false

/-- The set of a text of one byte or more. -/
def stepS (R : RulesT) (s : PSet) (x : Nat) : PSet := (R.after s).and (R.allow x)
def setW (R : RulesT) : List Nat → PSet
  | [] => PSet.none
  | x :: w => w.foldl (stepS R) (R.first.and (R.allow x))
theorem setW_snoc (R : RulesT) (x : Nat) : ∀ (w : List Nat), w ≠ [] → setW R (w ++ [x]) = stepS R (setW R w) x
  | [], h => absurd rfl h
  | y :: w, _ => by simp [setW]
theorem setW_has (R : RulesT) (q : Nat) (w : List Nat) : w ≠ [] → ((setW R w).has q = true ↔ ∃ p, R.first.has p = true ∧ Reads R.F R.A p w q) := by
  generalize hn : w.length = n
  induction n using Nat.strongRecOn generalizing w q with
  | ind n ih =>
    intro hw
    obtain ⟨u, x, rfl⟩ : ∃ u x, w = u ++ [x] := ⟨w.dropLast, w.getLast hw, (List.dropLast_concat_getLast hw).symm⟩
    by_cases hu : u = []
    · subst hu
      show ((R.first.and (R.allow x)).has q = true) ↔ _
      rw [has_and, Bool.and_eq_true]
      constructor
      · rintro ⟨h1, h2⟩; exact ⟨q, h1, h2, rfl⟩
      · rintro ⟨p, h1, h2, rfl⟩; exact ⟨h1, h2⟩
    · rw [setW_snoc R x u hu]
      unfold stepS
      rw [has_and, Bool.and_eq_true, after_has]
      simp at hn
      constructor
      · rintro ⟨⟨i, h1, h2⟩, h3⟩
        obtain ⟨p, h4, h5⟩ := (ih u.length (by omega) i u rfl hu).1 h1
        exact ⟨p, h4, (Reads.snoc hu).2 ⟨⟨i, h5, h2⟩, h3⟩⟩
      · rintro ⟨p, h4, h5⟩
        obtain ⟨⟨i, h6, h7⟩, h3⟩ := (Reads.snoc hu).1 h5
        exact ⟨⟨i, (ih u.length (by omega) i u rfl hu).2 ⟨p, h4, h6⟩, h7⟩, h3⟩

def placesAll : List Tree → Nat
  | [] => 0
  | t :: ts => t.places + placesAll ts
/-- What holds of all rules so far. -/
structure RInv (R : RulesT) (ts : List Tree) : Prop where
  closed : Closed R
  first : ∀ p, R.first.has p = true → p < R.follow.length
  len : R.last.length = ts.length
  last : ∀ i p, (R.last.getD i PSet.none).has p = true → p < R.follow.length
  word : ∀ i, (h : i < ts.length) → ∀ w, w ≠ [] → ((∃ p q, R.first.has p = true ∧ (R.last.getD i PSet.none).has q = true ∧ Reads R.F R.A p w q) ↔ ts[i].Word w)
theorem RInv.new : RInv RulesT.new [] where
  closed := ⟨fun p q h => by simp [RulesT.F, RulesT.new, has_none] at h, fun p x h => by simp [RulesT.A, RulesT.new, has_none] at h⟩
  first := fun p h => by simp [RulesT.new, has_none] at h
  len := rfl
  last := fun i p h => by simp [RulesT.new, has_none] at h
  word := fun i h => by simp at h
theorem RInv.step {R : RulesT} {ts : List Tree} (h : RInv R ts) (t : Tree) (hn : R.follow.length + t.places ≤ 128) : RInv ((t.glush R).2.endRule (t.glush R).1) (ts ++ [t]) := by
  have g := glush_fits t R hn
  have c := fits_closed g h.closed
  have gw := glush_word t R hn h.closed
  generalize (t.glush R).1 = P at *
  generalize (t.glush R).2 = R1 at *
  have l1 := g.le
  have eF : (R1.endRule P).F = R1.F := rfl
  have eA : (R1.endRule P).A = R1.A := rfl
  have ef : ∀ p, (R1.endRule P).first.has p = true ↔ (R.first.has p = true ∨ P.first.has p = true) := by
    intro p
    show ((R1.first.or P.first).has p = true) ↔ _
    rw [has_or, Bool.or_eq_true, g.firstR]
  have el : (R1.endRule P).last = R.last ++ [P.last] := by show R1.last ++ [P.last] = _; rw [g.lastR]
  have elo : ∀ i, i < ts.length → (R1.endRule P).last.getD i PSet.none = R.last.getD i PSet.none := fun i hi => by
    rw [el, List.getD_eq_getElem?_getD, List.getElem?_append_left (by rw [h.len]; exact hi), ← List.getD_eq_getElem?_getD]
  have eln : (R1.endRule P).last.getD ts.length PSet.none = P.last := by rw [el, ← h.len]; simp
  refine ⟨c, fun p hp => ?_, by rw [el]; simp [h.len], fun i p hp => ?_, fun i hi w hw => ?_⟩
  · show p < R1.follow.length
    rcases (ef p).1 hp with e | e
    · have := h.first p e; omega
    · exact (g.first p e).2
  · show p < R1.follow.length
    by_cases hi : i < ts.length
    · rw [elo i hi] at hp; have := h.last i p hp; omega
    · by_cases hi2 : i = ts.length
      · rw [hi2, eln] at hp; exact (g.last p hp).2
      · have := has_of_mem hp; rw [el] at this; simp [h.len] at this; omega
  · rw [eF, eA]
    have hold : ∀ {p q : Nat} {w : List Nat}, p < R.follow.length → (Reads R1.F R1.A p w q ↔ Reads R.F R.A p w q) := fun hp => reads_old g h.closed.1 hp
    have hnew : ∀ {p q : Nat} {w : List Nat}, R.follow.length ≤ p → Reads R1.F R1.A p w q → R.follow.length ≤ q := fun hp hr =>
      Reads.inv (I := fun p => R.follow.length ≤ p) (fun p p' hi h => (g.newF p p' hi h).1) hp hr
    by_cases hi2 : i < ts.length
    · rw [elo i hi2, List.getElem_append_left hi2, ← h.word i hi2 w hw]
      constructor
      · rintro ⟨p, q, h1, h2, h3⟩
        rcases (ef p).1 h1 with e | e
        · exact ⟨p, q, e, h2, (hold (h.first p e)).1 h3⟩
        · have := hnew (g.first p e).1 h3
          have := h.last i q h2
          omega
      · rintro ⟨p, q, h1, h2, h3⟩
        exact ⟨p, q, (ef p).2 (.inl h1), h2, (hold (h.first p h1)).2 h3⟩
    · have hi3 : i = ts.length := by simp at hi; omega
      subst hi3
      rw [eln]
      simp only [List.getElem_append_right (Nat.le_refl _), Nat.sub_self, List.getElem_cons_zero]
      rw [← gw w]
      constructor
      · rintro ⟨p, q, h1, h2, h3⟩
        rcases (ef p).1 h1 with e | e
        · have h3' := (hold (h.first p e)).1 h3
          have := Reads.inv (I := fun p => p < R.follow.length) (fun p p' hi h' => h.closed.1 _ _ h') (h.first p e) h3'
          have := g.last q h2
          omega
        · exact .inr ⟨p, q, e, h2, h3⟩
      · rintro (⟨e, _⟩ | ⟨p, q, h1, h2, h3⟩)
        · exact absurd e hw
        · exact ⟨p, q, (ef p).2 (.inr h1), h2, h3⟩
theorem glushAll_len : ∀ (ts : List Tree) (R : RulesT), (glushAll ts R).follow.length = R.follow.length + placesAll ts
  | [], R => rfl
  | t :: ts, R => by
    unfold glushAll placesAll
    rw [glushAll_len ts]
    show (t.glush R).2.follow.length + _ = _
    rw [glush_len]; omega
theorem glushAll_inv : ∀ (ts us : List Tree) (R : RulesT), RInv R us → R.follow.length + placesAll ts ≤ 128 → RInv (glushAll ts R) (us ++ ts)
  | [], us, R, h, _ => by rw [List.append_nil]; exact h
  | t :: ts, us, R, h, hn => by
    unfold placesAll at hn
    unfold glushAll
    have := glushAll_inv ts (us ++ [t]) _ (h.step t (by omega)) (by show (t.glush R).2.follow.length + _ ≤ 128; rw [glush_len]; omega)
    simpa using this
theorem rules_inv (ts : List Tree) (hn : placesAll ts ≤ 128) : RInv (glushAll ts RulesT.new) ts := by
  have := glushAll_inv ts [] RulesT.new RInv.new (by simp [RulesT.new]; exact hn)
  simpa using this

/-- The rule of a text. -/
def TokIs (ts : List Tree) (w : List Nat) (r : Int) : Prop := (r = -1 ∧ ∀ i, (h : i < ts.length) → ¬ ts[i].Word w) ∨ ∃ i, ∃ h : i < ts.length, r = (i : Int) ∧ ts[i].Word w ∧ ∀ j, (hj : j < i) → ¬ (ts[j]'(by omega)).Word w
theorem TokIs.one {ts : List Tree} {w : List Nat} {r s : Int} (h : TokIs ts w r) (g : TokIs ts w s) : r = s := by
  rcases h with ⟨h1, h2⟩ | ⟨i, hi, h1, h2, h3⟩ <;> rcases g with ⟨g1, g2⟩ | ⟨j, hj, g1, g2, g3⟩
  · rw [h1, g1]
  · exact absurd g2 (h2 j hj)
  · exact absurd h2 (g2 i hi)
  · rcases Nat.lt_trichotomy i j with e | e | e
    · exact absurd h2 (g3 i e)
    · rw [h1, g1, e]
    · exact absurd g2 (h3 j e)
theorem rule_tok {R : RulesT} {ts : List Tree} (h : RInv R ts) (w : List Nat) (hw : w ≠ []) : TokIs ts w (R.rule (setW R w)) := by
  have hm : ∀ i, (hi : i < ts.length) → ((setW R w).meets (R.last.getD i PSet.none) = true ↔ ts[i].Word w) := by
    intro i hi
    rw [meets_iff, ← h.word i hi w hw]
    constructor
    · rintro ⟨q, h1, h2⟩
      obtain ⟨p, h3, h4⟩ := (setW_has R q w hw).1 h1
      exact ⟨p, q, h3, h2, h4⟩
    · rintro ⟨p, q, h1, h2, h3⟩
      exact ⟨q, (setW_has R q w hw).2 ⟨p, h1, h3⟩, h2⟩
  unfold RulesT.rule
  rcases ruleFrom_spec (setW R w) R.last 0 with ⟨h1, h2⟩ | ⟨i, h1, h2, h3, h4⟩
  · refine .inl ⟨h1, fun i hi hW => ?_⟩
    have := (hm i hi).2 hW
    rw [h2 i (by rw [h.len]; exact hi)] at this
    cases this
  · rw [h.len] at h1
    refine .inr ⟨i, h1, by rw [h2]; simp, (hm i h1).1 h3, fun j hj hW => ?_⟩
    have := (hm j (by omega)).2 hW
    rw [h4 j hj] at this
    cases this

theorem idxF_get : ∀ (l : List PSet) (s : PSet), idxF l s < l.length → l.getD (idxF l s) PSet.none = s
  | [], s, h => by simp at h
  | x :: r, s, h => by
    unfold idxF at h ⊢
    split
    · rename_i e; simpa using e
    · rename_i e
      rw [if_neg e] at h
      simp at h
      simpa using idxF_get r s h
theorem idxF_mem : ∀ (l : List PSet) (s : PSet), idxF l s = l.length → s ∉ l
  | [], s, _ => by simp
  | x :: r, s, h => by
    unfold idxF at h
    split at h
    · simp at h
    · rename_i e
      simp at h
      have := idxF_mem r s h
      simp
      exact ⟨fun he => e he.symm, this⟩
theorem kindsAt_prefix (al : Nat → PSet) (b : Nat) : ∀ d, kindsAt al b <+: kindsAt al (b + d)
  | 0 => List.prefix_refl _
  | d + 1 => by
    refine (kindsAt_prefix al b d).trans ?_
    show kindsAt al (b + d) <+: (if idxF (kindsAt al (b + d)) (al (b + d)) = (kindsAt al (b + d)).length then kindsAt al (b + d) ++ [al (b + d)] else kindsAt al (b + d))
    split
    · exact List.prefix_append _ _
    · exact List.prefix_refl _
theorem prefix_getD {l m : List PSet} (h : l <+: m) {k : Nat} (hk : k < l.length) : m.getD k PSet.none = l.getD k PSet.none := by
  obtain ⟨r, rfl⟩ := h
  rw [List.getD_eq_getElem?_getD, List.getElem?_append_left hk, ← List.getD_eq_getElem?_getD]
theorem kindOf_get (al : Nat → PSet) (b n : Nat) (h : b < n) : kindOf al b < (kindsAt al n).length ∧ (kindsAt al n).getD (kindOf al b) PSet.none = al b := by
  have hp : kindsAt al (b + 1) <+: kindsAt al n := by
    have := kindsAt_prefix al (b + 1) (n - (b + 1))
    rwa [show b + 1 + (n - (b + 1)) = n by omega] at this
  have h1 := idxF_le (kindsAt al b) (al b)
  have e : kindsAt al (b + 1) = (if idxF (kindsAt al b) (al b) = (kindsAt al b).length then kindsAt al b ++ [al b] else kindsAt al b) := rfl
  have h2 : kindOf al b < (kindsAt al (b + 1)).length ∧ (kindsAt al (b + 1)).getD (kindOf al b) PSet.none = al b := by
    unfold kindOf
    rw [e]
    split
    · rename_i hx
      rw [hx]; simp
    · exact ⟨by omega, idxF_get _ _ (by omega)⟩
  refine ⟨by have := hp.length_le; omega, ?_⟩
  rw [prefix_getD hp h2.1, h2.2]

/-- Where a step leads, by the sets. -/
def StepOk (sets : List PSet) (to : Int) (s : PSet) : Prop := (s.isEmpty = true ∧ to = -1) ∨ (s.isEmpty = false ∧ ∃ m : Nat, to = (m : Int) ∧ m < sets.length ∧ sets.getD m PSet.none = s)
theorem StepOk.mono {l m : List PSet} {to : Int} {s : PSet} (h : StepOk l to s) (hp : l <+: m) : StepOk m to s := by
  rcases h with h | ⟨h1, k, h2, h3, h4⟩
  · exact .inl h
  · exact .inr ⟨h1, k, h2, by have := hp.length_le; omega, by rw [prefix_getD hp h3, h4]⟩
theorem rowF_sets (aft : PSet) : ∀ (kinds sets : List PSet), sets <+: (rowF aft kinds sets).2 ∧ (rowF aft kinds sets).1.length = kinds.length ∧ ∀ k, k < kinds.length → StepOk (rowF aft kinds sets).2 ((rowF aft kinds sets).1.getD k 0) (aft.and (kinds.getD k PSet.none))
  | [], sets => ⟨List.prefix_refl _, rfl, fun k hk => by simp at hk⟩
  | x :: r, sets => by
    unfold rowF
    simp only
    have ih := rowF_sets aft r (if findF sets (aft.and x) = (sets.length : Int) then sets ++ [aft.and x] else sets)
    have hp : sets <+: (if findF sets (aft.and x) = (sets.length : Int) then sets ++ [aft.and x] else sets) := by
      split
      · exact List.prefix_append _ _
      · exact List.prefix_refl _
    refine ⟨hp.trans ih.1, by simp [ih.2.1], fun k hk => ?_⟩
    cases k with
    | zero =>
      simp only [List.getD_cons_zero]
      refine StepOk.mono (l := (if findF sets (aft.and x) = (sets.length : Int) then sets ++ [aft.and x] else sets)) ?_ ih.1
      unfold findF
      cases he : (aft.and x).isEmpty with
      | true => exact .inl ⟨he, by simp⟩
      | false =>
        simp only [Bool.false_eq_true, if_false]
        refine .inr ⟨he, idxF sets (aft.and x), rfl, ?_⟩
        have hle := idxF_le sets (aft.and x)
        by_cases hx : (idxF sets (aft.and x) : Int) = (sets.length : Int)
        · rw [if_pos hx]
          have hx' : idxF sets (aft.and x) = sets.length := by omega
          rw [hx']; simp
        · rw [if_neg hx]
          exact ⟨by omega, idxF_get _ _ (by omega)⟩
    | succ k =>
      simp only [List.getD_cons_succ]
      exact ih.2.2 k (by simpa using hk)
/-- What holds of the graph of all sets. -/
structure ExOk (R : RulesT) (kinds sets : List PSet) (g : Graph) (i : Nat) : Prop where
  rl : g.rule.length = i
  nl : g.next.length = i
  zero : 0 < sets.length ∧ sets.getD 0 PSet.none = PSet.none
  rule : ∀ j, j < i → g.rule.getD j 0 = R.rule (sets.getD j PSet.none)
  row : ∀ j, j < i → (g.next.getD j []).length = kinds.length
  next : ∀ j, j < i → ∀ k, k < kinds.length → StepOk sets ((g.next.getD j []).getD k 0) ((if 0 < j then R.after (sets.getD j PSet.none) else R.first).and (kinds.getD k PSet.none))
theorem getD_snoc {α : Type} (l : List α) (x d : α) (j : Nat) : (l ++ [x]).getD j d = if j < l.length then l.getD j d else if j = l.length then x else d := by
  rw [List.getD_eq_getElem?_getD, List.getElem?_append]
  split
  · rw [← List.getD_eq_getElem?_getD]
  · split
    · rename_i h1 h2; rw [h2]; simp
    · rename_i h1 h2
      have : j - l.length ≠ 0 := by omega
      obtain ⟨m, hm⟩ := Nat.exists_eq_succ_of_ne_zero this
      rw [hm]; simp
theorem exploreLoop_sets (R : RulesT) (kinds : List PSet) : ∀ (n i : Nat) (sets : List PSet) (g g' : Graph), exploreLoop R kinds n i sets g = some g' → ExOk R kinds sets g i → i ≤ sets.length → ∃ sets', ExOk R kinds sets' g' sets'.length
  | 0, i, sets, g, g', h, _, _ => by simp [exploreLoop] at h
  | n + 1, i, sets, g, g', h, ho, hi => by
    unfold exploreLoop at h
    by_cases hlt : i < sets.length
    · rw [if_pos hlt] at h
      generalize haft : (if 0 < i then R.after (sets.getD i PSet.none) else R.first) = aft at h
      have hr := rowF_sets aft kinds sets
      generalize hrow : rowF aft kinds sets = r at h hr
      simp only at h
      split at h
      · cases h
      · have hle := hr.1.length_le
        refine exploreLoop_sets R kinds n (i + 1) _ _ g' h ?_ (by omega)
        refine ⟨by simp [ho.rl], by simp [ho.nl], ⟨by omega, by rw [prefix_getD hr.1 ho.zero.1]; exact ho.zero.2⟩, fun j hj => ?_, fun j hj => ?_, fun j hj k hk => ?_⟩
        · rw [getD_snoc, ho.rl]
          split
          · rename_i h1; rw [ho.rule j h1, prefix_getD hr.1 (by omega)]
          · rw [if_pos (by omega), show j = i by omega]
        · rw [getD_snoc, ho.nl]
          split
          · rename_i h1; exact ho.row j h1
          · rw [if_pos (by omega)]; exact hr.2.1
        · rw [getD_snoc, ho.nl]
          split
          · rename_i h1
            rw [prefix_getD hr.1 (by omega : j < sets.length)]
            exact (ho.next j h1 k hk).mono hr.1
          · rw [if_pos (by omega), prefix_getD hr.1 (by omega : j < sets.length), show j = i by omega, haft]
            exact hr.2.2 k hk
    · rw [if_neg hlt] at h
      cases h
      have : i = sets.length := by omega
      subst this
      exact ⟨sets, ho⟩
theorem exploreF_sets {R : RulesT} {kinds : List PSet} {g : Graph} (h : exploreF R kinds = some g) : ∃ sets, ExOk R kinds sets g sets.length :=
  exploreLoop_sets R kinds 63 0 [PSet.none] Graph.new g h ⟨rfl, rfl, ⟨by simp, rfl⟩, fun j hj => by omega, fun j hj => by omega, fun j hj => by omega⟩ (by simp)

/-- Going along kinds of bytes. -/
def stepK (g : Graph) (s : Int) (k : Nat) : Int := if s < 0 then -1 else (g.next.getD s.toNat []).getD k 0
def runK (g : Graph) (s : Int) (ks : List Nat) : Int := ks.foldl (stepK g) s
def accK (g : Graph) (s : Int) : Int := if s < 0 then -1 else g.rule.getD s.toNat 0
theorem runK_dead (g : Graph) : ∀ (ks : List Nat) (s : Int), s < 0 → runK g s ks = if ks = [] then s else -1
  | [], s, h => rfl
  | k :: ks, s, h => by
    show runK g (stepK g s k) ks = _
    have e : stepK g s k = -1 := by unfold stepK; rw [if_pos h]
    rw [e, runK_dead g ks (-1) (by omega)]
    simp
/-- Along a text from the beginning: the node of its set. -/
theorem explore_run {R : RulesT} {kinds sets : List PSet} {g : Graph} (ho : ExOk R kinds sets g sets.length) (hk : ∀ b, b < 256 → kindOf R.allow b < kinds.length ∧ kinds.getD (kindOf R.allow b) PSet.none = R.allow b) (w : List Nat) :
    w ≠ [] → (∀ x ∈ w, x < 256) → ((runK g 0 (w.map (kindOf R.allow)) = -1 ∧ (setW R w).isEmpty = true) ∨ ∃ m : Nat, runK g 0 (w.map (kindOf R.allow)) = (m : Int) ∧ 0 < m ∧ m < sets.length ∧ sets.getD m PSet.none = setW R w) := by
  generalize hn : w.length = n
  induction n using Nat.strongRecOn generalizing w with
  | ind n ih =>
    intro hw hx
    obtain ⟨u, x, rfl⟩ : ∃ u x, w = u ++ [x] := ⟨w.dropLast, w.getLast hw, (List.dropLast_concat_getLast hw).symm⟩
    have hb := hk x (hx x (by simp))
    have key : ∀ (j : Nat), j < sets.length → ∀ s, (if 0 < j then R.after (sets.getD j PSet.none) else R.first).and (R.allow x) = s → ((stepK g (j : Int) (kindOf R.allow x) = -1 ∧ s.isEmpty = true) ∨ ∃ m : Nat, stepK g (j : Int) (kindOf R.allow x) = (m : Int) ∧ 0 < m ∧ m < sets.length ∧ sets.getD m PSet.none = s) := by
      intro j hj s hs
      have h1 := ho.next j hj (kindOf R.allow x) hb.1
      rw [hb.2, hs] at h1
      unfold stepK
      rw [if_neg (by omega), Int.toNat_natCast]
      rcases h1 with ⟨h2, h3⟩ | ⟨h2, m, h3, h4, h5⟩
      · exact .inl ⟨h3, h2⟩
      · refine .inr ⟨m, h3, ?_, h4, h5⟩
        refine Nat.pos_of_ne_zero fun e => ?_
        rw [e, ho.zero.2] at h5
        rw [← h5] at h2
        cases h2
    by_cases hu : u = []
    · subst hu
      exact key 0 ho.zero.1 _ rfl
    · simp at hn
      have hi := ih u.length (by omega) u rfl hu (fun y hy => hx y (by simp [hy]))
      rw [setW_snoc R x u hu]
      have er : runK g 0 ((u ++ [x]).map (kindOf R.allow)) = stepK g (runK g 0 (u.map (kindOf R.allow))) (kindOf R.allow x) := by simp [runK]
      rw [er]
      rcases hi with ⟨h1, h2⟩ | ⟨m, h1, h2, h3, h4⟩
      · left
        rw [h1]
        refine ⟨by unfold stepK; rw [if_pos (by omega)], ?_⟩
        rw [isEmpty_iff] at h2 ⊢
        intro p
        unfold stepS
        rw [has_and]
        cases e : (R.after (setW R u)).has p with
        | false => rfl
        | true =>
          obtain ⟨i, h3, _⟩ := (after_has R (setW R u) p).1 e
          rw [h2 i] at h3
          cases h3
      · rw [h1]
        exact key m h3 _ (by rw [if_pos h2, h4]; rfl)
theorem rule_empty (R : RulesT) (s : PSet) (h : s.isEmpty = true) : R.rule s = -1 := by
  unfold RulesT.rule
  rcases ruleFrom_spec s R.last 0 with ⟨h1, _⟩ | ⟨i, h1, h2, h3, h4⟩
  · exact h1
  · obtain ⟨p, h5, _⟩ := (meets_iff _ _).1 h3
    rw [(isEmpty_iff s).1 h p] at h5
    cases h5
theorem explore_acc {R : RulesT} {kinds sets : List PSet} {g : Graph} (ho : ExOk R kinds sets g sets.length) (hk : ∀ b, b < 256 → kindOf R.allow b < kinds.length ∧ kinds.getD (kindOf R.allow b) PSet.none = R.allow b) (w : List Nat) (hx : ∀ x ∈ w, x < 256) :
    accK g (runK g 0 (w.map (kindOf R.allow))) = R.rule (setW R w) := by
  by_cases hw : w = []
  · subst hw
    show accK g 0 = R.rule PSet.none
    unfold accK
    rw [if_neg (by omega)]
    have := ho.rule 0 ho.zero.1
    rw [ho.zero.2] at this
    exact this
  · rcases explore_run ho hk w hw hx with ⟨h1, h2⟩ | ⟨m, h1, h2, h3, h4⟩
    · rw [h1, rule_empty R _ h2]; rfl
    · rw [h1]
      unfold accK
      rw [if_neg (by omega), Int.toNat_natCast, ho.rule m h3, h4]
end Go.Proofs.Ytcckhngbdoiikaa

namespace Go.Proofs.Ytcckhngbdoiikaa
set_option linter.unusedVariables false

def seg (L : List Nat) (p q : Nat) : List Nat := (L.drop p).take (q - p)
theorem seg_len {L : List Nat} {p q : Nat} (h : q ≤ L.length) : (seg L p q).length = q - p := by simp [seg]; omega
theorem seg_join {L : List Nat} {p m q : Nat} (h1 : p ≤ m) (h2 : m ≤ q) : seg L p m ++ seg L m q = seg L p q := by
  unfold seg
  have e : L.drop m = (L.drop p).drop (m - p) := by rw [List.drop_drop]; congr 1; omega
  have e2 : q - p = (m - p) + (q - m) := by omega
  rw [e, e2, List.take_add]
theorem seg_split {L : List Nat} {p q : Nat} {u v : List Nat} (hpq : p ≤ q) (hq : q ≤ L.length) (h : seg L p q = u ++ v) : ∃ m, p ≤ m ∧ m ≤ q ∧ seg L p m = u ∧ seg L m q = v := by
  have hl := seg_len (L := L) (p := p) hq
  rw [h] at hl
  simp at hl
  have h2 := seg_join (L := L) (p := p) (m := p + u.length) (q := q) (by omega) (by omega)
  rw [h] at h2
  have h3 := List.append_inj h2 (by rw [seg_len (by omega)]; omega)
  exact ⟨p + u.length, by omega, by omega, h3.1, h3.2⟩
theorem seg_nil {L : List Nat} {p q : Nat} (hpq : p ≤ q) (hq : q ≤ L.length) (h : seg L p q = []) : p = q := by
  have := seg_len (L := L) (p := p) hq
  rw [h] at this
  simp at this
  omega
theorem seg_self (L : List Nat) (p : Nat) : seg L p p = [] := by simp [seg]
theorem seg_one {L : List Nat} {p : Nat} (h : p < L.length) : seg L p (p + 1) = [L[p]] := by
  unfold seg
  rw [show p + 1 - p = 1 by omega, List.drop_eq_getElem_cons h]; rfl

def EndsW (L : List Nat) (P : List Nat → Prop) (p q : Nat) : Prop := p ≤ q ∧ q ≤ L.length ∧ P (seg L p q)
/-- As a row of bools. -/
noncomputable def rowW (L : List Nat) (P : List Nat → Prop) (p : Nat) : List Bool := (List.range (L.length + 1)).map (fun q => @decide (EndsW L P p q) (Classical.propDecidable _))
theorem rowW_len (L : List Nat) (P : List Nat → Prop) (p : Nat) : (rowW L P p).length = L.length + 1 := by simp [rowW]
theorem rowW_get {L : List Nat} {P : List Nat → Prop} {p q : Nat} (h : q < (rowW L P p).length) : (rowW L P p)[q] = true ↔ EndsW L P p q := by
  simp [rowW]
theorem rowW_getD {L : List Nat} {P : List Nat → Prop} {p q : Nat} : (rowW L P p).getD q false = true ↔ EndsW L P p q := by
  by_cases h : q < (rowW L P p).length
  · rw [List.getD_eq_getElem?_getD, List.getElem?_eq_getElem h]
    exact rowW_get h
  · rw [List.getD_eq_getElem?_getD, List.getElem?_eq_none (by omega)]
    rw [rowW_len] at h
    constructor
    · intro e; cases e
    · intro e; have := e.2.1; omega
theorem rowW_ext {L : List Nat} {P : List Nat → Prop} {p : Nat} {l : List Bool} (hl : l.length = L.length + 1) (h : ∀ q, q ≤ L.length → (l.getD q false = true ↔ EndsW L P p q)) : l = rowW L P p := by
  refine List.ext_getElem (by rw [hl, rowW_len]) fun q h1 h2 => ?_
  rw [Bool.eq_iff_iff, rowW_get h2, ← h q (by omega)]
  simp [h1]
noncomputable abbrev rowT (L : List Nat) (t : Tree) (p : Nat) : List Bool := rowW L t.Word p

theorem ends_row {L : List Nat} {P Q : List Nat → Prop} {p q : Nat} : EndsW L (fun w => ∃ u v, w = u ++ v ∧ P u ∧ Q v) p q ↔ ∃ m, EndsW L P p m ∧ EndsW L Q m q := by
  constructor
  · rintro ⟨h1, h2, u, v, h3, h4, h5⟩
    obtain ⟨m, h6, h7, h8, h9⟩ := seg_split h1 h2 h3
    exact ⟨m, ⟨h6, by omega, h8 ▸ h4⟩, ⟨h7, h2, h9 ▸ h5⟩⟩
  · rintro ⟨m, ⟨h1, h2, h3⟩, ⟨h4, h5, h6⟩⟩
    exact ⟨by omega, h5, _, _, (seg_join h1 h4).symm, h3, h6⟩
theorem ends_or {L : List Nat} {P Q : List Nat → Prop} {p q : Nat} : EndsW L (fun w => P w ∨ Q w) p q ↔ (EndsW L P p q ∨ EndsW L Q p q) := by
  constructor
  · rintro ⟨h1, h2, h3 | h3⟩
    · exact .inl ⟨h1, h2, h3⟩
    · exact .inr ⟨h1, h2, h3⟩
  · rintro (⟨h1, h2, h3⟩ | ⟨h1, h2, h3⟩)
    · exact ⟨h1, h2, .inl h3⟩
    · exact ⟨h1, h2, .inr h3⟩
theorem ends_maybe {L : List Nat} {P : List Nat → Prop} {p q : Nat} (hp : p ≤ L.length) : EndsW L (fun w => w = [] ∨ P w) p q ↔ (q = p ∨ EndsW L P p q) := by
  constructor
  · rintro ⟨h1, h2, h3 | h3⟩
    · exact .inl (seg_nil h1 h2 h3).symm
    · exact .inr ⟨h1, h2, h3⟩
  · rintro (rfl | ⟨h1, h2, h3⟩)
    · exact ⟨Nat.le_refl _, hp, .inl (seg_self _ _)⟩
    · exact ⟨h1, h2, .inr h3⟩
theorem ends_leaf {L : List Nat} {k a b p q : Nat} : EndsW L (Tree.leaf k a b).Word p q ↔ ∃ h : p < L.length, q = p + 1 ∧ leafA k a b L[p] = true := by
  constructor
  · rintro ⟨h1, h2, x, h3, h4⟩
    have hl := seg_len (L := L) (p := p) h2
    rw [h3] at hl
    simp at hl
    have hp : p < L.length := by omega
    have hq : q = p + 1 := by omega
    subst hq
    rw [seg_one hp] at h3
    simp at h3
    exact ⟨hp, rfl, h3 ▸ h4⟩
  · rintro ⟨hp, rfl, h⟩
    exact ⟨by omega, by omega, _, seg_one hp, h⟩
theorem ends_star_self {L : List Nat} {P : List Nat → Prop} {p : Nat} (hp : p ≤ L.length) : EndsW L (Star P) p p := ⟨Nat.le_refl _, hp, by rw [seg_self]; exact .nil⟩
theorem ends_star_snoc {L : List Nat} {P : List Nat → Prop} {p m q : Nat} (h : EndsW L (Star P) p m) (g : EndsW L P m q) : EndsW L (Star P) p q := by
  have h1 := h.1
  have h2 := g.1
  refine ⟨by omega, g.2.1, ?_⟩
  rw [← seg_join h1 h2]
  exact star_append h.2.2 (star_one g.2.2)
/-- What has p and is closed under the words has all ends. -/
theorem ends_star_least {L : List Nat} {P : List Nat → Prop} {p q : Nat} {C : Nat → Prop} (hc : ∀ m r, C m → EndsW L P m r → C r) (h : EndsW L (Star P) p q) (h0 : C p) : C q := by
  obtain ⟨h1, h2, h3⟩ := h
  generalize hw : seg L p q = w at h3
  induction h3 generalizing p with
  | nil => rw [← seg_nil h1 h2 hw]; exact h0
  | @cons u v h4 h5 ih =>
    obtain ⟨m, h6, h7, h8, h9⟩ := seg_split h1 h2 hw
    exact ih (hc p m h0 ⟨h6, by omega, h8 ▸ h4⟩) h7 h9
end Go.Proofs.Ytcckhngbdoiikaa

namespace Go.Proofs.Ytcckhngbdoiikaa
set_option linter.unusedVariables false

/-- A list of different numbers below n has at most n. -/
theorem nodup_len : ∀ (n : Nat) (l : List Nat), l.Nodup → (∀ x ∈ l, x < n) → l.length ≤ n
  | 0, l, _, h => by
    cases l with
    | nil => simp
    | cons x l => have := h x (by simp); omega
  | n + 1, l, hd, h => by
    have h1 := nodup_len n (l.erase n) (hd.erase n) (fun x hx => by
      have h2 := (hd.mem_erase_iff).1 hx
      have := h x h2.2
      have := h2.1
      omega)
    have := List.length_erase (a := n) (l := l)
    split at this <;> omega
def sub5 (s : PSet) : Prop := ∀ p, s.has p = true → p < 5
def code5 (s : PSet) : Nat := (s.has 0).toNat + 2 * (s.has 1).toNat + 4 * (s.has 2).toNat + 8 * (s.has 3).toNat + 16 * (s.has 4).toNat
theorem code5_lt (s : PSet) : code5 s < 32 := by
  have h0 := Bool.toNat_lt (s.has 0)
  have h1 := Bool.toNat_lt (s.has 1)
  have h2 := Bool.toNat_lt (s.has 2)
  have h3 := Bool.toNat_lt (s.has 3)
  have h4 := Bool.toNat_lt (s.has 4)
  unfold code5
  omega
theorem toNat_inj {a b : Bool} (h : a.toNat = b.toNat) : a = b := by cases a <;> cases b <;> simp at h <;> rfl
theorem code5_inj {s t : PSet} (hs : sub5 s) (ht : sub5 t) (h : code5 s = code5 t) : s = t := by
  unfold code5 at h
  have h0 := Bool.toNat_lt (s.has 0)
  have h1 := Bool.toNat_lt (s.has 1)
  have h2 := Bool.toNat_lt (s.has 2)
  have h3 := Bool.toNat_lt (s.has 3)
  have h4 := Bool.toNat_lt (s.has 4)
  have g0 := Bool.toNat_lt (t.has 0)
  have g1 := Bool.toNat_lt (t.has 1)
  have g2 := Bool.toNat_lt (t.has 2)
  have g3 := Bool.toNat_lt (t.has 3)
  have g4 := Bool.toNat_lt (t.has 4)
  refine pset_ext fun p => ?_
  by_cases hp : p < 5
  · obtain e | e | e | e | e : p = 0 ∨ p = 1 ∨ p = 2 ∨ p = 3 ∨ p = 4 := by omega
    all_goals
      subst e
      apply toNat_inj
      omega
  · cases e : s.has p with
    | true => exact absurd (hs p e) hp
    | false =>
      cases e2 : t.has p with
      | true => exact absurd (ht p e2) hp
      | false => rfl
theorem sets_len {l : List PSet} (hd : l.Nodup) (h : ∀ s ∈ l, sub5 s) : l.length ≤ 32 := by
  have hn : (l.map code5).Nodup := by
    rw [List.Nodup, List.pairwise_map]
    exact List.Pairwise.imp_of_mem (fun {a b} ha hb hab e => hab (code5_inj (h a ha) (h b hb) e)) hd
  have := nodup_len 32 (l.map code5) hn (fun x hx => by
    rw [List.mem_map] at hx
    obtain ⟨s, _, rfl⟩ := hx
    exact code5_lt s)
  simpa using this
theorem rowF_nodup (aft : PSet) (ha : sub5 aft) : ∀ (kinds sets : List PSet), sets.Nodup → (∀ s ∈ sets, sub5 s) → (rowF aft kinds sets).2.Nodup ∧ ∀ s ∈ (rowF aft kinds sets).2, sub5 s
  | [], sets, h1, h2 => ⟨h1, h2⟩
  | k :: ks, sets, h1, h2 => by
    unfold rowF
    simp only
    split
    · rename_i hf
      unfold findF at hf
      split at hf
      · omega
      · have hx : idxF sets (aft.and k) = sets.length := by omega
        have hm := idxF_mem sets _ hx
        refine rowF_nodup aft ha ks _ ?_ ?_
        · rw [List.nodup_append]
          exact ⟨h1, by simp, fun a ha' b hb => by simp at hb; subst hb; exact fun e => hm (e ▸ ha')⟩
        · intro s hs
          rw [List.mem_append] at hs
          rcases hs with e | e
          · exact h2 s e
          · simp at e
            subst e
            intro p hp
            rw [has_and, Bool.and_eq_true] at hp
            exact ha p hp.1
    · exact rowF_nodup aft ha ks sets h1 h2
theorem explore_few (R : RulesT) (kinds : List PSet) (hf : ∀ p, R.first.has p = true → p < 5) (hF : ∀ p q, R.F p q → q < 5) : ∀ (n i : Nat) (sets : List PSet) (g : Graph), n + i = 63 → i ≤ sets.length → sets.Nodup → (∀ s ∈ sets, sub5 s) → exploreLoop R kinds n i sets g ≠ none
  | 0, i, sets, g, h, hi, h1, h2 => by have := sets_len h1 h2; omega
  | n + 1, i, sets, g, h, hi, h1, h2 => by
    unfold exploreLoop
    split
    · rename_i hlt
      have ha : sub5 (if 0 < i then R.after (sets.getD i PSet.none) else R.first) := by
        intro p hp
        split at hp
        · obtain ⟨j, _, h3⟩ := (after_has R _ p).1 hp
          exact hF j p h3
        · exact hf p hp
      generalize (if 0 < i then R.after (sets.getD i PSet.none) else R.first) = aft at ha
      have hr := rowF_nodup aft ha kinds sets h1 h2
      have hp := (rowF_sets aft kinds sets).1.length_le
      have hl := sets_len hr.1 hr.2
      simp only
      rw [if_neg (by omega)]
      exact explore_few R kinds hf hF n (i + 1) _ _ (by omega) (by omega) hr.1 hr.2
    · simp
theorem build_few {ts : List Tree} (hn : placesAll ts ≤ 5) : buildF (glushAll ts RulesT.new) ≠ none := by
  have h := rules_inv ts (by omega)
  have hl := glushAll_len ts RulesT.new
  have h0 : RulesT.new.follow.length = 0 := rfl
  generalize glushAll ts RulesT.new = R at *
  have := explore_few R (kindsAt R.allow 256) (fun p hp => by have := h.first p hp; omega) (fun p q hq => by have := h.closed.1 p q hq; omega) 63 0 [PSet.none] Graph.new (by omega) (by simp) (by simp) (fun s hs => by simp at hs; subst hs; intro p hp; rw [has_none] at hp; cases hp)
  unfold buildF exploreF
  split
  · rename_i e; exact absurd e this
  · simp
end Go.Proofs.Ytcckhngbdoiikaa
