import Derived.Test.YtcckhngbdoiikaaM36

namespace Go.Proofs.Ytcckhngbdoiikaa
set_option linter.unusedVariables false

theorem kind_onto (al : Nat → PSet) : ∀ n k, k < (kindsAt al n).length → ∃ b, b < n ∧ kindOf al b = k
  | 0, k, h => by simp [kindsAt] at h
  | n + 1, k, h => by
    unfold kindsAt at h
    by_cases hk : k < (kindsAt al n).length
    · obtain ⟨b, h1, h2⟩ := kind_onto al n k hk
      exact ⟨b, by omega, h2⟩
    · split at h
      · rename_i hc
        simp only [List.length_append, List.length_cons, List.length_nil] at h
        exact ⟨n, by omega, by unfold kindOf; omega⟩
      · omega
/-- Some kinds of bytes lead from the node to one with a rule. -/
def Lives (g : Graph) (K : Nat) (s : Int) : Prop := ∃ ks : List Nat, (∀ k ∈ ks, k < K) ∧ accK g (runK g s ks) ≠ -1
theorem leads_lives {g : Graph} {K : Nat} (ho : GOk g K) {al : List Bool} (h : ∀ i : Nat, i < g.rule.length → al.getD i false = true → Lives g K (i : Int)) {i : Nat} (hi : i < g.rule.length) (hl : leadsF (g.next.getD i []) al = true) : Lives g K (i : Int) := by
  unfold leadsF at hl
  rw [List.any_eq_true] at hl
  obtain ⟨tt, h1, h2⟩ := hl
  simp only [Bool.and_eq_true, bne_iff_ne, ne_eq] at h2
  obtain ⟨h3, h4⟩ := h2
  have hr := ho.row i (by rw [ho.len]; exact hi)
  have hin := hr.2 tt h1
  obtain ⟨k, hk, e⟩ := List.getElem_of_mem h1
  obtain ⟨ks, g1, g2⟩ := h tt.toNat (by omega) h4
  have e2 : stepK g (i : Int) k = tt := by
    unfold stepK
    rw [if_neg (by omega), Int.toNat_natCast, List.getD_eq_getElem?_getD, List.getElem?_eq_getElem hk]
    exact e
  have e3 : ((tt.toNat : Nat) : Int) = tt := by omega
  rw [e3] at g2
  refine ⟨k :: ks, fun x hx => ?_, ?_⟩
  · rw [List.mem_cons] at hx
    rcases hx with rfl | hx
    · rw [← hr.1]; exact hk
    · exact g1 x hx
  · show accK g (runK g (stepK g (i : Int) k) ks) ≠ -1
    rw [e2]
    exact g2
theorem passF_lives {g : Graph} {K : Nat} (ho : GOk g K) {al : List Bool} (h : ∀ i : Nat, i < g.rule.length → al.getD i false = true → Lives g K (i : Int)) : ∀ k, k ≤ g.rule.length → ∀ i : Nat, i < g.rule.length → (passF g al k).1.getD i false = true → Lives g K (i : Int)
  | 0, _, i, hi, hx => h i hi hx
  | k + 1, hk, i, hi, hx => by
    have ih := passF_lives ho h k (by omega)
    unfold passF at hx
    split at hx
    · rename_i hc
      by_cases e : i = k
      · subst e
        exact leads_lives ho ih hi hc.2
      · refine ih i hi ?_
        simp only [List.getD_eq_getElem?_getD] at hx ⊢
        rw [List.getElem?_set_ne (fun e' => e e'.symm)] at hx
        exact hx
    · exact ih i hi hx
theorem aliveLoop_lives {g : Graph} {K : Nat} (ho : GOk g K) : ∀ (n : Nat) (al : List Bool), (∀ i : Nat, i < g.rule.length → al.getD i false = true → Lives g K (i : Int)) → ∀ i : Nat, i < g.rule.length → (aliveLoop g n al).getD i false = true → Lives g K (i : Int)
  | 0, al, h, i, hi, hx => h i hi hx
  | n + 1, al, h, i, hi, hx => by
    have hp := passF_lives ho h g.next.length (by rw [ho.len]; exact Nat.le_refl _)
    unfold aliveLoop at hx
    split at hx
    · exact aliveLoop_lives ho n _ hp i hi hx
    · exact hp i hi hx
theorem aliveF_lives {g : Graph} {K : Nat} (ho : GOk g K) {i : Nat} (hi : i < g.rule.length) (hx : (aliveF g).getD i false = true) : Lives g K (i : Int) := by
  refine aliveLoop_lives ho _ _ (fun i hi h => ⟨[], fun k hk => by simp at hk, ?_⟩) i hi hx
  show accK g (i : Int) ≠ -1
  unfold accK
  rw [if_neg (by omega), Int.toNat_natCast]
  simpa [hi] using h
theorem prune_lives {g : Graph} {K : Nat} (ho : GOk g K) {s t k : Nat} (hs : s < g.rule.length) (hk : k < K) (h : stepK (pruneF g) (s : Int) k = (t : Int)) : Lives (pruneF g) K (t : Int) := by
  rw [prune_step ho hs hk] at h
  rcases stepK_in ho (s := (s : Int)) (by omega) (by omega) hk with e | e
  · rw [e] at h; simp at h
  · split at h
    · rename_i hc
      rw [h] at hc e
      simp only [Bool.and_eq_true, Int.toNat_natCast] at hc
      obtain ⟨ks, g1, g2⟩ := aliveF_lives ho (i := t) (by omega) hc.2
      exact ⟨ks, g1, by rw [prune_acc ho ks t g1 (by omega)]; exact g2⟩
    · omega
theorem build_lives {R : RulesT} {kd : Nat → Nat} {g : Graph} (h : buildF R = some (kd, g)) {j j' k : Nat} (hj : j < g.rule.length) (hk : k < (kindsAt R.allow 256).length) (hs : stepK g (j : Int) k = (j' : Int)) : Lives g (kindsAt R.allow 256).length (j' : Int) := by
  obtain ⟨g0, hg, rfl, rfl⟩ := buildF_some h
  clear h
  obtain ⟨ho, hp, hn⟩ := exploreF_ok hg
  have ho' := pruneF_ok ho
  have hp' : 0 < (pruneF g0).rule.length := hp
  have hv := (visitF_inv ho' hp' (mergeF_len _) (mergeF_bd _ hp')).1
  have hst := mergeF_stable ho' hp'
  have hj' : j < (visitF (pruneF g0) (mergeF (pruneF g0))).1.length := by simpa [numberF] using hj
  have hF := hv.ok.ok _ (getD_mem (l := (visitF (pruneF g0) (mergeF (pruneF g0))).1) hj' 0)
  rcases number_step ho' hp' (mergeF_len _) (mergeF_bd _ hp') hst hj' (a := ((visitF (pruneF g0) (mergeF (pruneF g0))).1.getD j 0).toNat) (by omega) rfl hk with ⟨h1, _⟩ | ⟨j2, a2, h1, h2, h3, h4, h5⟩
  · rw [hs] at h1; omega
  · rw [hs] at h1
    have e : j' = j2 := by omega
    subst e
    obtain ⟨ks, g1, g2⟩ := prune_lives ho (s := ((visitF (pruneF g0) (mergeF (pruneF g0))).1.getD j 0).toNat) (t := a2) (k := k) (by have : (pruneF g0).rule.length = g0.rule.length := rfl; omega) hk h2
    refine ⟨ks, g1, ?_⟩
    rw [number_acc ho' hp' (mergeF_len _) (mergeF_bd _ hp') hst ks j' a2 g1 h3 h4 h5]
    exact g2
theorem build_row {R : RulesT} {kd : Nat → Nat} {g : Graph} (h : buildF R = some (kd, g)) {j : Nat} (hj : j < g.rule.length) : (g.next.getD j []).length = (kindsAt R.allow 256).length := by
  obtain ⟨g0, hg, rfl, rfl⟩ := buildF_some h
  clear h
  obtain ⟨ho, hp, hn⟩ := exploreF_ok hg
  have ho' := pruneF_ok ho
  have hp' : 0 < (pruneF g0).rule.length := hp
  have hv := (visitF_inv ho' hp' (mergeF_len _) (mergeF_bd _ hp')).1
  have hj' : j < (visitF (pruneF g0) (mergeF (pruneF g0))).1.length := by simpa [numberF] using hj
  have hF := hv.ok.ok _ (getD_mem (l := (visitF (pruneF g0) (mergeF (pruneF g0))).1) hj' 0)
  have e1 : (numberF (pruneF g0) (mergeF (pruneF g0))).next.getD j [] = numberRow (mergeF (pruneF g0)) (visitF (pruneF g0) (mergeF (pruneF g0))).2 ((pruneF g0).next.getD ((visitF (pruneF g0) (mergeF (pruneF g0))).1.getD j 0).toNat []) := by simp [numberF, hj']
  rw [e1]
  unfold numberRow
  rw [List.length_map]
  exact (ho'.row _ (by rw [ho'.len]; omega)).1
/-- So many bytes to the first token. -/
def FarT (kd : Nat → Nat) (g : Graph) : Nat → Int → Prop
  | 0, s => ruleOfF g s ≠ -1
  | d + 1, s => ruleOfF g s = -1 ∧ ∃ b : Nat, b < 256 ∧ nextF kd g s (b : Int) ≠ -1 ∧ FarT kd g d (nextF kd g s (b : Int))
/-- A byte leads on, and then so many bytes to the first token. -/
def LeadT (kd : Nat → Nat) (g : Graph) (d : Nat) (s : Int) : Prop := ∃ b : Nat, b < 256 ∧ nextF kd g s (b : Int) ≠ -1 ∧ FarT kd g d (nextF kd g s (b : Int))
theorem lives_far {R : RulesT} {kd : Nat → Nat} {g : Graph} (h : buildF R = some (kd, g)) : ∀ (ks : List Nat) (j : Nat), (∀ k ∈ ks, k < (kindsAt R.allow 256).length) → j < g.rule.length → accK g (runK g (j : Int) ks) ≠ -1 → ∃ d, FarT kd g d (j : Int)
  | [], j, _, hj, ha => ⟨0, by show ruleOfF g (j : Int) ≠ -1; rw [ruleOf_acc hj]; exact ha⟩
  | k :: ks, j, hk, hj, ha => by
    by_cases hr : ruleOfF g (j : Int) = -1
    · have ha' : accK g (runK g (stepK g (j : Int) k) ks) ≠ -1 := ha
      have hG := build_lexG h
      obtain ⟨b, hb, e⟩ := kind_onto R.allow 256 k (hk k (by simp))
      have hkd : kd = kindOf R.allow := by obtain ⟨_, _, e, _⟩ := buildF_some h; exact e
      have hs := hG.step j b hj hb
      have hn := nextF_step hG hj hb
      rw [hkd, e] at hs
      rw [hkd, e, ← hkd] at hn
      rcases hs with e1 | ⟨j', e1, hj'⟩
      · exfalso
        rw [e1, runK_dead g ks (-1) (by omega)] at ha'
        apply ha'
        split <;> rfl
      · rw [e1] at ha' hn
        obtain ⟨d, hd⟩ := lives_far h ks j' (fun x hx => hk x (by simp [hx])) hj' ha'
        exact ⟨d + 1, hr, b, hb, by rw [hn]; omega, by rw [hn]; exact hd⟩
    · exact ⟨0, hr⟩
/-- Where a longer token may come, some text leads to one. -/
theorem leadOn_lead {R : RulesT} {kd : Nat → Nat} {g : Graph} (h : buildF R = some (kd, g)) {s : Int} (hl : leadOnF g s = true) : ∃ d, LeadT kd g d s := by
  have hG := build_lexG h
  have hlen := hG.len
  unfold leadOnF at hl
  split at hl
  · cases hl
  · rename_i hc
    obtain ⟨j, rfl⟩ : ∃ j : Nat, s = (j : Int) := ⟨s.toNat, by omega⟩
    have hj : j < g.rule.length := by omega
    rw [Int.toNat_natCast, List.any_eq_true] at hl
    obtain ⟨tt, h1, h2⟩ := hl
    obtain ⟨k, hk, e⟩ := List.getElem_of_mem h1
    have hk' := hk
    rw [build_row h hj] at hk'
    obtain ⟨b, hb, eb⟩ := kind_onto R.allow 256 k hk'
    have hkd : kd = kindOf R.allow := by obtain ⟨_, _, e, _⟩ := buildF_some h; exact e
    have hs := hG.step j b hj hb
    have hn := nextF_step hG hj hb
    rw [hkd, eb] at hs
    rw [hkd, eb, ← hkd] at hn
    have es : stepK g (j : Int) k = tt := by
      unfold stepK
      rw [if_neg (by omega), Int.toNat_natCast, List.getD_eq_getElem?_getD, List.getElem?_eq_getElem hk]
      exact e
    have hne : tt ≠ -1 := by simpa using h2
    rcases hs with e1 | ⟨j', e1, hj'⟩
    · rw [es] at e1; exact absurd e1 hne
    · obtain ⟨ks, g1, g2⟩ := build_lives h hj hk' e1
      obtain ⟨d, hd⟩ := lives_far h ks j' g1 hj' g2
      rw [e1] at hn
      exact ⟨d, b, hb, by rw [hn]; omega, by rw [hn]; exact hd⟩
end Go.Proofs.Ytcckhngbdoiikaa
