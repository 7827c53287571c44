import Derived.Test.YtmgpdaemcbbikaaC49
import Derived.Test.YtmgpdaemcbbikaaC51

namespace Go.Proofs.Ytmgpdaemcbbikaa
set_option linter.unusedVariables false

theorem kind_onto (al : Nat → PSet) : ∀ n k, k < (kindsAt al n).length → ∃ b, b < n ∧ kindOf al b = k
  | 0, k, h => by simp [kindsAt] at h
  | n + 1, k, h => by
    unfold kindsAt at h
    by_cases hk : k < (kindsAt al n).length
    · obtain ⟨b, h1, h2⟩ := kind_onto al n k hk
      exact ⟨b, by omega, h2⟩
    · split at h
      · rename_i hc
        simp only [List.length_append, List.length_cons, List.length_nil] at h
        exact ⟨n, by omega, by unfold kindOf; omega⟩
      · omega
/-- Some kinds of bytes lead from the node to one with a rule. -/
def Lives (g : Graph) (K : Nat) (s : Int) : Prop := ∃ ks : List Nat, (∀ k ∈ ks, k < K) ∧ accK g (runK g s ks) ≠ -1
theorem leads_lives {g : Graph} {K : Nat} (ho : GOk g K) {al : List Bool} (h : ∀ i : Nat, i < g.rule.length → al.getD i false = true → Lives g K (i : Int)) {i : Nat} (hi : i < g.rule.length) (hl : leadsF (g.next.getD i []) al = true) : Lives g K (i : Int) := by
  unfold leadsF at hl
  rw [List.any_eq_true] at hl
  obtain ⟨tt, h1, h2⟩ := hl
  simp only [Bool.and_eq_true, bne_iff_ne, ne_eq] at h2
  obtain ⟨h3, h4⟩ := h2
  have hr := ho.row i (by rw [ho.len]; exact hi)
  have hin := hr.2 tt h1
  obtain ⟨k, hk, e⟩ := List.getElem_of_mem h1
  obtain ⟨ks, g1, g2⟩ := h tt.toNat (by omega) h4
  have e2 : stepK g (i : Int) k = tt := by
    unfold stepK
    rw [if_neg (by omega), Int.toNat_natCast, List.getD_eq_getElem?_getD, List.getElem?_eq_getElem hk]
    exact e
  have e3 : ((tt.toNat : Nat) : Int) = tt := by omega
  rw [e3] at g2
  refine ⟨k :: ks, fun x hx => ?_, ?_⟩
  · rw [List.mem_cons] at hx
    rcases hx with rfl | hx
    · rw [← hr.1]; exact hk
    · exact g1 x hx
  · show accK g (runK g (stepK g (i : Int) k) ks) ≠ -1
    rw [e2]
    exact g2
theorem passF_lives {g : Graph} {K : Nat} (ho : GOk g K) {al : List Bool} (h : ∀ i : Nat, i < g.rule.length → al.getD i false = true → Lives g K (i : Int)) : ∀ k, k ≤ g.rule.length → ∀ i : Nat, i < g.rule.length → (passF g al k).1.getD i false = true → Lives g K (i : Int)
  | 0, _, i, hi, hx => h i hi hx
  | k + 1, hk, i, hi, hx => by
    have ih := passF_lives ho h k (by omega)
    unfold passF at hx
    split at hx
    · rename_i hc
      by_cases e : i = k
      · subst e
        exact leads_lives ho ih hi hc.2
      · refine ih i hi ?_
        simp only [List.getD_eq_getElem?_getD] at hx ⊢
        rw [List.getElem?_set_ne (fun e' => e e'.symm)] at hx
        exact hx
    · exact ih i hi hx
theorem aliveLoop_lives {g : Graph} {K : Nat} (ho : GOk g K) : ∀ (n : Nat) (al : List Bool), (∀ i : Nat, i < g.rule.length → al.getD i false = true → Lives g K (i : Int)) → ∀ i : Nat, i < g.rule.length → (aliveLoop g n al).getD i false = true → Lives g K (i : Int)
  | 0, al, h, i, hi, hx => h i hi hx
  | n + 1, al, h, i, hi, hx => by
    have hp := passF_lives ho h g.next.length (by rw [ho.len]; exact Nat.le_refl _)
    unfold aliveLoop at hx
    split at hx
    · exact aliveLoop_lives ho n _ hp i hi hx
    · exact hp i hi hx
theorem aliveF_lives {g : Graph} {K : Nat} (ho : GOk g K) {i : Nat} (hi : i < g.rule.length) (hx : (aliveF g).getD i false = true) : Lives g K (i : Int) := by
  refine aliveLoop_lives ho _ _ (fun i hi h => ⟨[], fun k hk => by simp at hk, ?_⟩) i hi hx
  show accK g (i : Int) ≠ -1
  unfold accK
  rw [if_neg (by omega), Int.toNat_natCast]
  simpa [hi] using h
theorem prune_lives {g : Graph} {K : Nat} (ho : GOk g K) {s t k : Nat} (hs : s < g.rule.length) (hk : k < K) (h : stepK (pruneF g) (s : Int) k = (t : Int)) : Lives (pruneF g) K (t : Int) := by
  rw [prune_step ho hs hk] at h
  rcases stepK_in ho (s := (s : Int)) (by omega) (by omega) hk with e | e
  · rw [e] at h; simp at h
  · split at h
    · rename_i hc
      rw [h] at hc e
      simp only [Bool.and_eq_true, Int.toNat_natCast] at hc
      obtain ⟨ks, g1, g2⟩ := aliveF_lives ho (i := t) (by omega) hc.2
      exact ⟨ks, g1, by rw [prune_acc ho ks t g1 (by omega)]; exact g2⟩
    · omega
theorem build_lives {R : RulesT} {kd : Nat → Nat} {g : Graph} (h : buildF R = some (kd, g)) {j j' k : Nat} (hj : j < g.rule.length) (hk : k < (kindsAt R.allow 256).length) (hs : stepK g (j : Int) k = (j' : Int)) : Lives g (kindsAt R.allow 256).length (j' : Int) := by
  obtain ⟨g0, hg, rfl, rfl⟩ := buildF_some h
  clear h
  obtain ⟨ho, hp, hn⟩ := exploreF_ok hg
  have ho' := pruneF_ok ho
  have hp' : 0 < (pruneF g0).rule.length := hp
  have hv := (visitF_inv ho' hp' (mergeF_len _) (mergeF_bd _ hp')).1
  have hst := mergeF_stable ho' hp'
  have hj' : j < (visitF (pruneF g0) (mergeF (pruneF g0))).1.length := by simpa [numberF] using hj
  have hF := hv.ok.ok _ (getD_mem (l := (visitF (pruneF g0) (mergeF (pruneF g0))).1) hj' 0)
  rcases number_step ho' hp' (mergeF_len _) (mergeF_bd _ hp') hst hj' (a := ((visitF (pruneF g0) (mergeF (pruneF g0))).1.getD j 0).toNat) (by omega) rfl hk with ⟨h1, _⟩ | ⟨j2, a2, h1, h2, h3, h4, h5⟩
  · rw [hs] at h1; omega
  · rw [hs] at h1
    have e : j' = j2 := by omega
    subst e
    obtain ⟨ks, g1, g2⟩ := prune_lives ho (s := ((visitF (pruneF g0) (mergeF (pruneF g0))).1.getD j 0).toNat) (t := a2) (k := k) (by have : (pruneF g0).rule.length = g0.rule.length := rfl; omega) hk h2
    refine ⟨ks, g1, ?_⟩
    rw [number_acc ho' hp' (mergeF_len _) (mergeF_bd _ hp') hst ks j' a2 g1 h3 h4 h5]
    exact g2
theorem build_row {R : RulesT} {kd : Nat → Nat} {g : Graph} (h : buildF R = some (kd, g)) {j : Nat} (hj : j < g.rule.length) : (g.next.getD j []).length = (kindsAt R.allow 256).length := by
  obtain ⟨g0, hg, rfl, rfl⟩ := buildF_some h
  clear h
  obtain ⟨ho, hp, hn⟩ := exploreF_ok hg
  have ho' := pruneF_ok ho
  have hp' : 0 < (pruneF g0).rule.length := hp
  have hv := (visitF_inv ho' hp' (mergeF_len _) (mergeF_bd _ hp')).1
  have hj' : j < (visitF (pruneF g0) (mergeF (pruneF g0))).1.length := by simpa [numberF] using hj
  have hF := hv.ok.ok _ (getD_mem (l := (visitF (pruneF g0) (mergeF (pruneF g0))).1) hj' 0)
  have e1 : (numberF (pruneF g0) (mergeF (pruneF g0))).next.getD j [] = numberRow (mergeF (pruneF g0)) (visitF (pruneF g0) (mergeF (pruneF g0))).2 ((pruneF g0).next.getD ((visitF (pruneF g0) (mergeF (pruneF g0))).1.getD j 0).toNat []) := by simp [numberF, hj']
  rw [e1]
  unfold numberRow
  rw [List.length_map]
  exact (ho'.row _ (by rw [ho'.len]; omega)).1
/-- So many bytes to the first token. -/
def FarT (kd : Nat → Nat) (g : Graph) : Nat → Int → Prop
  | 0, s => ruleOfF g s ≠ -1
  | d + 1, s => ruleOfF g s = -1 ∧ ∃ b : Nat, b < 256 ∧ nextF kd g s (b : Int) ≠ -1 ∧ FarT kd g d (nextF kd g s (b : Int))
/-- A byte leads on, and then so many bytes to the first token. -/
def LeadT (kd : Nat → Nat) (g : Graph) (d : Nat) (s : Int) : Prop := ∃ b : Nat, b < 256 ∧ nextF kd g s (b : Int) ≠ -1 ∧ FarT kd g d (nextF kd g s (b : Int))
theorem lives_far {R : RulesT} {kd : Nat → Nat} {g : Graph} (h : buildF R = some (kd, g)) : ∀ (ks : List Nat) (j : Nat), (∀ k ∈ ks, k < (kindsAt R.allow 256).length) → j < g.rule.length → accK g (runK g (j : Int) ks) ≠ -1 → ∃ d, FarT kd g d (j : Int)
  | [], j, _, hj, ha => ⟨0, by show ruleOfF g (j : Int) ≠ -1; rw [ruleOf_acc hj]; exact ha⟩
  | k :: ks, j, hk, hj, ha => by
    by_cases hr : ruleOfF g (j : Int) = -1
    · have ha' : accK g (runK g (stepK g (j : Int) k) ks) ≠ -1 := ha
      have hG := build_lexG h
      obtain ⟨b, hb, e⟩ := kind_onto R.allow 256 k (hk k (by simp))
      have hkd : kd = kindOf R.allow := by obtain ⟨_, _, e, _⟩ := buildF_some h; exact e
      have hs := hG.step j b hj hb
      have hn := nextF_step hG hj hb
      rw [hkd, e] at hs
      rw [hkd, e, ← hkd] at hn
      rcases hs with e1 | ⟨j', e1, hj'⟩
      · exfalso
        rw [e1, runK_dead g ks (-1) (by omega)] at ha'
        apply ha'
        split <;> rfl
      · rw [e1] at ha' hn
        obtain ⟨d, hd⟩ := lives_far h ks j' (fun x hx => hk x (by simp [hx])) hj' ha'
        exact ⟨d + 1, hr, b, hb, by rw [hn]; omega, by rw [hn]; exact hd⟩
    · exact ⟨0, hr⟩
/-- Where a longer token may come, some text leads to one. -/
theorem leadOn_lead {R : RulesT} {kd : Nat → Nat} {g : Graph} (h : buildF R = some (kd, g)) {s : Int} (hl : leadOnF g s = true) : ∃ d, LeadT kd g d s := by
  have hG := build_lexG h
  have hlen := hG.len
  unfold leadOnF at hl
  split at hl
  · cases hl
  · rename_i hc
    obtain ⟨j, rfl⟩ : ∃ j : Nat, s = (j : Int) := ⟨s.toNat, by omega⟩
    have hj : j < g.rule.length := by omega
    rw [Int.toNat_natCast, List.any_eq_true] at hl
    obtain ⟨tt, h1, h2⟩ := hl
    obtain ⟨k, hk, e⟩ := List.getElem_of_mem h1
    have hk' := hk
    rw [build_row h hj] at hk'
    obtain ⟨b, hb, eb⟩ := kind_onto R.allow 256 k hk'
    have hkd : kd = kindOf R.allow := by obtain ⟨_, _, e, _⟩ := buildF_some h; exact e
    have hs := hG.step j b hj hb
    have hn := nextF_step hG hj hb
    rw [hkd, eb] at hs
    rw [hkd, eb, ← hkd] at hn
    have es : stepK g (j : Int) k = tt := by
      unfold stepK
      rw [if_neg (by omega), Int.toNat_natCast, List.getD_eq_getElem?_getD, List.getElem?_eq_getElem hk]
      exact e
    have hne : tt ≠ -1 := by simpa using h2
    rcases hs with e1 | ⟨j', e1, hj'⟩
    · rw [es] at e1; exact absurd e1 hne
    · obtain ⟨ks, g1, g2⟩ := build_lives h hj hk' e1
      obtain ⟨d, hd⟩ := lives_far h ks j' g1 hj' g2
      rw [e1] at hn
      exact ⟨d, b, hb, by rw [hn]; omega, by rw [hn]; exact hd⟩
end Go.Proofs.Ytmgpdaemcbbikaa

namespace Go.Proofs.Ytmgpdaemcbbikaa
open Go.RowKit Go.Deep
set_option linter.unusedVariables false

theorem stepsLoop_keeps (kd : Nat → Nat) (g : Graph) (s : Nat) : ∀ (n b : Nat) (seen : List Bool) (acc : List StepT), ∀ t ∈ acc, t ∈ stepsLoop kd g s n b seen acc
  | 0, b, seen, acc, t, ht => ht
  | n + 1, b, seen, acc, t, ht => by
    unfold stepsLoop
    split
    · split
      · exact stepsLoop_keeps kd g s n _ _ _ t ht
      · exact stepsLoop_keeps kd g s n _ _ _ t (by simp [ht])
    · exact ht
theorem stepsLoop_all {kd : Nat → Nat} {g : Graph} (hi : StepsIn kd g) (s : Nat) : ∀ (n b : Nat) (seen : List Bool) (acc : List StepT), 256 < n + b → seen.length = g.rule.length → (∀ q, seen.getD q false = true → ∃ t ∈ acc, t.q = q) →
    ∀ c : Nat, b ≤ c → c < 256 → nextF kd g (s : Int) (c : Int) ≠ -1 → ∃ t ∈ stepsLoop kd g s n b seen acc, t.q = (nextF kd g (s : Int) (c : Int)).toNat
  | 0, b, seen, acc, hn, hl, hs, c, h1, h2, h3 => by omega
  | n + 1, b, seen, acc, hn, hl, hs, c, h1, h2, h3 => by
    unfold stepsLoop
    rw [if_pos (by omega)]
    by_cases e : c = b
    · subst e
      split
      · rename_i hc
        rcases hc with hc | hc
        · exact absurd hc h3
        · obtain ⟨t, ht, hq⟩ := hs _ hc
          exact ⟨t, stepsLoop_keeps kd g s n _ _ _ t ht, hq⟩
      · exact ⟨_, stepsLoop_keeps kd g s n _ _ _ ⟨c, (nextF kd g (s : Int) (c : Int)).toNat⟩ (by simp), rfl⟩
    · split
      · exact stepsLoop_all hi s n (b + 1) seen acc (by omega) hl hs c (by omega) h2 h3
      · rename_i hc
        have hin := hi (s : Int) (b : Int)
        refine stepsLoop_all hi s n (b + 1) _ _ (by omega) (by simp [hl]) (fun q hq => ?_) c (by omega) h2 h3
        rw [getD_setB _ _ _ _ (by omega)] at hq
        split at hq
        · rename_i eq
          exact ⟨_, List.mem_append.2 (.inr (List.mem_singleton.2 rfl)), eq.symm⟩
        · obtain ⟨t, ht, hq'⟩ := hs q hq
          exact ⟨t, by simp [ht], hq'⟩
theorem stepsF_all {kd : Nat → Nat} {g : Graph} (hi : StepsIn kd g) (s c : Nat) (hc : c < 256) (h : nextF kd g (s : Int) (c : Int) ≠ -1) : ∃ t ∈ stepsF kd g s, t.q = (nextF kd g (s : Int) (c : Int)).toNat :=
  stepsLoop_all hi s 257 0 _ _ (by omega) (by simp) (fun q hq => by simp [List.getD_eq_getElem?_getD, List.getElem?_replicate] at hq; split at hq <;> cases hq) c (Nat.zero_le _) hc h
theorem weave_token (kd : Nat → Nat) (g : Graph) {s : Nat} (hs : s < g.rule.length) : (weaveF kd g).token.getD s false = decide (ruleOfF g (s : Int) ≠ -1) := by simp [weaveF, tokenF, hs]
theorem weave_lead {kd : Nat → Nat} {g : Graph} (hi : StepsIn kd g) {s c : Nat} (hs : s < g.rule.length) (hc : c < 256) (h : nextF kd g (s : Int) (c : Int) ≠ -1) {m : List Bool} (hm : m.getD (nextF kd g (s : Int) (c : Int)).toNat false = true) : leadsInto (weaveF kd g) m s = true := by
  obtain ⟨t, h1, h2⟩ := stepsF_all hi s c hc h
  unfold leadsInto intoF
  have e : (weaveF kd g).steps.getD s [] = stepsF kd g s := by simp [weaveF, stepsTo, hs]
  rw [e, List.find?_isSome]
  exact ⟨t, h1, by rw [h2]; exact hm⟩
theorem far_layer {kd : Nat → Nat} {g : Graph} (hi : StepsIn kd g) : ∀ (d s : Nat), s < g.rule.length → FarT kd g d (s : Int) → (layerAt (weaveF kd g) d).getD s false = true
  | 0, s, hs, h => by
    show (weaveF kd g).token.getD s false = true
    rw [weave_token kd g hs]
    exact decide_eq_true h
  | d + 1, s, hs, ⟨h1, b, h2, h3, h4⟩ => by
    have hin := hi (s : Int) (b : Int)
    obtain ⟨q, hq⟩ : ∃ q : Nat, nextF kd g (s : Int) (b : Int) = (q : Int) := ⟨(nextF kd g (s : Int) (b : Int)).toNat, by omega⟩
    rw [hq] at h4 hin
    have ih := far_layer hi d q (by omega) h4
    have hl := weave_lead hi hs h2 h3 (m := layerAt (weaveF kd g) d) (by rw [hq, Int.toNat_natCast]; exact ih)
    have ht := weave_token kd g hs
    rw [h1] at ht
    have hlen : s < (weaveF kd g).token.length := by simp [weaveF, tokenF_len, hs]
    show (layerF (weaveF kd g) (layerAt (weaveF kd g) d)).getD s false = true
    unfold layerF
    simp [hlen, hl]
    simpa [hlen] using ht
theorem far_down {kd : Nat → Nat} {g : Graph} (hi : StepsIn kd g) : ∀ (e d s : Nat), s < g.rule.length → FarT kd g (d + e) (s : Int) → ∃ s' : Nat, s' < g.rule.length ∧ FarT kd g d (s' : Int)
  | 0, d, s, hs, h => ⟨s, hs, h⟩
  | e + 1, d, s, hs, h => by
    obtain ⟨h1, b, h2, h3, h4⟩ : FarT kd g (d + e + 1) (s : Int) := h
    have hin := hi (s : Int) (b : Int)
    obtain ⟨q, hq⟩ : ∃ q : Nat, nextF kd g (s : Int) (b : Int) = (q : Int) := ⟨(nextF kd g (s : Int) (b : Int)).toNat, by omega⟩
    rw [hq] at h4 hin
    exact far_down hi e d q (by omega) h4
theorem farD_max (x : WebT) (LL : List (List Bool)) {d s : Nat} (hs : s < x.token.length) (h : farStop x (LL.getD d []) s = true) : ∀ D, d < D → d + 1 ≤ (farD x LL D).2
  | 0, hD => by omega
  | D + 1, hD => by
    unfold farD
    split
    · show d + 1 ≤ D + 1
      omega
    · rename_i hf
      by_cases e : D = d
      · subst e
        rw [List.find?_eq_none] at hf
        exact absurd h (hf s (by simp [hs]))
      · exact farD_max x LL hs h D (by omega)
/-- From a token, or from the beginning, the next token is not further away than K. -/
theorem lead_near {kd : Nat → Nat} {g : Graph} (hf : LexFit kd g) (hb : (gapOf kd g).bounded = true) {d s : Nat} (hs : s < g.rule.length) (ht : ruleOfF g (s : Int) ≠ -1 ∨ s = 0) (h : LeadT kd g d (s : Int)) : d + 1 ≤ (gapOf kd g).k := by
  have hi := hf.into
  obtain ⟨b, h2, h3, h4⟩ := h
  have hin := hi (s : Int) (b : Int)
  obtain ⟨q, hq⟩ : ∃ q : Nat, nextF kd g (s : Int) (b : Int) = (q : Int) := ⟨(nextF kd g (s : Int) (b : Int)).toNat, by omega⟩
  have h4' := h4
  rw [hq] at h4'
  rw [hq] at hin
  unfold gapOf at hb ⊢
  split at hb
  · simp [endlessF] at hb
  · rename_i hnone
    have hd : d < g.rule.length := by
      refine Nat.lt_of_not_le fun hge => ?_
      obtain ⟨e, rfl⟩ : ∃ e, d = g.rule.length + e := ⟨d - g.rule.length, by omega⟩
      obtain ⟨s', g1, g2⟩ := far_down hi e g.rule.length q (by omega) h4'
      have g3 := far_layer hi _ s' g1 g2
      rw [List.find?_eq_none] at hnone
      exact hnone s' (by simp [g1]) g3
    have hL := far_layer hi d q (by omega) h4'
    have hl := weave_lead hi hs h2 h3 (m := layerAt (weaveF kd g) d) (by rw [hq, Int.toNat_natCast]; exact hL)
    have hlen : s < (weaveF kd g).token.length := by simp [weaveF, tokenF_len, hs]
    have hst : farStop (weaveF kd g) ((layersF (weaveF kd g) g.rule.length).getD d []) s = true := by
      unfold farStop
      rw [layersF_get _ _ _ hd, hl, weave_token kd g hs]
      rcases ht with e | e <;> simp [e]
    show d + 1 ≤ (farD (weaveF kd g) (layersF (weaveF kd g) g.rule.length) (layersF (weaveF kd g) g.rule.length).length).2
    exact farD_max _ _ hlen hst _ (by rw [layersF_len]; exact hd)
/-- A walk that comes over no token. -/
theorem walkL_lead {kd : Nat → Nat} {g : Graph} : ∀ (L : List Int) (q : Nat) (st : Int) (info : Info) (s' : Int) (d : Nat), (∀ b ∈ L, 0 ≤ b ∧ b < 256) → info.1 ≤ q → (walkL kd g L q st info).1 = info → (walkL kd g L q st info).2 = some s' → LeadT kd g d s' → LeadT kd g (L.length + d) st
  | [], q, st, info, s', d, _, _, _, h2, hd => by
    have e : some st = some s' := h2
    injection e with e
    subst e
    rw [List.length_nil, Nat.zero_add]
    exact hd
  | b :: r, q, st, info, s', d, hb, hq, h1, h2, hd => by
    rw [walkL_cons] at h1 h2
    split at h1
    · rename_i hn
      rw [if_pos hn] at h2
      cases h2
    · rename_i hn
      rw [if_neg hn] at h2
      have hen := walkL_end kd g r (q + 1) (nextF kd g st b) (if ruleOfF g (nextF kd g st b) = -1 then info else (q + 1, ruleOfF g (nextF kd g st b), nextF kd g st b))
      by_cases hr : ruleOfF g (nextF kd g st b) = -1
      · rw [if_pos hr] at h1 h2
        have ih := walkL_lead r (q + 1) _ info s' d (fun c hc => hb c (by simp [hc])) (by omega) h1 h2 hd
        obtain ⟨b0, e0⟩ : ∃ b0 : Nat, b = (b0 : Int) := ⟨b.toNat, by have := hb b (by simp); omega⟩
        subst e0
        have hb0 := hb (b0 : Int) (by simp)
        refine ⟨b0, by omega, hn, ?_⟩
        rw [List.length_cons, show r.length + 1 + d = (r.length + d) + 1 by omega]
        exact ⟨hr, ih⟩
      · exfalso
        rw [if_neg hr] at h1 hen
        rw [h1] at hen
        rcases hen with e | ⟨e, _⟩
        · have : info.1 = q + 1 := congrArg Prod.fst e
          omega
        · omega
theorem walkL_state {kd : Nat → Nat} {g : Graph} : ∀ (L : List Int) (q : Nat) (st : Int) (info : Info), (walkL kd g L q st info).1 = info ∨ ruleOfF g (walkL kd g L q st info).1.2.2 ≠ -1
  | [], q, st, info => .inl rfl
  | b :: r, q, st, info => by
    rw [walkL_cons]
    split
    · exact .inl rfl
    · rcases walkL_state r (q + 1) (nextF kd g st b) (if ruleOfF g (nextF kd g st b) = -1 then info else (q + 1, ruleOfF g (nextF kd g st b), nextF kd g st b)) with e | e
      · rw [e]
        split
        · exact .inl rfl
        · rename_i hr
          exact .inr hr
      · exact .inr e
theorem restL_byte (s : ByteArray) (p : Nat) : ∀ b ∈ restL s p, 0 ≤ b ∧ b < 256 := by
  intro b hb
  unfold restL at hb
  rw [List.mem_map] at hb
  obtain ⟨c, _, rfl⟩ := hb
  have := c.toNat_lt
  omega
/-- Where a token ends, as due has it: a lone byte where it begins. -/
def endT (t : TokT) : Nat := if t.rule = -1 then t.fr else t.tt
def dueF (n k : Nat) : List TokT → Nat
  | [] => 0
  | t :: r => if n < endT t + k then 0 else dueF n k r + 1
theorem dueF_lt (n k : Nat) : ∀ (m : List TokT) (i : Nat), i < dueF n k m → ∃ t r, m.drop i = t :: r ∧ endT t + k ≤ n
  | [], i, h => by simp [dueF] at h
  | t :: r, i, h => by
    unfold dueF at h
    split at h
    · omega
    · rename_i hc
      cases i with
      | zero => exact ⟨t, r, rfl, by omega⟩
      | succ i => exact dueF_lt n k r i (by omega)
/-- Each token is told with which K bytes stand behind it. -/
theorem due_told {R : RulesT} {kd : Nat → Nat} {g : Graph} (hR : buildF R = some (kd, g)) (hf : LexFit kd g) (hbd : (gapOf kd g).bounded = true) {x y : ByteArray} {p : Nat} (hle : p ≤ x.size) (hop : p = x.size ∨ openOf g (walkL kd g (restL x p) p 0 (info0 p)).2 = true)
    (m : List TokT) (k : Nat) (hm : TokPath kd g (x ++ y) p (m.drop k) (x ++ y).size) (K : Nat) (hK : (gapOf kd g).k ≤ K) (hK1 : 1 ≤ K) : dueF x.size K m ≤ k := by
  refine Nat.le_of_not_lt fun hlt => ?_
  obtain ⟨t, r, e1, e2⟩ := dueF_lt _ _ _ _ hlt
  rw [e1] at hm
  obtain ⟨h1, h2, _⟩ := hm
  have hsz : (x ++ y).size = x.size + y.size := ByteArray.size_append
  rw [nextTok_walk kd g (x ++ y) p (by omega), restL_app x y p hle] at h2
  have hend : ∀ i : Info, t = tokOf p i → (i = info0 p ∨ (p < i.1 ∧ i.2.1 ≠ -1)) → endT t = i.1 := by
    intro i e hi
    rw [e]
    unfold tokOf endT
    rcases hi with rfl | ⟨h1, h2⟩
    · simp
    · rw [if_neg (show ¬ i.1 = p by omega), if_neg (by exact h2)]
  have hall := walkL_end kd g (restL x p ++ restL y 0) p 0 (info0 p)
  have hE := hend _ h2 (by rcases hall with e | ⟨e, _, e'⟩; exact .inl e; exact .inr ⟨e, e'⟩)
  rcases hop with e | hop
  · subst e
    rcases hall with e | ⟨e, _⟩
    · rw [e] at hE
      have : endT t = x.size := hE
      omega
    · omega
  · cases hh : (walkL kd g (restL x p) p 0 (info0 p)).2 with
    | none => rw [hh] at hop; cases hop
    | some s' =>
      rw [hh] at hop
      obtain ⟨d, hd⟩ := leadOn_lead hR (show leadOnF g s' = true from hop)
      have happ := walkL_app kd g (restL x p) (restL y 0) p 0 (info0 p)
      rw [hh] at happ
      simp only at happ
      have hen := walkL_end kd g (restL x p) p 0 (info0 p)
      have hag := walkL_again kd g (restL x p) p 0 (info0 p) s' hh
      have hst := walkL_state (kd := kd) (g := g) (restL x p) p 0 (info0 p)
      have hen2 := walkL_end kd g (restL y 0) (p + (restL x p).length) s' (walkL kd g (restL x p) p 0 (info0 p)).1
      rw [← happ] at hen2
      rw [restL_len] at hen hen2
      generalize hr : walkL kd g (restL x p) p 0 (info0 p) = W at hh hen hag hst hen2
      have hE1 : endT t = W.1.1 := by
        rcases hen2 with e | ⟨e, _⟩
        · rw [hE, e]
        · omega
      have hlead : LeadT kd g (x.size - W.1.1 + d) W.1.2.2 ∧ (ruleOfF g W.1.2.2 ≠ -1 ∨ W.1.2.2 = 0) := by
        rcases hag with e | ⟨k, k0, k1, k2, k3⟩
        · have hl := walkL_lead (kd := kd) (g := g) (restL x p) p 0 (info0 p) s' d (restL_byte x p) (Nat.le_refl _) (by rw [hr]; exact e) (by rw [hr]; exact hh) hd
          rw [restL_len] at hl
          rw [e]
          exact ⟨hl, .inr rfl⟩
        · have hl := walkL_lead (kd := kd) (g := g) ((restL x p).drop k) (p + k) W.1.2.2 W.1 s' d (by rw [restL_drop]; exact restL_byte x _) (by omega) (by rw [k3]) (by rw [k3]; exact hh) hd
          rw [restL_drop, restL_len, ← k2] at hl
          refine ⟨hl, .inl ?_⟩
          rcases hst with e | e
          · have : W.1.1 = p := by rw [e]
            omega
          · exact e
      have hin : 0 ≤ W.1.2.2 ∧ W.1.2.2 < (g.rule.length : Int) := by
        rcases hlead.2 with e | e
        · unfold ruleOfF at e
          split at e
          · exact absurd rfl e
          · omega
        · rw [e]
          have := hf.pos
          omega
      obtain ⟨s, hs⟩ : ∃ s : Nat, W.1.2.2 = (s : Int) := ⟨W.1.2.2.toNat, by omega⟩
      rw [hs] at hlead hin
      have := lead_near hf hbd (by omega) (by rcases hlead.2 with e | e; exact .inl e; exact .inr (by omega)) hlead.1
      omega
end Go.Proofs.Ytmgpdaemcbbikaa

namespace Go.Proofs.Ytmgpdaemcbbikaa
set_option linter.unusedVariables false

/-- On stops where a longer token may come, or at the end. -/
theorem on_open {kd : Nat → Nat} {g : Graph} (ho : LexOk kd g) (s : ByteArray) : ∀ (n p : Nat) (acc : List TokT), p ≤ s.size → s.size < n + p →
    (onLoop kd g false n (savOf p s (info0 p)) acc).2.at_ = s.size ∨ openOf g (walkL kd g (restL s (onLoop kd g false n (savOf p s (info0 p)) acc).2.at_) (onLoop kd g false n (savOf p s (info0 p)) acc).2.at_ 0 (info0 (onLoop kd g false n (savOf p s (info0 p)) acc).2.at_)).2 = true
  | 0, p, acc, _, _ => by omega
  | n + 1, p, acc, hp, hn => by
    have hz := extract_size' s p
    by_cases hlt : p < s.size
    · have hen := walkL_end kd g (restL s p) p 0 (info0 p)
      rw [restL_len] at hen
      by_cases ho' : openOf g (walkL kd g (restL s p) p 0 (info0 p)).2 = true
      · have e : onLoop kd g false (n + 1) (savOf p s (info0 p)) acc = (acc, savOf p s (walkL kd g (restL s p) p 0 (info0 p)).1) := by
          unfold onLoop
          rw [if_pos (.inr (by show (s.extract p s.size).size ≠ 0; omega)), stretchF_walk kd g s p (info0 p) hp]
          show (if openOf g (walkL kd g (restL s p) p 0 (info0 p)).2 = true ∧ false = false then _ else _) = _
          rw [if_pos ⟨ho', rfl⟩]
        rw [e]
        exact .inr ho'
      · obtain ⟨a1, a2, a3, a4⟩ := lone_tok p s (walkL kd g (restL s p) p 0 (info0 p)).1 hlt (by rcases hen with e | ⟨e1, e2, _⟩; exact .inl e; exact .inr ⟨e1, by omega⟩)
        have e : onLoop kd g false (n + 1) (savOf p s (info0 p)) acc = onLoop kd g false n (savOf (tokOf p (walkL kd g (restL s p) p 0 (info0 p)).1).tt s (info0 (tokOf p (walkL kd g (restL s p) p 0 (info0 p)).1).tt)) (acc ++ [tokOf p (walkL kd g (restL s p) p 0 (info0 p)).1]) := by
          rw [← a1, ← a2]
          conv => lhs; unfold onLoop
          rw [if_pos (.inr (by show (s.extract p s.size).size ≠ 0; omega)), stretchF_walk kd g s p (info0 p) hp]
          show (if openOf g (walkL kd g (restL s p) p 0 (info0 p)).2 = true ∧ false = false then _ else _) = _
          rw [if_neg (fun e => ho' e.1)]
        rw [e]
        exact on_open ho s n _ _ a4 (by omega)
    · left
      unfold onLoop
      have e : p = s.size := by omega
      subst e
      rw [if_neg (by simp only [not_or]; exact ⟨by show ¬ s.size < s.size; omega, by show ¬ (s.extract s.size s.size).size ≠ 0; omega⟩)]
      rfl
theorem path_app {kd : Nat → Nat} {g : Graph} {s : ByteArray} : ∀ {l m : List TokT} {p q r : Nat}, TokPath kd g s p l q → TokPath kd g s q m r → TokPath kd g s p (l ++ m) r
  | [], m, p, q, r, hl, hm => by have e : p = q := hl; rw [e]; exact hm
  | t :: l, m, p, q, r, ⟨h1, h2, h3⟩, hm => ⟨h1, h2, path_app h3 hm⟩
/-- How it stands when all of `pre` was told: whatever comes behind, that is its cut's beginning. -/
structure Told (kd : Nat → Nat) (g : Graph) (x : ByteArray) (p : Nat) (v : SavT) (pre : List TokT) : Prop where
  st : Stand kd g x p v
  path : ∀ z, TokPath kd g (x ++ z) 0 pre p
theorem Told.start (kd : Nat → Nat) (g : Graph) : Told kd g ⟨#[]⟩ 0 (startS 0) [] := ⟨Stand.start kd g, fun z => rfl⟩
/-- One piece more. -/
theorem Told.feed {kd : Nat → Nat} {g : Graph} (ho : LexOk kd g) {x : ByteArray} {p : Nat} {v : SavT} {pre : List TokT} (h : Told kd g x p v pre) (y : ByteArray) :
    ∃ p', Told kd g (x ++ y) p' (onF kd g v y false).2 (pre ++ (onF kd g v y false).1) ∧ (p' = (x ++ y).size ∨ openOf g (walkL kd g (restL (x ++ y) p') p' 0 (info0 p')).2 = true) := by
  have hle := h.st.le
  have hsz : (x ++ y).size = x.size + y.size := ByteArray.size_append
  obtain ⟨l, p', v', e1, h1, h2, h3⟩ := on_told ho (x ++ y) ((x ++ y).size - p + 1) p [] (by omega) (by omega)
  have h4 := on_open ho (x ++ y) ((x ++ y).size - p + 1) p [] (by omega) (by omega)
  rw [e1] at h4
  rw [h.st.on y false, e1]
  have e2 : v'.at_ = p' := by rw [h1.eq]; rfl
  simp only [List.nil_append] at h4 ⊢
  rw [e2] at h4
  refine ⟨p', ⟨h1, fun z => ?_⟩, h4⟩
  have h5 := h.path (y ++ z)
  rw [← ByteArray.append_assoc] at h5
  exact path_app h5 (h3 z)
/-- The cut of whatever begins so begins with what was told. -/
theorem Told.cut {kd : Nat → Nat} {g : Graph} {x : ByteArray} {p : Nat} {v : SavT} {pre : List TokT} (h : Told kd g x p v pre) (z : ByteArray) :
    ∃ m', cutF kd g (x ++ z) = pre ++ m' ∧ TokPath kd g (x ++ z) p m' (x ++ z).size := path_split (cutF_path kd g (x ++ z)) (h.path z)
theorem Told.stands {kd : Nat → Nat} {g : Graph} {x : ByteArray} {p : Nat} {v : SavT} {pre l : List TokT} (h : Told kd g x p v (pre ++ l)) (z : ByteArray) :
    pre.length + l.length ≤ (cutF kd g (x ++ z)).length ∧ ((cutF kd g (x ++ z)).drop pre.length).take l.length = l := by
  obtain ⟨m', e, _⟩ := h.cut z
  rw [e]
  constructor
  · simp
  · rw [List.append_assoc, List.drop_append_of_le_length (Nat.le_refl _), List.drop_length, List.nil_append, List.take_append_of_le_length (Nat.le_refl _), List.take_length]
theorem Told.due {R : RulesT} {kd : Nat → Nat} {g : Graph} (hR : buildF R = some (kd, g)) (hf : LexFit kd g) (hbd : (gapOf kd g).bounded = true) {x : ByteArray} {p : Nat} {v : SavT} {pre : List TokT} (h : Told kd g x p v pre) (hop : p = x.size ∨ openOf g (walkL kd g (restL x p) p 0 (info0 p)).2 = true) (z : ByteArray) (K : Nat) (hK : (gapOf kd g).k ≤ K) (hK1 : 1 ≤ K) :
    dueF x.size K (cutF kd g (x ++ z)) ≤ pre.length := by
  obtain ⟨m', e, hp⟩ := h.cut z
  rw [e]
  refine due_told hR hf hbd h.st.le hop (y := z) _ _ ?_ K hK hK1
  rw [List.drop_append_of_le_length (Nat.le_refl _), List.drop_length, List.nil_append]
  exact hp
/-- The cut's tokens lie in the text. -/
theorem path_in {kd : Nat → Nat} {g : Graph} {s : ByteArray} : ∀ {l : List TokT} {p : Nat}, TokPath kd g s p l s.size → ∀ t ∈ l, t.fr ≤ s.size ∧ t.tt ≤ s.size
  | [], p, _, t, ht => by simp at ht
  | t' :: l, p, ⟨h1, h2, h3⟩, t, ht => by
    rw [List.mem_cons] at ht
    rcases ht with rfl | ht
    · have h4 := nextTok_pos kd g s p h1
      have h5 := nextTok_walk kd g s p (by omega)
      rw [h2]
      refine ⟨?_, h4.2.1⟩
      rw [h5]
      unfold tokOf
      split <;> (show p ≤ s.size; omega)
    · exact path_in h3 t ht
end Go.Proofs.Ytmgpdaemcbbikaa
