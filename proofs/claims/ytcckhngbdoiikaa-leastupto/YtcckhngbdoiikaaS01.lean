import Derived.Test.YtcckhngbdoiikaaM57
import Derived.Test.YtcckhngbdoiikaaM56
import Derived.Test.YtcckhngbdoiikaaM37
import Derived.Test.YtcckhngbdoiikaaM36

namespace Go.Proofs.Ytcckhngbdoiikaa
open Go.RowKit Go.Deep
set_option linter.unusedVariables false

theorem stepsLoop_from {kd : Nat → Nat} {g : Graph} (hi : StepsIn kd g) (s : Nat) : ∀ (n b : Nat) (seen : List Bool) (acc : List StepT), (∀ t ∈ acc, t.b < 256 ∧ nextF kd g (s : Int) (t.b : Int) = (t.q : Int)) → ∀ t ∈ stepsLoop kd g s n b seen acc, t.b < 256 ∧ nextF kd g (s : Int) (t.b : Int) = (t.q : Int)
  | 0, b, seen, acc, h, t, ht => h t ht
  | n + 1, b, seen, acc, h, t, ht => by
    unfold stepsLoop at ht
    split at ht
    · rename_i hb
      split at ht
      · exact stepsLoop_from hi s n _ _ _ h t ht
      · rename_i hc
        have hin := hi (s : Int) (b : Int)
        have hne : nextF kd g (s : Int) (b : Int) ≠ -1 := fun e => hc (.inl e)
        refine stepsLoop_from hi s n _ _ _ (fun t' ht' => ?_) t ht
        rw [List.mem_append, List.mem_singleton] at ht'
        rcases ht' with ht' | rfl
        · exact h t' ht'
        · refine ⟨hb, ?_⟩
          show nextF kd g (s : Int) (b : Int) = (((nextF kd g (s : Int) (b : Int)).toNat : Nat) : Int)
          omega
    · exact h t ht
theorem stepsF_from {kd : Nat → Nat} {g : Graph} (hi : StepsIn kd g) (s : Nat) : ∀ t ∈ stepsF kd g s, t.b < 256 ∧ nextF kd g (s : Int) (t.b : Int) = (t.q : Int) :=
  stepsLoop_from hi s 257 0 _ _ (fun t ht => by simp at ht)
theorem lead_weave {kd : Nat → Nat} {g : Graph} (hi : StepsIn kd g) {s : Nat} (hs : s < g.rule.length) {m : List Bool} (h : leadsInto (weaveF kd g) m s = true) : ∃ b q : Nat, b < 256 ∧ nextF kd g (s : Int) (b : Int) = (q : Int) ∧ q < g.rule.length ∧ m.getD q false = true := by
  unfold leadsInto intoF at h
  have e : (weaveF kd g).steps.getD s [] = stepsF kd g s := by simp [weaveF, stepsTo, hs]
  rw [e, List.find?_isSome] at h
  obtain ⟨t, h1, h2⟩ := h
  obtain ⟨h3, h4⟩ := stepsF_from hi s t h1
  have hin := hi (s : Int) (t.b : Int)
  rw [h4] at hin
  exact ⟨t.b, t.q, h3, h4, by omega, h2⟩
theorem layer_far {kd : Nat → Nat} {g : Graph} (hi : StepsIn kd g) : ∀ (d s : Nat), s < g.rule.length → (layerAt (weaveF kd g) d).getD s false = true → FarT kd g d (s : Int)
  | 0, s, hs, h => by
    have h' : (weaveF kd g).token.getD s false = true := h
    rw [weave_token kd g hs] at h'
    show ruleOfF g (s : Int) ≠ -1
    exact of_decide_eq_true h'
  | d + 1, s, hs, h => by
    have hlen : s < (weaveF kd g).token.length := by simp [weaveF, tokenF_len, hs]
    have h' : (layerF (weaveF kd g) (layerAt (weaveF kd g) d)).getD s false = true := h
    have e : (layerF (weaveF kd g) (layerAt (weaveF kd g) d)).getD s false = (leadsInto (weaveF kd g) (layerAt (weaveF kd g) d) s && !((weaveF kd g).token.getD s false)) := by
      unfold layerF
      simp [hlen]
    rw [e, Bool.and_eq_true, weave_token kd g hs] at h'
    obtain ⟨h1, h2⟩ := h'
    have hr : ruleOfF g (s : Int) = -1 := by simpa using h2
    obtain ⟨b, q, h3, h4, h5, h6⟩ := lead_weave hi hs h1
    exact ⟨hr, b, h3, by rw [h4]; omega, by rw [h4]; exact layer_far hi d q h5 h6⟩
theorem farD_is (x : WebT) (LL : List (List Bool)) : ∀ D, (farD x LL D).2 = 0 ∨ ((farD x LL D).2 ≤ D ∧ 0 < (farD x LL D).2 ∧ (farD x LL D).1 < x.token.length ∧ farStop x (LL.getD ((farD x LL D).2 - 1) []) (farD x LL D).1 = true)
  | 0 => .inl rfl
  | D + 1 => by
    unfold farD
    split
    · rename_i s hs
      have h1 := List.mem_of_find?_eq_some hs
      have h2 := List.find?_some hs
      exact .inr ⟨Nat.le_refl _, by show 0 < D + 1; omega, by simpa using h1, h2⟩
    · rcases farD_is x LL D with e | ⟨h1, h2⟩
      · exact .inl e
      · exact .inr ⟨by omega, h2⟩
/-- The greatest distance is one: from the state that gap takes. -/
theorem far_there {kd : Nat → Nat} {g : Graph} (hf : LexFit kd g) (h : 0 < (farD (weaveF kd g) (layersF (weaveF kd g) g.rule.length) g.rule.length).2) :
    ∃ s : Nat, s = (farD (weaveF kd g) (layersF (weaveF kd g) g.rule.length) g.rule.length).1 ∧ s < g.rule.length ∧ (ruleOfF g (s : Int) ≠ -1 ∨ s = 0) ∧ LeadT kd g ((farD (weaveF kd g) (layersF (weaveF kd g) g.rule.length) g.rule.length).2 - 1) (s : Int) := by
  rcases farD_is (weaveF kd g) (layersF (weaveF kd g) g.rule.length) g.rule.length with e | ⟨h1, h2, h3, h4⟩
  · omega
  · generalize farD (weaveF kd g) (layersF (weaveF kd g) g.rule.length) g.rule.length = r at *
    have hs : r.1 < g.rule.length := by simpa [weaveF, tokenF_len] using h3
    rw [layersF_get _ _ _ (by omega)] at h4
    unfold farStop at h4
    rw [Bool.and_eq_true, weave_token kd g hs] at h4
    obtain ⟨h5, h6⟩ := h4
    obtain ⟨b, q, h7, h8, h9, h10⟩ := lead_weave hf.into hs h5
    refine ⟨r.1, rfl, hs, ?_, b, h7, by rw [h8]; omega, by rw [h8]; exact layer_far hf.into _ q h9 h10⟩
    simpa using h6
end Go.Proofs.Ytcckhngbdoiikaa

namespace Go.Proofs.Ytcckhngbdoiikaa
set_option linter.unusedVariables false

theorem visitStep_new {cls : List Int} {N : Nat} {st : List Int × List Int} (hl : st.2.length = N) {tt : Int} (hc : 0 ≤ cls.getD tt.toNat 0 ∧ cls.getD tt.toNat 0 < (N : Int) ∨ tt = -1) {j : Nat} (h1 : st.1.length ≤ j) (h2 : j < (visitStep cls st tt).1.length) : tt ≠ -1 ∧ (visitStep cls st tt).2.getD (cls.getD tt.toNat 0).toNat 0 = (j : Int) := by
  unfold visitStep at h2 ⊢
  split at h2
  · rename_i hcd
    rw [if_pos hcd]
    simp only [Bool.and_eq_true, bne_iff_ne, ne_eq, beq_iff_eq] at hcd
    simp only [List.length_append, List.length_cons, List.length_nil] at h2
    refine ⟨hcd.1, ?_⟩
    simp only
    rcases hc with hc | hc
    · rw [getD_set _ _ _ _ (by omega), if_pos rfl]
      omega
    · exact absurd hc hcd.1
  · omega
theorem visitRow_new {N : Nat} {cls : List Int} (hcl : cls.length = N) (hc : ∀ x ∈ cls, 0 ≤ x ∧ x < (N : Int)) : ∀ (row : List Int) (st : List Int × List Int), VInv N cls st → RowOk N row →
    ∀ j : Nat, st.1.length ≤ j → j < (visitRow cls row st).1.length → ∃ tt ∈ row, tt ≠ -1 ∧ (visitRow cls row st).2.getD (cls.getD tt.toNat 0).toNat 0 = (j : Int)
  | [], st, h, _, j, h1, h2 => by
    have e : visitRow cls [] st = st := rfl
    rw [e] at h2
    omega
  | x :: r, st, h, hr, j, h1, h2 => by
    have e : visitRow cls (x :: r) st = visitRow cls r (visitStep cls st x) := rfl
    rw [e] at h2 ⊢
    obtain ⟨s1, s2, s3⟩ := visitStep_inv hcl hc h (hr x (by simp))
    obtain ⟨r1, r2, r3⟩ := visitRow_inv hcl hc r _ s1 (fun y hy => hr y (by simp [hy]))
    by_cases hj : j < (visitStep cls st x).1.length
    · have hx := hr x (by simp)
      obtain ⟨g1, g2⟩ := visitStep_new (cls := cls) (N := N) h.ok.len (tt := x) (by
        rcases hx with e | e
        · exact .inr e
        · exact .inl (hc _ (getD_mem (by omega) 0))) h1 hj
      refine ⟨x, by simp, g1, ?_⟩
      rw [r2.2 _ (by rw [g2]; omega), g2]
    · obtain ⟨tt, g1, g2, g3⟩ := visitRow_new hcl hc r _ s1 (fun y hy => hr y (by simp [hy])) j (by omega) h2
      exact ⟨tt, by simp [g1], g2, g3⟩
/-- Each node but the first is come upon from one ahead of it. -/
def Found (g : Graph) (cls : List Int) (st : List Int × List Int) (i : Nat) : Prop := ∀ j : Nat, 0 < j → j < st.1.length → ∃ i' : Nat, i' < i ∧ i' < j ∧ ∃ tt ∈ g.next.getD (st.1.getD i' 0).toNat [], tt ≠ -1 ∧ st.2.getD (cls.getD tt.toNat 0).toNat 0 = (j : Int)
theorem visitLoop_found {g : Graph} {K : Nat} (ho : GOk g K) {cls : List Int} (hcl : cls.length = g.rule.length) (hc : ∀ x ∈ cls, 0 ≤ x ∧ x < (g.rule.length : Int)) : ∀ (f i : Nat) (st : List Int × List Int), i ≤ st.1.length → VInv g.rule.length cls st → Found g cls st i →
    ∃ i', Found g cls (visitLoop g cls f i st) i'
  | 0, i, st, hi, h, hF => ⟨i, hF⟩
  | f + 1, i, st, hi, h, hF => by
    unfold visitLoop
    split
    · rename_i hlt
      have hin := h.ok.ok _ (getD_mem (l := st.1) hlt 0)
      have hrow := (ho.row (st.1.getD i 0).toNat (by rw [ho.len]; omega)).2
      obtain ⟨r1, r2, r3⟩ := visitRow_inv hcl hc _ st h hrow
      have r4 := visitRow_new hcl hc _ st h hrow
      refine visitLoop_found ho hcl hc f (i + 1) _ (by have := r2.1.length_le; omega) r1 (fun j j0 jl => ?_)
      by_cases hj : j < st.1.length
      · obtain ⟨i', a1, a2, tt, a3, a4, a5⟩ := hF j j0 hj
        refine ⟨i', by omega, a2, tt, by rw [prefix_getI r2.1 (by omega)]; exact a3, a4, ?_⟩
        rw [r2.2 _ (by rw [a5]; omega), a5]
      · obtain ⟨tt, a3, a4, a5⟩ := r4 j (by omega) jl
        exact ⟨i, by omega, by omega, tt, by rw [prefix_getI r2.1 hlt]; exact a3, a4, a5⟩
    · exact ⟨i, hF⟩
theorem visitF_found {g : Graph} {K : Nat} (ho : GOk g K) (hpos : 0 < g.rule.length) {cls : List Int} (hcl : cls.length = g.rule.length) (hc : ∀ x ∈ cls, 0 ≤ x ∧ x < (g.rule.length : Int)) : ∃ i', Found g cls (visitF g cls) i' := by
  have hx := hc _ (getD_mem (l := cls) (k := 0) (by omega) 0)
  have hck : (cls.getD 0 0).toNat < (List.replicate cls.length (-1 : Int)).length := by rw [List.length_replicate]; omega
  have hrep : ∀ d, d < cls.length → (List.replicate cls.length (-1 : Int)).getD d 0 = -1 := fun d hd => by simp [hd]
  refine visitLoop_found ho hcl hc _ 0 _ (by simp) ⟨⟨?_, by simp [hcl], fun x hx => by simp at hx; omega⟩, ⟨by simp, rfl⟩, fun j hj => ?_, fun d hd => ?_⟩ (fun j j0 jl => by simp at jl; omega)
  · have h1 := neg1_set (List.replicate cls.length (-1 : Int)) (cls.getD 0 0).toNat 0 hck (by rw [hrep _ (by omega)]) (by omega)
    have h2 : neg1 (List.replicate cls.length (-1 : Int)) = cls.length := by simp [neg1]
    simp only [List.length_cons, List.length_nil]
    omega
  · simp only [List.length_cons, List.length_nil] at hj
    have : j = 0 := by omega
    subst this
    simp only [List.getD_cons_zero, Int.toNat_zero]
    rw [getD_set _ _ _ _ hck, if_pos rfl]; rfl
  · simp only
    rw [getD_set _ _ _ _ hck]
    split
    · rename_i e
      right
      refine ⟨by omega, by simp, ?_⟩
      simp only [Int.toNat_zero, List.getD_cons_zero]
      omega
    · exact .inl (hrep d (by omega))
/-- A byte leads to each state but the first from one with a smaller number. -/
theorem build_reach {R : RulesT} {kd : Nat → Nat} {g : Graph} (h : buildF R = some (kd, g)) {j : Nat} (j0 : 0 < j) (hj : j < g.rule.length) : ∃ i b : Nat, i < j ∧ b < 256 ∧ nextF kd g (i : Int) (b : Int) = (j : Int) := by
  have hG := build_lexG h
  have hrow := fun i (hi : i < g.rule.length) => build_row h hi
  have hkd : kd = kindOf R.allow := by obtain ⟨_, _, e, _⟩ := buildF_some h; exact e
  obtain ⟨i, hij, k, hk, hs⟩ : ∃ i : Nat, i < j ∧ ∃ k, k < (kindsAt R.allow 256).length ∧ stepK g (i : Int) k = (j : Int) := by
    obtain ⟨g0, hg, rfl, rfl⟩ := buildF_some h
    obtain ⟨ho, hp, hn⟩ := exploreF_ok hg
    have ho' := pruneF_ok ho
    have hp' : 0 < (pruneF g0).rule.length := hp
    obtain ⟨x, hF⟩ := visitF_found ho' hp' (mergeF_len _) (mergeF_bd _ hp')
    have hv := (visitF_inv ho' hp' (mergeF_len _) (mergeF_bd _ hp')).1
    have hj' : j < (visitF (pruneF g0) (mergeF (pruneF g0))).1.length := by simpa [numberF] using hj
    obtain ⟨i, _, hij, tt, a1, a2, a3⟩ := hF j j0 hj'
    have hi' : i < (visitF (pruneF g0) (mergeF (pruneF g0))).1.length := by omega
    have hin := hv.ok.ok _ (getD_mem (l := (visitF (pruneF g0) (mergeF (pruneF g0))).1) hi' 0)
    obtain ⟨k, hk, e⟩ := List.getElem_of_mem a1
    have hr := ho'.row ((visitF (pruneF g0) (mergeF (pruneF g0))).1.getD i 0).toNat (by rw [ho'.len]; omega)
    refine ⟨i, hij, k, by rw [← hr.1]; exact hk, ?_⟩
    have e1 : (numberF (pruneF g0) (mergeF (pruneF g0))).next.getD i [] = numberRow (mergeF (pruneF g0)) (visitF (pruneF g0) (mergeF (pruneF g0))).2 ((pruneF g0).next.getD ((visitF (pruneF g0) (mergeF (pruneF g0))).1.getD i 0).toNat []) := by simp [numberF, hi']
    have hneg : ¬ ((i : Int) < 0) := by omega
    simp only [stepK, if_neg hneg, Int.toNat_natCast]
    rw [e1]
    unfold numberRow
    rw [getD_map _ _ _ hk]
    have e2 : ((pruneF g0).next.getD ((visitF (pruneF g0) (mergeF (pruneF g0))).1.getD i 0).toNat []).getD k 0 = tt := by
      rw [List.getD_eq_getElem?_getD, List.getElem?_eq_getElem hk]
      exact e
    rw [e2, if_pos (by simpa using a2), a3]
  obtain ⟨b, hb, e⟩ := kind_onto R.allow 256 k hk
  refine ⟨i, b, hij, hb, ?_⟩
  rw [nextF_step hG (by omega) hb, hkd, e]
  exact hs
end Go.Proofs.Ytcckhngbdoiikaa

namespace Go.Proofs.Ytcckhngbdoiikaa
open Go.RowKit Go.Deep
set_option linter.unusedVariables false

theorem bytesN_app (x y : ByteArray) : bytesN (x ++ y) = bytesN x ++ bytesN y := by simp [bytesN]
theorem bytesN_one {b : Nat} (h : b < 256) : bytesN (bytesOf [b]) = [b] := by
  simp [bytesN, bytesOf]
  omega
theorem runK_app (g : Graph) (s : Int) (k m : List Nat) : runK g s (k ++ m) = runK g (runK g s k) m := by simp [runK]
/-- A text leads to a state; its first part is the longest token on the way (or nothing). -/
structure AtText (kd : Nat → Nat) (g : Graph) (tok rest : List Nat) (q : Nat) : Prop where
  byte : ∀ b ∈ tok ++ rest, b < 256
  tokn : tok = [] ∨ accK g (runK g 0 (tok.map kd)) ≠ -1
  run : runK g 0 ((tok ++ rest).map kd) = (q : Int)
  non : ∀ k, 0 < k → k ≤ rest.length → accK g (runK g 0 ((tok ++ rest.take k).map kd)) = -1
theorem AtText.zero (kd : Nat → Nat) (g : Graph) : AtText kd g [] [] 0 := ⟨by simp, .inl rfl, rfl, fun k h1 h2 => by simp at h2; omega⟩
theorem AtText.step {kd : Nat → Nat} {g : Graph} (hg : LexG kd g) {tok rest : List Nat} {q b q' : Nat} (h : AtText kd g tok rest q) (hq : q < g.rule.length) (hb : b < 256) (hn : nextF kd g (q : Int) (b : Int) = (q' : Int)) (hq' : q' < g.rule.length) (hr : ruleOfF g (q' : Int) = -1) : AtText kd g tok (rest ++ [b]) q' := by
  have hrun : runK g 0 ((tok ++ (rest ++ [b])).map kd) = (q' : Int) := by
    rw [← List.append_assoc, List.map_append, runK_app, h.run, ← hn, nextF_step hg hq hb]
    rfl
  refine ⟨fun x hx => ?_, h.tokn, hrun, fun k k0 k1 => ?_⟩
  · rw [← List.append_assoc, List.mem_append, List.mem_singleton] at hx
    rcases hx with hx | rfl
    · exact h.byte x hx
    · exact hb
  · by_cases hk : k ≤ rest.length
    · rw [List.take_append_of_le_length hk]
      exact h.non k k0 hk
    · rw [List.take_of_length_le (by simp at k1 ⊢; omega), hrun, ← ruleOf_acc hq']
      exact hr
theorem AtText.token {kd : Nat → Nat} {g : Graph} (hg : LexG kd g) {tok rest : List Nat} {q b q' : Nat} (h : AtText kd g tok rest q) (hq : q < g.rule.length) (hb : b < 256) (hn : nextF kd g (q : Int) (b : Int) = (q' : Int)) (hq' : q' < g.rule.length) (hr : ruleOfF g (q' : Int) ≠ -1) : AtText kd g (tok ++ (rest ++ [b])) [] q' := by
  have hrun : runK g 0 ((tok ++ (rest ++ [b])).map kd) = (q' : Int) := by
    rw [← List.append_assoc, List.map_append, runK_app, h.run, ← hn, nextF_step hg hq hb]
    rfl
  refine ⟨fun x hx => ?_, .inr ?_, by rw [List.append_nil]; exact hrun, fun k k0 k1 => by simp at k1; omega⟩
  · rw [List.append_nil, ← List.append_assoc, List.mem_append, List.mem_singleton] at hx
    rcases hx with hx | rfl
    · exact h.byte x hx
    · exact hb
  · rw [hrun, ← ruleOf_acc hq']
    exact hr
/-- What is found by approach is so. -/
structure ApprIs (kd : Nat → Nat) (g : Graph) (a : ApprT) : Prop where
  tl : a.token.length = g.rule.length
  rl : a.rest.length = g.rule.length
  fl : a.found.length = g.rule.length
  is : ∀ q, a.found.getD q false = true → AtText kd g (bytesN (a.token.getD q noStr)) (bytesN (a.rest.getD q noStr)) q
  tok : ∀ q, a.found.getD q false = true → ruleOfF g (q : Int) ≠ -1 ∨ q = 0 → a.rest.getD q noStr = noStr
theorem getD_setB' (l : List Bool) (k i : Nat) (x : Bool) : (l.set k x).getD i false = if k = i ∧ k < l.length then x else l.getD i false := by
  rw [List.getD_eq_getElem?_getD, List.getElem?_set]
  by_cases h : k = i
  · subst h
    by_cases h2 : k < l.length
    · simp [h2]
    · simp [h2]
  · simp [h]
theorem apprStep_is {kd : Nat → Nat} {g : Graph} (hg : LexG kd g) {a : ApprT} (h : ApprIs kd g a) {state : Nat} (hs : state < g.rule.length) (hf : a.found.getD state false = true) (h0 : a.found.getD 0 false = true) {t : StepT} (hb : t.b < 256) (hn : nextF kd g (state : Int) (t.b : Int) = (t.q : Int)) (hq : t.q < g.rule.length) :
    ApprIs kd g (apprStep (weaveF kd g) state a t) ∧ (apprStep (weaveF kd g) state a t).found.getD t.q false = true ∧ ∀ q, a.found.getD q false = true → (apprStep (weaveF kd g) state a t).found.getD q false = true := by
  have hst := h.is state hf
  unfold apprStep
  by_cases hfd : a.found.getD t.q false = true
  · rw [if_pos hfd]
    exact ⟨h, hfd, fun q hq => hq⟩
  · rw [if_neg hfd, weave_token kd g hq]
    have hmono : ∀ q, a.found.getD q false = true → (a.found.set t.q true).getD q false = true := fun q hq9 => by
      rw [getD_setB']; split
      · rfl
      · exact hq9
    have hself : (a.found.set t.q true).getD t.q false = true := by rw [getD_setB', if_pos ⟨rfl, by rw [h.fl]; exact hq⟩]
    have hold : ∀ q, (a.found.set t.q true).getD q false = true → q ≠ t.q → a.found.getD q false = true := fun q h1 h2 => by
      rw [getD_setB', if_neg (fun e => h2 e.1.symm)] at h1
      exact h1
    have hz : t.q ≠ 0 := fun e => hfd (by rw [e]; exact h0)
    by_cases hr : ruleOfF g (t.q : Int) = -1
    · rw [if_neg (by simp [hr])]
      refine ⟨⟨by simp [h.tl], by simp [h.rl], by simp [h.fl], fun q h1 => ?_, fun q h1 h2 => ?_⟩, hself, hmono⟩
      · simp only at h1 ⊢
        by_cases e : q = t.q
        · subst e
          rw [getD_setS, if_pos ⟨rfl, by rw [h.tl]; exact hq⟩, getD_setS, if_pos ⟨rfl, by rw [h.rl]; exact hq⟩, bytesN_app, bytesN_one hb]
          exact hst.step hg hs hb hn hq hr
        · rw [getD_setS, if_neg (fun e' => e e'.1.symm), getD_setS, if_neg (fun e' => e e'.1.symm)]
          exact h.is q (hold q h1 e)
      · simp only at h1 ⊢
        have e : q ≠ t.q := fun e => by
          subst e
          rcases h2 with h2 | h2
          · exact h2 hr
          · exact hz h2
        rw [getD_setS, if_neg (fun e' => e e'.1.symm)]
        exact h.tok q (hold q h1 e) h2
    · rw [if_pos (by simp [hr])]
      refine ⟨⟨by simp [h.tl], by simp [h.rl], by simp [h.fl], fun q h1 => ?_, fun q h1 h2 => ?_⟩, hself, hmono⟩
      · simp only at h1 ⊢
        by_cases e : q = t.q
        · subst e
          rw [getD_setS, if_pos ⟨rfl, by rw [h.tl]; exact hq⟩, getD_setS, if_pos ⟨rfl, by rw [h.rl]; exact hq⟩, bytesN_app, bytesN_app, bytesN_one hb]
          exact hst.token hg hs hb hn hq hr
        · rw [getD_setS, if_neg (fun e' => e e'.1.symm), getD_setS, if_neg (fun e' => e e'.1.symm)]
          exact h.is q (hold q h1 e)
      · simp only at h1 ⊢
        by_cases e : q = t.q
        · subst e
          rw [getD_setS, if_pos ⟨rfl, by rw [h.rl]; exact hq⟩]
        · rw [getD_setS, if_neg (fun e' => e e'.1.symm)]
          exact h.tok q (hold q h1 e) h2
theorem apprSteps_is {kd : Nat → Nat} {g : Graph} (hg : LexG kd g) {state : Nat} (hs : state < g.rule.length) : ∀ (l : List StepT) (a : ApprT), (∀ t ∈ l, t.b < 256 ∧ nextF kd g (state : Int) (t.b : Int) = (t.q : Int) ∧ t.q < g.rule.length) → ApprIs kd g a → a.found.getD state false = true → a.found.getD 0 false = true →
    ApprIs kd g (l.foldl (apprStep (weaveF kd g) state) a) ∧ (∀ t ∈ l, (l.foldl (apprStep (weaveF kd g) state) a).found.getD t.q false = true) ∧ ∀ q, a.found.getD q false = true → (l.foldl (apprStep (weaveF kd g) state) a).found.getD q false = true
  | [], a, _, h, _, _ => ⟨h, by simp, fun q hq => hq⟩
  | t :: r, a, hl, h, hf, h0 => by
    obtain ⟨t1, t2, t3⟩ := hl t (by simp)
    obtain ⟨s1, s2, s3⟩ := apprStep_is hg h hs hf h0 t1 t2 t3
    obtain ⟨r1, r2, r3⟩ := apprSteps_is hg hs r _ (fun x hx => hl x (by simp [hx])) s1 (s3 _ hf) (s3 _ h0)
    rw [List.foldl_cons]
    refine ⟨r1, fun x hx => ?_, fun q hq => r3 q (s3 q hq)⟩
    rw [List.mem_cons] at hx
    rcases hx with rfl | hx
    · exact r3 _ s2
    · exact r2 x hx
theorem apprTo_is {R : RulesT} {kd : Nat → Nat} {g : Graph} (h : buildF R = some (kd, g)) : ∀ k, k ≤ g.rule.length → ApprIs kd g (apprTo (weaveF kd g) k) ∧ (apprTo (weaveF kd g) k).found.getD 0 false = true ∧ ∀ j i b : Nat, i < k → b < 256 → nextF kd g (i : Int) (b : Int) = (j : Int) → (apprTo (weaveF kd g) k).found.getD j false = true
  | 0, _ => by
    have hG := build_lexG h
    have hpos := hG.pos
    have htl : (weaveF kd g).token.length = g.rule.length := by simp [weaveF, tokenF_len]
    have hrep : ∀ q n, (List.replicate n noStr).getD q noStr = noStr := fun q n => by
      rw [List.getD_eq_getElem?_getD, List.getElem?_replicate]
      split <;> rfl
    have h0 : ∀ q, (appr0 g.rule.length).found.getD q false = true → q = 0 := fun q hq => by
      unfold appr0 at hq
      rw [getD_setB'] at hq
      split at hq
      · rename_i e; exact e.1.symm
      · rw [List.getD_eq_getElem?_getD, List.getElem?_replicate] at hq
        split at hq <;> cases hq
    show ApprIs kd g (appr0 (weaveF kd g).token.length) ∧ (appr0 (weaveF kd g).token.length).found.getD 0 false = true ∧ _
    rw [htl]
    refine ⟨⟨by simp [appr0], by simp [appr0], by simp [appr0], fun q hq => ?_, fun q hq _ => ?_⟩, ?_, fun j i b hi => by omega⟩
    · have e := h0 q hq
      subst e
      show AtText kd g (bytesN ((List.replicate g.rule.length noStr).getD 0 noStr)) (bytesN ((List.replicate g.rule.length noStr).getD 0 noStr)) 0
      rw [hrep]
      exact AtText.zero kd g
    · exact hrep q _
    · unfold appr0
      rw [getD_setB', if_pos ⟨rfl, by simp; exact hpos⟩]
  | k + 1, hk => by
    have hG := build_lexG h
    have hi := hG.stepsIn
    obtain ⟨a1, a2, a3⟩ := apprTo_is h k (by omega)
    have hfk : (apprTo (weaveF kd g) k).found.getD k false = true := by
      by_cases e : k = 0
      · rw [e] at a2 ⊢; exact a2
      · obtain ⟨i, b, h1, h2, h3⟩ := build_reach h (j := k) (by omega) (by omega)
        exact a3 k i b h1 h2 h3
    have e1 : (weaveF kd g).steps.getD k [] = stepsF kd g k := by
      have : k < g.rule.length := by omega
      simp [weaveF, stepsTo, this]
    have hl : ∀ t ∈ stepsF kd g k, t.b < 256 ∧ nextF kd g (k : Int) (t.b : Int) = (t.q : Int) ∧ t.q < g.rule.length := fun t ht => by
      obtain ⟨h1, h2⟩ := stepsF_from hi k t ht
      have := hi (k : Int) (t.b : Int)
      exact ⟨h1, h2, by omega⟩
    obtain ⟨s1, s2, s3⟩ := apprSteps_is hG (state := k) (by omega) (stepsF kd g k) (apprTo (weaveF kd g) k) hl a1 hfk a2
    have e2 : apprTo (weaveF kd g) (k + 1) = (stepsF kd g k).foldl (apprStep (weaveF kd g) k) (apprTo (weaveF kd g) k) := by
      show apprRow (weaveF kd g) k (apprTo (weaveF kd g) k) = _
      unfold apprRow
      rw [e1]
    rw [e2]
    refine ⟨s1, s3 _ a2, fun j i b h1 h2 h3 => ?_⟩
    by_cases e : i < k
    · exact s3 _ (a3 j i b e h2 h3)
    · have : i = k := by omega
      subst this
      obtain ⟨t, g1, g2⟩ := stepsF_all hi i b h2 (by rw [h3]; omega)
      have := s2 t g1
      rw [g2, h3, Int.toNat_natCast] at this
      exact this
/-- The way to a state. -/
theorem approach_is {R : RulesT} {kd : Nat → Nat} {g : Graph} (h : buildF R = some (kd, g)) {q : Nat} (hq : q < g.rule.length) :
    AtText kd g (bytesN (approachF (weaveF kd g) q).1) (bytesN (approachF (weaveF kd g) q).2) q ∧ (ruleOfF g (q : Int) ≠ -1 ∨ q = 0 → (approachF (weaveF kd g) q).2 = noStr) := by
  have hl : (weaveF kd g).steps.length = g.rule.length := by simp [weaveF, stepsTo]
  obtain ⟨a1, a2, a3⟩ := apprTo_is h g.rule.length (Nat.le_refl _)
  have hf : (apprTo (weaveF kd g) g.rule.length).found.getD q false = true := by
    by_cases e : q = 0
    · rw [e]; exact a2
    · obtain ⟨i, b, h1, h2, h3⟩ := build_reach h (j := q) (by omega) hq
      exact a3 q i b (by omega) h2 h3
  unfold approachF
  rw [hl]
  exact ⟨a1.is q hf, a1.tok q hf⟩
end Go.Proofs.Ytcckhngbdoiikaa

namespace Go.Proofs.Ytcckhngbdoiikaa
open Go.RowKit Go.Deep
set_option linter.unusedVariables false

theorem into_weave {kd : Nat → Nat} {g : Graph} (hi : StepsIn kd g) {s : Nat} (hs : s < g.rule.length) {m : List Bool} (h : leadsInto (weaveF kd g) m s = true) : ∃ t : StepT, intoF ((weaveF kd g).steps.getD s []) m = some t ∧ t.b < 256 ∧ nextF kd g (s : Int) (t.b : Int) = (t.q : Int) ∧ t.q < g.rule.length ∧ m.getD t.q false = true := by
  unfold leadsInto at h
  rw [Option.isSome_iff_exists] at h
  obtain ⟨t, ht⟩ := h
  have h1 := List.mem_of_find?_eq_some ht
  have h2 := List.find?_some ht
  have e : (weaveF kd g).steps.getD s [] = stepsF kd g s := by simp [weaveF, stepsTo, hs]
  rw [e] at h1
  obtain ⟨h3, h4⟩ := stepsF_from hi s t h1
  have hin := hi (s : Int) (t.b : Int)
  rw [h4] at hin
  exact ⟨t, ht, h3, h4, by omega, h2⟩
theorem layer_succ {kd : Nat → Nat} {g : Graph} {d s : Nat} (hs : s < g.rule.length) (h : (layerAt (weaveF kd g) (d + 1)).getD s false = true) : leadsInto (weaveF kd g) (layerAt (weaveF kd g) d) s = true ∧ ruleOfF g (s : Int) = -1 := by
  have hlen : s < (weaveF kd g).token.length := by simp [weaveF, tokenF_len, hs]
  have h' : (layerF (weaveF kd g) (layerAt (weaveF kd g) d)).getD s false = true := h
  have e : (layerF (weaveF kd g) (layerAt (weaveF kd g) d)).getD s false = (leadsInto (weaveF kd g) (layerAt (weaveF kd g) d) s && !((weaveF kd g).token.getD s false)) := by
    unfold layerF
    simp [hlen]
  rw [e, Bool.and_eq_true, weave_token kd g hs] at h'
  exact ⟨h'.1, by simpa using h'.2⟩
/-- Where a walk goes: its states, one more than its bytes. -/
structure WalkIs (kd : Nat → Nat) (g : Graph) (d at_ : Nat) (T V : List Nat) : Prop where
  tl : T.length = d
  vl : V.length = d
  byte : ∀ b ∈ T, b < 256
  into : ∀ k, k ≤ d → (at_ :: V).getD k 0 < g.rule.length
  run : ∀ k, k ≤ d → runK g (at_ : Int) ((T.take k).map kd) = (((at_ :: V).getD k 0 : Nat) : Int)
  non : ∀ k, 0 < k → k < d → ruleOfF g (((at_ :: V).getD k 0 : Nat) : Int) = -1
  tok : 0 < d → ruleOfF g (((at_ :: V).getD d 0 : Nat) : Int) ≠ -1
theorem walkD_is {kd : Nat → Nat} {g : Graph} (hg : LexG kd g) (LL : List (List Bool)) : ∀ (d at_ : Nat) (vis : List Nat) (t : ByteArray), at_ < g.rule.length → (∀ d', d' < d → LL.getD d' [] = layerAt (weaveF kd g) d') → (0 < d → leadsInto (weaveF kd g) (layerAt (weaveF kd g) (d - 1)) at_ = true) →
    ∃ T V, walkD (weaveF kd g) LL d at_ vis t = (vis ++ V, t ++ bytesOf T) ∧ WalkIs kd g d at_ T V
  | 0, at_, vis, t, ha, hL, h => by
    refine ⟨[], [], ?_, rfl, rfl, by simp, fun k hk => ?_, fun k hk => ?_, fun k h1 h2 => by omega, fun h1 => by omega⟩
    · show (vis, t) = (vis ++ [], t ++ bytesOf [])
      rw [List.append_nil]
      congr 1
      apply ByteArray.ext
      simp [bytesOf]
    · have : k = 0 := by omega
      subst this; exact ha
    · have : k = 0 := by omega
      subst this; rfl
  | d + 1, at_, vis, t, ha, hL, h => by
    have hi := hg.stepsIn
    have h1 := h (by omega)
    rw [Nat.add_sub_cancel] at h1
    obtain ⟨s, s1, s2, s3, s4, s5⟩ := into_weave hi ha h1
    obtain ⟨T, V, e, w⟩ := walkD_is hg LL d s.q (vis ++ [s.q]) (t ++ bytesOf [s.b]) s4 (fun d' hd' => hL d' (by omega)) (fun hd => by
      obtain ⟨d1, rfl⟩ : ∃ d1, d = d1 + 1 := ⟨d - 1, by omega⟩
      exact (layer_succ s4 s5).1)
    have hrun : ∀ k, k ≤ d → runK g (at_ : Int) (((s.b :: T).take (k + 1)).map kd) = (((s.q :: V).getD k 0 : Nat) : Int) := fun k hk => by
      rw [List.take_succ_cons, List.map_cons]
      show runK g (stepK g (at_ : Int) (kd s.b)) _ = _
      rw [← nextF_step hg ha s2, s3]
      exact w.run k hk
    refine ⟨s.b :: T, s.q :: V, ?_, by simp [w.tl], by simp [w.vl], fun b hb => ?_, fun k hk => ?_, fun k hk => ?_, fun k k0 k1 => ?_, fun _ => ?_⟩
    · unfold walkD
      rw [hL d (by omega), s1]
      simp only
      rw [e, List.append_assoc, List.singleton_append, ByteArray.append_assoc, bytesOf_append, List.singleton_append]
    · rw [List.mem_cons] at hb
      rcases hb with rfl | hb
      · exact s2
      · exact w.byte b hb
    · cases k with
      | zero => exact ha
      | succ k => exact w.into k (by omega)
    · cases k with
      | zero => rfl
      | succ k => exact hrun k (by omega)
    · cases k with
      | zero => omega
      | succ k =>
        show ruleOfF g (((s.q :: V).getD k 0 : Nat) : Int) = -1
        by_cases hk : k = 0
        · subst hk
          obtain ⟨d1, rfl⟩ : ∃ d1, d = d1 + 1 := ⟨d - 1, by omega⟩
          exact (layer_succ s4 s5).2
        · exact w.non k (by omega) (by omega)
    · show ruleOfF g (((s.q :: V).getD d 0 : Nat) : Int) ≠ -1
      by_cases hd : d = 0
      · subst hd
        have h9 : (weaveF kd g).token.getD s.q false = true := s5
        rw [weave_token kd g s4] at h9
        show ruleOfF g (s.q : Int) ≠ -1
        exact of_decide_eq_true h9
      · exact w.tok (by omega)
end Go.Proofs.Ytcckhngbdoiikaa

namespace Go.Proofs.Ytcckhngbdoiikaa
open Go.RowKit Go.Deep
set_option linter.unusedVariables false

theorem bytesN_of {T : List Nat} (h : ∀ b ∈ T, b < 256) : bytesN (bytesOf T) = T := by
  unfold bytesN bytesOf
  rw [List.map_map]
  conv => rhs; rw [← List.map_id T]
  refine List.map_congr_left (fun b hb => ?_)
  have := h b hb
  simp
  omega
/-- Behind a token (or at the beginning) the bytes T lead over no token to one. -/
structure PairIs (kd : Nat → Nat) (g : Graph) (u T : List Nat) : Prop where
  byte : ∀ b ∈ u ++ T, b < 256
  fr : u = [] ∨ accK g (runK g 0 (u.map kd)) ≠ -1
  tt : accK g (runK g 0 ((u ++ T).map kd)) ≠ -1
  non : ∀ k, 0 < k → k < T.length → accK g (runK g 0 ((u ++ T.take k).map kd)) = -1
/-- A walk from where a text leads. -/
theorem AtText.walk {kd : Nat → Nat} {g : Graph} {u : List Nat} {s d : Nat} {T V : List Nat} (h : AtText kd g u [] s) (w : WalkIs kd g d s T V) (hd : 0 < d) : PairIs kd g u T := by
  have hu : runK g 0 (u.map kd) = (s : Int) := by have := h.run; rwa [List.append_nil] at this
  have hrun : ∀ k, k ≤ d → runK g 0 ((u ++ T.take k).map kd) = (((s :: V).getD k 0 : Nat) : Int) := fun k hk => by
    rw [List.map_append, runK_app, hu]
    exact w.run k hk
  refine ⟨fun b hb => ?_, h.tokn, ?_, fun k k0 k1 => ?_⟩
  · rw [List.mem_append] at hb
    rcases hb with hb | hb
    · exact h.byte b (by simp [hb])
    · exact w.byte b hb
  · have e := hrun d (Nat.le_refl _)
    rw [List.take_of_length_le (by rw [w.tl]; exact Nat.le_refl _)] at e
    rw [e, ← ruleOf_acc (w.into d (Nat.le_refl _))]
    exact w.tok hd
  · rw [w.tl] at k1
    rw [hrun k (by omega), ← ruleOf_acc (w.into k (by omega))]
    exact w.non k k0 k1
theorem bounded_pair {R : RulesT} {kd : Nat → Nat} {g : Graph} (h : buildF R = some (kd, g)) (hf : LexFit kd g) (hk : 0 < (boundedF (weaveF kd g) (layersF (weaveF kd g) g.rule.length)).k) :
    ∃ T, T.length = (boundedF (weaveF kd g) (layersF (weaveF kd g) g.rule.length)).k ∧ (boundedF (weaveF kd g) (layersF (weaveF kd g) g.rule.length)).tt = (boundedF (weaveF kd g) (layersF (weaveF kd g) g.rule.length)).fr ++ bytesOf T ∧ PairIs kd g (bytesN (boundedF (weaveF kd g) (layersF (weaveF kd g) g.rule.length)).fr) T := by
  have hG := build_lexG h
  unfold boundedF at hk ⊢
  simp only [layersF_len] at hk ⊢
  rcases farD_is (weaveF kd g) (layersF (weaveF kd g) g.rule.length) g.rule.length with e | ⟨h1, h2, h3, h4⟩
  · omega
  · generalize farD (weaveF kd g) (layersF (weaveF kd g) g.rule.length) g.rule.length = r at *
    have hs : r.1 < g.rule.length := by simpa [weaveF, tokenF_len] using h3
    rw [layersF_get _ _ _ (by omega)] at h4
    unfold farStop at h4
    rw [Bool.and_eq_true, weave_token kd g hs] at h4
    obtain ⟨h5, h6⟩ := h4
    have h6' : ruleOfF g (r.1 : Int) ≠ -1 ∨ r.1 = 0 := by simpa using h6
    obtain ⟨a1, a2⟩ := approach_is h hs
    rw [a2 h6'] at a1
    have hl : ((layersF (weaveF kd g) g.rule.length).take r.2).length = r.2 := by rw [List.length_take, layersF_len]; omega
    obtain ⟨T, V, e, w⟩ := walkD_is hG ((layersF (weaveF kd g) g.rule.length).take r.2) r.2 r.1 [r.1] ⟨#[]⟩ hs (fun d' hd' => by
      rw [List.getD_eq_getElem?_getD, List.getElem?_take, if_pos hd', ← List.getD_eq_getElem?_getD, layersF_get _ _ _ (by omega)]) (fun _ => h5)
    have ew : (walkW (weaveF kd g) ((layersF (weaveF kd g) g.rule.length).take r.2) r.1).2 = bytesOf T := by
      unfold walkW
      rw [hl, e]
      apply ByteArray.ext
      simp
    exact ⟨T, w.tl, by rw [ew], AtText.walk a1 w hk⟩
end Go.Proofs.Ytcckhngbdoiikaa

namespace Go.Proofs.Ytcckhngbdoiikaa
open Go.RowKit Go.Deep
set_option linter.unusedVariables false

/-- On from where a text leads, over no token. -/
theorem AtText.seg {kd : Nat → Nat} {g : Graph} {u rest W : List Nat} {v v' : Nat} (h : AtText kd g u rest v) (hb : ∀ b ∈ W, b < 256) (hr : runK g (v : Int) (W.map kd) = (v' : Int)) (hn : ∀ k, 0 < k → k ≤ W.length → accK g (runK g (v : Int) ((W.take k).map kd)) = -1) : AtText kd g u (rest ++ W) v' := by
  refine ⟨fun b hx => ?_, h.tokn, ?_, fun k k0 k1 => ?_⟩
  · rw [← List.append_assoc, List.mem_append] at hx
    rcases hx with hx | hx
    · exact h.byte b hx
    · exact hb b hx
  · rw [← List.append_assoc, List.map_append, runK_app, h.run]
    exact hr
  · by_cases hk : k ≤ rest.length
    · rw [List.take_append_of_le_length hk]
      exact h.non k k0 hk
    · rw [List.take_append, List.take_of_length_le (by omega), ← List.append_assoc, List.map_append, runK_app, h.run]
      rw [List.length_append] at k1
      exact hn (k - rest.length) (by omega) (by omega)
theorem AtText.turns {kd : Nat → Nat} {g : Graph} {u rest W : List Nat} {v : Nat} (h : AtText kd g u rest v) (hb : ∀ b ∈ W, b < 256) (hr : runK g (v : Int) (W.map kd) = (v : Int)) (hn : ∀ k, 0 < k → k ≤ W.length → accK g (runK g (v : Int) ((W.take k).map kd)) = -1) : ∀ i, AtText kd g u (rest ++ (List.replicate i W).flatten) v
  | 0 => by simpa using h
  | i + 1 => by
    have ih := AtText.turns h hb hr hn i
    have := ih.seg hb hr hn
    rw [List.append_assoc] at this
    rw [List.replicate_succ', List.flatten_append]
    simpa using this
theorem AtText.tail {kd : Nat → Nat} {g : Graph} {u rest W : List Nat} {v : Nat} (h : AtText kd g u rest v) (hb : ∀ b ∈ W, b < 256) (ht : accK g (runK g (v : Int) (W.map kd)) ≠ -1) (hn : ∀ k, 0 < k → k < W.length → accK g (runK g (v : Int) ((W.take k).map kd)) = -1) : PairIs kd g u (rest ++ W) := by
  refine ⟨fun b hx => ?_, h.tokn, ?_, fun k k0 k1 => ?_⟩
  · rw [← List.append_assoc, List.mem_append] at hx
    rcases hx with hx | hx
    · exact h.byte b hx
    · exact hb b hx
  · rw [← List.append_assoc, List.map_append, runK_app, h.run]
    exact ht
  · by_cases hk : k ≤ rest.length
    · rw [List.take_append_of_le_length hk]
      exact h.non k k0 hk
    · rw [List.take_append, List.take_of_length_le (by omega), ← List.append_assoc, List.map_append, runK_app, h.run]
      rw [List.length_append] at k1
      exact hn (k - rest.length) (by omega) (by omega)
/-- A piece of a walk. -/
theorem WalkIs.piece {kd : Nat → Nat} {g : Graph} {d s : Nat} {T V : List Nat} (w : WalkIs kd g d s T V) {a k : Nat} (ha : a + k ≤ d) : runK g (((s :: V).getD a 0 : Nat) : Int) (((T.drop a).take k).map kd) = (((s :: V).getD (a + k) 0 : Nat) : Int) := by
  rw [← w.run a (by omega), ← runK_app, ← List.map_append, ← List.take_add]
  exact w.run (a + k) ha
end Go.Proofs.Ytcckhngbdoiikaa

namespace Go.Proofs.Ytcckhngbdoiikaa
open Go.RowKit Go.Deep
set_option linter.unusedVariables false

theorem repeatF_is {vis : List Nat} {n : Nat} (h : ∀ x ∈ vis, x < n) (hl : n < vis.length) : (repeatF vis).1 < (repeatF vis).2 ∧ (repeatF vis).2 < vis.length ∧ vis.getD (repeatF vis).1 0 = vis.getD (repeatF vis).2 0 := by
  unfold repeatF
  split
  · rename_i hn
    exfalso
    rw [List.find?_eq_none] at hn
    have hnd : vis.Nodup := by
      rw [List.Nodup, List.pairwise_iff_getElem]
      intro i j hi hj hij e
      have h1 := hn j (by simp [hj])
      apply h1
      unfold wasAt
      rw [List.find?_isSome]
      exact ⟨i, by simp [hij], by simp [hi, hj, e]⟩
    have := nodup_len n vis hnd h
    omega
  · rename_i s hs
    have h1 := List.mem_of_find?_eq_some hs
    have h2 := List.find?_some hs
    have h3 : s < vis.length := by simpa using h1
    rw [Option.isSome_iff_exists] at h2
    obtain ⟨f, hf⟩ := h2
    have h4 := wasAt_lt hf
    have h5 := List.find?_some hf
    rw [hf]
    exact ⟨h4, h3, by simpa using h5⟩
theorem bytesN_extract (x : ByteArray) (a b : Nat) : bytesN (x.extract a b) = ((bytesN x).drop a).take (b - a) := by
  simp [bytesN, ByteArray.data_extract, Array.toList_extract, List.extract, List.map_take, List.map_drop]
theorem endless_pair {R : RulesT} {kd : Nat → Nat} {g : Graph} (h : buildF R = some (kd, g)) {s : Nat} (hs : s < g.rule.length) (hl : (layerAt (weaveF kd g) g.rule.length).getD s false = true) (i : Nat) :
    PairIs kd g (bytesN (endlessF (weaveF kd g) (layersF (weaveF kd g) g.rule.length) s).fr) (bytesN (endlessF (weaveF kd g) (layersF (weaveF kd g) g.rule.length) s).lead ++ (List.replicate i (bytesN (endlessF (weaveF kd g) (layersF (weaveF kd g) g.rule.length) s).lp)).flatten ++ bytesN (endlessF (weaveF kd g) (layersF (weaveF kd g) g.rule.length) s).tail) ∧
    0 < (endlessF (weaveF kd g) (layersF (weaveF kd g) g.rule.length) s).lp.size ∧ 0 < (endlessF (weaveF kd g) (layersF (weaveF kd g) g.rule.length) s).tail.size := by
  have hG := build_lexG h
  have hpos := hG.pos
  obtain ⟨n1, hn1⟩ : ∃ n1, g.rule.length = n1 + 1 := ⟨g.rule.length - 1, by omega⟩
  have hl' := hl
  rw [hn1] at hl'
  obtain ⟨h5, h6⟩ := layer_succ hs hl'
  obtain ⟨T, V, e, w⟩ := walkD_is hG (layersF (weaveF kd g) g.rule.length) g.rule.length s [s] ⟨#[]⟩ hs (fun d' hd' => layersF_get _ _ _ hd') (fun _ => by rw [hn1]; exact h5)
  have ew : walkW (weaveF kd g) (layersF (weaveF kd g) g.rule.length) s = (s :: V, bytesOf T) := by
    unfold walkW
    rw [layersF_len, e]
    congr 1
  unfold endlessF
  rw [ew]
  simp only
  have hvis : ∀ x ∈ s :: V, x < g.rule.length := fun x hx => by
    obtain ⟨k, hk, e9⟩ := List.getElem_of_mem hx
    have := w.into k (by have := w.vl; simp at hk; omega)
    rw [List.getD_eq_getElem?_getD, List.getElem?_eq_getElem hk] at this
    rw [← e9]
    exact this
  obtain ⟨r1, r2, r3⟩ := repeatF_is hvis (by rw [List.length_cons, w.vl]; omega)
  generalize repeatF (s :: V) = r at *
  have hvl := w.vl
  rw [List.length_cons] at r2
  have hnon : ∀ k, k < g.rule.length → ruleOfF g (((s :: V).getD k 0 : Nat) : Int) = -1 := fun k hk => by
    by_cases e : k = 0
    · subst e; exact h6
    · exact w.non k (by omega) hk
  have hb : r.2 < g.rule.length := by
    refine Nat.lt_of_le_of_ne (by omega) fun e => ?_
    have := w.tok hpos
    rw [← e, ← r3] at this
    exact this (hnon r.1 (by omega))
  obtain ⟨a1, _⟩ := approach_is h (w.into r.1 (by omega))
  have hTb := bytesN_of w.byte
  have htl := w.tl
  have hsz : (bytesOf T).size = g.rule.length := by rw [bytesOf_size, htl]
  rw [bytesN_extract, bytesN_extract, hTb, hsz]
  have hloop : ∀ k, k ≤ r.2 - r.1 → runK g (((s :: V).getD r.1 0 : Nat) : Int) ((((T.drop r.1).take (r.2 - r.1)).take k).map kd) = (((s :: V).getD (r.1 + k) 0 : Nat) : Int) := fun k hk => by
    rw [List.take_take, Nat.min_eq_left hk]
    exact w.piece (by omega)
  have hll : ((T.drop r.1).take (r.2 - r.1)).length = r.2 - r.1 := by simp [htl]; omega
  have htlen : ((T.drop r.2).take (g.rule.length - r.2)).length = g.rule.length - r.2 := by simp [htl]
  have hbL : ∀ b ∈ (T.drop r.1).take (r.2 - r.1), b < 256 := fun b hx => w.byte b (List.mem_of_mem_drop (List.mem_of_mem_take hx))
  have hbT : ∀ b ∈ (T.drop r.2).take (g.rule.length - r.2), b < 256 := fun b hx => w.byte b (List.mem_of_mem_drop (List.mem_of_mem_take hx))
  have htail : ∀ k, k ≤ g.rule.length - r.2 → runK g (((s :: V).getD r.1 0 : Nat) : Int) ((((T.drop r.2).take (g.rule.length - r.2)).take k).map kd) = (((s :: V).getD (r.2 + k) 0 : Nat) : Int) := fun k hk => by
    rw [List.take_take, Nat.min_eq_left hk, r3]
    exact w.piece (by omega)
  have t1 := AtText.turns a1 hbL (by
    have := hloop (r.2 - r.1) (Nat.le_refl _)
    rw [List.take_of_length_le (by rw [hll]; exact Nat.le_refl _), show r.1 + (r.2 - r.1) = r.2 by omega, ← r3] at this
    exact this) (fun k k0 k1 => by
    rw [hll] at k1
    rw [hloop k k1, ← ruleOf_acc (w.into (r.1 + k) (by omega))]
    exact hnon _ (by omega)) i
  refine ⟨t1.tail hbT ?_ (fun k k0 k1 => ?_), ?_, ?_⟩
  · have := htail (g.rule.length - r.2) (Nat.le_refl _)
    rw [List.take_of_length_le (by rw [htlen]; exact Nat.le_refl _), show r.2 + (g.rule.length - r.2) = g.rule.length by omega] at this
    rw [this, ← ruleOf_acc (w.into _ (Nat.le_refl _))]
    exact w.tok hpos
  · rw [htlen] at k1
    rw [htail k (by omega), ← ruleOf_acc (w.into (r.2 + k) (by omega))]
    exact hnon _ (by omega)
  · rw [← bytesN_len, bytesN_extract, hTb, hll]
    omega
  · rw [← bytesN_len, bytesN_extract, hTb, htlen]
    omega
end Go.Proofs.Ytcckhngbdoiikaa

namespace Go.Proofs.Ytcckhngbdoiikaa
open Go.RowKit Go.Deep
set_option linter.unusedVariables false

/-- After so many bytes, over no token. -/
def FwdT (kd : Nat → Nat) (g : Graph) (s : Int) : Nat → Int → Prop
  | 0, u => u = s
  | k + 1, u => ∃ m, FwdT kd g s k m ∧ ∃ b : Nat, b < 256 ∧ nextF kd g m (b : Int) = u ∧ u ≠ -1 ∧ ruleOfF g u = -1
theorem fwd_lead {kd : Nat → Nat} {g : Graph} {s : Int} : ∀ (k d : Nat) (m : Int), FwdT kd g s k m → LeadT kd g d m → LeadT kd g (d + k) s
  | 0, d, m, h, hl => by
    have e : m = s := h
    rw [← e]
    exact hl
  | k + 1, d, m, ⟨m', h1, b, h2, h3, h4, h5⟩, hl => by
    have hl' : LeadT kd g (d + 1) m' := ⟨b, h2, by rw [h3]; exact h4, by rw [h3]; exact ⟨h5, hl⟩⟩
    have := fwd_lead k (d + 1) m' h1 hl'
    rw [show d + (k + 1) = d + 1 + k by omega]
    exact this
theorem fwd_cons {kd : Nat → Nat} {g : Graph} {s s1 : Int} {b : Nat} (hb : b < 256) (hn : nextF kd g s (b : Int) = s1) (h1 : s1 ≠ -1) (hr : ruleOfF g s1 = -1) : ∀ (k : Nat) (m : Int), FwdT kd g s1 k m → FwdT kd g s (k + 1) m
  | 0, m, h => by
    have e : m = s1 := h
    subst e
    exact ⟨s, rfl, b, hb, hn, h1, hr⟩
  | k + 1, m, ⟨m', g1, g2⟩ => ⟨m', fwd_cons hb hn h1 hr k m' g1, g2⟩
theorem lead_fwd {kd : Nat → Nat} {g : Graph} : ∀ (d : Nat) (s : Int), LeadT kd g d s → ∃ m, FwdT kd g s d m ∧ ∃ b : Nat, b < 256 ∧ nextF kd g m (b : Int) ≠ -1 ∧ ruleOfF g (nextF kd g m (b : Int)) ≠ -1
  | 0, s, ⟨b, h1, h2, h3⟩ => ⟨s, rfl, b, h1, h2, h3⟩
  | d + 1, s, ⟨b, h1, h2, h3⟩ => by
    obtain ⟨h4, h5⟩ : ruleOfF g (nextF kd g s (b : Int)) = -1 ∧ LeadT kd g d (nextF kd g s (b : Int)) := h3
    obtain ⟨m, g1, g2⟩ := lead_fwd d _ h5
    exact ⟨m, fwd_cons h1 rfl h2 h4 d m g1, g2⟩
/-- What a byte leads to is alive. -/
theorem next_far {R : RulesT} {kd : Nat → Nat} {g : Graph} (h : buildF R = some (kd, g)) {s : Int} {b : Nat} (hb : b < 256) (hn : nextF kd g s (b : Int) ≠ -1) : ∃ d, FarT kd g d (nextF kd g s (b : Int)) := by
  have hG := build_lexG h
  have hs : ¬ (s < 0 ∨ (g.next.length : Int) ≤ s ∨ (b : Int) < 0 ∨ 256 ≤ (b : Int)) := fun e => hn (by unfold nextF; rw [if_pos e])
  have hlen := hG.len
  obtain ⟨j, rfl⟩ : ∃ j : Nat, s = (j : Int) := ⟨s.toNat, by omega⟩
  have hj : j < g.rule.length := by omega
  have hkd : kd = kindOf R.allow := by obtain ⟨_, _, e, _⟩ := buildF_some h; exact e
  have hk := (kindOf_get R.allow b 256 hb).1
  rw [nextF_step hG hj hb] at hn ⊢
  rcases hG.step j b hj hb with e | ⟨j', e, hj'⟩
  · exact absurd e hn
  · rw [e]
    rw [hkd] at e
    obtain ⟨ks, g1, g2⟩ := build_lives h hj hk e
    exact lives_far h ks j' g1 hj' g2
/-- Where the way over no token goes on, a token comes further away. -/
theorem fwd_far {R : RulesT} {kd : Nat → Nat} {g : Graph} (h : buildF R = some (kd, g)) {s u : Int} {k : Nat} (hf : FwdT kd g s (k + 1) u) : ∃ d, k + 1 ≤ d ∧ LeadT kd g d s := by
  have hf' := hf
  obtain ⟨m, h1, b, h2, h3, h4, h5⟩ := hf
  obtain ⟨d, hd⟩ := next_far h h2 (by rw [h3]; exact h4)
  rw [h3] at hd
  cases d with
  | zero => exact absurd h5 hd
  | succ d =>
    obtain ⟨_, hl⟩ : ruleOfF g u = -1 ∧ LeadT kd g d u := hd
    exact ⟨d + (k + 1), by omega, fwd_lead (k + 1) d u hf' hl⟩
/-- With a greatest distance K the way over no token is shorter than K. -/
theorem fwd_near {R : RulesT} {kd : Nat → Nat} {g : Graph} (h : buildF R = some (kd, g)) (hf : LexFit kd g) (hb : (gapOf kd g).bounded = true) {s : Nat} (hs : s < g.rule.length) (ht : ruleOfF g (s : Int) ≠ -1 ∨ s = 0) {u : Int} {k : Nat} (hw : FwdT kd g (s : Int) (k + 1) u) : k + 1 < (gapOf kd g).k := by
  obtain ⟨d, h1, h2⟩ := fwd_far h hw
  have := lead_near hf hb hs ht h2
  omega
end Go.Proofs.Ytcckhngbdoiikaa

namespace Go.Proofs.Ytcckhngbdoiikaa
open Go.RowKit Go.Deep
set_option linter.unusedVariables false

theorem runK_neg (g : Graph) (ks : List Nat) : runK g (-1) ks = -1 := by
  rw [runK_dead g ks (-1) (by omega)]
  split <;> rfl
theorem run_in {kd : Nat → Nat} {g : Graph} (hG : LexG kd g) : ∀ (L : List Nat) (s : Nat), (∀ b ∈ L, b < 256) → s < g.rule.length → runK g (s : Int) (L.map kd) = -1 ∨ ∃ j : Nat, j < g.rule.length ∧ runK g (s : Int) (L.map kd) = (j : Int)
  | [], s, _, hs => .inr ⟨s, hs, rfl⟩
  | b :: L, s, hb, hs => by
    have e : runK g (s : Int) ((b :: L).map kd) = runK g (stepK g (s : Int) (kd b)) (L.map kd) := rfl
    rw [e]
    rcases hG.step s b hs (hb b (by simp)) with e1 | ⟨j, e1, hj⟩
    · rw [e1]; exact .inl (runK_neg g _)
    · rw [e1]; exact run_in hG L j (fun x hx => hb x (by simp [hx])) hj
theorem pair_fwd {kd : Nat → Nat} {g : Graph} (hG : LexG kd g) {u W : List Nat} (h : PairIs kd g u W) {s : Nat} (hs : s < g.rule.length) (hu : runK g 0 (u.map kd) = (s : Int)) : ∀ k, k < W.length → FwdT kd g (s : Int) k (runK g (s : Int) ((W.take k).map kd)) ∧ ∃ j : Nat, j < g.rule.length ∧ runK g (s : Int) ((W.take k).map kd) = (j : Int)
  | 0, _ => ⟨rfl, s, hs, rfl⟩
  | k + 1, hk => by
    obtain ⟨ih, j, hj, ej⟩ := pair_fwd hG h hs hu k (by omega)
    have hbW : ∀ b ∈ W, b < 256 := fun b hb => h.byte b (by simp [hb])
    have hb : W[k] < 256 := hbW _ (List.getElem_mem _)
    have e1 : W.take (k + 1) = W.take k ++ [W[k]] := (List.take_append_getElem (by omega)).symm
    have e2 : runK g (s : Int) ((W.take (k + 1)).map kd) = nextF kd g (j : Int) (W[k] : Int) := by
      rw [e1, List.map_append, runK_app, ej, nextF_step hG hj hb]
      rfl
    have hall : accK g (runK g (s : Int) (W.map kd)) ≠ -1 := by
      have := h.tt
      rw [List.map_append, runK_app, hu] at this
      exact this
    rcases run_in hG (W.take (k + 1)) s (fun b hx => hbW b (List.mem_of_mem_take hx)) hs with e3 | ⟨j', hj', e3⟩
    · exfalso
      apply hall
      have e4 : W.map kd = (W.take (k + 1)).map kd ++ (W.drop (k + 1)).map kd := by rw [← List.map_append, List.take_append_drop]
      rw [e4, runK_app, e3, runK_neg]
      rfl
    · refine ⟨⟨_, ih, W[k], hb, by rw [ej, e2], by rw [e3]; omega, ?_⟩, j', hj', e3⟩
      have := h.non (k + 1) (by omega) hk
      rw [List.map_append, runK_app, hu, e3, ← ruleOf_acc hj'] at this
      rw [e3]
      exact this
/-- Without a greatest distance: from some token, or from the beginning, one can go on over no token as far as one likes. -/
theorem endless_fwd {R : RulesT} {kd : Nat → Nat} {g : Graph} (h : buildF R = some (kd, g)) (hb : (gapOf kd g).bounded = false) : ∃ s : Nat, s < g.rule.length ∧ (ruleOfF g (s : Int) ≠ -1 ∨ s = 0) ∧ ∀ k, ∃ u : Nat, u < g.rule.length ∧ FwdT kd g (s : Int) k (u : Int) := by
  have hG := build_lexG h
  unfold gapOf at hb
  split at hb
  · rename_i s0 hs0
    have h1 := List.mem_of_find?_eq_some hs0
    have h2 : s0 < g.rule.length := by simpa using h1
    have h3 := List.find?_some hs0
    have hp := fun i => endless_pair h h2 h3 i
    generalize endlessF (weaveF kd g) (layersF (weaveF kd g) g.rule.length) s0 = E at hp
    have hp0 := (hp 0).1
    have hbu : ∀ b ∈ bytesN E.fr, b < 256 := fun b hx => hp0.byte b (by simp [hx])
    obtain ⟨s, hs, es⟩ : ∃ s : Nat, s < g.rule.length ∧ runK g 0 ((bytesN E.fr).map kd) = (s : Int) := by
      rcases run_in hG (bytesN E.fr) 0 hbu hG.pos with e | e
      · exfalso
        have := hp0.tt
        rw [List.map_append, runK_app] at this
        have e' : runK g 0 ((bytesN E.fr).map kd) = -1 := e
        rw [e', runK_neg] at this
        exact this rfl
      · obtain ⟨s, h5, h6⟩ := e
        exact ⟨s, h5, h6⟩
    refine ⟨s, hs, ?_, fun k => ?_⟩
    · rcases hp0.fr with e | e
      · right
        rw [e] at es
        have : (0 : Int) = (s : Int) := es
        omega
      · left
        rw [es, ← ruleOf_acc hs] at e
        exact e
    · obtain ⟨p, q1, q2⟩ := hp (k + 1)
      have hl : k < (bytesN E.lead ++ (List.replicate (k + 1) (bytesN E.lp)).flatten ++ bytesN E.tail).length := by
        have : (List.replicate (k + 1) (bytesN E.lp)).flatten.length = (k + 1) * E.lp.size := by simp [bytesN_len]
        rw [List.length_append, List.length_append, this]
        have : (k + 1) * 1 ≤ (k + 1) * E.lp.size := Nat.mul_le_mul_left _ q1
        omega
      obtain ⟨f1, j, f2, f3⟩ := pair_fwd hG p hs es k hl
      rw [f3] at f1
      exact ⟨j, f2, f1⟩
  · simp [boundedF] at hb
end Go.Proofs.Ytcckhngbdoiikaa

namespace Go.Proofs.Ytcckhngbdoiikaa
open Go.RowKit Go.Deep
set_option linter.unusedVariables false

theorem ruleFrom_ge (s : PSet) : ∀ (l : List PSet) (k : Nat), -1 ≤ ruleFrom s k l
  | [], k => by unfold ruleFrom; omega
  | x :: l, k => by
    unfold ruleFrom
    split
    · omega
    · exact ruleFrom_ge s l (k + 1)
theorem build_rule_ge {R : RulesT} {kd : Nat → Nat} {g : Graph} (h : buildF R = some (kd, g)) (s : Int) : -1 ≤ ruleOfF g s := by
  have hG := build_lexG h
  by_cases hs : s < 0 ∨ (g.rule.length : Int) ≤ s
  · unfold ruleOfF
    rw [if_pos hs]
    omega
  · obtain ⟨q, rfl⟩ : ∃ q : Nat, s = (q : Int) := ⟨s.toNat, by omega⟩
    have hq : q < g.rule.length := by omega
    obtain ⟨a, _⟩ := approach_is h hq
    have e := build_acc h _ a.byte
    rw [a.run, ← ruleOf_acc hq] at e
    rw [e]
    exact ruleFrom_ge _ _ _
/-- The row of a state: where each byte leads. -/
def rowB (kd : Nat → Nat) (g : Graph) (s : Nat) : List Int := (List.range 256).map (fun (b : Nat) => nextF kd g (s : Int) (b : Int))
/-- What is told of the first states. -/
def toldTo (kd : Nat → Nat) (g : Graph) (n : Nat) : Graph := ⟨(List.range n).map (fun (s : Nat) => ruleOfF g (s : Int)), (List.range n).map (rowB kd g)⟩
theorem toldTo_succ (kd : Nat → Nat) (g : Graph) (n : Nat) : toldTo kd g (n + 1) = ⟨(toldTo kd g n).rule ++ [ruleOfF g (n : Int)], (toldTo kd g n).next ++ [rowB kd g n]⟩ := by simp [toldTo, List.range_succ]
theorem toldTo_len (kd : Nat → Nat) (g : Graph) (n : Nat) : (toldTo kd g n).rule.length = n ∧ (toldTo kd g n).next.length = n := by simp [toldTo]
theorem rowB_len (kd : Nat → Nat) (g : Graph) (s : Nat) : (rowB kd g s).length = 256 := by simp [rowB]
theorem rowB_get (kd : Nat → Nat) (g : Graph) (s b : Nat) (hb : b < 256) : (rowB kd g s).getD b 0 = nextF kd g (s : Int) (b : Int) := by simp [rowB, hb]
end Go.Proofs.Ytcckhngbdoiikaa

namespace Go.Proofs.Ytcckhngbdoiikaa
open Go.RowKit Go.Deep
set_option linter.unusedVariables false

structure FroT where
  next : List Bool
  any : Bool
  far : Nat
/-- One byte of one state. -/
def fstep (g : Graph) (k : Nat) (st : FroT) (u : Int) : FroT :=
  if 0 ≤ u ∧ ruleOfF g u ≠ -1 then ⟨st.next, st.any, k⟩ else if 0 ≤ u then ⟨st.next.set u.toNat true, true, st.far⟩ else st
theorem fstep_len (g : Graph) (k : Nat) (st : FroT) (u : Int) : (fstep g k st u).next.length = st.next.length := by
  unfold fstep
  split
  · rfl
  · split
    · simp
    · rfl
theorem fsteps_len (g : Graph) (k : Nat) : ∀ (l : List Int) (st : FroT), (l.foldl (fstep g k) st).next.length = st.next.length
  | [], st => rfl
  | u :: l, st => by rw [List.foldl_cons, fsteps_len g k l, fstep_len]
theorem fsteps_next (g : Graph) (k : Nat) : ∀ (l : List Int) (st : FroT) (v : Nat), (∀ u ∈ l, u < (st.next.length : Int)) → ((l.foldl (fstep g k) st).next.getD v false = true ↔ st.next.getD v false = true ∨ ((v : Int) ∈ l ∧ ruleOfF g (v : Int) = -1))
  | [], st, v, _ => by simp
  | u :: l, st, v, h => by
    have hu := h u (by simp)
    rw [List.foldl_cons, fsteps_next g k l (fstep g k st u) v (fun x hx => by rw [fstep_len]; exact h x (by simp [hx]))]
    have hs : (fstep g k st u).next.getD v false = true ↔ st.next.getD v false = true ∨ ((v : Int) = u ∧ ruleOfF g (v : Int) = -1) := by
      unfold fstep
      by_cases h1 : 0 ≤ u ∧ ruleOfF g u ≠ -1
      · rw [if_pos h1]
        constructor
        · exact .inl
        · rintro (e | ⟨e1, e2⟩)
          · exact e
          · rw [e1] at e2; exact absurd e2 h1.2
      · rw [if_neg h1]
        by_cases h2 : 0 ≤ u
        · have h3 : ruleOfF g u = -1 := Classical.byContradiction fun e => h1 ⟨h2, e⟩
          rw [if_pos h2]
          show (st.next.set u.toNat true).getD v false = true ↔ _
          rw [getD_setB']
          by_cases e : u.toNat = v
          · have e' : (v : Int) = u := by omega
            rw [if_pos ⟨e, by omega⟩]
            simp [e', h3]
          · rw [if_neg (fun x => e x.1)]
            have e' : ¬ (v : Int) = u := by omega
            simp [e']
        · rw [if_neg h2]
          have e' : ¬ (v : Int) = u := by omega
          simp [e']
    rw [hs, List.mem_cons]
    constructor
    · rintro ((e | ⟨e1, e2⟩) | ⟨e1, e2⟩)
      · exact .inl e
      · exact .inr ⟨.inl e1, e2⟩
      · exact .inr ⟨.inr e1, e2⟩
    · rintro (e | ⟨e1 | e1, e2⟩)
      · exact .inl (.inl e)
      · exact .inl (.inr ⟨e1, e2⟩)
      · exact .inr ⟨e1, e2⟩
theorem fsteps_any (g : Graph) (k : Nat) : ∀ (l : List Int) (st : FroT), ((l.foldl (fstep g k) st).any = true ↔ st.any = true ∨ ∃ u ∈ l, 0 ≤ u ∧ ruleOfF g u = -1)
  | [], st => by simp
  | u :: l, st => by
    rw [List.foldl_cons, fsteps_any g k l]
    have hs : (fstep g k st u).any = true ↔ st.any = true ∨ (0 ≤ u ∧ ruleOfF g u = -1) := by
      unfold fstep
      by_cases h1 : 0 ≤ u ∧ ruleOfF g u ≠ -1
      · rw [if_pos h1]
        constructor
        · exact .inl
        · rintro (e | ⟨_, e2⟩)
          · exact e
          · exact absurd e2 h1.2
      · rw [if_neg h1]
        by_cases h2 : 0 ≤ u
        · have h3 : ruleOfF g u = -1 := Classical.byContradiction fun e => h1 ⟨h2, e⟩
          rw [if_pos h2]
          simp [h2, h3]
        · rw [if_neg h2]
          simp [h2]
    rw [hs]
    simp only [List.mem_cons, exists_eq_or_imp]
    rw [or_assoc]
theorem fsteps_far (g : Graph) (k : Nat) : ∀ (l : List Int) (st : FroT), ((∃ u ∈ l, 0 ≤ u ∧ ruleOfF g u ≠ -1) ∧ (l.foldl (fstep g k) st).far = k) ∨ ((¬ ∃ u ∈ l, 0 ≤ u ∧ ruleOfF g u ≠ -1) ∧ (l.foldl (fstep g k) st).far = st.far)
  | [], st => by simp
  | u :: l, st => by
    rw [List.foldl_cons]
    simp only [List.mem_cons, exists_eq_or_imp]
    rcases fsteps_far g k l (fstep g k st u) with ⟨h1, h2⟩ | ⟨h1, h2⟩
    · exact .inl ⟨.inr h1, h2⟩
    · rw [h2]
      by_cases h3 : 0 ≤ u ∧ ruleOfF g u ≠ -1
      · left
        refine ⟨.inl h3, ?_⟩
        unfold fstep
        rw [if_pos h3]
      · right
        refine ⟨fun e => ?_, ?_⟩
        · rcases e with e | e
          · exact h3 e
          · exact h1 e
        · unfold fstep
          rw [if_neg h3]
          split <;> rfl
/-- All bytes of the first states that are marked. -/
def rowsTo (kd : Nat → Nat) (g : Graph) (now : List Bool) (n : Nat) : List Int := (List.range n).flatMap (fun i => if now.getD i false = true then rowB kd g i else [])
theorem rowsTo_succ (kd : Nat → Nat) (g : Graph) (now : List Bool) (n : Nat) : rowsTo kd g now (n + 1) = rowsTo kd g now n ++ if now.getD n false = true then rowB kd g n else [] := by
  unfold rowsTo
  rw [List.range_succ, List.flatMap_append]
  simp
theorem mem_rowsTo {kd : Nat → Nat} {g : Graph} {now : List Bool} {n : Nat} {u : Int} : u ∈ rowsTo kd g now n ↔ ∃ i : Nat, i < n ∧ now.getD i false = true ∧ ∃ b : Nat, b < 256 ∧ nextF kd g (i : Int) (b : Int) = u := by
  unfold rowsTo
  rw [List.mem_flatMap]
  constructor
  · rintro ⟨i, h1, h2⟩
    split at h2
    · rename_i h3
      unfold rowB at h2
      rw [List.mem_map] at h2
      obtain ⟨b, h4, h5⟩ := h2
      exact ⟨i, List.mem_range.1 h1, h3, b, List.mem_range.1 h4, h5⟩
    · simp at h2
  · rintro ⟨i, h1, h2, b, h3, h4⟩
    refine ⟨i, List.mem_range.2 h1, ?_⟩
    rw [if_pos h2]
    unfold rowB
    exact List.mem_map.2 ⟨b, List.mem_range.2 h3, h4⟩
/-- How it stands behind k rounds. -/
structure FInv (kd : Nat → Nat) (g : Graph) (s k : Nat) (now : List Bool) (far : Nat) : Prop where
  len : now.length = g.rule.length
  now : ∀ u : Nat, u < g.rule.length → (now.getD u false = true ↔ FwdT kd g (s : Int) k (u : Int))
  near : ∀ d, d < k → LeadT kd g d (s : Int) → d + 1 ≤ far
  there : far = 0 ∨ LeadT kd g (far - 1) (s : Int)
  le : far ≤ k
theorem FInv.start {kd : Nat → Nat} {g : Graph} {s : Nat} (hs : s < g.rule.length) : FInv kd g s 0 ((List.replicate g.rule.length false).set s true) 0 := by
  refine ⟨by simp, fun u hu => ?_, fun d hd => by omega, .inl rfl, Nat.le_refl _⟩
  rw [getD_setB']
  show _ ↔ (u : Int) = (s : Int)
  by_cases e : s = u
  · rw [if_pos ⟨e, by simp; omega⟩]; simp [e]
  · rw [if_neg (fun x => e x.1)]
    simp [hu]
    omega
theorem FInv.round {kd : Nat → Nat} {g : Graph} (hf : LexFit kd g) {s k : Nat} {now : List Bool} {far : Nat} (h : FInv kd g s k now far) (hl : g.next.length = g.rule.length) (st : FroT) (hst : (rowsTo kd g now g.rule.length).foldl (fstep g (k + 1)) ⟨List.replicate g.rule.length false, false, far⟩ = st) :
    FInv kd g s (k + 1) st.next st.far ∧ (st.any = false → ∀ d, LeadT kd g d (s : Int) → d + 1 ≤ st.far) ∧ (st.any = true → ∃ u, FwdT kd g (s : Int) (k + 1) u) := by
  have hin : ∀ u ∈ rowsTo kd g now g.rule.length, u < (g.rule.length : Int) := fun u hu => by
    obtain ⟨i, _, _, b, _, e⟩ := mem_rowsTo.1 hu
    have := hf.into (i : Int) (b : Int)
    have hp := hf.pos
    rw [e] at this
    omega
  have hfw : ∀ u : Int, (∃ m, FwdT kd g (s : Int) k m ∧ ∃ b : Nat, b < 256 ∧ nextF kd g m (b : Int) = u ∧ u ≠ -1) ↔ (u ∈ rowsTo kd g now g.rule.length ∧ 0 ≤ u) := fun u => by
    rw [mem_rowsTo]
    constructor
    · rintro ⟨m, h1, b, h2, h3, h4⟩
      have hc : ¬ (m < 0 ∨ (g.next.length : Int) ≤ m ∨ (b : Int) < 0 ∨ 256 ≤ (b : Int)) := fun e => h4 (by rw [← h3]; unfold nextF; rw [if_pos e])
      obtain ⟨i, rfl⟩ : ∃ i : Nat, m = (i : Int) := ⟨m.toNat, by omega⟩
      have hi : i < g.rule.length := by omega
      refine ⟨⟨i, hi, (h.now i hi).2 h1, b, h2, h3⟩, ?_⟩
      have := hf.into (i : Int) (b : Int)
      rw [h3] at this
      omega
    · rintro ⟨⟨i, h1, h2, b, h3, h4⟩, h5⟩
      exact ⟨(i : Int), (h.now i h1).1 h2, b, h3, h4, by omega⟩
  have hlead : LeadT kd g k (s : Int) ↔ ∃ u ∈ rowsTo kd g now g.rule.length, 0 ≤ u ∧ ruleOfF g u ≠ -1 := by
    constructor
    · intro hL
      obtain ⟨m, h1, b, h2, h3, h4⟩ := lead_fwd k _ hL
      obtain ⟨h5, h6⟩ := (hfw (nextF kd g m (b : Int))).1 ⟨m, h1, b, h2, rfl, h3⟩
      exact ⟨_, h5, h6, h4⟩
    · rintro ⟨u, h1, h2, h3⟩
      obtain ⟨m, h4, b, h5, h6, h7⟩ := (hfw u).2 ⟨h1, h2⟩
      have := fwd_lead k 0 m h4 ⟨b, h5, by rw [h6]; exact h7, by rw [h6]; exact h3⟩
      rwa [Nat.zero_add] at this
  have hnx := fun v => fsteps_next g (k + 1) (rowsTo kd g now g.rule.length) ⟨List.replicate g.rule.length false, false, far⟩ v (fun u hu => by simpa using hin u hu)
  have han := fsteps_any g (k + 1) (rowsTo kd g now g.rule.length) ⟨List.replicate g.rule.length false, false, far⟩
  have hfa := fsteps_far g (k + 1) (rowsTo kd g now g.rule.length) ⟨List.replicate g.rule.length false, false, far⟩
  have hle := fsteps_len g (k + 1) (rowsTo kd g now g.rule.length) ⟨List.replicate g.rule.length false, false, far⟩
  rw [hst] at hnx han hfa hle
  simp only [Bool.false_eq_true, false_or] at han
  rw [← hlead] at hfa
  simp only at hfa
  have hnear : ∀ d, d < k + 1 → LeadT kd g d (s : Int) → d + 1 ≤ st.far := fun d hd hL => by
    rcases hfa with ⟨_, e⟩ | ⟨e1, e2⟩
    · omega
    · have hd' : d < k := by
        rcases Nat.lt_or_ge d k with e | e
        · exact e
        · have : d = k := by omega
          subst this
          exact absurd hL e1
      have := h.near d hd' hL
      omega
  have hthere : st.far = 0 ∨ LeadT kd g (st.far - 1) (s : Int) := by
    rcases hfa with ⟨e1, e2⟩ | ⟨_, e2⟩
    · right; rw [e2]; exact e1
    · rw [e2]; exact h.there
  have hlefar : st.far ≤ k + 1 := by
    have := h.le
    rcases hfa with ⟨_, e⟩ | ⟨_, e⟩ <;> omega
  refine ⟨⟨by simpa using hle, fun u hu => ?_, hnear, hthere, hlefar⟩, fun ha d hL => ?_, fun ha => ?_⟩
  · rw [hnx u]
    have e0 : ¬ (List.replicate g.rule.length false).getD u false = true := by simp [hu]
    constructor
    · rintro (e | ⟨e1, e2⟩)
      · exact absurd e e0
      · obtain ⟨m, h4, b, h5, h6, h7⟩ := (hfw (u : Int)).2 ⟨e1, by omega⟩
        exact ⟨m, h4, b, h5, h6, h7, e2⟩
    · rintro ⟨m, h4, b, h5, h6, h7, h8⟩
      exact .inr ⟨((hfw (u : Int)).1 ⟨m, h4, b, h5, h6, h7⟩).1, h8⟩
  · rcases Nat.lt_or_ge d (k + 1) with e | e
    · exact hnear d e hL
    · exfalso
      obtain ⟨m, h1, _⟩ := lead_fwd d _ hL
      have hdown : ∀ j, k + 1 ≤ j → ∀ m, FwdT kd g (s : Int) j m → ∃ m', FwdT kd g (s : Int) (k + 1) m' := by
        intro j hj
        induction j with
        | zero => omega
        | succ j ih =>
          intro m hm
          rcases Nat.lt_or_ge j (k + 1) with e | e
          · have : j + 1 = k + 1 := by omega
            rw [this] at hm
            exact ⟨m, hm⟩
          · obtain ⟨m', h', _⟩ := hm
            exact ih e m' h'
      obtain ⟨m', m0, h4, b, h5, h6, h7, h8⟩ := hdown d e m h1
      obtain ⟨h9, h10⟩ := (hfw m').1 ⟨m0, h4, b, h5, h6, h7⟩
      have := han.2 ⟨m', h9, h10, h8⟩
      rw [ha] at this
      cases this
  · obtain ⟨u, h1, h2, h3⟩ := han.1 ha
    obtain ⟨m, h4, b, h5, h6, h7⟩ := (hfw u).2 ⟨h1, h2⟩
    exact ⟨u, m, h4, b, h5, h6, h7, h3⟩
/-- What front answers. -/
def FrontIs (kd : Nat → Nat) (g : Graph) (s : Nat) (f : Int) : Prop :=
  (∃ far : Nat, f = (far : Int) ∧ far ≤ g.rule.length + 1 ∧ (∀ d, LeadT kd g d (s : Int) → d + 1 ≤ far) ∧ (far = 0 ∨ LeadT kd g (far - 1) (s : Int))) ∨ (f = -1 ∧ ∃ u, FwdT kd g (s : Int) (g.rule.length + 1) u)
/-- Of the first states. -/
structure GrInv (kd : Nat → Nat) (g : Graph) (s k : Nat) : Prop where
  near : ∀ s' : Nat, s' < s → (ruleOfF g (s' : Int) ≠ -1 ∨ s' = 0) → ∀ d, LeadT kd g d (s' : Int) → d + 1 ≤ k
  there : k = 0 ∨ ∃ s' : Nat, s' < g.rule.length ∧ (ruleOfF g (s' : Int) ≠ -1 ∨ s' = 0) ∧ LeadT kd g (k - 1) (s' : Int)
  le : k ≤ g.rule.length + 1
theorem GrInv.start (kd : Nat → Nat) (g : Graph) : GrInv kd g 0 0 := ⟨fun s' h => by omega, .inl rfl, by omega⟩
theorem GrInv.skip {kd : Nat → Nat} {g : Graph} {s k : Nat} (h : GrInv kd g s k) (h0 : 0 < s) (hr : ruleOfF g (s : Int) = -1) : GrInv kd g (s + 1) k := by
  refine ⟨fun s' hs' ht d hL => ?_, h.there, h.le⟩
  rcases Nat.lt_or_ge s' s with e | e
  · exact h.near s' e ht d hL
  · have : s' = s := by omega
    subst this
    rcases ht with e | e
    · exact absurd hr e
    · omega
theorem GrInv.step {kd : Nat → Nat} {g : Graph} {s k far : Nat} (h : GrInv kd g s k) (hs : s < g.rule.length) (ht : ruleOfF g (s : Int) ≠ -1 ∨ s = 0) (h1 : far ≤ g.rule.length + 1) (h2 : ∀ d, LeadT kd g d (s : Int) → d + 1 ≤ far) (h3 : far = 0 ∨ LeadT kd g (far - 1) (s : Int)) : GrInv kd g (s + 1) (if k < far then far else k) := by
  refine ⟨fun s' hs' ht' d hL => ?_, ?_, ?_⟩
  · rcases Nat.lt_or_ge s' s with e | e
    · have := h.near s' e ht' d hL
      split <;> omega
    · have : s' = s := by omega
      subst this
      have := h2 d hL
      split <;> omega
  · split
    · rename_i hlt
      rcases h3 with e | e
      · omega
      · exact .inr ⟨s, hs, ht, e⟩
    · exact h.there
  · have := h.le
    split <;> omega
theorem gap_none {kd : Nat → Nat} {g : Graph} (hb : (gapOf kd g).bounded = true) : gapOf kd g = boundedF (weaveF kd g) (layersF (weaveF kd g) g.rule.length) := by
  unfold gapOf at hb ⊢
  split
  · rename_i s hs
    rw [hs] at hb
    cases hb
  · rfl
theorem gap_k {kd : Nat → Nat} {g : Graph} (hb : (gapOf kd g).bounded = true) : (gapOf kd g).k = (farD (weaveF kd g) (layersF (weaveF kd g) g.rule.length) g.rule.length).2 := by
  rw [gap_none hb]
  show (farD (weaveF kd g) (layersF (weaveF kd g) g.rule.length) (layersF (weaveF kd g) g.rule.length).length).2 = _
  rw [layersF_len]
/-- What greatest answers. -/
theorem GrInv.done {R : RulesT} {kd : Nat → Nat} {g : Graph} (hR : buildF R = some (kd, g)) (hf : LexFit kd g) {k : Nat} (h : GrInv kd g g.rule.length k) : (gapOf kd g).bounded = true ∧ k = (gapOf kd g).k := by
  have hb : (gapOf kd g).bounded = true := by
    cases hbb : (gapOf kd g).bounded with
    | true => rfl
    | false =>
      exfalso
      obtain ⟨s, h1, h2, h3⟩ := endless_fwd hR hbb
      obtain ⟨u, _, h4⟩ := h3 (k + 1)
      obtain ⟨d, h5, h6⟩ := fwd_far hR h4
      have := h.near s h1 h2 d h6
      omega
  refine ⟨hb, ?_⟩
  have h1 : k ≤ (gapOf kd g).k := by
    rcases h.there with e | ⟨s', h1, h2, h3⟩
    · omega
    · have := lead_near hf hb h1 h2 h3
      omega
  have h2 : (gapOf kd g).k ≤ k := by
    rw [gap_k hb]
    rcases Nat.eq_zero_or_pos (farD (weaveF kd g) (layersF (weaveF kd g) g.rule.length) g.rule.length).2 with e | e
    · omega
    · obtain ⟨s, _, h3, h4, h5⟩ := far_there hf e
      have := h.near s h3 h4 _ h5
      omega
  omega
theorem front_bad {R : RulesT} {kd : Nat → Nat} {g : Graph} (hR : buildF R = some (kd, g)) (hf : LexFit kd g) {s : Nat} (hs : s < g.rule.length) (ht : ruleOfF g (s : Int) ≠ -1 ∨ s = 0) (h : ∃ u, FwdT kd g (s : Int) (g.rule.length + 1) u) : (gapOf kd g).bounded = false := by
  cases hbb : (gapOf kd g).bounded with
  | false => rfl
  | true =>
    exfalso
    obtain ⟨u, h1⟩ := h
    have h2 := fwd_near hR hf hbb hs ht h1
    rw [gap_k hbb] at h2
    have := (farD_le (weaveF kd g) (layersF (weaveF kd g) g.rule.length) g.rule.length).1
    omega
end Go.Proofs.Ytcckhngbdoiikaa

namespace Go.Proofs.Ytcckhngbdoiikaa
open Go.RowKit Go.Deep
set_option linter.unusedVariables false

abbrev apSz (a : ApprT) (i : Nat) : Nat := (a.token.getD i noStr).size + (a.rest.getD i noStr).size
theorem noStr_size : noStr.size = 0 := rfl
theorem apprStep_sz {x : WebT} {state c : Nat} {a : ApprT} {s : StepT} (hl : a.token.length = a.rest.length) (hf : a.found.getD state false = true) (h1 : apSz a state ≤ c) (h2 : ∀ i, apSz a i ≤ c + 1) :
    (apprStep x state a s).token.length = (apprStep x state a s).rest.length ∧ (apprStep x state a s).found.getD state false = true ∧ apSz (apprStep x state a s) state ≤ c ∧ ∀ i, apSz (apprStep x state a s) i ≤ c + 1 := by
  unfold apprStep
  by_cases h3 : a.found.getD s.q false = true
  · rw [if_pos h3]; exact ⟨hl, hf, h1, h2⟩
  · rw [if_neg h3]
    have hne : ¬ s.q = state := fun e => h3 (by rw [e]; exact hf)
    have hfs : (a.found.set s.q true).getD state false = true := by rw [getD_setB', if_neg (fun e => hne e.1)]; exact hf
    have hb := bytes1_size s.b
    have h1' : (a.token.getD state noStr).size + (a.rest.getD state noStr).size ≤ c := h1
    split
    · refine ⟨by simp [hl], hfs, ?_, fun i => ?_⟩
      · show ((a.token.set s.q _).getD state noStr).size + ((a.rest.set s.q noStr).getD state noStr).size ≤ c
        rw [getD_setS, if_neg (fun e => hne e.1), getD_setS, if_neg (fun e => hne e.1)]
        exact h1
      · show ((a.token.set s.q _).getD i noStr).size + ((a.rest.set s.q noStr).getD i noStr).size ≤ c + 1
        have h2' : (a.token.getD i noStr).size + (a.rest.getD i noStr).size ≤ c + 1 := h2 i
        rw [getD_setS, getD_setS]
        by_cases e : s.q = i ∧ s.q < a.token.length
        · rw [if_pos e, if_pos ⟨e.1, by rw [← hl]; exact e.2⟩]
          simp only [ByteArray.size_append, noStr_size]
          omega
        · rw [if_neg e, if_neg (fun e' => e ⟨e'.1, by rw [hl]; exact e'.2⟩)]
          exact h2'
    · refine ⟨by simp [hl], hfs, ?_, fun i => ?_⟩
      · show ((a.token.set s.q _).getD state noStr).size + ((a.rest.set s.q _).getD state noStr).size ≤ c
        rw [getD_setS, if_neg (fun e => hne e.1), getD_setS, if_neg (fun e => hne e.1)]
        exact h1
      · show ((a.token.set s.q _).getD i noStr).size + ((a.rest.set s.q _).getD i noStr).size ≤ c + 1
        have h2' : (a.token.getD i noStr).size + (a.rest.getD i noStr).size ≤ c + 1 := h2 i
        rw [getD_setS, getD_setS]
        by_cases e : s.q = i ∧ s.q < a.token.length
        · rw [if_pos e, if_pos ⟨e.1, by rw [← hl]; exact e.2⟩]
          simp only [ByteArray.size_append]
          omega
        · rw [if_neg e, if_neg (fun e' => e ⟨e'.1, by rw [hl]; exact e'.2⟩)]
          exact h2'
theorem apprSteps_sz {x : WebT} {state c : Nat} : ∀ (l : List StepT) (a : ApprT), a.token.length = a.rest.length → a.found.getD state false = true → apSz a state ≤ c → (∀ i, apSz a i ≤ c + 1) → ∀ i, apSz (l.foldl (apprStep x state) a) i ≤ c + 1
  | [], a, _, _, _, h2 => h2
  | s :: l, a, hl, hf, h1, h2 => by
    obtain ⟨e1, e2, e3, e4⟩ := apprStep_sz (x := x) (s := s) hl hf h1 h2
    rw [List.foldl_cons]
    exact apprSteps_sz l _ e1 e2 e3 e4
theorem apprTo_sz {R : RulesT} {kd : Nat → Nat} {g : Graph} (h : buildF R = some (kd, g)) : ∀ k, k ≤ g.rule.length → ∀ i, apSz (apprTo (weaveF kd g) k) i ≤ k
  | 0, _, i => by
    have hrep : ∀ q n, (List.replicate n noStr).getD q noStr = noStr := fun q n => by
      rw [List.getD_eq_getElem?_getD, List.getElem?_replicate]
      split <;> rfl
    show ((List.replicate (weaveF kd g).token.length noStr).getD i noStr).size + ((List.replicate (weaveF kd g).token.length noStr).getD i noStr).size ≤ 0
    rw [hrep]
    exact Nat.le_refl _
  | k + 1, hk, i => by
    obtain ⟨a1, a2, a3⟩ := apprTo_is h k (by omega)
    have hfk : (apprTo (weaveF kd g) k).found.getD k false = true := by
      by_cases e : k = 0
      · rw [e] at a2 ⊢; exact a2
      · obtain ⟨i, b, h1, h2, h3⟩ := build_reach h (j := k) (by omega) (by omega)
        exact a3 k i b h1 h2 h3
    have ih := apprTo_sz h k (by omega)
    exact apprSteps_sz _ _ (by rw [a1.tl, a1.rl]) hfk (ih k) (fun i => by have := ih i; omega) i
theorem approach_short {R : RulesT} {kd : Nat → Nat} {g : Graph} (h : buildF R = some (kd, g)) (q : Nat) : (approachF (weaveF kd g) q).1.size + (approachF (weaveF kd g) q).2.size ≤ g.rule.length := by
  have hl : (weaveF kd g).steps.length = g.rule.length := by simp [weaveF, stepsTo]
  have := apprTo_sz h g.rule.length (Nat.le_refl _) q
  unfold approachF
  rw [hl]
  exact this
theorem extract_le (x : ByteArray) (a b : Nat) : (x.extract a b).size ≤ x.size := by
  rw [ByteArray.size_extract]; omega
/-- No text of it is longer than there are states. -/
theorem gap_short {R : RulesT} {kd : Nat → Nat} {g : Graph} (h : buildF R = some (kd, g)) (hf : LexFit kd g) : (gapOf kd g).fr.size ≤ g.rule.length ∧ (gapOf kd g).lead.size ≤ g.rule.length ∧ (gapOf kd g).lp.size ≤ g.rule.length ∧ (gapOf kd g).tail.size ≤ g.rule.length := by
  have hfew := hf.few
  have hW := weave_ok kd g hf.into (by omega)
  unfold gapOf
  split
  · rename_i s hs
    have h1 := List.mem_of_find?_eq_some hs
    have h2 : s < g.rule.length := by simpa using h1
    have h3 := (walkW_sz hW (layersF (weaveF kd g) g.rule.length) s (by simpa [weaveF, tokenF_len] using h2)).2.1
    rw [layersF_len] at h3
    unfold endlessF
    have h4 := approach_short h ((walkW (weaveF kd g) (layersF (weaveF kd g) g.rule.length) s).1.getD (repeatF (walkW (weaveF kd g) (layersF (weaveF kd g) g.rule.length) s).1).1 0)
    refine ⟨by show (approachF _ _).1.size ≤ _; omega, by show (approachF _ _).2.size ≤ _; omega, ?_, ?_⟩
    · exact Nat.le_trans (extract_le _ _ _) h3
    · exact Nat.le_trans (extract_le _ _ _) h3
  · have h4 := approach_short h (farD (weaveF kd g) (layersF (weaveF kd g) g.rule.length) (layersF (weaveF kd g) g.rule.length).length).1
    unfold boundedF
    exact ⟨by show (approachF _ _).1.size ≤ _; omega, by show noStr.size ≤ _; rw [noStr_size]; omega, by show noStr.size ≤ _; rw [noStr_size]; omega, by show noStr.size ≤ _; rw [noStr_size]; omega⟩
/-- So many turns of a text. -/
def turnsB (x y : ByteArray) : Nat → ByteArray
  | 0 => x
  | i + 1 => turnsB x y i ++ y
theorem turnsB_bytes (x y : ByteArray) : ∀ i, bytesN (turnsB x y i) = bytesN x ++ (List.replicate i (bytesN y)).flatten
  | 0 => by simp [turnsB]
  | i + 1 => by
    unfold turnsB
    rw [bytesN_app, turnsB_bytes x y i, List.replicate_succ', List.flatten_append]
    simp
theorem turnsB_size (x y : ByteArray) : ∀ i, (turnsB x y i).size = x.size + i * y.size
  | 0 => by simp [turnsB]
  | i + 1 => by
    unfold turnsB
    rw [ByteArray.size_append, turnsB_size x y i, Nat.add_mul]
    omega
/-- The beginning's text stays empty. -/
theorem apprSteps_zero {x : WebT} {state : Nat} : ∀ (l : List StepT) (a : ApprT), a.found.getD 0 false = true → (l.foldl (apprStep x state) a).token.getD 0 noStr = a.token.getD 0 noStr ∧ (l.foldl (apprStep x state) a).found.getD 0 false = true
  | [], a, h => ⟨rfl, h⟩
  | s :: l, a, h => by
    rw [List.foldl_cons]
    have h1 : (apprStep x state a s).token.getD 0 noStr = a.token.getD 0 noStr ∧ (apprStep x state a s).found.getD 0 false = true := by
      unfold apprStep
      by_cases h3 : a.found.getD s.q false = true
      · rw [if_pos h3]; exact ⟨rfl, h⟩
      · rw [if_neg h3]
        have hne : ¬ s.q = 0 := fun e => h3 (by rw [e]; exact h)
        have hfs : (a.found.set s.q true).getD 0 false = true := by rw [getD_setB', if_neg (fun e => hne e.1)]; exact h
        split
        · refine ⟨?_, hfs⟩
          show (a.token.set s.q _).getD 0 noStr = _
          rw [getD_setS, if_neg (fun e => hne e.1)]
        · refine ⟨?_, hfs⟩
          show (a.token.set s.q _).getD 0 noStr = _
          rw [getD_setS, if_neg (fun e => hne e.1)]
    obtain ⟨e1, e2⟩ := apprSteps_zero l (apprStep x state a s) h1.2
    exact ⟨by rw [e1, h1.1], e2⟩
theorem apprTo_zero {R : RulesT} {kd : Nat → Nat} {g : Graph} (h : buildF R = some (kd, g)) : ∀ k, k ≤ g.rule.length → (apprTo (weaveF kd g) k).token.getD 0 noStr = noStr
  | 0, _ => by
    show (List.replicate (weaveF kd g).token.length noStr).getD 0 noStr = noStr
    rw [List.getD_eq_getElem?_getD, List.getElem?_replicate]
    split <;> rfl
  | k + 1, hk => by
    obtain ⟨_, a2, _⟩ := apprTo_is h k (by omega)
    have e1 : (apprTo (weaveF kd g) (k + 1)).token.getD 0 noStr = (apprTo (weaveF kd g) k).token.getD 0 noStr := (apprSteps_zero _ _ a2).1
    rw [e1]
    exact apprTo_zero h k (by omega)
/-- Where gap is not bounded. -/
theorem gap_endless {R : RulesT} {kd : Nat → Nat} {g : Graph} (h : buildF R = some (kd, g)) (hb : (gapOf kd g).bounded = false) (i : Nat) : PairIs kd g (bytesN (gapOf kd g).fr) (bytesN (turnsB (gapOf kd g).lead (gapOf kd g).lp i ++ (gapOf kd g).tail)) ∧ 0 < (gapOf kd g).lp.size ∧ 0 < (gapOf kd g).tail.size ∧ (gapOf kd g).tt.size = 0 ∧ (gapOf kd g).k = 0 := by
  unfold gapOf at hb ⊢
  split at hb
  · rename_i s hs
    have h1 := List.mem_of_find?_eq_some hs
    have h2 : s < g.rule.length := by simpa using h1
    have h3 := List.find?_some hs
    obtain ⟨p1, p2, p3⟩ := endless_pair h h2 h3 i
    rw [bytesN_app, turnsB_bytes]
    exact ⟨p1, p2, p3, rfl, rfl⟩
  · cases hb
/-- Where it is. -/
theorem gap_bounded {R : RulesT} {kd : Nat → Nat} {g : Graph} (h : buildF R = some (kd, g)) (hf : LexFit kd g) (hb : (gapOf kd g).bounded = true) : (gapOf kd g).lead.size = 0 ∧ (gapOf kd g).lp.size = 0 ∧ (gapOf kd g).tail.size = 0 ∧
    ((gapOf kd g).k = 0 → (gapOf kd g).fr.size = 0 ∧ (gapOf kd g).tt.size = 0) ∧ (0 < (gapOf kd g).k → ∃ z : ByteArray, z.size = (gapOf kd g).k ∧ (gapOf kd g).tt = (gapOf kd g).fr ++ z ∧ PairIs kd g (bytesN (gapOf kd g).fr) (bytesN z)) := by
  rw [gap_none hb]
  refine ⟨rfl, rfl, rfl, fun hk => ?_, fun hk => ?_⟩
  · have hk' : (farD (weaveF kd g) (layersF (weaveF kd g) g.rule.length) (layersF (weaveF kd g) g.rule.length).length).2 = 0 := hk
    have h0 : ∀ D LL, (farD (weaveF kd g) LL D).2 = 0 → (farD (weaveF kd g) LL D).1 = 0 := by
      intro D
      induction D with
      | zero => intro LL _; rfl
      | succ D ih =>
        intro LL h9
        unfold farD at h9 ⊢
        split at h9
        · cases h9
        · rename_i h8
          exact ih LL h9
    have h1 := h0 _ _ hk'
    obtain ⟨a1, a2⟩ := approach_is h (q := 0) hf.pos
    have hrun := a1.run
    have h5 : (approachF (weaveF kd g) 0).1 = noStr := by
      have hs := apprTo_zero h g.rule.length (Nat.le_refl _)
      have hl : (weaveF kd g).steps.length = g.rule.length := by simp [weaveF, stepsTo]
      unfold approachF
      rw [hl]
      exact hs
    unfold boundedF
    rw [hk', h1]
    show (approachF (weaveF kd g) 0).1.size = 0 ∧ ((approachF (weaveF kd g) 0).1 ++ (walkW (weaveF kd g) ((layersF (weaveF kd g) g.rule.length).take 0) 0).2).size = 0
    rw [h5, List.take_zero]
    exact ⟨rfl, rfl⟩
  · obtain ⟨T, h1, h2, h3⟩ := bounded_pair h hf hk
    have hT : ∀ b ∈ T, b < 256 := fun b hb => h3.byte b (by simp [hb])
    exact ⟨bytesOf T, by rw [bytesOf_size, h1], h2, by rw [bytesN_of hT]; exact h3⟩
end Go.Proofs.Ytcckhngbdoiikaa

namespace Go.Proofs.Ytcckhngbdoiikaa
open Go.RowKit Go.Deep
set_option linter.unusedVariables false

/-- The lexer's state along a text has the text's rule. -/
theorem Fitted.toks {all : List NodeT} {tops : List Nat} {trs : List Tree} (h : Fitted all tops trs) {kd : Nat → Nat} {g : Graph} (hn : newF (spellK all tops tops.length).1 = .lexer kd g) (w : List Nat) (hw : w ≠ []) (hx : ∀ x ∈ w, x < 256) : TokIs (topTrees trs tops) w (accK g (runK g 0 (w.map kd))) := by
  obtain ⟨h1, h2, h3⟩ := h.tree
  rw [h3] at hn
  rcases new_trees (topTrees trs tops) h1 h2 with ⟨e, _⟩ | ⟨e, _⟩ | ⟨_, kd', g', e2, e3, e4⟩
  · rw [e] at hn; cases hn
  · rw [e] at hn; cases hn
  · rw [e2] at hn
    injection hn with a b
    subst a b
    exact lexer_tok e3 e4 w hw hx
/-- Is some row marked there? -/
def anyAt (rows : List (List Bool)) (q : Nat) : Bool := rows.any (fun r => r.getD q false)
theorem seg_zero (L : List Nat) (q : Nat) : seg L 0 q = L.take q := by
  simp [seg]
theorem any_word {all : List NodeT} {tops : List Nat} {trs : List Tree} (h : Fitted all tops trs) {kd : Nat → Nat} {g : Graph} (hn : newF (spellK all tops tops.length).1 = .lexer kd g) (c : MemoC) (hc : ∀ t, c.tr t = trs.getD t treeD) (q : Nat) (q0 : 0 < q) (hq : q ≤ c.s.size) :
    anyAt (wordRows c tops 0) q = true ↔ accK g (runK g 0 (((bytesN c.s).take q).map kd)) ≠ -1 := by
  have hlen : (topTrees trs tops).length = tops.length := by simp [topTrees]
  have hwl : (wordRows c tops 0).length = tops.length := by simp [wordRows]
  have hbl : (bytesN c.s).length = c.s.size := bytesN_len c.s
  have hw : (bytesN c.s).take q ≠ [] := fun e => by
    have h9 : ((bytesN c.s).take q).length = 0 := by rw [e]; rfl
    rw [List.length_take, hbl] at h9
    omega
  have ht := h.toks hn ((bytesN c.s).take q) hw (fun x hx => by
    have hx' := List.mem_of_mem_take hx
    simp only [bytesN, List.mem_map] at hx'
    obtain ⟨b, _, rfl⟩ := hx'
    exact b.toNat_lt)
  generalize accK g (runK g 0 (((bytesN c.s).take q).map kd)) = r at ht
  unfold anyAt
  rw [List.any_eq_true]
  constructor
  · rintro ⟨row, h1, h2⟩
    obtain ⟨i, hi, rfl⟩ := List.getElem_of_mem h1
    have hi' : i < (topTrees trs tops).length := by omega
    have e9 : (wordRows c tops 0).getD i [] = (wordRows c tops 0)[i] := by simp [hi]
    have h3 := (word_row c trs tops hc 0 q i (by omega) hi' (Nat.zero_le _) (by omega)).1 (by rw [e9]; exact h2)
    rw [seg_zero] at h3
    rcases ht with ⟨_, e⟩ | ⟨j, hj, e, _⟩
    · exact absurd h3 (e i hi')
    · omega
  · intro hr
    rcases ht with ⟨e, _⟩ | ⟨j, hj, _, e, _⟩
    · exact absurd e hr
    · have h3 := (word_row c trs tops hc 0 q j (by omega) hj (Nat.zero_le _) (by omega)).2 (by rw [seg_zero]; exact e)
      have e9 : (wordRows c tops 0).getD j [] = (wordRows c tops 0)[j]'(by omega) := by rw [List.getD_eq_getElem?_getD, List.getElem?_eq_getElem (by omega)]; rfl
      exact ⟨(wordRows c tops 0)[j]'(by omega), List.getElem_mem _, by rw [e9] at h3; exact h3⟩
/-- What neighbours looks at. -/
def NeighOk (rows : List (List Bool)) (n N : Nat) : Prop := ∀ q, 0 < q → q ≤ N → ((q = n ∨ q = N) → anyAt rows q = true) ∧ (n < q → q < N → anyAt rows q = false)
theorem neigh_ok {all : List NodeT} {tops : List Nat} {trs : List Tree} (h : Fitted all tops trs) {kd : Nat → Nat} {g : Graph} (hn : newF (spellK all tops tops.length).1 = .lexer kd g) (c : MemoC) (hc : ∀ t, c.tr t = trs.getD t treeD) {u z : ByteArray} (hs : c.s = u ++ z) (hp : PairIs kd g (bytesN u) (bytesN z)) : NeighOk (wordRows c tops 0) u.size (u ++ z).size := by
  have hbu : (bytesN u).length = u.size := bytesN_len u
  have hbz : (bytesN z).length = z.size := bytesN_len z
  have hsz : (u ++ z).size = u.size + z.size := ByteArray.size_append
  have hbs : bytesN c.s = bytesN u ++ bytesN z := by rw [hs]; simp [bytesN]
  intro q q0 q1
  have hw := any_word h hn c hc q q0 (by rw [hs]; exact q1)
  refine ⟨fun e => hw.2 ?_, fun h1 h2 => ?_⟩
  · rw [hbs]
    rcases e with e | e
    · have e9 : (bytesN u ++ bytesN z).take q = bytesN u := by rw [List.take_append_of_le_length (by omega), List.take_of_length_le (by omega)]
      rw [e9]
      rcases hp.fr with e' | e'
      · rw [e'] at hbu; simp at hbu; omega
      · exact e'
    · have e9 : (bytesN u ++ bytesN z).take q = bytesN u ++ bytesN z := List.take_of_length_le (by rw [List.length_append]; omega)
      rw [e9]
      exact hp.tt
  · cases hh : anyAt (wordRows c tops 0) q with
    | false => rfl
    | true =>
      exfalso
      refine hw.1 hh ?_
      have e9 : (bytesN u ++ bytesN z).take q = bytesN u ++ (bytesN z).take (q - u.size) := by
        rw [List.take_append, List.take_of_length_le (by omega), hbu]
      rw [hbs, e9]
      exact hp.non (q - u.size) (by omega) (by omega)
theorem anyAt_take (rows : List (List Bool)) (q i : Nat) (hi : i < rows.length) : anyAt (rows.take (i + 1)) q = (anyAt (rows.take i) q || (rows.getD i []).getD q false) := by
  unfold anyAt
  rw [List.take_succ_eq_append_getElem hi, List.any_append]
  simp [hi]
end Go.Proofs.Ytcckhngbdoiikaa
