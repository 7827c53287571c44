import Derived.Test.YtmgpdaemcbbikaaC31
import Derived.Test.YtmgpdaemcbbikaaC28
import Derived.Test.YtmgpdaemcbbikaaC08

namespace Go.Proofs.Ytmgpdaemcbbikaa
set_option linter.unusedVariables false

theorem mergeLoop_stable {g : Graph} {K : Nat} (ho : GOk g K) (hpos : 0 < g.rule.length) : ∀ (f : Nat) (cls : List Int) (count : Nat), g.rule.length + 1 ≤ f + count → count ≤ g.rule.length → count ≤ (refineAt g cls g.rule.length).2 →
    (count = 0 ∨ ((∀ a, a < g.rule.length → 0 ≤ cls.getD a 0 ∧ cls.getD a 0 < (count : Int)) ∧ ∀ c : Nat, c < count → ∃ a, a < g.rule.length ∧ cls.getD a 0 = (c : Int))) → Stable g K (mergeLoop g f cls count)
  | 0, cls, count, h1, h2, _, _ => by omega
  | f + 1, cls, count, h1, h2, h3, h4 => by
    have hbd := refineAt_bd g cls g.rule.length
    have hlen := refineAt_len g cls g.rule.length
    have hsp := refineAt_spec ho cls g.rule.length (Nat.le_refl _)
    have hmo := refineAt_mono g cls g.rule.length g.rule.length (Nat.le_refl _)
    have hr : ∀ a, a < g.rule.length → 0 ≤ (refineAt g cls g.rule.length).1.getD a 0 ∧ (refineAt g cls g.rule.length).1.getD a 0 < ((refineAt g cls g.rule.length).2 : Int) := fun a ha => hbd.1 _ (getD_mem (by omega) 0)
    unfold mergeLoop
    split
    · rename_i hc
      rcases h4 with h4 | ⟨h4, h5⟩
      · have := hr 0 hpos
        omega
      · exact refine_stable ho cls count h4 h5 hc
    · rename_i hc
      exact mergeLoop_stable ho hpos f _ _ (by omega) hbd.2 hmo (.inr ⟨hr, hsp.2⟩)
theorem mergeF_stable {g : Graph} {K : Nat} (ho : GOk g K) (hpos : 0 < g.rule.length) : Stable g K (mergeF g) :=
  mergeLoop_stable ho hpos _ _ 0 (by omega) (by omega) (by omega) (.inl rfl)
theorem mergeLoop_len (g : Graph) : ∀ (f : Nat) (cls : List Int) (count : Nat), cls.length = g.rule.length → (mergeLoop g f cls count).length = g.rule.length
  | 0, cls, _, h => h
  | f + 1, cls, count, h => by
    unfold mergeLoop
    split
    · exact refineAt_len _ _ _
    · exact mergeLoop_len g f _ _ (refineAt_len _ _ _)
theorem mergeF_len (g : Graph) : (mergeF g).length = g.rule.length := mergeLoop_len g _ _ _ (by simp)

/-- What holds of the nodes that were found, and of the numbers of their classes. -/
structure VInv (N : Nat) (cls : List Int) (st : List Int × List Int) : Prop where
  ok : VOk N st
  pos : 0 < st.1.length ∧ st.1.getD 0 0 = 0
  num : ∀ j, j < st.1.length → st.2.getD (cls.getD (st.1.getD j 0).toNat 0).toNat 0 = (j : Int)
  cls : ∀ c : Nat, c < N → st.2.getD c 0 = -1 ∨ (0 ≤ st.2.getD c 0 ∧ st.2.getD c 0 < (st.1.length : Int) ∧ cls.getD (st.1.getD (st.2.getD c 0).toNat 0).toNat 0 = (c : Int))
/-- What was found stays. -/
def VExt (st st' : List Int × List Int) : Prop := st.1 <+: st'.1 ∧ ∀ c : Nat, st.2.getD c 0 ≠ -1 → st'.2.getD c 0 = st.2.getD c 0
theorem VExt.refl (st : List Int × List Int) : VExt st st := ⟨List.prefix_refl _, fun _ _ => rfl⟩
theorem VExt.trans {a b c : List Int × List Int} (h : VExt a b) (g : VExt b c) : VExt a c := ⟨h.1.trans g.1, fun x hx => by rw [g.2 x (by rw [h.2 x hx]; exact hx), h.2 x hx]⟩
theorem prefix_getI {l m : List Int} (h : l <+: m) {k : Nat} (hk : k < l.length) : m.getD k 0 = l.getD k 0 := by
  obtain ⟨r, rfl⟩ := h
  rw [List.getD_eq_getElem?_getD, List.getElem?_append_left hk, ← List.getD_eq_getElem?_getD]
theorem getD_set (l : List Int) (k i : Nat) (x : Int) (hk : k < l.length) : (l.set k x).getD i 0 = if i = k then x else l.getD i 0 := by
  rw [List.getD_eq_getElem?_getD, List.getElem?_set]
  by_cases h : k = i
  · subst h; simp [hk]
  · rw [if_neg h, if_neg (fun e => h e.symm), List.getD_eq_getElem?_getD]
theorem visitStep_inv {N : Nat} {cls : List Int} (hcl : cls.length = N) (hc : ∀ x ∈ cls, 0 ≤ x ∧ x < (N : Int)) {st : List Int × List Int} (h : VInv N cls st) {tt : Int} (ht : tt = -1 ∨ (0 ≤ tt ∧ tt < (N : Int))) :
    VInv N cls (visitStep cls st tt) ∧ VExt st (visitStep cls st tt) ∧ (tt ≠ -1 → (visitStep cls st tt).2.getD (cls.getD tt.toNat 0).toNat 0 ≠ -1) := by
  have hok := visitStep_ok hcl hc h.ok ht
  unfold visitStep at hok ⊢
  split at hok
  · rename_i hcd
    rw [if_pos hcd]
    simp only [Bool.and_eq_true, bne_iff_ne, ne_eq, beq_iff_eq] at hcd
    obtain ⟨h1, h2⟩ := hcd
    have ht' : 0 ≤ tt ∧ tt < (N : Int) := by rcases ht with e | e; exact absurd e h1; exact e
    have hx := hc _ (getD_mem (l := cls) (k := tt.toNat) (by omega) 0)
    generalize hcc : cls.getD tt.toNat 0 = c at h2 hok hx ⊢
    have hlen := h.ok.len
    have hck : c.toNat < st.2.length := by omega
    have hpre : st.1 <+: st.1 ++ [tt] := List.prefix_append _ _
    refine ⟨⟨hok, ⟨by simp, ?_⟩, fun j hj => ?_, fun d hd => ?_⟩, ⟨hpre, fun d hd => ?_⟩, fun _ => ?_⟩
    · rw [prefix_getI hpre h.pos.1]; exact h.pos.2
    · simp only at hj ⊢
      rw [getD_set _ _ _ _ hck]
      simp only [List.length_append, List.length_cons, List.length_nil] at hj
      by_cases hj' : j < st.1.length
      · rw [prefix_getI hpre hj']
        have h3 := h.num j hj'
        rw [if_neg (fun e => by rw [e] at h3; omega)]
        exact h3
      · have : j = st.1.length := by omega
        subst this
        have e9 : (st.1 ++ [tt]).getD st.1.length 0 = tt := by simp
        rw [e9, hcc, if_pos rfl]
    · simp only
      rw [getD_set _ _ _ _ hck]
      simp only [List.length_append, List.length_cons, List.length_nil]
      split
      · rename_i e
        right
        refine ⟨by omega, by omega, ?_⟩
        rw [Int.toNat_natCast, getD_snoc, if_neg (by omega), if_pos rfl, hcc]
        omega
      · rcases h.cls d hd with e | ⟨e1, e2, e3⟩
        · exact .inl e
        · exact .inr ⟨e1, by omega, by rw [prefix_getI hpre (by omega)]; exact e3⟩
    · simp only
      rw [getD_set _ _ _ _ hck, if_neg (fun e => by rw [e] at hd; exact hd h2)]
    · simp only
      rw [getD_set _ _ _ _ hck, if_pos rfl]
      omega
  · rename_i hcd
    rw [if_neg hcd]
    refine ⟨h, VExt.refl _, fun hne he => hcd ?_⟩
    simp only [Bool.and_eq_true, bne_iff_ne, ne_eq, beq_iff_eq]
    exact ⟨hne, he⟩
theorem visitRow_inv {N : Nat} {cls : List Int} (hcl : cls.length = N) (hc : ∀ x ∈ cls, 0 ≤ x ∧ x < (N : Int)) : ∀ (row : List Int) (st : List Int × List Int), VInv N cls st → RowOk N row →
    VInv N cls (visitRow cls row st) ∧ VExt st (visitRow cls row st) ∧ ∀ tt ∈ row, tt ≠ -1 → (visitRow cls row st).2.getD (cls.getD tt.toNat 0).toNat 0 ≠ -1
  | [], st, h, _ => ⟨h, VExt.refl _, fun tt hx => by simp at hx⟩
  | x :: r, st, h, hr => by
    have e : visitRow cls (x :: r) st = visitRow cls r (visitStep cls st x) := rfl
    rw [e]
    obtain ⟨s1, s2, s3⟩ := visitStep_inv hcl hc h (hr x (by simp))
    obtain ⟨r1, r2, r3⟩ := visitRow_inv hcl hc r _ s1 (fun y hy => hr y (by simp [hy]))
    refine ⟨r1, s2.trans r2, fun tt htt hne => ?_⟩
    rw [List.mem_cons] at htt
    rcases htt with e' | e'
    · subst e'
      rw [r2.2 _ (s3 hne)]
      exact s3 hne
    · exact r3 tt e' hne
theorem visitLoop_inv {g : Graph} {K : Nat} (ho : GOk g K) {cls : List Int} (hcl : cls.length = g.rule.length) (hc : ∀ x ∈ cls, 0 ≤ x ∧ x < (g.rule.length : Int)) : ∀ (f i : Nat) (st : List Int × List Int), f + i = g.rule.length + 1 → i ≤ st.1.length → VInv g.rule.length cls st →
    (∀ j, j < i → ∀ tt ∈ g.next.getD (st.1.getD j 0).toNat [], tt ≠ -1 → st.2.getD (cls.getD tt.toNat 0).toNat 0 ≠ -1) →
    VInv g.rule.length cls (visitLoop g cls f i st) ∧ ∀ j, j < (visitLoop g cls f i st).1.length → ∀ tt ∈ g.next.getD ((visitLoop g cls f i st).1.getD j 0).toNat [], tt ≠ -1 → (visitLoop g cls f i st).2.getD (cls.getD tt.toNat 0).toNat 0 ≠ -1
  | 0, i, st, hf, hi, h, _ => by have := h.ok.sum; omega
  | f + 1, i, st, hf, hi, h, hd => by
    unfold visitLoop
    split
    · rename_i hlt
      have hin := h.ok.ok _ (getD_mem (l := st.1) hlt 0)
      have hrow := (ho.row (st.1.getD i 0).toNat (by rw [ho.len]; omega)).2
      obtain ⟨r1, r2, r3⟩ := visitRow_inv hcl hc _ st h hrow
      refine visitLoop_inv ho hcl hc f (i + 1) _ (by omega) (by have := r2.1.length_le; omega) r1 (fun j hj tt htt hne => ?_)
      rw [prefix_getI r2.1 (by omega)] at htt
      by_cases hj' : j < i
      · have := hd j hj' tt htt hne
        rw [r2.2 _ this]
        exact this
      · have : j = i := by omega
        subst this
        exact r3 tt htt hne
    · rename_i hlt
      exact ⟨h, fun j hj => hd j (by omega)⟩
theorem visitF_inv {g : Graph} {K : Nat} (ho : GOk g K) (hpos : 0 < g.rule.length) {cls : List Int} (hcl : cls.length = g.rule.length) (hc : ∀ x ∈ cls, 0 ≤ x ∧ x < (g.rule.length : Int)) :
    VInv g.rule.length cls (visitF g cls) ∧ ∀ j, j < (visitF g cls).1.length → ∀ tt ∈ g.next.getD ((visitF g cls).1.getD j 0).toNat [], tt ≠ -1 → (visitF g cls).2.getD (cls.getD tt.toNat 0).toNat 0 ≠ -1 := by
  have hx := hc _ (getD_mem (l := cls) (k := 0) (by omega) 0)
  have hck : (cls.getD 0 0).toNat < (List.replicate cls.length (-1 : Int)).length := by rw [List.length_replicate]; omega
  have hrep : ∀ d, d < cls.length → (List.replicate cls.length (-1 : Int)).getD d 0 = -1 := fun d hd => by simp [hd]
  refine visitLoop_inv ho hcl hc _ 0 _ (by omega) (by simp) ⟨⟨?_, by simp [hcl], fun x hx => by simp at hx; omega⟩, ⟨by simp, rfl⟩, fun j hj => ?_, fun d hd => ?_⟩ (fun j hj => by omega)
  · have h1 := neg1_set (List.replicate cls.length (-1 : Int)) (cls.getD 0 0).toNat 0 hck (by rw [hrep _ (by omega)]) (by omega)
    have h2 : neg1 (List.replicate cls.length (-1 : Int)) = cls.length := by simp [neg1]
    simp only [List.length_cons, List.length_nil]
    omega
  · simp only [List.length_cons, List.length_nil] at hj
    have : j = 0 := by omega
    subst this
    simp only [List.getD_cons_zero, Int.toNat_zero]
    rw [getD_set _ _ _ _ hck, if_pos rfl]; rfl
  · simp only
    rw [getD_set _ _ _ _ hck]
    split
    · rename_i e
      right
      refine ⟨by omega, by simp, ?_⟩
      simp only [Int.toNat_zero, List.getD_cons_zero]
      omega
    · exact .inl (hrep d (by omega))

/-- A state of the numbered graph stands for a node: they are of one class. -/
theorem number_step {g : Graph} {K : Nat} (ho : GOk g K) (hpos : 0 < g.rule.length) {cls : List Int} (hcl : cls.length = g.rule.length) (hc : ∀ x ∈ cls, 0 ≤ x ∧ x < (g.rule.length : Int)) (hst : Stable g K cls)
    {j a : Nat} (hj : j < (visitF g cls).1.length) (ha : a < g.rule.length) (he : cls.getD ((visitF g cls).1.getD j 0).toNat 0 = cls.getD a 0) {k : Nat} (hk : k < K) :
    (stepK (numberF g cls) (j : Int) k = -1 ∧ stepK g (a : Int) k = -1) ∨ ∃ j' a' : Nat, stepK (numberF g cls) (j : Int) k = (j' : Int) ∧ stepK g (a : Int) k = (a' : Int) ∧ j' < (visitF g cls).1.length ∧ a' < g.rule.length ∧ cls.getD ((visitF g cls).1.getD j' 0).toNat 0 = cls.getD a' 0 := by
  obtain ⟨hv, hd⟩ := visitF_inv ho hpos hcl hc
  have hF := hv.ok.ok _ (getD_mem (l := (visitF g cls).1) hj 0)
  have hdj := hd j hj
  have e1 : (numberF g cls).next.getD j [] = numberRow cls (visitF g cls).2 (g.next.getD ((visitF g cls).1.getD j 0).toNat []) := by simp [numberF, hj]
  generalize hb : ((visitF g cls).1.getD j 0).toNat = b at *
  have hb' : b < g.rule.length := by omega
  have rb := ho.row b (by rw [ho.len]; exact hb')
  have hs := (hst b a hb' ha he).2 k hk
  have ib := stepK_in ho (s := (b : Int)) (by omega) (by omega) hk
  have ia := stepK_in ho (s := (a : Int)) (by omega) (by omega) hk
  have eb : stepK g (b : Int) k = (g.next.getD b []).getD k 0 := by unfold stepK; rw [if_neg (by omega), Int.toNat_natCast]
  have ea : stepK g (a : Int) k = (g.next.getD a []).getD k 0 := by unfold stepK; rw [if_neg (by omega), Int.toNat_natCast]
  rw [← eb, ← ea] at hs
  have hmem : stepK g (b : Int) k ∈ g.next.getD b [] := by rw [eb]; exact getD_mem (by rw [rb.1]; exact hk) 0
  have en : stepK (numberF g cls) (j : Int) k = if stepK g (b : Int) k != -1 then (visitF g cls).2.getD (cls.getD (stepK g (b : Int) k).toNat 0).toNat 0 else -1 := by
    have hneg : ¬ ((j : Int) < 0) := by omega
    have ej : stepK (numberF g cls) (j : Int) k = ((numberF g cls).next.getD j []).getD k 0 := by simp only [stepK, if_neg hneg, Int.toNat_natCast]
    rw [ej, e1, eb]
    have hkl : k < (g.next.getD b []).length := by rw [rb.1]; exact hk
    unfold numberRow
    rw [getD_map _ _ _ hkl]
  rw [en]
  unfold stepSame at hs
  rcases ib with e | e
  · rw [e] at hs ⊢
    simp at hs
    left
    exact ⟨by simp, hs.symm⟩
  · have hne : stepK g (b : Int) k ≠ -1 := by omega
    have hne2 : stepK g (a : Int) k ≠ -1 := by
      intro e2
      rw [e2] at hs
      simp at hs
      exact hne hs
    simp [hne, hne2] at hs
    right
    have hd' := hdj _ hmem hne
    generalize stepK g (b : Int) k = x at *
    have ia' : 0 ≤ stepK g (a : Int) k ∧ stepK g (a : Int) k < (g.rule.length : Int) := by rcases ia with e2 | e2; exact absurd e2 hne2; exact e2
    generalize stepK g (a : Int) k = y at *
    have hx := hc _ (getD_mem (l := cls) (k := x.toNat) (by omega) 0)
    rcases hv.cls (cls.getD x.toNat 0).toNat (by omega) with e3 | ⟨e3, e4, e5⟩
    · exact absurd e3 hd'
    · rw [if_pos (by simpa using hne)]
      generalize (visitF g cls).2.getD (cls.getD x.toNat 0).toNat 0 = m at *
      refine ⟨m.toNat, y.toNat, by omega, by omega, by omega, by omega, ?_⟩
      rw [e5]
      have hs' : cls.getD x.toNat 0 = cls.getD y.toNat 0 := by simpa using hs
      rw [← hs']
      omega
theorem number_acc {g : Graph} {K : Nat} (ho : GOk g K) (hpos : 0 < g.rule.length) {cls : List Int} (hcl : cls.length = g.rule.length) (hc : ∀ x ∈ cls, 0 ≤ x ∧ x < (g.rule.length : Int)) (hst : Stable g K cls) : ∀ (ks : List Nat) (j a : Nat), (∀ k ∈ ks, k < K) → j < (visitF g cls).1.length → a < g.rule.length → cls.getD ((visitF g cls).1.getD j 0).toNat 0 = cls.getD a 0 →
    accK (numberF g cls) (runK (numberF g cls) (j : Int) ks) = accK g (runK g (a : Int) ks)
  | [], j, a, _, hj, ha, he => by
    show accK (numberF g cls) (j : Int) = accK g (a : Int)
    obtain ⟨hv, _⟩ := visitF_inv ho hpos hcl hc
    have hF := hv.ok.ok _ (getD_mem (l := (visitF g cls).1) hj 0)
    have hs := (hst ((visitF g cls).1.getD j 0).toNat a (by omega) ha he).1
    unfold accK
    rw [if_neg (by omega), if_neg (by omega), Int.toNat_natCast, Int.toNat_natCast, ← hs]
    simp [numberF, hj]
  | k :: ks, j, a, hk, hj, ha, he => by
    show accK (numberF g cls) (runK (numberF g cls) (stepK (numberF g cls) (j : Int) k) ks) = accK g (runK g (stepK g (a : Int) k) ks)
    have dead1 : ∀ g : Graph, accK g (runK g (-1) ks) = -1 := fun g => by rw [runK_dead g ks (-1) (by omega)]; split <;> rfl
    rcases number_step ho hpos hcl hc hst hj ha he (hk k (by simp)) with ⟨h1, h2⟩ | ⟨j', a', h1, h2, h3, h4, h5⟩
    · rw [h1, h2, dead1, dead1]
    · rw [h1, h2]
      exact number_acc ho hpos hcl hc hst ks j' a' (fun k hk' => hk k (by simp [hk'])) h3 h4 h5

theorem buildF_some {R : RulesT} {kd : Nat → Nat} {g : Graph} (h : buildF R = some (kd, g)) : ∃ g0, exploreF R (kindsAt R.allow 256) = some g0 ∧ kd = kindOf R.allow ∧ g = numberF (pruneF g0) (mergeF (pruneF g0)) := by
  unfold buildF at h
  generalize kindsAt R.allow 256 = ks at h ⊢
  cases hx : exploreF R ks with
  | none => rw [hx] at h; cases h
  | some g0 =>
    rw [hx] at h
    simp only [Option.some.injEq, Prod.mk.injEq] at h
    exact ⟨g0, rfl, h.1.symm, h.2.symm⟩
/-- The table of rules: along a text it stands in a state of the text's rule. -/
theorem build_acc {R : RulesT} {kd : Nat → Nat} {g : Graph} (h : buildF R = some (kd, g)) (w : List Nat) (hx : ∀ x ∈ w, x < 256) : accK g (runK g 0 (w.map kd)) = R.rule (setW R w) := by
  obtain ⟨g0, hg, rfl, rfl⟩ := buildF_some h
  · clear h
    obtain ⟨ho, hp, hn⟩ := exploreF_ok hg
    have hk : ∀ b, b < 256 → kindOf R.allow b < (kindsAt R.allow 256).length ∧ (kindsAt R.allow 256).getD (kindOf R.allow b) PSet.none = R.allow b := fun b hb => kindOf_get R.allow b 256 hb
    obtain ⟨sets, hs⟩ := exploreF_sets hg
    have hks : ∀ k ∈ w.map (kindOf R.allow), k < (kindsAt R.allow 256).length := by
      intro k hk'
      rw [List.mem_map] at hk'
      obtain ⟨b, hb, rfl⟩ := hk'
      exact (hk b (hx b hb)).1
    have ho' := pruneF_ok ho
    have hp' : 0 < (pruneF g0).rule.length := hp
    have hv := visitF_inv ho' hp' (mergeF_len _) (mergeF_bd _ hp')
    have e1 := number_acc ho' hp' (mergeF_len _) (mergeF_bd _ hp') (mergeF_stable ho' hp') _ 0 0 hks hv.1.pos.1 hp' (by rw [hv.1.pos.2]; rfl)
    have e2 := prune_acc ho _ 0 hks hp
    exact e1.trans (e2.trans (explore_acc hs hk w hx))
end Go.Proofs.Ytmgpdaemcbbikaa

namespace Go.Proofs.Ytmgpdaemcbbikaa
open Go.RowKit Go.Deep
set_option linter.unusedVariables false
abbrev sureText : ByteArray := ⟨#[97, 124, 97, 98, 99]⟩
def lenOf : NewT → Nat
  | .bad _ _ => 0
  | .lexer _ g => g.rule.length
theorem sureLen : lenOf (newF sureText) = 4 := by kernel_rfl
theorem sureNew : ∃ kd g, newF sureText = .lexer kd g ∧ g.rule.length = 4 := by
  have h := sureLen
  generalize newF sureText = X at h ⊢
  cases X with
  | bad e a => simp [lenOf] at h
  | lexer kd g => exact ⟨kd, g, rfl, h⟩

set_option maxHeartbeats 800000 in
theorem sure_any (w : World) : Calls Try.prog 14 #[] w fun e w' => e = .returned (.bool true) ∧ Below w.heap.size w w' := by
  obtain ⟨kd, g, hn, hg⟩ := sureNew
  have HN := hide hn
  have HG := hide hg
  have HC := hide (new_any sureText (by decide) w)
  clear hn hg
  go_enter Try.func14, Try.ntmps14
  go_wp2_with fail
  refine HC.out.mono ?_
  rw [HN.out]
  rintro e w1 ⟨hb1, pb, rfl, hL⟩
  have HS := hide (states_any pb kd g w1 hL)
  have HB := hide hb1
  clear hL hb1
  go_wp2_with fail
  refine HS.out.mono ?_
  rintro e w2 ⟨rfl, rfl⟩
  rw [HG.out]
  go_wp2_with fail
  go_ret
  exact ⟨rfl, HB.out⟩

end Go.Proofs.Ytmgpdaemcbbikaa
