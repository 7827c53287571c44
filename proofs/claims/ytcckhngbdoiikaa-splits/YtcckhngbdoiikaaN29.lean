import Derived.Test.YtcckhngbdoiikaaN08
import Derived.Test.YtcckhngbdoiikaaN20
import Derived.Test.YtcckhngbdoiikaaN19
import Derived.Test.YtcckhngbdoiikaaN28

namespace Go.Proofs.Ytcckhngbdoiikaa
set_option linter.unusedVariables false

theorem getD_mem {l : List Int} {k : Nat} (h : k < l.length) (d : Int) : l.getD k d ∈ l := by simp [h]
theorem getD_map (f : Int → Int) (l : List Int) (k : Nat) (h : k < l.length) : (l.map f).getD k 0 = f (l.getD k 0) := by simp [h]
theorem stepK_in {g : Graph} {K : Nat} (ho : GOk g K) {s : Int} (h0 : 0 ≤ s) (h1 : s < (g.rule.length : Int)) {k : Nat} (hk : k < K) : stepK g s k = -1 ∨ (0 ≤ stepK g s k ∧ stepK g s k < (g.rule.length : Int)) := by
  unfold stepK
  rw [if_neg (by omega)]
  have hr := ho.row s.toNat (by rw [ho.len]; omega)
  exact hr.2 _ (getD_mem (by rw [hr.1]; exact hk) 0)

/-- passF: where nothing has changed, it is as it was, and no node leads to a living one without living. -/
theorem passF_fix (g : Graph) (al : List Bool) : ∀ k, (passF g al k).2 = false → (passF g al k).1 = al ∧ ∀ i, i < k → leadsF (g.next.getD i []) al = true → al.getD i false = true
  | 0, _ => ⟨rfl, fun i hi => by omega⟩
  | k + 1, h => by
    unfold passF at h ⊢
    split at h
    · cases h
    · rename_i hc
      rw [if_neg hc]
      obtain ⟨h1, h2⟩ := passF_fix g al k h
      refine ⟨h1, fun i hi hl => ?_⟩
      by_cases e : i < k
      · exact h2 i e hl
      · have : i = k := by omega
        subst this
        rw [h1] at hc
        cases e2 : al.getD i false
        · exact absurd ⟨e2, hl⟩ hc
        · rfl
theorem passF_keeps (g : Graph) (al : List Bool) : ∀ k i, al.getD i false = true → (passF g al k).1.getD i false = true
  | 0, i, h => h
  | k + 1, i, h => by
    unfold passF
    split
    · have ih := passF_keeps g al k i h
      rw [List.getD_eq_getElem?_getD] at ih ⊢
      rw [List.getElem?_set]
      split
      · split
        · rfl
        · rename_i e1 e2
          subst e1
          rw [List.getElem?_eq_none (by omega)] at ih
          cases ih
      · exact ih
    · exact passF_keeps g al k i h
theorem aliveLoop_fix (g : Graph) : ∀ (n : Nat) (al : List Bool), g.next.length ≤ al.length → dead al < n →
    (∀ i, i < g.next.length → leadsF (g.next.getD i []) (aliveLoop g n al) = true → (aliveLoop g n al).getD i false = true) ∧ (∀ i, al.getD i false = true → (aliveLoop g n al).getD i false = true) ∧ (aliveLoop g n al).length = al.length
  | 0, al, _, h => by omega
  | n + 1, al, hl, h => by
    unfold aliveLoop
    have hd := passF_dead g al g.next.length hl
    split
    · rename_i hc
      have := hd.2 hc
      have ih := aliveLoop_fix g n (passF g al g.next.length).1 (by rw [passF_len]; exact hl) (by omega)
      exact ⟨ih.1, fun i hi => ih.2.1 i (passF_keeps g al _ i hi), by rw [ih.2.2, passF_len]⟩
    · rename_i hc
      have hc' : (passF g al g.next.length).2 = false := by simpa using hc
      obtain ⟨h1, h2⟩ := passF_fix g al _ hc'
      rw [h1]
      exact ⟨h2, fun i hi => hi, rfl⟩
theorem aliveF_fix {g : Graph} {K : Nat} (ho : GOk g K) : (∀ i, i < g.rule.length → leadsF (g.next.getD i []) (aliveF g) = true → (aliveF g).getD i false = true) ∧ (∀ i, i < g.rule.length → g.rule.getD i 0 ≠ -1 → (aliveF g).getD i false = true) ∧ (aliveF g).length = g.rule.length := by
  have hl : g.next.length = (g.rule.map (fun r => r != -1)).length := by simp [ho.len]
  have hd := dead_le (g.rule.map (fun r => r != -1))
  have h := aliveLoop_fix g (g.rule.length + 1) (g.rule.map (fun r => r != -1)) (by omega) (by simp at hd; omega)
  refine ⟨fun i hi => h.1 i (by rw [ho.len]; exact hi), fun i hi hr => h.2.1 i ?_, ?_⟩
  · simp [hi] at hr ⊢; exact hr
  · have := h.2.2; simpa [aliveF] using this

theorem alive_of_acc {g : Graph} {K : Nat} (ho : GOk g K) : ∀ (ks : List Nat) (s : Nat), (∀ k ∈ ks, k < K) → s < g.rule.length → accK g (runK g (s : Int) ks) ≠ -1 → (aliveF g).getD s false = true
  | [], s, _, hs, h => by
    have : g.rule.getD s 0 ≠ -1 := by
      have h' : accK g (s : Int) ≠ -1 := h
      unfold accK at h'
      rw [if_neg (by omega), Int.toNat_natCast] at h'
      exact h'
    exact (aliveF_fix ho).2.1 s hs this
  | k :: ks, s, hk, hs, h => by
    have h' : accK g (runK g (stepK g (s : Int) k) ks) ≠ -1 := h
    rcases stepK_in ho (s := (s : Int)) (by omega) (by omega) (hk k (by simp)) with e | e
    · exfalso
      rw [e, runK_dead g ks (-1) (by omega)] at h'
      apply h'
      split <;> rfl
    · obtain ⟨t, ht⟩ : ∃ t : Nat, stepK g (s : Int) k = (t : Int) := ⟨(stepK g (s : Int) k).toNat, by omega⟩
      rw [ht] at h' e
      have ih := alive_of_acc ho ks t (fun k hk' => hk k (by simp [hk'])) (by omega) h'
      refine (aliveF_fix ho).1 s hs ?_
      unfold leadsF
      rw [List.any_eq_true]
      have hr := ho.row s (by rw [ho.len]; exact hs)
      refine ⟨(t : Int), ?_, ?_⟩
      · rw [← ht]
        unfold stepK
        rw [if_neg (by omega), Int.toNat_natCast]
        exact getD_mem (by rw [hr.1]; exact hk k (by simp)) 0
      · rw [Int.toNat_natCast, ih]
        simp
theorem prune_step {g : Graph} {K : Nat} (ho : GOk g K) {s : Nat} (hs : s < g.rule.length) {k : Nat} (hk : k < K) :
    stepK (pruneF g) (s : Int) k = if stepK g (s : Int) k != -1 && (aliveF g).getD (stepK g (s : Int) k).toNat false then stepK g (s : Int) k else -1 := by
  have hr := ho.row s (by rw [ho.len]; exact hs)
  have hn : s < g.next.length := by rw [ho.len]; exact hs
  have e1 : (pruneF g).next.getD s [] = pruneRow (aliveF g) (g.next.getD s []) := by simp [pruneF, hn]
  have e2 : k < (g.next.getD s []).length := by rw [hr.1]; exact hk
  have hneg : ¬ ((s : Int) < 0) := by omega
  simp only [stepK, if_neg hneg, Int.toNat_natCast, e1]
  unfold pruneRow
  rw [getD_map _ _ _ e2]
theorem prune_acc {g : Graph} {K : Nat} (ho : GOk g K) : ∀ (ks : List Nat) (s : Nat), (∀ k ∈ ks, k < K) → s < g.rule.length → accK (pruneF g) (runK (pruneF g) (s : Int) ks) = accK g (runK g (s : Int) ks)
  | [], s, _, hs => rfl
  | k :: ks, s, hk, hs => by
    show accK (pruneF g) (runK (pruneF g) (stepK (pruneF g) (s : Int) k) ks) = accK g (runK g (stepK g (s : Int) k) ks)
    rw [prune_step ho hs (hk k (by simp))]
    have dead1 : ∀ g : Graph, accK g (runK g (-1) ks) = -1 := fun g => by rw [runK_dead g ks (-1) (by omega)]; split <;> rfl
    rcases stepK_in ho (s := (s : Int)) (by omega) (by omega) (hk k (by simp)) with e | e
    · rw [e]; simp [dead1]
    · obtain ⟨t, ht⟩ : ∃ t : Nat, stepK g (s : Int) k = (t : Int) := ⟨(stepK g (s : Int) k).toNat, by omega⟩
      rw [ht] at e ⊢
      rw [Int.toNat_natCast]
      cases ha : (aliveF g).getD t false with
      | true =>
        rw [if_pos (by simp)]
        exact prune_acc ho ks t (fun k hk' => hk k (by simp [hk'])) (by omega)
      | false =>
        rw [if_neg (by simp), dead1]
        refine Classical.byContradiction fun hne => ?_
        have := alive_of_acc ho ks t (fun k hk' => hk k (by simp [hk'])) (by omega) (fun e => hne e.symm)
        rw [ha] at this
        cases this

/-- Two nodes are of one kind, by classes: they have one rule, and each step leads to nodes of one class. -/
def Stable (g : Graph) (K : Nat) (cls : List Int) : Prop := ∀ a b, a < g.rule.length → b < g.rule.length → cls.getD a 0 = cls.getD b 0 →
  g.rule.getD a 0 = g.rule.getD b 0 ∧ ∀ k, k < K → stepSame cls ((g.next.getD a []).getD k 0) ((g.next.getD b []).getD k 0) = true
theorem rowsSame_get (cls : List Int) : ∀ (l m : List Int), l.length = m.length → rowsSame cls l m = true → ∀ k, k < l.length → stepSame cls (l.getD k 0) (m.getD k 0) = true
  | [], m, _, _, k, hk => by simp at hk
  | x :: l, [], hl, _, k, hk => by simp at hl
  | x :: l, y :: m, hl, h, k, hk => by
    unfold rowsSame at h
    simp only [List.headD_cons, List.tail_cons, Bool.and_eq_true] at h
    cases k with
    | zero => simpa using h.1
    | succ k => simpa using rowsSame_get cls l m (by simpa using hl) h.2 k (by simpa using hk)
theorem together_spec {g : Graph} {K : Nat} (ho : GOk g K) {cls : List Int} {a b : Nat} (ha : a < g.rule.length) (hb : b < g.rule.length) (h : togetherF g cls a b = true) :
    cls.getD a 0 = cls.getD b 0 ∧ g.rule.getD a 0 = g.rule.getD b 0 ∧ ∀ k, k < K → stepSame cls ((g.next.getD a []).getD k 0) ((g.next.getD b []).getD k 0) = true := by
  unfold togetherF at h
  split at h
  · cases h
  · rename_i hc
    have h1 : cls.getD a 0 = cls.getD b 0 := Decidable.not_not.1 fun e => hc (.inl e)
    have h2 : g.rule.getD a 0 = g.rule.getD b 0 := Decidable.not_not.1 fun e => hc (.inr e)
    have ra := ho.row a (by rw [ho.len]; exact ha)
    have rb := ho.row b (by rw [ho.len]; exact hb)
    exact ⟨h1, h2, fun k hk => rowsSame_get cls _ _ (by rw [ra.1, rb.1]) h k (by rw [ra.1]; exact hk)⟩
theorem mateF_some (g : Graph) (cls : List Int) (n : Nat) : ∀ (f k e : Nat), mateF g cls n f k = some e → e < n ∧ togetherF g cls e n = true
  | 0, k, e, h => by simp [mateF] at h
  | f + 1, k, e, h => by
    unfold mateF at h
    split at h
    · rename_i hk
      split at h
      · rename_i ht
        injection h with h
        subst h
        exact ⟨hk, ht⟩
      · exact mateF_some g cls n f (k + 1) e h
    · cases h
theorem stepSame_trans {cls : List Int} {a b c : Int} (h1 : stepSame cls a b = true) (h2 : stepSame cls b c = true) : stepSame cls a c = true := by
  unfold stepSame at *
  by_cases ha : a = -1
  · subst ha
    simp at h1
    subst h1
    exact h2
  · by_cases hb : b = -1
    · subst hb
      simp at h1
      exact absurd h1 ha
    · by_cases hc : c = -1
      · subst hc
        simp at h2
        exact absurd h2 hb
      · simp [ha, hb, hc] at h1 h2 ⊢
        rw [h1, h2]
theorem stepSame_symm {cls : List Int} {a b : Int} (h1 : stepSame cls a b = true) : stepSame cls b a = true := by
  unfold stepSame at *
  by_cases ha : a = -1
  · subst ha
    simp at h1
    subst h1
    simp
  · by_cases hb : b = -1
    · subst hb
      simp at h1
      exact absurd h1 ha
    · simp [ha, hb] at h1 ⊢
      rw [h1]
theorem stepSame_refl {cls : List Int} (a : Int) : stepSame cls a a = true := by unfold stepSame; split <;> simp
/-- What two nodes of one finer class have in common. -/
def Alike (g : Graph) (K : Nat) (cls : List Int) (a b : Nat) : Prop := cls.getD a 0 = cls.getD b 0 ∧ g.rule.getD a 0 = g.rule.getD b 0 ∧ ∀ k, k < K → stepSame cls ((g.next.getD a []).getD k 0) ((g.next.getD b []).getD k 0) = true
theorem Alike.refl {g : Graph} {K : Nat} {cls : List Int} (a : Nat) : Alike g K cls a a := ⟨rfl, rfl, fun k _ => stepSame_refl _⟩
theorem Alike.symm {g : Graph} {K : Nat} {cls : List Int} {a b : Nat} (h : Alike g K cls a b) : Alike g K cls b a := ⟨h.1.symm, h.2.1.symm, fun k hk => stepSame_symm (h.2.2 k hk)⟩
theorem Alike.trans {g : Graph} {K : Nat} {cls : List Int} {a b c : Nat} (h : Alike g K cls a b) (h2 : Alike g K cls b c) : Alike g K cls a c := ⟨h.1.trans h2.1, h.2.1.trans h2.2.1, fun k hk => stepSame_trans (h.2.2 k hk) (h2.2.2 k hk)⟩
/-- The finer classes: each number below the count is some node's, and nodes of one finer class are alike. -/
theorem refineAt_spec {g : Graph} {K : Nat} (ho : GOk g K) (cls : List Int) : ∀ n, n ≤ g.rule.length → (∀ a b, a < n → b < n → (refineAt g cls n).1.getD a 0 = (refineAt g cls n).1.getD b 0 → Alike g K cls a b) ∧ (∀ c : Nat, c < (refineAt g cls n).2 → ∃ a, a < n ∧ (refineAt g cls n).1.getD a 0 = (c : Int))
  | 0, _ => ⟨fun a b ha => by omega, fun c hc => by simp [refineAt] at hc⟩
  | n + 1, hn => by
    obtain ⟨ih1, ih2⟩ := refineAt_spec ho cls n (by omega)
    have hlen := refineAt_len g cls n
    have hbd := refineAt_bd g cls n
    unfold refineAt
    split
    · rename_i e he
      obtain ⟨he1, he2⟩ := mateF_some g cls n _ _ _ he
      have hal : Alike g K cls e n := together_spec ho (by omega) (by omega) he2
      generalize refineAt g cls n = r at *
      simp only
      have hg : ∀ a, a < n + 1 → ∃ a', a' < n ∧ (r.1 ++ [r.1.getD e 0]).getD a 0 = r.1.getD a' 0 ∧ Alike g K cls a a' := by
        intro a ha
        rw [getD_snoc, hlen]
        split
        · exact ⟨a, by omega, rfl, .refl a⟩
        · rw [if_pos (by omega)]
          have : a = n := by omega
          subst this
          exact ⟨e, he1, rfl, hal.symm⟩
      refine ⟨fun a b ha hb hab => ?_, fun c hc => ?_⟩
      · obtain ⟨a', h1, h2, h3⟩ := hg a ha
        obtain ⟨b', h4, h5, h6⟩ := hg b hb
        rw [h2, h5] at hab
        exact h3.trans ((ih1 a' b' h1 h4 hab).trans h6.symm)
      · obtain ⟨a, h1, h2⟩ := ih2 c hc
        refine ⟨a, by omega, ?_⟩
        rw [getD_snoc, hlen, if_pos h1]
        exact h2
    · generalize refineAt g cls n = r at *
      simp only
      refine ⟨fun a b ha hb hab => ?_, fun c hc => ?_⟩
      · rw [getD_snoc, getD_snoc, hlen] at hab
        have hlt : ∀ a, a < n → r.1.getD a 0 < (r.2 : Int) := fun a ha => (hbd.1 _ (getD_mem (by omega) 0)).2
        by_cases h1 : a < n <;> by_cases h2 : b < n
        · rw [if_pos h1, if_pos h2] at hab
          exact ih1 a b h1 h2 hab
        · rw [if_pos h1, if_neg h2, if_pos (by omega)] at hab
          have := hlt a h1; omega
        · rw [if_neg h1, if_pos h2, if_pos (by omega)] at hab
          have := hlt b h2; omega
        · have e1 : a = n := by omega
          have e2 : b = n := by omega
          subst e1 e2
          exact .refl _
      · by_cases hc' : c < r.2
        · obtain ⟨a, h1, h2⟩ := ih2 c hc'
          refine ⟨a, by omega, ?_⟩
          rw [getD_snoc, hlen, if_pos h1]
          exact h2
        · refine ⟨n, by omega, ?_⟩
          rw [getD_snoc, hlen, if_neg (by omega), if_pos rfl]
          have : c = r.2 := by omega
          rw [this]

/-- What maps the numbers below n onto those below n does not map two of them to one. -/
theorem onto_inj (n : Nat) (f : Nat → Nat) (hf : ∀ x, x < n → f x < n) (ho : ∀ y, y < n → ∃ x, x < n ∧ f x = y) (a b : Nat) (ha : a < n) (hb : b < n) (h : f a = f b) : a = b := by
  refine Classical.byContradiction fun hne => ?_
  -- choose for each number one that maps to it; not both of a and b are chosen
  have hch : ∀ y, ∃ x, y < n → (x < n ∧ f x = y ∧ x ≠ (if f a = y then b else n)) := by
    intro y
    by_cases hy : y < n
    · by_cases e : f a = y
      · exact ⟨a, fun _ => ⟨ha, e, by rw [if_pos e]; exact hne⟩⟩
      · obtain ⟨x, h1, h2⟩ := ho y hy
        exact ⟨x, fun _ => ⟨h1, h2, by rw [if_neg e]; omega⟩⟩
    · exact ⟨0, fun h => absurd h hy⟩
  obtain ⟨c, hc⟩ := Classical.axiomOfChoice hch
  have hnd : (b :: (List.range n).map c).Nodup := by
    rw [List.nodup_cons]
    refine ⟨?_, ?_⟩
    · rw [List.mem_map]
      rintro ⟨y, hy, e⟩
      have hy' : y < n := by simpa using hy
      obtain ⟨h1, h2, h3⟩ := hc y hy'
      by_cases ey : f a = y
      · rw [if_pos ey] at h3; exact h3 e
      · apply ey; rw [h, ← e, h2]
    · rw [List.Nodup, List.pairwise_map]
      refine List.Pairwise.imp_of_mem (R := fun x y => x ≠ y) (fun {x y} hx hy hxy => ?_) List.nodup_range
      intro e
      apply hxy
      have h1 := (hc x (by simpa using hx)).2.1
      have h2 := (hc y (by simpa using hy)).2.1
      rw [← h1, ← h2, e]
  have := nodup_len n _ hnd (fun x hx => by
    rw [List.mem_cons, List.mem_map] at hx
    rcases hx with e | ⟨y, hy, e⟩
    · rw [e]; exact hb
    · rw [← e]; exact (hc y (by simpa using hy)).1)
  simp at this
  omega

/-- Where refining makes no more classes, the finer classes are stable. -/
theorem refine_stable {g : Graph} {K : Nat} (ho : GOk g K) (cls : List Int) (count : Nat) (hb : ∀ a, a < g.rule.length → 0 ≤ cls.getD a 0 ∧ cls.getD a 0 < (count : Int)) (hon : ∀ c : Nat, c < count → ∃ a, a < g.rule.length ∧ cls.getD a 0 = (c : Int))
    (hc : (refineAt g cls g.rule.length).2 = count) : Stable g K (refineAt g cls g.rule.length).1 := by
  obtain ⟨h1, h2⟩ := refineAt_spec ho cls g.rule.length (Nat.le_refl _)
  have hlen := refineAt_len g cls g.rule.length
  have hbd := refineAt_bd g cls g.rule.length
  generalize refineAt g cls g.rule.length = r at *
  have hr : ∀ a, a < g.rule.length → 0 ≤ r.1.getD a 0 ∧ r.1.getD a 0 < (r.2 : Int) := fun a ha => hbd.1 _ (getD_mem (by omega) 0)
  -- by finer class some node of it
  have hch : ∀ c : Nat, ∃ a : Nat, c < count → a < g.rule.length ∧ r.1.getD a 0 = (c : Int) := by
    intro c
    by_cases hcc : c < count
    · obtain ⟨a, h3, h4⟩ := h2 c (by omega)
      exact ⟨a, fun _ => ⟨h3, h4⟩⟩
    · exact ⟨0, fun h => absurd h hcc⟩
  obtain ⟨rep, hrep⟩ := Classical.axiomOfChoice hch
  have hinj := onto_inj count (fun c => (cls.getD (rep c) 0).toNat) (fun c hcc => by
      have := hb (rep c) (hrep c hcc).1
      show (cls.getD (rep c) 0).toNat < count
      omega)
    (fun y hy => by
      obtain ⟨a, h3, h4⟩ := hon y hy
      have h5 := hr a h3
      refine ⟨(r.1.getD a 0).toNat, by omega, ?_⟩
      have h6 := hrep (r.1.getD a 0).toNat (by omega)
      have h7 := h1 (rep (r.1.getD a 0).toNat) a h6.1 h3 (by rw [h6.2]; omega)
      show (cls.getD (rep (r.1.getD a 0).toNat) 0).toNat = y
      rw [h7.1, h4]; rfl)
  -- so one class is one finer class
  have hsame : ∀ a b, a < g.rule.length → b < g.rule.length → cls.getD a 0 = cls.getD b 0 → r.1.getD a 0 = r.1.getD b 0 := by
    intro a b ha hb' hab
    have h5 := hr a ha
    have h6 := hr b hb'
    have h7 := hrep (r.1.getD a 0).toNat (by omega)
    have h8 := hrep (r.1.getD b 0).toNat (by omega)
    have h9 := h1 _ a h7.1 ha (by rw [h7.2]; omega)
    have h10 := h1 _ b h8.1 hb' (by rw [h8.2]; omega)
    have := hinj (r.1.getD a 0).toNat (r.1.getD b 0).toNat (by omega) (by omega) (by show (cls.getD _ 0).toNat = (cls.getD _ 0).toNat; rw [h9.1, h10.1, hab])
    omega
  intro a b ha hb' hab
  have hal := h1 a b ha hb' hab
  refine ⟨hal.2.1, fun k hk => ?_⟩
  have hs := hal.2.2 k hk
  have ra := ho.row a (by rw [ho.len]; exact ha)
  have rb := ho.row b (by rw [ho.len]; exact hb')
  have ia := ra.2 _ (getD_mem (by rw [ra.1]; exact hk) 0)
  have ib := rb.2 _ (getD_mem (by rw [rb.1]; exact hk) 0)
  generalize (g.next.getD a []).getD k 0 = x at hs ia ⊢
  generalize (g.next.getD b []).getD k 0 = y at hs ib ⊢
  unfold stepSame at hs ⊢
  split
  · rename_i hc'
    rw [if_pos hc'] at hs
    exact hs
  · rename_i hc'
    rw [if_neg hc'] at hs
    simp at hc' hs ⊢
    exact hsame x.toNat y.toNat (by omega) (by omega) (by simpa using hs)
end Go.Proofs.Ytcckhngbdoiikaa

namespace Go.Proofs.Ytcckhngbdoiikaa
set_option linter.unusedVariables false

theorem mergeLoop_stable {g : Graph} {K : Nat} (ho : GOk g K) (hpos : 0 < g.rule.length) : ∀ (f : Nat) (cls : List Int) (count : Nat), g.rule.length + 1 ≤ f + count → count ≤ g.rule.length → count ≤ (refineAt g cls g.rule.length).2 →
    (count = 0 ∨ ((∀ a, a < g.rule.length → 0 ≤ cls.getD a 0 ∧ cls.getD a 0 < (count : Int)) ∧ ∀ c : Nat, c < count → ∃ a, a < g.rule.length ∧ cls.getD a 0 = (c : Int))) → Stable g K (mergeLoop g f cls count)
  | 0, cls, count, h1, h2, _, _ => by omega
  | f + 1, cls, count, h1, h2, h3, h4 => by
    have hbd := refineAt_bd g cls g.rule.length
    have hlen := refineAt_len g cls g.rule.length
    have hsp := refineAt_spec ho cls g.rule.length (Nat.le_refl _)
    have hmo := refineAt_mono g cls g.rule.length g.rule.length (Nat.le_refl _)
    have hr : ∀ a, a < g.rule.length → 0 ≤ (refineAt g cls g.rule.length).1.getD a 0 ∧ (refineAt g cls g.rule.length).1.getD a 0 < ((refineAt g cls g.rule.length).2 : Int) := fun a ha => hbd.1 _ (getD_mem (by omega) 0)
    unfold mergeLoop
    split
    · rename_i hc
      rcases h4 with h4 | ⟨h4, h5⟩
      · have := hr 0 hpos
        omega
      · exact refine_stable ho cls count h4 h5 hc
    · rename_i hc
      exact mergeLoop_stable ho hpos f _ _ (by omega) hbd.2 hmo (.inr ⟨hr, hsp.2⟩)
theorem mergeF_stable {g : Graph} {K : Nat} (ho : GOk g K) (hpos : 0 < g.rule.length) : Stable g K (mergeF g) :=
  mergeLoop_stable ho hpos _ _ 0 (by omega) (by omega) (by omega) (.inl rfl)
theorem mergeLoop_len (g : Graph) : ∀ (f : Nat) (cls : List Int) (count : Nat), cls.length = g.rule.length → (mergeLoop g f cls count).length = g.rule.length
  | 0, cls, _, h => h
  | f + 1, cls, count, h => by
    unfold mergeLoop
    split
    · exact refineAt_len _ _ _
    · exact mergeLoop_len g f _ _ (refineAt_len _ _ _)
theorem mergeF_len (g : Graph) : (mergeF g).length = g.rule.length := mergeLoop_len g _ _ _ (by simp)

/-- What holds of the nodes that were found, and of the numbers of their classes. -/
structure VInv (N : Nat) (cls : List Int) (st : List Int × List Int) : Prop where
  ok : VOk N st
  pos : 0 < st.1.length ∧ st.1.getD 0 0 = 0
  num : ∀ j, j < st.1.length → st.2.getD (cls.getD (st.1.getD j 0).toNat 0).toNat 0 = (j : Int)
  cls : ∀ c : Nat, c < N → st.2.getD c 0 = -1 ∨ (0 ≤ st.2.getD c 0 ∧ st.2.getD c 0 < (st.1.length : Int) ∧ cls.getD (st.1.getD (st.2.getD c 0).toNat 0).toNat 0 = (c : Int))
/-- What was found stays. -/
def VExt (st st' : List Int × List Int) : Prop := st.1 <+: st'.1 ∧ ∀ c : Nat, st.2.getD c 0 ≠ -1 → st'.2.getD c 0 = st.2.getD c 0
theorem VExt.refl (st : List Int × List Int) : VExt st st := ⟨List.prefix_refl _, fun _ _ => rfl⟩
theorem VExt.trans {a b c : List Int × List Int} (h : VExt a b) (g : VExt b c) : VExt a c := ⟨h.1.trans g.1, fun x hx => by rw [g.2 x (by rw [h.2 x hx]; exact hx), h.2 x hx]⟩
theorem prefix_getI {l m : List Int} (h : l <+: m) {k : Nat} (hk : k < l.length) : m.getD k 0 = l.getD k 0 := by
  obtain ⟨r, rfl⟩ := h
  rw [List.getD_eq_getElem?_getD, List.getElem?_append_left hk, ← List.getD_eq_getElem?_getD]
theorem getD_set (l : List Int) (k i : Nat) (x : Int) (hk : k < l.length) : (l.set k x).getD i 0 = if i = k then x else l.getD i 0 := by
  rw [List.getD_eq_getElem?_getD, List.getElem?_set]
  by_cases h : k = i
  · subst h; simp [hk]
  · rw [if_neg h, if_neg (fun e => h e.symm), List.getD_eq_getElem?_getD]
theorem visitStep_inv {N : Nat} {cls : List Int} (hcl : cls.length = N) (hc : ∀ x ∈ cls, 0 ≤ x ∧ x < (N : Int)) {st : List Int × List Int} (h : VInv N cls st) {tt : Int} (ht : tt = -1 ∨ (0 ≤ tt ∧ tt < (N : Int))) :
    VInv N cls (visitStep cls st tt) ∧ VExt st (visitStep cls st tt) ∧ (tt ≠ -1 → (visitStep cls st tt).2.getD (cls.getD tt.toNat 0).toNat 0 ≠ -1) := by
  have hok := visitStep_ok hcl hc h.ok ht
  unfold visitStep at hok ⊢
  split at hok
  · rename_i hcd
    rw [if_pos hcd]
    simp only [Bool.and_eq_true, bne_iff_ne, ne_eq, beq_iff_eq] at hcd
    obtain ⟨h1, h2⟩ := hcd
    have ht' : 0 ≤ tt ∧ tt < (N : Int) := by rcases ht with e | e; exact absurd e h1; exact e
    have hx := hc _ (getD_mem (l := cls) (k := tt.toNat) (by omega) 0)
    generalize hcc : cls.getD tt.toNat 0 = c at h2 hok hx ⊢
    have hlen := h.ok.len
    have hck : c.toNat < st.2.length := by omega
    have hpre : st.1 <+: st.1 ++ [tt] := List.prefix_append _ _
    refine ⟨⟨hok, ⟨by simp, ?_⟩, fun j hj => ?_, fun d hd => ?_⟩, ⟨hpre, fun d hd => ?_⟩, fun _ => ?_⟩
    · rw [prefix_getI hpre h.pos.1]; exact h.pos.2
    · simp only at hj ⊢
      rw [getD_set _ _ _ _ hck]
      simp only [List.length_append, List.length_cons, List.length_nil] at hj
      by_cases hj' : j < st.1.length
      · rw [prefix_getI hpre hj']
        have h3 := h.num j hj'
        rw [if_neg (fun e => by rw [e] at h3; omega)]
        exact h3
      · have : j = st.1.length := by omega
        subst this
        have e9 : (st.1 ++ [tt]).getD st.1.length 0 = tt := by simp
        rw [e9, hcc, if_pos rfl]
    · simp only
      rw [getD_set _ _ _ _ hck]
      simp only [List.length_append, List.length_cons, List.length_nil]
      split
      · rename_i e
        right
        refine ⟨by omega, by omega, ?_⟩
        rw [Int.toNat_natCast, getD_snoc, if_neg (by omega), if_pos rfl, hcc]
        omega
      · rcases h.cls d hd with e | ⟨e1, e2, e3⟩
        · exact .inl e
        · exact .inr ⟨e1, by omega, by rw [prefix_getI hpre (by omega)]; exact e3⟩
    · simp only
      rw [getD_set _ _ _ _ hck, if_neg (fun e => by rw [e] at hd; exact hd h2)]
    · simp only
      rw [getD_set _ _ _ _ hck, if_pos rfl]
      omega
  · rename_i hcd
    rw [if_neg hcd]
    refine ⟨h, VExt.refl _, fun hne he => hcd ?_⟩
    simp only [Bool.and_eq_true, bne_iff_ne, ne_eq, beq_iff_eq]
    exact ⟨hne, he⟩
theorem visitRow_inv {N : Nat} {cls : List Int} (hcl : cls.length = N) (hc : ∀ x ∈ cls, 0 ≤ x ∧ x < (N : Int)) : ∀ (row : List Int) (st : List Int × List Int), VInv N cls st → RowOk N row →
    VInv N cls (visitRow cls row st) ∧ VExt st (visitRow cls row st) ∧ ∀ tt ∈ row, tt ≠ -1 → (visitRow cls row st).2.getD (cls.getD tt.toNat 0).toNat 0 ≠ -1
  | [], st, h, _ => ⟨h, VExt.refl _, fun tt hx => by simp at hx⟩
  | x :: r, st, h, hr => by
    have e : visitRow cls (x :: r) st = visitRow cls r (visitStep cls st x) := rfl
    rw [e]
    obtain ⟨s1, s2, s3⟩ := visitStep_inv hcl hc h (hr x (by simp))
    obtain ⟨r1, r2, r3⟩ := visitRow_inv hcl hc r _ s1 (fun y hy => hr y (by simp [hy]))
    refine ⟨r1, s2.trans r2, fun tt htt hne => ?_⟩
    rw [List.mem_cons] at htt
    rcases htt with e' | e'
    · subst e'
      rw [r2.2 _ (s3 hne)]
      exact s3 hne
    · exact r3 tt e' hne
theorem visitLoop_inv {g : Graph} {K : Nat} (ho : GOk g K) {cls : List Int} (hcl : cls.length = g.rule.length) (hc : ∀ x ∈ cls, 0 ≤ x ∧ x < (g.rule.length : Int)) : ∀ (f i : Nat) (st : List Int × List Int), f + i = g.rule.length + 1 → i ≤ st.1.length → VInv g.rule.length cls st →
    (∀ j, j < i → ∀ tt ∈ g.next.getD (st.1.getD j 0).toNat [], tt ≠ -1 → st.2.getD (cls.getD tt.toNat 0).toNat 0 ≠ -1) →
    VInv g.rule.length cls (visitLoop g cls f i st) ∧ ∀ j, j < (visitLoop g cls f i st).1.length → ∀ tt ∈ g.next.getD ((visitLoop g cls f i st).1.getD j 0).toNat [], tt ≠ -1 → (visitLoop g cls f i st).2.getD (cls.getD tt.toNat 0).toNat 0 ≠ -1
  | 0, i, st, hf, hi, h, _ => by have := h.ok.sum; omega
  | f + 1, i, st, hf, hi, h, hd => by
    unfold visitLoop
    split
    · rename_i hlt
      have hin := h.ok.ok _ (getD_mem (l := st.1) hlt 0)
      have hrow := (ho.row (st.1.getD i 0).toNat (by rw [ho.len]; omega)).2
      obtain ⟨r1, r2, r3⟩ := visitRow_inv hcl hc _ st h hrow
      refine visitLoop_inv ho hcl hc f (i + 1) _ (by omega) (by have := r2.1.length_le; omega) r1 (fun j hj tt htt hne => ?_)
      rw [prefix_getI r2.1 (by omega)] at htt
      by_cases hj' : j < i
      · have := hd j hj' tt htt hne
        rw [r2.2 _ this]
        exact this
      · have : j = i := by omega
        subst this
        exact r3 tt htt hne
    · rename_i hlt
      exact ⟨h, fun j hj => hd j (by omega)⟩
theorem visitF_inv {g : Graph} {K : Nat} (ho : GOk g K) (hpos : 0 < g.rule.length) {cls : List Int} (hcl : cls.length = g.rule.length) (hc : ∀ x ∈ cls, 0 ≤ x ∧ x < (g.rule.length : Int)) :
    VInv g.rule.length cls (visitF g cls) ∧ ∀ j, j < (visitF g cls).1.length → ∀ tt ∈ g.next.getD ((visitF g cls).1.getD j 0).toNat [], tt ≠ -1 → (visitF g cls).2.getD (cls.getD tt.toNat 0).toNat 0 ≠ -1 := by
  have hx := hc _ (getD_mem (l := cls) (k := 0) (by omega) 0)
  have hck : (cls.getD 0 0).toNat < (List.replicate cls.length (-1 : Int)).length := by rw [List.length_replicate]; omega
  have hrep : ∀ d, d < cls.length → (List.replicate cls.length (-1 : Int)).getD d 0 = -1 := fun d hd => by simp [hd]
  refine visitLoop_inv ho hcl hc _ 0 _ (by omega) (by simp) ⟨⟨?_, by simp [hcl], fun x hx => by simp at hx; omega⟩, ⟨by simp, rfl⟩, fun j hj => ?_, fun d hd => ?_⟩ (fun j hj => by omega)
  · have h1 := neg1_set (List.replicate cls.length (-1 : Int)) (cls.getD 0 0).toNat 0 hck (by rw [hrep _ (by omega)]) (by omega)
    have h2 : neg1 (List.replicate cls.length (-1 : Int)) = cls.length := by simp [neg1]
    simp only [List.length_cons, List.length_nil]
    omega
  · simp only [List.length_cons, List.length_nil] at hj
    have : j = 0 := by omega
    subst this
    simp only [List.getD_cons_zero, Int.toNat_zero]
    rw [getD_set _ _ _ _ hck, if_pos rfl]; rfl
  · simp only
    rw [getD_set _ _ _ _ hck]
    split
    · rename_i e
      right
      refine ⟨by omega, by simp, ?_⟩
      simp only [Int.toNat_zero, List.getD_cons_zero]
      omega
    · exact .inl (hrep d (by omega))

/-- A state of the numbered graph stands for a node: they are of one class. -/
theorem number_step {g : Graph} {K : Nat} (ho : GOk g K) (hpos : 0 < g.rule.length) {cls : List Int} (hcl : cls.length = g.rule.length) (hc : ∀ x ∈ cls, 0 ≤ x ∧ x < (g.rule.length : Int)) (hst : Stable g K cls)
    {j a : Nat} (hj : j < (visitF g cls).1.length) (ha : a < g.rule.length) (he : cls.getD ((visitF g cls).1.getD j 0).toNat 0 = cls.getD a 0) {k : Nat} (hk : k < K) :
    (stepK (numberF g cls) (j : Int) k = -1 ∧ stepK g (a : Int) k = -1) ∨ ∃ j' a' : Nat, stepK (numberF g cls) (j : Int) k = (j' : Int) ∧ stepK g (a : Int) k = (a' : Int) ∧ j' < (visitF g cls).1.length ∧ a' < g.rule.length ∧ cls.getD ((visitF g cls).1.getD j' 0).toNat 0 = cls.getD a' 0 := by
  obtain ⟨hv, hd⟩ := visitF_inv ho hpos hcl hc
  have hF := hv.ok.ok _ (getD_mem (l := (visitF g cls).1) hj 0)
  have hdj := hd j hj
  have e1 : (numberF g cls).next.getD j [] = numberRow cls (visitF g cls).2 (g.next.getD ((visitF g cls).1.getD j 0).toNat []) := by simp [numberF, hj]
  generalize hb : ((visitF g cls).1.getD j 0).toNat = b at *
  have hb' : b < g.rule.length := by omega
  have rb := ho.row b (by rw [ho.len]; exact hb')
  have hs := (hst b a hb' ha he).2 k hk
  have ib := stepK_in ho (s := (b : Int)) (by omega) (by omega) hk
  have ia := stepK_in ho (s := (a : Int)) (by omega) (by omega) hk
  have eb : stepK g (b : Int) k = (g.next.getD b []).getD k 0 := by unfold stepK; rw [if_neg (by omega), Int.toNat_natCast]
  have ea : stepK g (a : Int) k = (g.next.getD a []).getD k 0 := by unfold stepK; rw [if_neg (by omega), Int.toNat_natCast]
  rw [← eb, ← ea] at hs
  have hmem : stepK g (b : Int) k ∈ g.next.getD b [] := by rw [eb]; exact getD_mem (by rw [rb.1]; exact hk) 0
  have en : stepK (numberF g cls) (j : Int) k = if stepK g (b : Int) k != -1 then (visitF g cls).2.getD (cls.getD (stepK g (b : Int) k).toNat 0).toNat 0 else -1 := by
    have hneg : ¬ ((j : Int) < 0) := by omega
    have ej : stepK (numberF g cls) (j : Int) k = ((numberF g cls).next.getD j []).getD k 0 := by simp only [stepK, if_neg hneg, Int.toNat_natCast]
    rw [ej, e1, eb]
    have hkl : k < (g.next.getD b []).length := by rw [rb.1]; exact hk
    unfold numberRow
    rw [getD_map _ _ _ hkl]
  rw [en]
  unfold stepSame at hs
  rcases ib with e | e
  · rw [e] at hs ⊢
    simp at hs
    left
    exact ⟨by simp, hs.symm⟩
  · have hne : stepK g (b : Int) k ≠ -1 := by omega
    have hne2 : stepK g (a : Int) k ≠ -1 := by
      intro e2
      rw [e2] at hs
      simp at hs
      exact hne hs
    simp [hne, hne2] at hs
    right
    have hd' := hdj _ hmem hne
    generalize stepK g (b : Int) k = x at *
    have ia' : 0 ≤ stepK g (a : Int) k ∧ stepK g (a : Int) k < (g.rule.length : Int) := by rcases ia with e2 | e2; exact absurd e2 hne2; exact e2
    generalize stepK g (a : Int) k = y at *
    have hx := hc _ (getD_mem (l := cls) (k := x.toNat) (by omega) 0)
    rcases hv.cls (cls.getD x.toNat 0).toNat (by omega) with e3 | ⟨e3, e4, e5⟩
    · exact absurd e3 hd'
    · rw [if_pos (by simpa using hne)]
      generalize (visitF g cls).2.getD (cls.getD x.toNat 0).toNat 0 = m at *
      refine ⟨m.toNat, y.toNat, by omega, by omega, by omega, by omega, ?_⟩
      rw [e5]
      have hs' : cls.getD x.toNat 0 = cls.getD y.toNat 0 := by simpa using hs
      rw [← hs']
      omega
end Go.Proofs.Ytcckhngbdoiikaa
