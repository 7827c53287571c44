import Derived.Test.YtcckhngbdoiikaaS01
import Derived.Test.YtcckhngbdoiikaaM52

namespace Go.Proofs.Ytcckhngbdoiikaa
set_option linter.unusedVariables false

/-- ordered, along a row: how many are known then; none: one is too great. -/
def scanL : List Int → Nat → Option Nat
  | [], k => some k
  | x :: r, k => if (k : Int) < x then none else scanL r (if x = (k : Int) then k + 1 else k)
theorem scanL_app : ∀ (l m : List Int) (k : Nat), scanL (l ++ m) k = (scanL l k).bind (scanL m)
  | [], m, k => rfl
  | x :: l, m, k => by
    show (if (k : Int) < x then none else scanL (l ++ m) _) = (if (k : Int) < x then none else scanL l _).bind (scanL m)
    split
    · rfl
    · exact scanL_app l m _
theorem scanL_le : ∀ (l : List Int) (k k' : Nat), scanL l k = some k' → k ≤ k'
  | [], k, k', h => by cases h; exact Nat.le_refl _
  | x :: l, k, k', h => by
    unfold scanL at h
    split at h
    · cases h
    · have := scanL_le l _ _ h
      split at this <;> omega
theorem scanL_mem : ∀ (l : List Int) (k k' : Nat), scanL l k = some k' → ∀ x ∈ l, x < (k' : Int)
  | [], k, k', h, x, hx => by simp at hx
  | y :: l, k, k', h, x, hx => by
    unfold scanL at h
    split at h
    · cases h
    · have h1 := scanL_le l _ _ h
      rw [List.mem_cons] at hx
      rcases hx with rfl | hx
      · split at h1 <;> omega
      · exact scanL_mem l _ _ h x hx
theorem visitRow_scan {N : Nat} {cls : List Int} (hcl : cls.length = N) (hc : ∀ x ∈ cls, 0 ≤ x ∧ x < (N : Int)) : ∀ (row : List Int) (st fin : List Int × List Int), VInv N cls st → RowOk N row → VExt (visitRow cls row st) fin →
    scanL (numberRow cls fin.2 row) st.1.length = some (visitRow cls row st).1.length
  | [], st, fin, _, _, _ => rfl
  | x :: r, st, fin, h, hr, hx => by
    have e : visitRow cls (x :: r) st = visitRow cls r (visitStep cls st x) := rfl
    rw [e] at hx ⊢
    have hxr := hr x (by simp)
    obtain ⟨s1, s2, s3⟩ := visitStep_inv hcl hc h hxr
    obtain ⟨r1, r2, r3⟩ := visitRow_inv hcl hc r _ s1 (fun y hy => hr y (by simp [hy]))
    have ih := visitRow_scan hcl hc r (visitStep cls st x) fin s1 (fun y hy => hr y (by simp [hy])) hx
    have e2 : numberRow cls fin.2 (x :: r) = (if x != -1 then fin.2.getD (cls.getD x.toNat 0).toNat 0 else -1) :: numberRow cls fin.2 r := rfl
    rw [e2]
    unfold scanL
    by_cases hm : x = -1
    · have e3 : visitStep cls st x = st := by unfold visitStep; rw [if_neg (by simp [hm])]
      have e4 : (if (x != -1) = true then fin.2.getD (cls.getD x.toNat 0).toNat 0 else -1) = -1 := by rw [if_neg (by simp [hm])]
      rw [e4, if_neg (by omega), if_neg (by omega)]
      rw [e3] at ih ⊢
      exact ih
    · have e4 : (if (x != -1) = true then fin.2.getD (cls.getD x.toNat 0).toNat 0 else -1) = fin.2.getD (cls.getD x.toNat 0).toNat 0 := by rw [if_pos (by simp [hm])]
      have hcc := hc _ (getD_mem (l := cls) (k := x.toNat) (by omega) 0)
      have hfin : fin.2.getD (cls.getD x.toNat 0).toNat 0 = (visitStep cls st x).2.getD (cls.getD x.toNat 0).toNat 0 := by
        have h5 := s3 hm
        rw [hx.2 _ (by rw [r2.2 _ h5]; exact h5), r2.2 _ h5]
      rw [e4, hfin]
      by_cases hn : st.2.getD (cls.getD x.toNat 0).toNat 0 = -1
      · have hcd : (x != -1 && st.2.getD (cls.getD x.toNat 0).toNat 0 == -1) = true := by simp only [Bool.and_eq_true, bne_iff_ne, ne_eq, beq_iff_eq]; exact ⟨hm, hn⟩
        have e5 : visitStep cls st x = (st.1 ++ [x], st.2.set (cls.getD x.toNat 0).toNat (st.1.length : Int)) := by unfold visitStep; rw [if_pos hcd]
        have hl := h.ok.len
        have e6 : (visitStep cls st x).2.getD (cls.getD x.toNat 0).toNat 0 = (st.1.length : Int) := by
          rw [e5]
          show (st.2.set _ _).getD _ 0 = _
          rw [getD_set _ _ _ _ (by omega), if_pos rfl]
        have e7 : (visitStep cls st x).1.length = st.1.length + 1 := by rw [e5]; simp
        rw [e6, if_neg (by omega), if_pos rfl, ← e7]
        exact ih
      · have hcd : ¬ (x != -1 && st.2.getD (cls.getD x.toNat 0).toNat 0 == -1) = true := by simp only [Bool.and_eq_true, bne_iff_ne, ne_eq, beq_iff_eq]; exact fun e => hn e.2
        have e5 : visitStep cls st x = st := by unfold visitStep; rw [if_neg hcd]
        rw [e5] at ih ⊢
        rcases h.cls (cls.getD x.toNat 0).toNat (by omega) with e | ⟨e, e', _⟩
        · exact absurd e hn
        · rw [if_neg (by omega), if_neg (by omega)]
          exact ih
/-- ordered, over rows from the number s on. -/
def scanRows : List (List Int) → Nat → Nat → Option Nat
  | [], s, k => some k
  | r :: rs, s, k => if k ≤ s then none else (scanL r k).bind (fun k' => scanRows rs (s + 1) k')
theorem visitLoop_ext {g : Graph} {K : Nat} (ho : GOk g K) {cls : List Int} (hcl : cls.length = g.rule.length) (hc : ∀ x ∈ cls, 0 ≤ x ∧ x < (g.rule.length : Int)) : ∀ (f i : Nat) (st : List Int × List Int), VInv g.rule.length cls st → VExt st (visitLoop g cls f i st)
  | 0, i, st, _ => VExt.refl _
  | f + 1, i, st, h => by
    unfold visitLoop
    split
    · rename_i hlt
      have hin := h.ok.ok _ (getD_mem (l := st.1) hlt 0)
      have hrow := (ho.row (st.1.getD i 0).toNat (by rw [ho.len]; omega)).2
      obtain ⟨r1, r2, r3⟩ := visitRow_inv hcl hc _ st h hrow
      exact r2.trans (visitLoop_ext ho hcl hc f (i + 1) _ r1)
    · exact VExt.refl _
theorem visitLoop_scan {g : Graph} {K : Nat} (ho : GOk g K) {cls : List Int} (hcl : cls.length = g.rule.length) (hc : ∀ x ∈ cls, 0 ≤ x ∧ x < (g.rule.length : Int)) : ∀ (f i : Nat) (st fin : List Int × List Int), f + i = g.rule.length + 1 → i ≤ st.1.length → VInv g.rule.length cls st → visitLoop g cls f i st = fin →
    scanRows ((fin.1.drop i).map (fun n => numberRow cls fin.2 (g.next.getD n.toNat []))) i st.1.length = some fin.1.length
  | 0, i, st, fin, hf, hi, h, _ => by have := h.ok.sum; omega
  | f + 1, i, st, fin, hf, hi, h, hfin => by
    have hext := visitLoop_ext ho hcl hc (f + 1) i st h
    rw [hfin] at hext
    unfold visitLoop at hfin
    by_cases hlt : i < st.1.length
    · rw [if_pos hlt] at hfin
      have hin := h.ok.ok _ (getD_mem (l := st.1) hlt 0)
      have hrow := (ho.row (st.1.getD i 0).toNat (by rw [ho.len]; omega)).2
      obtain ⟨r1, r2, r3⟩ := visitRow_inv hcl hc _ st h hrow
      have hle := r2.1.length_le
      have ih := visitLoop_scan ho hcl hc f (i + 1) _ fin (by omega) (by omega) r1 hfin
      have hext2 := visitLoop_ext ho hcl hc f (i + 1) _ r1
      rw [hfin] at hext2
      have hfl : i < fin.1.length := by have := hext.1.length_le; omega
      have hget : fin.1[i] = st.1.getD i 0 := by
        have := prefix_getI hext.1 hlt
        rw [← this]
        simp [hfl]
      rw [List.drop_eq_getElem_cons hfl, List.map_cons, hget]
      unfold scanRows
      rw [if_neg (by omega), visitRow_scan hcl hc _ st fin h hrow hext2]
      exact ih
    · rw [if_neg hlt] at hfin
      subst hfin
      rw [List.drop_eq_nil_of_le (by omega)]
      rfl
theorem visit_start {g : Graph} {K : Nat} (ho : GOk g K) (hpos : 0 < g.rule.length) {cls : List Int} (hcl : cls.length = g.rule.length) (hc : ∀ x ∈ cls, 0 ≤ x ∧ x < (g.rule.length : Int)) : VInv g.rule.length cls ([0], (List.replicate cls.length (-1 : Int)).set (cls.getD 0 0).toNat 0) := by
  have hx := hc _ (getD_mem (l := cls) (k := 0) (by omega) 0)
  have hck : (cls.getD 0 0).toNat < (List.replicate cls.length (-1 : Int)).length := by rw [List.length_replicate]; omega
  have hrep : ∀ d, d < cls.length → (List.replicate cls.length (-1 : Int)).getD d 0 = -1 := fun d hd => by simp [hd]
  refine ⟨⟨?_, by simp [hcl], fun x hx => by simp at hx; omega⟩, ⟨by simp, rfl⟩, fun j hj => ?_, fun d hd => ?_⟩
  · have h1 := neg1_set (List.replicate cls.length (-1 : Int)) (cls.getD 0 0).toNat 0 hck (by rw [hrep _ (by omega)]) (by omega)
    have h2 : neg1 (List.replicate cls.length (-1 : Int)) = cls.length := by simp [neg1]
    simp only [List.length_cons, List.length_nil]
    omega
  · simp only [List.length_cons, List.length_nil] at hj
    have : j = 0 := by omega
    subst this
    simp only [List.getD_cons_zero, Int.toNat_zero]
    rw [getD_set _ _ _ _ hck, if_pos rfl]; rfl
  · simp only
    rw [getD_set _ _ _ _ hck]
    split
    · rename_i e
      right
      refine ⟨by omega, by simp, ?_⟩
      simp only [Int.toNat_zero, List.getD_cons_zero]
      omega
    · exact .inl (hrep d (by omega))
theorem visitF_scan {g : Graph} {K : Nat} (ho : GOk g K) (hpos : 0 < g.rule.length) {cls : List Int} (hcl : cls.length = g.rule.length) (hc : ∀ x ∈ cls, 0 ≤ x ∧ x < (g.rule.length : Int)) :
    scanRows (numberF g cls).next 0 1 = some (numberF g cls).rule.length := by
  have hx := hc _ (getD_mem (l := cls) (k := 0) (by omega) 0)
  have hck : (cls.getD 0 0).toNat < (List.replicate cls.length (-1 : Int)).length := by rw [List.length_replicate]; omega
  have hrep : ∀ d, d < cls.length → (List.replicate cls.length (-1 : Int)).getD d 0 = -1 := fun d hd => by simp [hd]
  have hinv : VInv g.rule.length cls ([0], (List.replicate cls.length (-1 : Int)).set (cls.getD 0 0).toNat 0) := visit_start ho hpos hcl hc
  have h := visitLoop_scan ho hcl hc (cls.length + 1) 0 ([0], (List.replicate cls.length (-1 : Int)).set (cls.getD 0 0).toNat 0) (visitF g cls) (by omega) (by simp) hinv rfl
  rw [List.drop_zero] at h
  have e1 : (numberF g cls).rule.length = (visitF g cls).1.length := by simp [numberF]
  rw [e1]
  exact h
theorem kindsAt_succ (al : Nat → PSet) (n : Nat) : kindsAt al (n + 1) = if idxF (kindsAt al n) (al n) = (kindsAt al n).length then kindsAt al n ++ [al n] else kindsAt al n := rfl
/-- By bytes as by kinds: kinds are numbered by their first bytes. -/
theorem scan_bytes (al : Nat → PSet) (row : List Int) (k k' : Nat) (h : scanL row k = some k') : ∀ n, (kindsAt al n).length ≤ row.length → scanL ((List.range n).map (fun b => row.getD (kindOf al b) 0)) k = scanL (row.take (kindsAt al n).length) k
  | 0, _ => by simp [kindsAt]
  | n + 1, hl => by
    have hm := kindsAt_mono al 1 n
    have ih := scan_bytes al row k k' h n (by omega)
    rw [List.range_succ, List.map_append, scanL_app, ih]
    have hsome : ∀ m, ∃ k1, scanL (row.take m) k = some k1 := fun m => by
      have h9 := h
      rw [← List.take_append_drop m row, scanL_app] at h9
      cases hh : scanL (row.take m) k with
      | none => rw [hh] at h9; cases h9
      | some k1 => exact ⟨k1, rfl⟩
    obtain ⟨k1, hk1⟩ := hsome (kindsAt al n).length
    by_cases hc : kindOf al n < (kindsAt al n).length
    · have e : kindsAt al (n + 1) = kindsAt al n := by
        unfold kindOf at hc
        rw [kindsAt_succ, if_neg (by omega)]
      rw [e, hk1]
      show scanL [row.getD (kindOf al n) 0] k1 = some k1
      have hmem : row.getD (kindOf al n) 0 ∈ row.take (kindsAt al n).length := by
        have h8 : kindOf al n < row.length := by omega
        rw [List.getD_eq_getElem?_getD, List.getElem?_eq_getElem h8]
        rw [List.mem_take_iff_getElem]
        exact ⟨kindOf al n, by omega, rfl⟩
      have := scanL_mem _ _ _ hk1 _ hmem
      unfold scanL
      rw [if_neg (by omega), if_neg (by omega)]
      rfl
    · have hidx : idxF (kindsAt al n) (al n) = (kindsAt al n).length := by
        have h7 := (kindOf_get al n (n + 1) (by omega)).1
        have h6 : (kindsAt al (n + 1)).length ≤ (kindsAt al n).length + 1 := by
          rw [kindsAt_succ]
          split
          · simp
          · omega
        unfold kindOf at hc h7
        omega
      have e : (kindsAt al (n + 1)).length = (kindsAt al n).length + 1 := by
        have h7 := (kindOf_get al n (n + 1) (by omega)).1
        have h6 : (kindsAt al (n + 1)).length ≤ (kindsAt al n).length + 1 := by
          rw [kindsAt_succ]
          split
          · simp
          · omega
        omega
      have e2 : kindOf al n = (kindsAt al n).length := hidx
      rw [e]
      simp only [List.map_cons, List.map_nil]
      rw [e2]
      have h8 : (kindsAt al n).length < row.length := by omega
      rw [List.take_succ_eq_append_getElem h8, scanL_app]
      have e3 : row.getD (kindsAt al n).length 0 = row[(kindsAt al n).length] := by simp [h8]
      rw [e3]
theorem scanRows_bytes (al : Nat → PSet) : ∀ (rows : List (List Int)) (s k k' : Nat), (∀ r ∈ rows, r.length = (kindsAt al 256).length) → scanRows rows s k = some k' → scanRows (rows.map (fun row => (List.range 256).map (fun b => row.getD (kindOf al b) 0))) s k = some k'
  | [], s, k, k', _, h => h
  | r :: rs, s, k, k', hl, h => by
    rw [List.map_cons]
    unfold scanRows at h ⊢
    split at h
    · cases h
    · rename_i hks
      rw [if_neg hks]
      cases hh : scanL r k with
      | none => rw [hh] at h; cases h
      | some k1 =>
        rw [hh] at h
        have hr := hl r (by simp)
        have h1 := scan_bytes al r k k1 hh 256 (by omega)
        rw [List.take_of_length_le (by omega), hh] at h1
        rw [h1]
        exact scanRows_bytes al rs (s + 1) k1 k' (fun x hx => hl x (by simp [hx])) h
/-- The lexer's states, as they are told. -/
theorem build_order {R : RulesT} {kd : Nat → Nat} {g : Graph} (h : buildF R = some (kd, g)) : scanRows (toldTo kd g g.rule.length).next 0 1 = some g.rule.length := by
  have hG := build_lexG h
  have hrow := fun i (hi : i < g.rule.length) => build_row h hi
  have hb := h
  obtain ⟨g0, hg, hkd, rfl⟩ := buildF_some h
  obtain ⟨ho, hp, hn⟩ := exploreF_ok hg
  have ho' := pruneF_ok ho
  have hp' : 0 < (pruneF g0).rule.length := hp
  have hs := visitF_scan ho' hp' (mergeF_len _) (mergeF_bd _ hp')
  generalize numberF (pruneF g0) (mergeF (pruneF g0)) = G at *
  have hlen := hG.len
  have h2 := scanRows_bytes R.allow G.next 0 1 _ (fun r hr => by
    obtain ⟨i, hi, rfl⟩ := List.getElem_of_mem hr
    have := hrow i (by omega)
    rw [List.getD_eq_getElem?_getD, List.getElem?_eq_getElem hi] at this
    exact this) hs
  have e : (toldTo kd G G.rule.length).next = G.next.map (fun row => (List.range 256).map (fun b => row.getD (kindOf R.allow b) 0)) := by
    unfold toldTo rowB
    simp only
    apply List.ext_getElem
    · simp; omega
    · intro i h1 h3
      simp only [List.length_map, List.length_range] at h1
      simp only [List.getElem_map, List.getElem_range]
      apply List.map_congr_left
      intro b hb'
      have hb2 := List.mem_range.1 hb'
      unfold nextF
      rw [if_neg (by omega), hkd]
      have : G.next.getD ((i : Int).toNat) [] = G.next[i]'(by omega) := by
        rw [Int.toNat_natCast, List.getD_eq_getElem?_getD, List.getElem?_eq_getElem (by omega)]; rfl
      rw [this, Int.toNat_natCast]
  rw [e]
  exact h2
end Go.Proofs.Ytcckhngbdoiikaa

namespace Go.Proofs.Ytcckhngbdoiikaa
set_option linter.unusedVariables false

/-- Told apart, within so many bytes. -/
def MoreT (kd : Nat → Nat) (g : Graph) : Nat → Nat → Nat → Prop
  | 0, i, j => False
  | k + 1, i, j => MoreT kd g k i j ∨ ruleOfF g (i : Int) ≠ ruleOfF g (j : Int) ∨ ∃ b : Nat, b < 256 ∧ ((nextF kd g (i : Int) (b : Int) = -1 ∧ nextF kd g (j : Int) (b : Int) ≠ -1) ∨ (nextF kd g (i : Int) (b : Int) ≠ -1 ∧ nextF kd g (j : Int) (b : Int) = -1) ∨ (nextF kd g (i : Int) (b : Int) ≠ -1 ∧ nextF kd g (j : Int) (b : Int) ≠ -1 ∧ MoreT kd g k (nextF kd g (i : Int) (b : Int)).toNat (nextF kd g (j : Int) (b : Int)).toNat))
theorem more_refl {kd : Nat → Nat} {g : Graph} : ∀ (k i : Nat), ¬ MoreT kd g k i i
  | 0, i, h => h
  | k + 1, i, h => by
    rcases h with h | h | ⟨b, _, ⟨h1, h2⟩ | ⟨h1, h2⟩ | ⟨_, _, h⟩⟩
    · exact more_refl k i h
    · exact h rfl
    · exact h2 h1
    · exact h1 h2
    · exact more_refl k _ h
theorem more_symm {kd : Nat → Nat} {g : Graph} : ∀ (k i j : Nat), MoreT kd g k i j → MoreT kd g k j i
  | 0, i, j, h => h
  | k + 1, i, j, h => by
    rcases h with h | h | ⟨b, hb, ⟨h1, h2⟩ | ⟨h1, h2⟩ | ⟨h1, h2, h⟩⟩
    · exact .inl (more_symm k i j h)
    · exact .inr (.inl (fun e => h e.symm))
    · exact .inr (.inr ⟨b, hb, .inr (.inl ⟨h2, h1⟩)⟩)
    · exact .inr (.inr ⟨b, hb, .inl ⟨h2, h1⟩⟩)
    · exact .inr (.inr ⟨b, hb, .inr (.inr ⟨h2, h1, more_symm k _ _ h⟩)⟩)
theorem more_part {kd : Nat → Nat} {g : Graph} : ∀ (k i j l : Nat), MoreT kd g k i j → MoreT kd g k i l ∨ MoreT kd g k l j
  | 0, i, j, l, h => h.elim
  | k + 1, i, j, l, h => by
    rcases h with h | h | ⟨b, hb, h⟩
    · rcases more_part k i j l h with e | e
      · exact .inl (.inl e)
      · exact .inr (.inl e)
    · by_cases e : ruleOfF g (i : Int) = ruleOfF g (l : Int)
      · exact .inr (.inr (.inl (fun e' => h (e.trans e'))))
      · exact .inl (.inr (.inl e))
    · by_cases hl : nextF kd g (l : Int) (b : Int) = -1
      · rcases h with ⟨h1, h2⟩ | ⟨h1, h2⟩ | ⟨h1, h2, h3⟩
        · exact .inr (.inr (.inr ⟨b, hb, .inl ⟨hl, h2⟩⟩))
        · exact .inl (.inr (.inr ⟨b, hb, .inr (.inl ⟨h1, hl⟩)⟩))
        · exact .inl (.inr (.inr ⟨b, hb, .inr (.inl ⟨h1, hl⟩)⟩))
      · rcases h with ⟨h1, h2⟩ | ⟨h1, h2⟩ | ⟨h1, h2, h3⟩
        · exact .inl (.inr (.inr ⟨b, hb, .inl ⟨h1, hl⟩⟩))
        · exact .inr (.inr (.inr ⟨b, hb, .inr (.inl ⟨hl, h2⟩)⟩))
        · rcases more_part k _ _ (nextF kd g (l : Int) (b : Int)).toNat h3 with e | e
          · exact .inl (.inr (.inr ⟨b, hb, .inr (.inr ⟨h1, hl, e⟩)⟩))
          · exact .inr (.inr (.inr ⟨b, hb, .inr (.inr ⟨hl, h2, e⟩)⟩))
theorem more_mono {kd : Nat → Nat} {g : Graph} {k i j : Nat} (h : MoreT kd g k i j) : ∀ d, MoreT kd g (k + d) i j
  | 0 => h
  | d + 1 => .inl (more_mono h d)

/-- Marks that only grow: where they differ, there are more of them. -/
theorem count_lt : ∀ (A B : List Bool), A.length = B.length → (∀ i : Nat, A.getD i false = true → B.getD i false = true) → A ≠ B → A.count true < B.count true
  | [], [], _, _, h => absurd rfl h
  | [], b :: B, hl, _, _ => by simp at hl
  | a :: A, [], hl, _, _ => by simp at hl
  | a :: A, b :: B, hl, h, hne => by
    have hl' : A.length = B.length := by simpa using hl
    have h0 : a = true → b = true := by have := h 0; simpa using this
    have ht : ∀ i : Nat, A.getD i false = true → B.getD i false = true := fun i => by have := h (i + 1); simpa using this
    by_cases e : A = B
    · subst e
      cases a with
      | true =>
        have := h0 rfl
        subst this
        exact absurd rfl hne
      | false =>
        cases b with
        | true => simp
        | false => exact absurd rfl hne
    · have := count_lt A B hl' ht e
      cases a with
      | true =>
        have := h0 rfl
        subst this
        simp
        omega
      | false =>
        cases b with
        | true => simp; omega
        | false => simp; omega
theorem count_le (A : List Bool) : A.count true ≤ A.length := List.count_le_length

section
open Classical
/-- Those that are told from all ahead of them. -/
noncomputable def repL (kd : Nat → Nat) (g : Graph) (n k : Nat) : List Bool := (List.range n).map (fun i => decide (∀ j, j < i → MoreT kd g k i j))
theorem repL_get (kd : Nat → Nat) (g : Graph) (n k i : Nat) (hi : i < n) : (repL kd g n k).getD i false = true ↔ ∀ j, j < i → MoreT kd g k i j := by
  simp [repL, hi]
/-- No more are told apart by one byte more. -/
def StillT (kd : Nat → Nat) (g : Graph) (n k : Nat) : Prop := ∀ i j, i < n → j < n → MoreT kd g (k + 1) i j → MoreT kd g k i j
theorem least_rep {kd : Nat → Nat} {g : Graph} (k : Nat) : ∀ i, ∃ r, r ≤ i ∧ ¬ MoreT kd g k i r ∧ ∀ j, j < r → MoreT kd g k r j := by
  intro i
  have hP : ∀ m, m ≤ i → (∃ r, r ≤ m ∧ ¬ MoreT kd g k i r) → ∃ r, r ≤ m ∧ ¬ MoreT kd g k i r ∧ ∀ j, j < r → MoreT kd g k i j := by
    intro m
    induction m with
    | zero =>
      rintro _ ⟨r, h1, h2⟩
      exact ⟨r, h1, h2, fun j hj => by omega⟩
    | succ m ih =>
      rintro hm ⟨r, h1, h2⟩
      by_cases e : ∃ r, r ≤ m ∧ ¬ MoreT kd g k i r
      · obtain ⟨r', h3, h4, h5⟩ := ih (by omega) e
        exact ⟨r', by omega, h4, h5⟩
      · refine ⟨r, h1, h2, fun j hj => ?_⟩
        refine Classical.byContradiction fun h => e ⟨j, by omega, h⟩
  obtain ⟨r, h1, h2, h3⟩ := hP i (Nat.le_refl _) ⟨i, Nat.le_refl _, more_refl k i⟩
  refine ⟨r, h1, h2, fun j hj => ?_⟩
  rcases more_part k i j r (h3 j hj) with e | e
  · exact absurd e h2
  · exact e
theorem still_of {kd : Nat → Nat} {g : Graph} {n k : Nat} (h : repL kd g n k = repL kd g n (k + 1)) : StillT kd g n k := by
  intro i j hi hj hm
  refine Classical.byContradiction fun hn => ?_
  obtain ⟨r, r1, r2, r3⟩ := least_rep (kd := kd) (g := g) (k + 1) i
  obtain ⟨s, s1, s2, s3⟩ := least_rep (kd := kd) (g := g) (k + 1) j
  have hr : ∀ j', j' < r → MoreT kd g k r j' := (repL_get kd g n k r (by omega)).1 (by rw [h]; exact (repL_get kd g n (k + 1) r (by omega)).2 r3)
  have hs : ∀ j', j' < s → MoreT kd g k s j' := (repL_get kd g n k s (by omega)).1 (by rw [h]; exact (repL_get kd g n (k + 1) s (by omega)).2 s3)
  have nir : ¬ MoreT kd g k i r := fun e => r2 (.inl e)
  have njs : ¬ MoreT kd g k j s := fun e => s2 (.inl e)
  have nrs : ¬ MoreT kd g k r s := fun e => by
    rcases more_part k r s i e with e | e
    · exact nir (more_symm k _ _ e)
    · rcases more_part k i s j e with e | e
      · exact hn e
      · exact njs e
  rcases Nat.lt_trichotomy r s with e | e | e
  · exact nrs (more_symm k _ _ (hs r e))
  · subst e
    rcases more_part (k + 1) i j r hm with e | e
    · exact r2 e
    · exact s2 (more_symm _ _ _ e)
  · exact nrs (hr s e)
theorem still_or {kd : Nat → Nat} {g : Graph} {n : Nat} : ∀ k, k ≤ (repL kd g n k).count true ∨ ∃ m, m < k ∧ StillT kd g n m
  | 0 => .inl (Nat.zero_le _)
  | k + 1 => by
    rcases still_or (kd := kd) (g := g) (n := n) k with h | ⟨m, h1, h2⟩
    · by_cases e : repL kd g n k = repL kd g n (k + 1)
      · exact .inr ⟨k, by omega, still_of e⟩
      · left
        have := count_lt (repL kd g n k) (repL kd g n (k + 1)) (by simp [repL]) (fun i hi => by
          by_cases hin : i < n
          · exact (repL_get kd g n (k + 1) i hin).2 (fun j hj => .inl ((repL_get kd g n k i hin).1 hi j hj))
          · rw [List.getD_eq_getElem?_getD, List.getElem?_eq_none (by simp [repL]; omega)] at hi
            cases hi) e
        omega
    · exact .inr ⟨m, by omega, h2⟩
end
theorem still_on {kd : Nat → Nat} {g : Graph} (hi : StepsIn kd g) {m : Nat} (h : StillT kd g g.rule.length m) : ∀ d i j, i < g.rule.length → j < g.rule.length → MoreT kd g (m + d) i j → MoreT kd g m i j
  | 0, i, j, _, _, hm => hm
  | d + 1, i, j, h1, h2, hm => by
    rcases hm with hm | hm | ⟨b, hb, hm⟩
    · exact still_on hi h d i j h1 h2 hm
    · exact h i j h1 h2 (.inr (.inl hm))
    · refine h i j h1 h2 (.inr (.inr ⟨b, hb, ?_⟩))
      rcases hm with e | e | ⟨e1, e2, e3⟩
      · exact .inl e
      · exact .inr (.inl e)
      · have q1 := hi (i : Int) (b : Int)
        have q2 := hi (j : Int) (b : Int)
        exact .inr (.inr ⟨e1, e2, still_on hi h d _ _ (by omega) (by omega) e3⟩)
/-- Within so many bytes as there are states. -/
theorem more_all {kd : Nat → Nat} {g : Graph} (hi : StepsIn kd g) {i j : Nat} (h1 : i < g.rule.length) (h2 : j < g.rule.length) (h : ∃ k, MoreT kd g k i j) : MoreT kd g (g.rule.length + 1) i j := by
  obtain ⟨k, hk⟩ := h
  rcases still_or (kd := kd) (g := g) (n := g.rule.length) (g.rule.length + 1) with e | ⟨m, e1, e2⟩
  · have := count_le (repL kd g g.rule.length (g.rule.length + 1))
    simp [repL] at this
    simp [repL] at e
    omega
  · have h3 := more_mono hk m
    rw [Nat.add_comm] at h3
    have h4 := still_on hi e2 k i j h1 h2 h3
    have h5 := more_mono h4 (g.rule.length + 1 - m)
    rwa [show m + (g.rule.length + 1 - m) = g.rule.length + 1 by omega] at h5

/-! Two states of the least graph are told apart. -/
theorem rowsSame_of (cls : List Int) : ∀ (l m : List Int), l.length = m.length → (∀ k, k < l.length → stepSame cls (l.getD k 0) (m.getD k 0) = true) → rowsSame cls l m = true
  | [], m, _, _ => rfl
  | x :: l, [], hl, _ => by simp at hl
  | x :: l, y :: m, hl, h => by
    unfold rowsSame
    simp only [List.headD_cons, List.tail_cons, Bool.and_eq_true]
    refine ⟨by have := h 0 (by simp); simpa using this, rowsSame_of cls l m (by simpa using hl) (fun k hk => ?_)⟩
    have := h (k + 1) (by simp; omega)
    simpa using this
theorem together_of {g : Graph} {K : Nat} (ho : GOk g K) {cls : List Int} {a b : Nat} (ha : a < g.rule.length) (hb : b < g.rule.length) (h : Alike g K cls a b) : togetherF g cls a b = true := by
  have ra := ho.row a (by rw [ho.len]; exact ha)
  have rb := ho.row b (by rw [ho.len]; exact hb)
  unfold togetherF
  rw [if_neg (by
    rintro (e | e)
    · exact e h.1
    · exact e h.2.1)]
  exact rowsSame_of cls _ _ (by rw [ra.1, rb.1]) (fun k hk => h.2.2 k (by rw [← ra.1]; exact hk))
theorem mateF_first (g : Graph) (cls : List Int) (n : Nat) : ∀ (f k a : Nat), n < f + k → k ≤ a → a < n → togetherF g cls a n = true → ∃ e, mateF g cls n f k = some e ∧ k ≤ e ∧ e ≤ a ∧ ∀ j, k ≤ j → j < e → togetherF g cls j n = false
  | 0, k, a, hf, h1, h2, _ => by omega
  | f + 1, k, a, hf, h1, h2, h3 => by
    unfold mateF
    rw [if_pos (by omega)]
    cases hk : togetherF g cls k n with
    | true => exact ⟨k, by simp, Nat.le_refl _, h1, fun j hj hj' => by omega⟩
    | false =>
      have hka : k ≠ a := fun e => by rw [e, h3] at hk; cases hk
      obtain ⟨e, e1, e2, e3, e4⟩ := mateF_first g cls n f (k + 1) a (by omega) (by omega) h2 h3
      refine ⟨e, by simpa using e1, by omega, e3, fun j hj hj' => ?_⟩
      by_cases ejk : j = k
      · rw [ejk]; exact hk
      · exact e4 j (by omega) hj'
theorem refine_mate {g : Graph} {cls : List Int} {b e : Nat} (h : mateF g cls b (b + 1) 0 = some e) (hb : b < g.rule.length) : (refineAt g cls g.rule.length).1.getD b 0 = (refineAt g cls g.rule.length).1.getD e 0 := by
  have he := mateF_lt g cls b _ _ _ h
  rw [refineAt_get g cls g.rule.length (b + 1) b (by omega) (by omega), refineAt_get g cls g.rule.length b e (by omega) he]
  have h1 : (refineAt g cls (b + 1)).1 = (refineAt g cls b).1 ++ [(refineAt g cls b).1.getD e 0] := by
    conv => lhs; unfold refineAt
    rw [h]
  have hl := refineAt_len g cls b
  rw [h1, List.getD_eq_getElem?_getD, List.getElem?_append_right (by omega), hl, Nat.sub_self]
  simp
theorem refine_alike {g : Graph} {K : Nat} (ho : GOk g K) {cls : List Int} {a b : Nat} (hab : a < b) (hb : b < g.rule.length) (h : Alike g K cls a b) : (refineAt g cls g.rule.length).1.getD a 0 = (refineAt g cls g.rule.length).1.getD b 0 := by
  obtain ⟨e, e1, e2, e3, e4⟩ := mateF_first g cls b (b + 1) 0 a (by omega) (Nat.zero_le _) hab (together_of ho (by omega) hb h)
  rw [refine_mate e1 hb]
  by_cases hea : e = a
  · rw [hea]
  · have heb := together_spec ho (a := e) (b := b) (by omega) hb (mateF_some g cls b _ _ _ e1).2
    have hae : Alike g K cls e a := Alike.trans heb (Alike.symm h)
    obtain ⟨f, f1, f2, f3, f4⟩ := mateF_first g cls a (a + 1) 0 e (by omega) (Nat.zero_le _) (by omega) (together_of ho (by omega) (by omega) hae)
    rw [refine_mate f1 (by omega)]
    have hfe : f = e := by
      refine Nat.le_antisymm f3 (Nat.le_of_not_lt fun hlt => ?_)
      have hfa := together_spec ho (a := f) (b := a) (by omega) (by omega) (mateF_some g cls a _ _ _ f1).2
      have hfb : Alike g K cls f b := Alike.trans hfa h
      have := e4 f (Nat.zero_le _) hlt
      rw [together_of ho (by omega) hb hfb] at this
      cases this
    rw [hfe]
/-- What stands for nodes of other classes is told apart. -/
def PartsT (kd : Nat → Nat) (G g : Graph) (fin cls : List Int) (ord : List Int) : Prop := ∀ a b i j : Nat, a < g.rule.length → b < g.rule.length → i < ord.length → j < ord.length → fin.getD (ord.getD i 0).toNat 0 = fin.getD a 0 → fin.getD (ord.getD j 0).toNat 0 = fin.getD b 0 → cls.getD a 0 ≠ cls.getD b 0 → ∃ m, MoreT kd G m i j
theorem parts_refine {al : Nat → PSet} {kd : Nat → Nat} {g : Graph} (hkd : kd = kindOf al) (ho : GOk g (kindsAt al 256).length) (hpos : 0 < g.rule.length) {fin : List Int} (hcl : fin.length = g.rule.length) (hc : ∀ x ∈ fin, 0 ≤ x ∧ x < (g.rule.length : Int)) (hst : Stable g (kindsAt al 256).length fin)
    (hG : LexG kd (numberF g fin)) {cls : List Int} (h : PartsT kd (numberF g fin) g fin cls (visitF g fin).1) : PartsT kd (numberF g fin) g fin (refineAt g cls g.rule.length).1 (visitF g fin).1 := by
  intro a b i j ha hb hi hj hia hjb hne
  have hGl : (numberF g fin).rule.length = (visitF g fin).1.length := by simp [numberF]
  have hnal : ¬ Alike g (kindsAt al 256).length cls a b := fun hal => by
    rcases Nat.lt_trichotomy a b with e | e | e
    · exact hne (refine_alike ho e hb hal)
    · exact hne (by rw [e])
    · exact hne (refine_alike ho e ha (Alike.symm hal)).symm
  by_cases h1 : cls.getD a 0 = cls.getD b 0
  · by_cases h2 : g.rule.getD a 0 = g.rule.getD b 0
    · obtain ⟨k, hk, hs⟩ : ∃ k, k < (kindsAt al 256).length ∧ ¬ stepSame cls ((g.next.getD a []).getD k 0) ((g.next.getD b []).getD k 0) = true := by
        refine Classical.byContradiction fun hno => hnal ⟨h1, h2, fun k hk => ?_⟩
        exact Classical.byContradiction fun e => hno ⟨k, hk, e⟩
      obtain ⟨c, hc1, hc2⟩ := kind_onto al 256 k hk
      have ea : stepK g (a : Int) k = (g.next.getD a []).getD k 0 := by unfold stepK; rw [if_neg (by omega), Int.toNat_natCast]
      have eb : stepK g (b : Int) k = (g.next.getD b []).getD k 0 := by unfold stepK; rw [if_neg (by omega), Int.toNat_natCast]
      rw [← ea, ← eb] at hs
      have ni := nextF_step hG (j := i) (b := c) (by omega) hc1
      have nj := nextF_step hG (j := j) (b := c) (by omega) hc1
      rw [hkd, hc2] at ni nj
      rw [← hkd] at ni nj
      rcases number_step ho hpos hcl hc hst hi ha hia hk with ⟨p1, p2⟩ | ⟨i', a', p1, p2, p3, p4, p5⟩
      · rcases number_step ho hpos hcl hc hst hj hb hjb hk with ⟨q1, q2⟩ | ⟨j', b', q1, q2, q3, q4, q5⟩
        · rw [p2, q2] at hs
          exact absurd (stepSame_refl _) hs
        · exact ⟨1, .inr (.inr ⟨c, hc1, .inl ⟨by rw [ni, p1], by rw [nj, q1]; omega⟩⟩)⟩
      · rcases number_step ho hpos hcl hc hst hj hb hjb hk with ⟨q1, q2⟩ | ⟨j', b', q1, q2, q3, q4, q5⟩
        · exact ⟨1, .inr (.inr ⟨c, hc1, .inr (.inl ⟨by rw [ni, p1]; omega, by rw [nj, q1]⟩)⟩)⟩
        · rw [p2, q2] at hs
          have hcc : cls.getD a' 0 ≠ cls.getD b' 0 := fun e => hs (by
            unfold stepSame
            rw [if_neg (by simp)]
            simpa using e)
          obtain ⟨m, hm⟩ := h a' b' i' j' p4 q4 p3 q3 p5 q5 hcc
          refine ⟨m + 1, .inr (.inr ⟨c, hc1, .inr (.inr ⟨by rw [ni, p1]; omega, by rw [nj, q1]; omega, ?_⟩)⟩)⟩
          rw [ni, p1, nj, q1, Int.toNat_natCast, Int.toNat_natCast]
          exact hm
    · refine ⟨1, .inr (.inl fun e => h2 ?_)⟩
      rw [ruleOf_acc (by omega), ruleOf_acc (by omega)] at e
      have x1 : accK (numberF g fin) (i : Int) = accK g (a : Int) := number_acc ho hpos hcl hc hst [] i a (by simp) hi ha hia
      have x2 : accK (numberF g fin) (j : Int) = accK g (b : Int) := number_acc ho hpos hcl hc hst [] j b (by simp) hj hb hjb
      rw [x1, x2] at e
      unfold accK at e
      rwa [if_neg (by omega), if_neg (by omega), Int.toNat_natCast, Int.toNat_natCast] at e
  · exact h a b i j ha hb hi hj hia hjb h1
theorem parts_loop {al : Nat → PSet} {kd : Nat → Nat} {g : Graph} (hkd : kd = kindOf al) (ho : GOk g (kindsAt al 256).length) (hpos : 0 < g.rule.length) {fin : List Int} (hcl : fin.length = g.rule.length) (hc : ∀ x ∈ fin, 0 ≤ x ∧ x < (g.rule.length : Int)) (hst : Stable g (kindsAt al 256).length fin)
    (hG : LexG kd (numberF g fin)) : ∀ (f : Nat) (cls : List Int) (count : Nat), PartsT kd (numberF g fin) g fin cls (visitF g fin).1 → PartsT kd (numberF g fin) g fin (mergeLoop g f cls count) (visitF g fin).1
  | 0, cls, count, h => h
  | f + 1, cls, count, h => by
    have h1 := parts_refine hkd ho hpos hcl hc hst hG h
    unfold mergeLoop
    split
    · exact h1
    · exact parts_loop hkd ho hpos hcl hc hst hG f _ _ h1
/-- Two states of a lexer are told apart. -/
theorem build_apart {R : RulesT} {kd : Nat → Nat} {g : Graph} (h : buildF R = some (kd, g)) {i j : Nat} (hi : i < g.rule.length) (hj : j < g.rule.length) (hne : i ≠ j) : MoreT kd g (g.rule.length + 1) i j := by
  have hG := build_lexG h
  refine more_all hG.stepsIn hi hj ?_
  obtain ⟨g0, hg, hkd, rfl⟩ := buildF_some h
  obtain ⟨ho, hp, hn⟩ := exploreF_ok hg
  have ho' := pruneF_ok ho
  have hp' : 0 < (pruneF g0).rule.length := hp
  have hst := mergeF_stable ho' hp'
  have hv := (visitF_inv ho' hp' (mergeF_len _) (mergeF_bd _ hp')).1
  have hl : (numberF (pruneF g0) (mergeF (pruneF g0))).rule.length = (visitF (pruneF g0) (mergeF (pruneF g0))).1.length := by simp [numberF]
  have hP := parts_loop hkd ho' hp' (mergeF_len _) (mergeF_bd _ hp') hst hG ((pruneF g0).rule.length + 1) (List.replicate (pruneF g0).rule.length 0) 0 (fun a b i j ha hb _ _ _ _ hx => absurd (by simp [ha, hb]) hx)
  have oi := hv.ok.ok _ (getD_mem (l := (visitF (pruneF g0) (mergeF (pruneF g0))).1) (k := i) (by omega) 0)
  have oj := hv.ok.ok _ (getD_mem (l := (visitF (pruneF g0) (mergeF (pruneF g0))).1) (k := j) (by omega) 0)
  refine hP _ _ i j (by omega) (by omega) (by omega) (by omega) rfl rfl (fun e => hne ?_)
  have n1 := hv.num i (by omega)
  have n2 := hv.num j (by omega)
  have e' : (mergeF (pruneF g0)).getD ((visitF (pruneF g0) (mergeF (pruneF g0))).1.getD i 0).toNat 0 = (mergeF (pruneF g0)).getD ((visitF (pruneF g0) (mergeF (pruneF g0))).1.getD j 0).toNat 0 := e
  rw [e', n2] at n1
  omega
end Go.Proofs.Ytcckhngbdoiikaa

namespace Go.Proofs.Ytcckhngbdoiikaa
set_option linter.unusedVariables false

/-- A round only adds, and adds what it must. -/
structure LiveUp (kd : Nat → Nat) (g : Graph) (A B : List Bool) : Prop where
  len : B.length = A.length
  up : ∀ i : Nat, A.getD i false = true → B.getD i false = true
  good : ∀ i : Nat, i < g.rule.length → (ruleOfF g (i : Int) ≠ -1 ∨ ∃ b : Nat, b < 256 ∧ nextF kd g (i : Int) (b : Int) ≠ -1 ∧ A.getD (nextF kd g (i : Int) (b : Int)).toNat false = true) → B.getD i false = true
structure LiveInv (kd : Nat → Nat) (g : Graph) (k : Nat) (A : List Bool) : Prop where
  len : A.length = g.rule.length
  or_ : k ≤ A.count true ∨ ∀ (d i : Nat), i < g.rule.length → FarT kd g d (i : Int) → A.getD i false = true
theorem LiveInv.start (kd : Nat → Nat) (g : Graph) : LiveInv kd g 0 (List.replicate g.rule.length false) := ⟨by simp, .inl (Nat.zero_le _)⟩
theorem LiveInv.round {kd : Nat → Nat} {g : Graph} (hi : StepsIn kd g) {k : Nat} {A B : List Bool} (h : LiveInv kd g k A) (u : LiveUp kd g A B) : LiveInv kd g (k + 1) B := by
  refine ⟨u.len.trans h.len, ?_⟩
  rcases h.or_ with h1 | h1
  · by_cases e : A = B
    · right
      subst e
      intro d
      induction d with
      | zero => intro i hi' hf; exact u.good i hi' (.inl hf)
      | succ d ih =>
        intro i hi' hf
        obtain ⟨h2, b, h3, h4, h5⟩ := hf
        have := hi (i : Int) (b : Int)
        refine u.good i hi' (.inr ⟨b, h3, h4, ih _ (by omega) ?_⟩)
        rw [show (((nextF kd g (i : Int) (b : Int)).toNat : Nat) : Int) = nextF kd g (i : Int) (b : Int) by omega]
        exact h5
    · left
      have := count_lt A B u.len.symm u.up e
      omega
  · exact .inr fun d i hi' hf => u.up i (h1 d i hi' hf)
theorem LiveInv.done {kd : Nat → Nat} {g : Graph} {A : List Bool} (h : LiveInv kd g (g.rule.length + 1) A) {d i : Nat} (hi : i < g.rule.length) (hf : FarT kd g d (i : Int)) : A.getD i false = true := by
  rcases h.or_ with h1 | h1
  · have := count_le A
    have := h.len
    omega
  · exact h1 d i hi hf
theorem build_alive {R : RulesT} {kd : Nat → Nat} {g : Graph} (h : buildF R = some (kd, g)) (hn : 1 < g.rule.length) {i : Nat} (hi : i < g.rule.length) : ∃ d, FarT kd g d (i : Int) := by
  have hpos : ∀ j : Nat, 0 < j → j < g.rule.length → ∃ d, FarT kd g d (j : Int) := fun j h0 hj => by
    obtain ⟨i', b, _, h2, h3⟩ := build_reach h h0 hj
    obtain ⟨d, hd⟩ := next_far h (s := (i' : Int)) h2 (by rw [h3]; omega)
    exact ⟨d, by rw [h3] at hd; exact hd⟩
  by_cases h0 : i = 0
  · subst h0
    obtain ⟨i', b, h1, h2, h3⟩ := build_reach h (j := 1) (by omega) hn
    obtain ⟨d, hd⟩ := hpos 1 (by omega) hn
    have e : i' = 0 := by omega
    subst e
    by_cases hr : ruleOfF g ((0 : Nat) : Int) = -1
    · exact ⟨d + 1, hr, b, h2, by rw [h3]; omega, by rw [h3]; exact hd⟩
    · exact ⟨0, hr⟩
  · exact hpos i (by omega) hi
end Go.Proofs.Ytcckhngbdoiikaa
