import Derived.Test.YtmgpdaemcbbikaaRefine
namespace Go.Proofs.Ytmgpdaemcbbikaa
open Go.RowKit Go.Deep
set_option linter.unusedVariables false

theorem mateF_none (g : Graph) (cls : List Int) (n : Nat) : ∀ (f k : Nat), (∀ j, k ≤ j → j < n → togetherF g cls j n = false) → mateF g cls n f k = none
  | 0, k, h => rfl
  | f + 1, k, h => by
    unfold mateF
    split
    · rename_i hk
      rw [h k (Nat.le_refl _) hk, if_neg (by simp)]
      exact mateF_none g cls n f (k + 1) (fun j hj hj' => h j (by omega) hj')
    · rfl
theorem refineAt_succ (g : Graph) (cls : List Int) (n : Nat) : ∃ x, (refineAt g cls (n + 1)).1 = (refineAt g cls n).1 ++ [x] ∧ (mateF g cls n (n + 1) 0 = none → x = ((refineAt g cls n).2 : Int) ∧ (refineAt g cls (n + 1)).2 = (refineAt g cls n).2 + 1) ∧ (refineAt g cls n).2 ≤ (refineAt g cls (n + 1)).2 ∧ ((∃ e, mateF g cls n (n + 1) 0 = some e) → (refineAt g cls (n + 1)).2 = (refineAt g cls n).2) := by
  cases hm : mateF g cls n (n + 1) 0 with
  | none =>
    have : refineAt g cls (n + 1) = ((refineAt g cls n).1 ++ [((refineAt g cls n).2 : Int)], (refineAt g cls n).2 + 1) := by
      conv => lhs; unfold refineAt
      rw [hm]
    rw [this]
    exact ⟨_, rfl, fun _ => ⟨rfl, rfl⟩, Nat.le_succ _, fun ⟨e, he⟩ => by cases he⟩
  | some e =>
    have : refineAt g cls (n + 1) = ((refineAt g cls n).1 ++ [(refineAt g cls n).1.getD e 0], (refineAt g cls n).2) := by
      conv => lhs; unfold refineAt
      rw [hm]
    rw [this]
    exact ⟨_, rfl, (fun h => by cases h), Nat.le_refl _, fun _ => rfl⟩
theorem refineAt_prefix (g : Graph) (cls : List Int) (n : Nat) : ∀ d, (refineAt g cls (n + d)).1.take n = (refineAt g cls n).1
  | 0 => by rw [Nat.add_zero, List.take_of_length_le (by rw [refineAt_len]; omega)]
  | d + 1 => by
    obtain ⟨x, hx, _⟩ := refineAt_succ g cls (n + d)
    rw [show n + (d + 1) = (n + d) + 1 by omega, hx, List.take_append_of_le_length (by rw [refineAt_len]; omega)]
    exact refineAt_prefix g cls n d
theorem refineAt_get (g : Graph) (cls : List Int) (N n k : Nat) (hn : n ≤ N) (hk : k < n) : (refineAt g cls N).1.getD k 0 = (refineAt g cls n).1.getD k 0 := by
  have := refineAt_prefix g cls n (N - n)
  rw [show n + (N - n) = N by omega] at this
  rw [← this]
  simp [hk]
/-- Classes that are refined again don't become fewer. -/
theorem refineAt_mono (g : Graph) (cls : List Int) (N : Nat) : ∀ n, n ≤ N → (refineAt g cls n).2 ≤ (refineAt g (refineAt g cls N).1 n).2
  | 0, _ => Nat.le_refl _
  | n + 1, h => by
    have ih := refineAt_mono g cls N n (by omega)
    obtain ⟨x, hx, hnone, hle, hsome⟩ := refineAt_succ g cls n
    obtain ⟨y, hy, hnone', hle', _⟩ := refineAt_succ g (refineAt g cls N).1 n
    cases hm : mateF g cls n (n + 1) 0 with
    | some e => rw [hsome ⟨e, hm⟩]; omega
    | none =>
      have hx' := hnone hm
      rw [hx'.2]
      have : mateF g (refineAt g cls N).1 n (n + 1) 0 = none := by
        apply mateF_none
        intro j _ hj
        unfold togetherF
        rw [if_pos]
        left
        rw [refineAt_get g cls N (n + 1) j h (by omega), refineAt_get g cls N (n + 1) n h (by omega), hx]
        have hl := refineAt_len g cls n
        have e1 : ((refineAt g cls n).1 ++ [x]).getD n 0 = x := by simp [hl]
        have e2 : ((refineAt g cls n).1 ++ [x]).getD j 0 ∈ (refineAt g cls n).1 := by
          simp [List.getElem?_append_left (show j < (refineAt g cls n).1.length by omega), show j < (refineAt g cls n).1.length by omega]
        have hq := (refineAt_bd g cls n).1 _ e2
        have hx1 := hx'.1
        rw [e1]
        omega
      have := (hnone' this).2
      omega

set_option maxHeartbeats 1600000 in
theorem merge_any (rv nv : Value) (g : Graph) (K : Nat) (w : World) (hg : GraphAt w rv nv g) (ho : GOk g K) (hn : g.rule.length ≤ 1000) (hK : K ≤ 1000) :
    Calls Try.prog 79 #[.agg #[rv, nv]] w fun e w' => ∃ cv, e = .returned cv ∧ IRow w' cv (mergeF g) ∧ (mergeF g).length = g.rule.length ∧ Below w.heap.size w w' := by
  have hT := fun (W : World) (hb : Below w.heap.size w W) (cv : Value) (cls : List Int) (hc : IRow W cv cls) (hl : cls.length = g.rule.length) => refine_any rv nv cv g K cls W (hg.below hb) ho hc hl hn hK
  obtain ⟨vs, hN, hvl, hvs⟩ := hg.next
  obtain ⟨rd, rcap, rfl, _⟩ := hg.rule.form
  obtain ⟨nd, ncap, rfl, _⟩ := hN.form
  have HT := hide hT
  clear hT hg ho hN hvl hvs
  generalize hF : mergeF g = F
  have HF := hide hF
  clear hF
  have hmk := makeInts g.rule.length (by omega)
  go_enter Try.func79, Try.ntmps79
  go_wp2_with fail
  go_loopg [3, 4] (g.rule.length + 1) (fun G c i wr => ∃ (cls : List Int) (cnt : Nat) (cg : Nat), c = .slice (some ⟨cg, 0, none⟩) g.rule.length g.rule.length ∧ i = .int .i64 (cnt : Int) ∧ cls.length = g.rule.length ∧ IRow wr c cls ∧ g.rule.length + 1 ≤ G + cnt ∧ cnt ≤ (refineAt g cls g.rule.length).2 ∧ mergeLoop g G cls cnt = F ∧
    Below w.heap.size w wr ∧ Blk wr w.heap.size #[.slice rd g.rule.length rcap, .slice nd vs.length ncap] 91)
  case atStart =>
    have h1 := IRow.ofBlk (l := List.replicate g.rule.length 0) (Blk.at1 w (.cells #[.slice rd g.rule.length rcap, .slice nd vs.length ncap] 91) _ _) (by simp; omega)
    simp only [List.length_replicate] at h1
    exact ⟨List.replicate g.rule.length 0, 0, w.heap.size + 1, rfl, rfl, by simp, h1, by omega, Nat.zero_le _, HF.out, Below2 _ _ _, (Blk.new w _ _).alloc _⟩
  case round =>
    obtain ⟨cls, cnt, cg, rfl, rfl, hcl, hI, hfu, hmo, hFl, hb, hG⟩ := hrel
    clear HF
    have g0 : wr.cell? ⟨w.heap.size, 0, none⟩ = some (.slice rd g.rule.length rcap) := hG.cell 0
    have g1 : wr.cell? ⟨w.heap.size, 1, none⟩ = some (.slice nd vs.length ncap) := hG.cell 1
    have hRf := HT.out wr hb _ cls hI hcl
    have hbd := (refineAt_bd g cls g.rule.length).2
    have hlen := refineAt_len g cls g.rule.length
    have hmon := refineAt_mono g cls g.rule.length g.rule.length (Nat.le_refl _)
    rw [show gk = (gk - 1) + 1 by omega] at hFl
    unfold mergeLoop at hFl
    generalize refineAt g cls g.rule.length = r at hRf hbd hlen hmon hFl hmo
    obtain ⟨cls2, cnt2⟩ := r
    simp only at hRf hbd hlen hmon hFl hmo
    have HR := hide hRf
    have HH : Hid (Below w.heap.size w wr ∧ Blk wr w.heap.size #[.slice rd g.rule.length rcap, .slice nd vs.length ncap] 91 ∧ cls2.length = g.rule.length) := ⟨hb, hG, hlen⟩
    clear hRf hb hG hlen hI hcl HT
    by_cases hc : cnt2 = cnt
    · rw [if_pos hc] at hFl
      subst hFl
      subst hc
      have e1 : ((cnt2 : Int) == (cnt2 : Int)) = true := by simp
      clear hmon hmo
      go_wp2_with fail
      refine HR.out.mono ?_
      rintro e w2 ⟨fb, rfl, hI2, hb2⟩
      have HI2 := hide hI2
      have HB2 := hide hb2
      clear hI2 hb2
      go_wp2_with fail
      go_ret
      exact ⟨_, rfl, HI2.out, HH.out.2.2, HH.out.1.trans (HB2.out.mono HH.out.1.size)⟩
    · rw [if_neg hc] at hFl
      have e1 : ((cnt2 : Int) == (cnt : Int)) = false := by simp; omega
      have HFL := hide hFl
      have HMON := hide hmon
      clear hFl hmon
      go_wp2_with fail
      refine HR.out.mono ?_
      rintro e w2 ⟨fb, rfl, hI2, hb2⟩
      have HI2 := hide hI2
      have HB2 := hide hb2
      clear hI2 hb2
      go_wp2_with fail
      go_roundg (gk - 1)
      case measure => omega
      case rel =>
        obtain ⟨q1, q2, q3⟩ := HH.out
        exact ⟨cls2, cnt2, fb, rfl, rfl, q3, HI2.out, by omega, HMON.out, HFL.out, q1.trans (HB2.out.mono q1.size), q2.below HB2.out⟩
end Go.Proofs.Ytmgpdaemcbbikaa
