import Derived.Test.YtcckhngbdoiikaaM49
import Derived.Test.YtcckhngbdoiikaaM27

namespace Go.Proofs.Ytcckhngbdoiikaa
open Go.RowKit Go.Deep
set_option linter.unusedVariables false

/-- The first pieces. -/
theorem PiecesAt.take {w : World} {ad : Option Addr} {cap : Nat} {ps : List ByteArray} (h : PiecesAt w (.slice ad ps.length cap) ps) (k : Nat) (hk : k ≤ ps.length) : PiecesAt w (.slice ad k cap) (ps.take k) := by
  obtain ⟨⟨ad', cap', e, hc⟩, h2, h3⟩ := h
  injection e with e1 e2 e3
  subst e1 e3
  have hl : (ps.take k).length = k := by simp; omega
  refine ⟨⟨ad, cap, by rw [hl], ?_⟩, by rw [hl]; omega, ?_⟩
  · by_cases h0 : k = 0
    · exact .inl (by rw [hl]; exact h0)
    · right
      rcases hc with h9 | ⟨b, off, rfl, hlt, hc⟩
      · omega
      · exact ⟨b, off, rfl, hlt, fun j hj => by
          rw [hl] at hj
          have := hc j (by omega)
          rw [this]
          simp⟩
  · have := sum_take_le (ps.map ByteArray.size) k
    rw [List.map_take]
    omega
theorem joinTo_take (ps : List ByteArray) (k : Nat) (hk : k ≤ ps.length) : ∀ j, j ≤ k → joinTo (ps.take k) j = joinTo ps j
  | 0, _ => rfl
  | j + 1, hj => by
    show joinTo (ps.take k) j ++ (ps.take k).getD j ⟨#[]⟩ = joinTo ps j ++ ps.getD j ⟨#[]⟩
    rw [joinTo_take ps k hk j (by omega), List.getD_eq_getElem?_getD, List.getElem?_take, if_pos (by omega), ← List.getD_eq_getElem?_getD]
theorem joinB_take (ps : List ByteArray) (k : Nat) (hk : k ≤ ps.length) : joinB (ps.take k) = joinTo ps k := by
  have hl : (ps.take k).length = k := by simp; omega
  unfold joinB
  rw [hl]
  exact joinTo_take ps k hk k (Nat.le_refl _)

set_option maxRecDepth 20000 in
set_option maxHeartbeats 3200000 in
theorem smallFn_any (x : SavT) (k : Nat) (f : ByteArray) (w : World) (h1 : x.at_ ≤ x.en) (h2 : x.en + x.tail.size = f.size) (h3 : f.extract x.en f.size = x.tail) (h4 : x.tail.size = 0 ∨ x.tail.size < k) (h5 : f.size ≤ 4000000) (hk : k ≤ 4000000) :
    Calls Try.prog 48 #[savV x, .int .i64 (k : Int), .string f] w fun e w' => e = .returned (.bool true) ∧ Below w.heap.size w w' := by
  obtain ⟨xa, xe, xr, xs, xt⟩ := x
  simp only at h1 h2 h3 h4
  have e0 : decide ((xa : Int) < 0) = false := by simp
  have e1 : decide ((xe : Int) < (xa : Int)) = false := by simp; omega
  have hn1 : ¬ xe < xa := by omega
  have e2 : ((xe : Int) + (xt.size : Int) != (f.size : Int)) = false := by rw [bne_eq_false_iff_eq]; omega
  have i0 : (0 : Int) ≤ (xe : Int) := by omega
  have i1 : (xe : Int) ≤ (f.size : Int) := by omega
  have hw : (xt.size = 0 ∧ ((xt.size : Int) == 0) = true) ∨ (((xt.size : Int) == 0) = false ∧ decide ((xt.size : Int) < (k : Int)) = true ∧ xt.size < k) := by
    by_cases e : xt.size = 0
    · exact .inl ⟨e, by rw [e]; rfl⟩
    · exact .inr ⟨by rw [beq_eq_false_iff_ne]; omega, by rw [decide_eq_true_iff]; omega, by omega⟩
  obtain ⟨q, hq⟩ : ∃ q : Nat, (xe : Int) + (xt.size : Int) = (q : Int) := ⟨xe + xt.size, by omega⟩
  have hq2 : q = f.size := by omega
  have e5 : ((q : Int) != (f.size : Int)) = false := by rw [bne_eq_false_iff_eq]; omega
  have b1 : IntKind.i64.wrap ((xe : Int) + (xt.size : Int)) = (q : Int) := (Go.IntWalk.i64_left _).trans (by rw [hq]; unfold wrap64; omega)
  have e6 : ((f.extract xe f.size).toList == xt.toList) = true := by rw [h3]; simp
  clear h3 h4 hq e2
  go_enter Try.func48, Try.ntmps48
  go_wp2_with fail
  go_quiet (fail)
  clear b1 e5
  rcases hw with ⟨hw1, hw2⟩ | ⟨hw1, hw2, hw3⟩
  all_goals
    go_wp2_with fail
    go_ret
    exact ⟨rfl, Below_drewN (Below1 _ _) _⟩

end Go.Proofs.Ytcckhngbdoiikaa
