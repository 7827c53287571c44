import Derived.Test.YtmgpdaemcbbikaaTogether
namespace Go.Proofs.Ytmgpdaemcbbikaa
open Go.RowKit Go.Deep
set_option linter.unusedVariables false

/-- Whole blocks of ints, of bools. -/
def intsA (l : List Int) : Array Value := (l.map (Value.int .i64)).toArray
def boolsA (l : List Bool) : Array Value := (l.map Value.bool).toArray
theorem intsA_set (l : List Int) (i : Nat) (x : Int) : (intsA l).setIfInBounds i (.int .i64 x) = intsA (l.set i x) := by simp [intsA, List.map_set]
theorem boolsA_set (l : List Bool) (i : Nat) (x : Bool) : (boolsA l).setIfInBounds i (.bool x) = boolsA (l.set i x) := by simp [boolsA, List.map_set]
theorem intsA_made (n : Nat) : madeCells #[.int .i64 0] n = intsA (List.replicate n 0) := by
  apply Array.toList_inj.1
  rw [toList_madeCells_one]
  simp [intsA]
theorem boolsA_made (n : Nat) : madeCells #[.bool false] n = boolsA (List.replicate n false) := by
  apply Array.toList_inj.1
  rw [toList_madeCells_one]
  simp [boolsA]
theorem IRow.ofBlk {w : World} {b : Nat} {l : List Int} (h : Blk w b (intsA l) 3) (hl : l.length ≤ 100000) : IRow w (.slice (some ⟨b, 0, none⟩) l.length l.length) l :=
  ownsRow_mk (by simp) h (Nat.le_refl _) (by unfold maxLen; omega) (by simp [intsA]) (by simp [intsA, List.take_of_length_le])
theorem BRow.ofBlk {w : World} {b : Nat} {l : List Bool} (h : Blk w b (boolsA l) 4) (hl : l.length ≤ 100000) : BRow w (.slice (some ⟨b, 0, none⟩) l.length l.length) l :=
  ownsRow_mk (by simp) h (Nat.le_refl _) (by unfold maxLen; omega) (by simp [boolsA]) (by simp [boolsA, List.take_of_length_le])
theorem intsA_cell {w : World} {b : Nat} {l : List Int} (h : Blk w b (intsA l) 3) (i : Nat) (hi : i < l.length) : w.cell? ⟨b, i, none⟩ = some (.int .i64 l[i]) := by
  rw [h.cell]; simp [intsA, hi]
theorem boolsA_cell {w : World} {b : Nat} {l : List Bool} (h : Blk w b (boolsA l) 4) (i : Nat) (hi : i < l.length) : w.cell? ⟨b, i, none⟩ = some (.bool l[i]) := by
  rw [h.cell]; simp [boolsA, hi]

theorem Try.infoI3 : (Try.prog.info? 3).map (fun i => (i.zero, i.size, i.bytes)) = some (some (.int .i64 0), 1, 8) := by kernel_rfl
theorem Try.infoB3 : (Try.prog.info? 4).map (fun i => (i.zero, i.size, i.bytes)) = some (some (.bool false), 1, 1) := by kernel_rfl
theorem Try.infoN3 : (Try.prog.info? 40).map (fun i => (i.zero, i.size, i.bytes)) = some (some (.slice none 0 0), 1, 24) := by kernel_rfl
theorem makeInts (n : Nat) (hn : n ≤ 100000) (w : World) : (Instr.makeSlice 40 (.int .i64 (n : Int)) (.int .i64 (n : Int))).run Try.prog w = .ok (.slice (some ⟨w.heap.size, 0, none⟩) n n) (w.alloc (.cells (intsA (List.replicate n 0)) 3)) := by
  rw [run_make_row' (P := Try.prog) 40 3 (.int .i64 0) 8 Try.underlying40 Try.infoI3 rfl .i64 .i64 n (by omega) (by omega) w, intsA_made]
theorem makeBools (n : Nat) (hn : n ≤ 100000) (w : World) : (Instr.makeSlice 109 (.int .i64 (n : Int)) (.int .i64 (n : Int))).run Try.prog w = .ok (.slice (some ⟨w.heap.size, 0, none⟩) n n) (w.alloc (.cells (boolsA (List.replicate n false)) 4)) := by
  rw [run_make_row' (P := Try.prog) 109 4 (.bool false) 1 Try.underlying109 Try.infoB3 rfl .i64 .i64 n (by omega) (by omega) w, boolsA_made]

/-! ### refine, plainly -/
theorem mateF_lt (g : Graph) (cls : List Int) (n : Nat) : ∀ (f k e : Nat), mateF g cls n f k = some e → e < n
  | 0, k, e, h => by simp [mateF] at h
  | f + 1, k, e, h => by
    unfold mateF at h
    split at h
    · split at h
      · cases h; assumption
      · exact mateF_lt g cls n f (k + 1) e h
    · cases h
theorem refineAt_len (g : Graph) (cls : List Int) : ∀ n, (refineAt g cls n).1.length = n
  | 0 => rfl
  | n + 1 => by unfold refineAt; split <;> simp [refineAt_len g cls n]
theorem refineAt_bd (g : Graph) (cls : List Int) : ∀ n, (∀ x ∈ (refineAt g cls n).1, 0 ≤ x ∧ x < ((refineAt g cls n).2 : Int)) ∧ (refineAt g cls n).2 ≤ n
  | 0 => by simp [refineAt]
  | n + 1 => by
    have ih := refineAt_bd g cls n
    have hl := refineAt_len g cls n
    unfold refineAt
    split
    · rename_i e he
      have hlt := mateF_lt g cls n _ _ e he
      refine ⟨fun x hx => ?_, by simp; omega⟩
      simp at hx
      rcases hx with hx | hx
      · exact ih.1 x hx
      · subst hx
        have : (refineAt g cls n).1[e]?.getD 0 ∈ (refineAt g cls n).1 := by
          rw [List.getElem?_eq_getElem (by omega)]; simp
        exact ih.1 _ this
    · refine ⟨fun x hx => ?_, by simp; omega⟩
      simp at hx ⊢
      rcases hx with hx | hx
      · have := ih.1 x hx; omega
      · omega
end Go.Proofs.Ytmgpdaemcbbikaa
