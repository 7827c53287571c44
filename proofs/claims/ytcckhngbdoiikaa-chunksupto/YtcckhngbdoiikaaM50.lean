import Derived.Test.YtcckhngbdoiikaaM28
import Derived.Test.YtcckhngbdoiikaaM49
import Derived.Deep.Strs

namespace Go.Proofs.Ytcckhngbdoiikaa
open Go.ChangeShapes Go.WideShapes Go.ChangeAt Go.RowKit Go.Deep
open Go.ChangeMaps (open_string shut_string)
set_option linter.unusedVariables false

theorem Try.strCells' : Try.prog.cellsOf 9 = 1 := by kernel_rfl
section
variable {H : Type} {enc : TypeId × Value → H}
theorem bulk_strs : ∀ l : List ByteArray, Rows.uptoBulkAll (l.map fun s => DataW.lit (H := H) (.string s.data.toList)) = (l.map ByteArray.size).sum + l.length
  | [] => rfl
  | s :: r => by
    have ih := bulk_strs r
    have e : Rows.uptoBulk (DataW.lit (H := H) (.string s.data.toList)) = s.size + 1 := by
      show s.data.toList.length + 1 = _
      rw [Array.length_toList]; rfl
    rw [List.map_cons, List.map_cons, List.length_cons, List.sum_cons]
    show Rows.uptoBulk (DataW.lit (H := H) (.string s.data.toList)) + _ = _
    omega
set_option maxRecDepth 100000 in
theorem piecesAt_of {W : World} {base : Nat} {v : Value} {d : DataW H} {p : List MemPlace} (hval : Value.okWide Try.prog W .any base 73 v) (h : DataW.Trod enc Try.prog W 0 (fun _ => true) true 73 v d p) (hlt : ∀ x ∈ p, x.block < W.heap.size) (hb : Rows.uptoBulk d ≤ 1048576) : ∃ ps, PiecesAt W v ps := by
  obtain ⟨a1, len, cap, rfl⟩ := okWide_slice Try.underlying73 hval
  obtain ⟨fuel, hf⟩ := h
  rcases open_slice Try.underlying73 hf with ⟨hcs, hx⟩ | ⟨a, len', cap', m, n, D, Pl, hcs, _, hl, hm, hmm, hx, hall⟩
  · simp [Value.cells] at hcs
    obtain ⟨rfl, rfl, rfl⟩ := hcs
    exact ⟨[], ⟨none, 0, rfl, .inl rfl⟩, by simp, by simp⟩
  · simp [Value.cells] at hcs
    obtain ⟨rfl, rfl, rfl⟩ := hcs
    have hlm : len ≤ m := by rw [hmm]; split <;> omega
    have each : ∀ i, i < m → ∃ q : ByteArray, W.cell? (a.add i) = some (.string q) ∧ D i = .lit (.string q.data.toList) := by
      intro i hi
      obtain ⟨cs', h1, h2⟩ := hall i hi
      rw [Try.strCells', Nat.mul_one] at h1
      obtain ⟨_, hlen, hcell⟩ := World.cells?_some h1
      match cs', hlen with
      | [v0], _ =>
        obtain ⟨s, e0, d0, _⟩ := DataW.trod_string Try.underlying9 h2
        simp only [List.cons.injEq, and_true] at e0
        subst e0
        have c0 := hcell 0 (by omega)
        rw [add_add] at c0
        simp only [Prod.mk.injEq] at d0
        exact ⟨s, by simpa using c0, d0.1⟩
    haveI : Inhabited ByteArray := ⟨⟨#[]⟩⟩
    obtain ⟨q, hq⟩ := choose_lt each
    simp only [Prod.mk.injEq] at hx
    obtain ⟨rfl, rfl⟩ := hx
    have hbk : (((List.range len).map q).map ByteArray.size).sum + len ≤ 1048576 := by
      have e : (List.range len).map D = ((List.range len).map q).map (fun s => DataW.lit (H := H) (.string s.data.toList)) := by
        rw [List.map_map]
        exact List.map_congr_left (fun i hi => (hq i (by have := List.mem_range.1 hi; omega)).2)
      simp only [Rows.uptoBulk] at hb
      rw [e, bulk_strs] at hb
      simp only [List.length_map, List.length_range] at hb
      omega
    refine ⟨(List.range len).map q, ⟨some a, cap, by simp, ?_⟩, by simp; omega, by omega⟩
    by_cases h0 : len = 0
    · exact .inl (by simp [h0])
    · right
      obtain ⟨xb, xo, spot⟩ := a
      have hspot : spot = none := by simpa [Addr.add] using World.cell?_spot (hq 0 (by omega)).1
      subst hspot
      refine ⟨xb, xo, rfl, ?_, fun j hj => ?_⟩
      · refine hlt (.cell xb (xo + 0)) (List.mem_append_left _ ?_)
        simp only [MemPlace.row, List.mem_map, List.mem_range]
        exact ⟨0, by rw [Try.strCells']; omega, rfl⟩
      · have hj' : j < len := by simpa using hj
        have g0 := (hq j (by omega)).1
        rw [Addr.add_lit] at g0
        have eI : ((List.range len).map q)[j] = q j := by simp
        rw [eI]
        exact g0
end
end Go.Proofs.Ytcckhngbdoiikaa
