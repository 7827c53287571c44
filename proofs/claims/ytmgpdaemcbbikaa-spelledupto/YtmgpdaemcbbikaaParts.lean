import Derived.Test.YtmgpdaemcbbikaaLink
namespace Go.Proofs.Ytmgpdaemcbbikaa
open Go.RowKit Go.Deep
set_option linter.unusedVariables false

abbrev partC (p : PartT) : Array Value := #[.int .u64 (p.first.lo.toNat : Int), .int .u64 (p.first.hi.toNat : Int), .int .u64 (p.last.lo.toNat : Int), .int .u64 (p.last.hi.toNat : Int), .bool p.empty]
abbrev partV (p : PartT) : Value := .agg (partC p)

theorem Try.infoP : (Try.prog.info? 213).map (·.size) = some 5 := by kernel_rfl
theorem resultsPart {fn : Func} {p : Tmp} (h : fn.results = #[.cell p 213]) {q : PartT} (tmps : Array Value) {w : World} {g : Nat}
    (hp : tmps.getD p undef = .pointer (some ⟨g, 0, none⟩)) (hg : Blk w g (partC q) 213) : (results fn tmps).run Try.prog w = .ok (partV q) w :=
  results_cell_row h tmps w g 213 _ (0, 0) _ hp hg Try.underlying213 rfl Try.infoP
abbrev part0 : Array Value := #[.int .u64 0, .int .u64 0, .int .u64 0, .int .u64 0, .bool false]

set_option maxHeartbeats 1600000 in
theorem either_any (a b : PartT) (w : World) : Calls Try.prog 144 #[partV a, partV b] w fun e w' =>
    e = .returned (partV (eitherPart a b)) ∧ Below w.heap.size w w' := by
  obtain ⟨af, al, ae⟩ := a
  obtain ⟨bf, bl, be⟩ := b
  have hB0 : ∀ o1 o2 o3, Below w.heap.size w (((w.alloc o1).alloc o2).alloc o3) := Below3 w
  cases ae <;> cases be <;>
  · go_enter Try.func144, Try.ntmps144
    go_wp2_with fail
    refine (or_any af bf _).mono ?_
    rintro e w1 ⟨rfl, hb1⟩
    obtain ⟨hc1, hf1⟩ := bcell hb1
    have hz1 : w.heap.size + 2 < w1.heap.size := by have := hb1.size; simp at this; omega
    have y0 : w.heap.size < w1.heap.size := by omega
    have y1 : w.heap.size + 1 < w1.heap.size := by omega
    have y2 : w.heap.size + 1 + 1 < w1.heap.size := by omega
    go_wp2_with fail
    refine (or_any al bl _).mono ?_
    rintro e w2 ⟨rfl, hb2⟩
    obtain ⟨hc2, hf2⟩ := bcell hb2
    have hz2 : w1.heap.size < w2.heap.size := by have := hb2.size; simp at this; omega
    have x0 : w.heap.size < w2.heap.size := by omega
    have x1 : w.heap.size + 1 < w2.heap.size := by omega
    have x2 : w.heap.size + 1 + 1 < w2.heap.size := by omega
    go_wp2_with fail
    have hZ1 : Blk w1 (w.heap.size + 1 + 1) part0 213 := by
      have := (Blk.new ((w.alloc (.cells (partC ⟨af, al, _⟩) 213)).alloc (.cells (partC ⟨bf, bl, _⟩) 213)) part0 213).below hb1
      simpa using this
    have hZ2 := (hZ1.alloc _).below hb2
    have hBW := ((hB0 _ _ _).trans (hb1.mono (by simp; omega))).alloc (by omega) (.cells (setC (af.or bf)) 139)
    have hBX := hBW.trans (hb2.mono (by simp; omega))
    exact bodyPost_ret (resultsPart (q := eitherPart ⟨af, al, _⟩ ⟨bf, bl, _⟩) Try.results144 _ rfl ((((((hZ2.set 0 _).set 1 _).set 2 _).set 3 _).set 4 _).alloc _)) rfl
      ⟨rfl, (((((hBX.setCell (by simp; omega) _).setCell (by simp; omega) _).setCell (by simp; omega) _).setCell (by simp; omega) _).setCell (by simp; omega) _).alloc (by simp; omega) _⟩
end Go.Proofs.Ytmgpdaemcbbikaa
