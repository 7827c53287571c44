import Derived.Test.YtcckhngbdoiikaaN54
import Derived.Deep.DeepCutAuto
import Derived.Deep.RegionWith
import Derived.BigRegion
import Derived.IntWalk

namespace Go.Proofs.Ytcckhngbdoiikaa
open Go.RowKit Go.Deep
set_option linter.unusedVariables false

theorem Try.infoSav : (Try.prog.info? 84).map (·.size) = some 5 := by kernel_rfl
theorem storeSav {x : SavT} {ops : Array Oper} {rest : List Oper} {o : Oper} {a : Act} {w : World} {Q : Exit → Act → World → Prop} (hgd : o.guard = none) (p q : Operand) (ho : o.op = .store 84 p q)
    (g : Nat) (hx : a.eval p = .pointer (some ⟨g, 0, none⟩)) (hy : a.eval q = savV x) {old : Array Value} (hb : Blk w g old 84) (hold : old.size = 5)
    (h : wpList Try.prog ops Q rest (a.put o.dst undef) (w.setRow g (savC x))) : wpList Try.prog ops Q (o :: rest) a w :=
  wpList_store_row hgd 84 p q ho g _ hx hy 84 _ hb Try.infoSav hold (by simp [Value.oneCell']) h
theorem loadSav {x : SavT} {ops : Array Oper} {rest : List Oper} {o : Oper} {a : Act} {w : World} {Q : Exit → Act → World → Prop} (hgd : o.guard = none) (p : Operand) (ho : o.op = .load 84 p)
    (g : Nat) (hx : a.eval p = .pointer (some ⟨g, 0, none⟩)) (hb : Blk w g (savC x) 84)
    (h : wpList Try.prog ops Q rest (a.put o.dst (savV x)) w) : wpList Try.prog ops Q (o :: rest) a w :=
  wpList_load_row hgd 84 p ho g hx 84 _ (0, 0) _ hb Try.underlying84 rfl Try.infoSav h
theorem resultsSav {fn : Func} {p q : Tmp} (h : fn.results = #[.cell p 84, .tmp q]) {x : SavT} (tmps : Array Value) {w : World} {g : Nat}
    (hp : tmps.getD p undef = .pointer (some ⟨g, 0, none⟩)) (hg : Blk w g (savC x) 84) : (results fn tmps).run Try.prog w = .ok (.tuple #[savV x, tmps.getD q undef]) w :=
  results_cell_tmp h tmps w g 84 _ (0, 0) _ hp hg Try.underlying84 rfl Try.infoSav
theorem Below_drew {n : Nat} {w w' : World} (h : Below n w w') : Below n w w'.drew := ⟨h.os, h.tape, h.output, h.size, h.block⟩
abbrev sav0 : Array Value := #[.int .i64 0, .int .i64 0, .int .i64 0, .int .i64 0, .string ⟨#[]⟩]

set_option maxRecDepth 20000 in
set_option maxHeartbeats 3200000 in
theorem stretch_any (pb : Nat) (kd : Nat → Nat) (g : Graph) (x : SavT) (w : World) (h : LexAt w pb kd g) (ho : LexOk kd g) (h1 : x.en ≤ 1000000000000) (h2 : x.tail.size ≤ 4000000) :
    Calls Try.prog 89 #[.pointer (some ⟨pb, 0, none⟩), savV x] w fun e w' => e = .returned (.tuple #[savV (stretchF kd g x).1, .bool (stretchF kd g x).2]) ∧ Below w.heap.size w w' := by
  have hN := fun (W : World) (hb : Below w.heap.size w W) (st b : Int) => tableNext_any pb kd g st b W (h.below hb) ho
  have hR := fun (W : World) (hb : Below w.heap.size w W) (st : Int) => tableRule_any pb kd g st W (h.below hb)
  have hL := fun (W : World) (hb : Below w.heap.size w W) (st : Int) => leadOn_any pb kd g st W (h.below hb)
  have HN := hide hN
  have HR := hide hR
  have HL := hide hL
  generalize hX : stretchF kd g x = X
  unfold stretchF at hX
  have HX := hide hX
  clear h ho hN hR hX hL
  obtain ⟨xa, xe, xr, xs, xt⟩ := x
  simp only at h1 h2
  go_enter Try.func89, Try.ntmps89
  go_wp2_with fail
  go_loopg [8, 9] (xt.size + 1) (fun G sv iv wr => ∃ (i : Nat) (st : Int) (y : SavT), sv = .int .i64 st ∧ iv = .int .i64 (i : Int) ∧ i ≤ xt.size ∧ G = xt.size - i + 1 ∧ stretchLoop kd g xt xe G i st y = X ∧
    Below w.heap.size w wr ∧ Blk wr w.heap.size (savC y) 84 ∧ Blk wr (w.heap.size + 1) sav0 84)
  case atStart =>
    exact ⟨0, xs, ⟨xa, xe, xr, xs, xt⟩, rfl, rfl, Nat.zero_le _, rfl, HX.out, Below2 _ _ _, (Blk.new _ _ _).alloc _, Blk.at1 _ _ _ _⟩
  case round =>
    obtain ⟨i, st, y, rfl, rfl, hi, rfl, hX, hb, hT, hZ⟩ := hrel
    clear HX
    by_cases hlt : i < xt.size
    · have e0 : decide ((i : Int) < (xt.size : Int)) = true := by simp; omega
      rw [show xt.size - i + 1 = (xt.size - (i + 1) + 1) + 1 by omega] at hX
      unfold stretchLoop at hX
      rw [if_pos hlt] at hX
      have HH : Hid (Below w.heap.size w wr ∧ Blk wr w.heap.size (savC y) 84 ∧ Blk wr (w.heap.size + 1) sav0 84) := ⟨hb, hT, hZ⟩
      have HXX := hide hX
      have p0 : (0 : Int) ≤ (i : Int) := by omega
      have p1 : (i : Int) < (xt.size : Int) := by omega
      clear hb hZ hT hX
      go_wp2_with fail
      rw [wrapByte xt i hlt]
      refine (HN.out wr HH.out.1 st _).mono ?_
      rintro e w1 ⟨rfl, hb1⟩
      generalize nextF kd g st (peekI xt i) = n at HXX
      have HH1 : Hid (Below w.heap.size w w1 ∧ Blk w1 w.heap.size (savC y) 84 ∧ Blk w1 (w.heap.size + 1) sav0 84) :=
        ⟨HH.out.1.trans (hb1.mono HH.out.1.size), HH.out.2.1.below hb1, HH.out.2.2.below hb1⟩
      clear hb1 HH
      by_cases hn : n = -1
      · have e1 : (n == -1) = true := by simp [hn]
        have hx := HXX.out
        rw [if_pos hn] at hx
        subst hx
        clear HXX hn
        go_wp2_with (first | refine loadSav rfl (.tmp 3) rfl w.heap.size rfl HH1.out.2.1 ?_ | refine storeSav rfl (.tmp 4) (.tmp 32) rfl (w.heap.size + 1) rfl rfl HH1.out.2.2 rfl ?_)
        exact bodyPost_ret (resultsSav (x := y) Try.results89 _ rfl (HH1.out.2.2.setRow _)) rfl ⟨rfl, Below_setRow HH1.out.1 (by omega) _⟩
      · have e1 : (n == -1) = false := by simp [hn]
        have hx := HXX.out
        rw [if_neg hn] at hx
        clear HXX hn
        have HX2 := hide hx
        clear hx
        go_wp2_with fail
        refine (HR.out w1 HH1.out.1 n).mono ?_
        rintro e w2 ⟨rfl, rfl⟩
        generalize ruleOfF g n = r at HX2
        by_cases hr : r = -1
        · have e2 : (r != -1) = false := by simp [hr]
          have e3 : (r == -1) = true := by simp [hr]
          have hx := HX2.out
          rw [if_pos hr] at hx
          have HX3 := hide hx
          clear HX2 hx hr
          go_wp2_with fail
          go_roundg (xt.size - (i + 1) + 1)
          case measure => omega
          case rel => exact ⟨i + 1, n, y, rfl, by go_num, by omega, rfl, HX3.out, HH1.out.1, HH1.out.2.1, HH1.out.2.2⟩
        · have e2 : (r != -1) = true := by simp [hr]
          have e3 : (r == -1) = false := by simp [hr]
          have hx := HX2.out
          rw [if_neg hr] at hx
          have HX3 := hide hx
          clear HX2 hx hr
          obtain ⟨ya, ye, yr, ys, yt⟩ := y
          have c0 := HH1.out.2.1.cell 0
          have f0 := HH1.out.2.1.frozen 0
          have f1 := HH1.out.2.1.frozen 1
          have f2 := HH1.out.2.1.frozen 2
          have f3 := HH1.out.2.1.frozen 3
          have f4 := HH1.out.2.1.frozen 4
          have q1 := HH1.out.2.1.cell 1
          have q2 := HH1.out.2.1.cell 2
          have q3 := HH1.out.2.1.cell 3
          have q4 := HH1.out.2.1.cell 4
          have d9 : w.heap.size ≠ w.heap.size + 1 := by omega
          obtain ⟨m, hm⟩ : ∃ m : Nat, (xe : Int) + (i : Int) = (m : Int) := ⟨xe + i, by omega⟩
          obtain ⟨m1, hm1⟩ : ∃ m1 : Nat, (m : Int) + 1 = (m1 : Int) := ⟨m + 1, by omega⟩
          obtain ⟨i1, hi1⟩ : ∃ i1 : Nat, (i : Int) + 1 = (i1 : Int) := ⟨i + 1, by omega⟩
          have k1 : (0 : Int) ≤ (i1 : Int) := by omega
          have k2 : (i1 : Int) ≤ (xt.size : Int) := by omega
          have g1 : m1 = xe + i + 1 := by omega
          have g2 : i1 = i + 1 := by omega
          have G1 := hide g1
          have G2 := hide g2
          have b1 : IntKind.i64.wrap ((xe : Int) + (i : Int)) = (m : Int) := (Go.IntWalk.i64_left _).trans (by rw [hm]; unfold wrap64; omega)
          have b2 : IntKind.i64.wrap ((m : Int) + 1) = (m1 : Int) := (Go.IntWalk.i64_left _).trans (by rw [hm1]; unfold wrap64; omega)
          have b3 : IntKind.i64.wrap ((i : Int) + 1) = (i1 : Int) := (Go.IntWalk.i64_left _).trans (by rw [hi1]; unfold wrap64; omega)
          clear g1 g2 hm hm1 hi1
          go_wp2_with fail
          go_region
          clear b1 b2 b3
          go_wp2_with fail
          go_roundg (xt.size - (i + 1) + 1)
          case measure => omega
          case rel =>
            refine ⟨i + 1, n, ⟨ya, m1, r, n, xt.extract i1 xt.size⟩, rfl, by go_num, by omega, rfl, ?_, ?_, ?_, ?_⟩
            · rw [G1.out, G2.out]; exact HX3.out
            · exact Below_drew (((((HH1.out.1.setCell (p := ⟨w.heap.size, 0, none⟩) (Nat.le_refl _) _).setCell (p := ⟨w.heap.size, 1, none⟩) (Nat.le_refl _) _).setCell (p := ⟨w.heap.size, 2, none⟩) (Nat.le_refl _) _).setCell (p := ⟨w.heap.size, 3, none⟩) (Nat.le_refl _) _).setCell (p := ⟨w.heap.size, 4, none⟩) (Nat.le_refl _) _)
            · exact Blk.drew (((((HH1.out.2.1.set 0 _).set 1 _).set 2 _).set 3 _).set 4 _)
            · exact Blk.drew (((((HH1.out.2.2.setOther (p := ⟨w.heap.size, 0, none⟩) (by simp) _).setOther (p := ⟨w.heap.size, 1, none⟩) (by simp) _).setOther (p := ⟨w.heap.size, 2, none⟩) (by simp) _).setOther (p := ⟨w.heap.size, 3, none⟩) (by simp) _).setOther (p := ⟨w.heap.size, 4, none⟩) (by simp) _)
    · have e0 : decide ((i : Int) < (xt.size : Int)) = false := by simp; omega
      rw [show xt.size - i + 1 = 0 + 1 by omega] at hX
      unfold stretchLoop at hX
      rw [if_neg hlt] at hX
      subst hX
      have HH : Hid (Below w.heap.size w wr ∧ Blk wr w.heap.size (savC y) 84 ∧ Blk wr (w.heap.size + 1) sav0 84) := ⟨hb, hT, hZ⟩
      clear hb hZ hT
      obtain ⟨ya, ye, yr, ys, yt⟩ := y
      have c0 := HH.out.2.1.cell 0
      have c1 := HH.out.2.1.cell 1
      have c2 := HH.out.2.1.cell 2
      have c3 := HH.out.2.1.cell 3
      have c4 := HH.out.2.1.cell 4
      have q0 := HH.out.2.2.cell 0
      have q1 := HH.out.2.2.cell 1
      have q2 := HH.out.2.2.cell 2
      have q3 := HH.out.2.2.cell 3
      have q4 := HH.out.2.2.cell 4
      have f0 := HH.out.2.2.frozen 0
      have f1 := HH.out.2.2.frozen 1
      have f2 := HH.out.2.2.frozen 2
      have f3 := HH.out.2.2.frozen 3
      have f4 := HH.out.2.2.frozen 4
      have d9 : w.heap.size ≠ w.heap.size + 1 := by omega
      have HB : Hid (Below w.heap.size w wr.drew) := ⟨HH.out.1.os, HH.out.1.tape, HH.out.1.output, HH.out.1.size, HH.out.1.block⟩
      go_wp2_with fail
      go_region_with (go_at_call 118; refine (HL.out _ HB.out _).mono ?_; rintro e w2 ⟨rfl, rfl⟩)
      all_goals
        clear c0 c1 c2 c3 c4 q0 q1 q2 q3 q4 f0 f1 f2 f3 f4
        go_wp2_with fail
        exact bodyPost_ret (resultsSav (x := ⟨ya, ye, yr, ys, yt⟩) Try.results89 _ rfl (Blk.drew (((((HH.out.2.2.set 0 _).set 1 _).set 2 _).set 3 _).set 4 _))) rfl ⟨rfl, Below_drew (((((HH.out.1.setCell (p := ⟨w.heap.size + 1, 0, none⟩) (by simp) _).setCell (p := ⟨w.heap.size + 1, 1, none⟩) (by simp) _).setCell (p := ⟨w.heap.size + 1, 2, none⟩) (by simp) _).setCell (p := ⟨w.heap.size + 1, 3, none⟩) (by simp) _).setCell (p := ⟨w.heap.size + 1, 4, none⟩) (by simp) _)⟩
end Go.Proofs.Ytcckhngbdoiikaa
