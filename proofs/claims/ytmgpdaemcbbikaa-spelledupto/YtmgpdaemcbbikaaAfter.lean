import Derived.Test.YtmgpdaemcbbikaaRules
import Derived.Test.YtmgpdaemcbbikaaKept2
namespace Go.Proofs.Ytmgpdaemcbbikaa
open Go.RowKit Go.Deep
set_option linter.unusedVariables false

theorem afterFrom_append (s : PSet) : ∀ (l m : List PSet) (k : Nat) (acc : PSet), afterFrom s k (l ++ m) acc = afterFrom s (k + l.length) m (afterFrom s k l acc)
  | [], m, k, acc => by simp [afterFrom]
  | f :: r, m, k, acc => by
    simp only [List.cons_append, afterFrom, List.length_cons]
    rw [afterFrom_append s r m (k + 1), show k + 1 + r.length = k + (r.length + 1) by omega]
def afterAt (s : PSet) (l : List PSet) (k : Nat) : PSet := afterFrom s 0 (l.take k) PSet.none
theorem afterAt_step (s : PSet) (l : List PSet) (k : Nat) (h : k < l.length) : afterAt s l (k + 1) = if s.has k then (afterAt s l k).or l[k] else afterAt s l k := by
  unfold afterAt
  have hk : (l.take k).length = k := by rw [List.length_take]; omega
  rw [List.take_succ_eq_append_getElem h, afterFrom_append, hk, Nat.zero_add]
  simp [afterFrom]
theorem afterAt_all (s : PSet) (l : List PSet) (k : Nat) (h : l.length ≤ k) : afterAt s l k = afterFrom s 0 l PSet.none := by
  unfold afterAt; rw [List.take_of_length_le h]

theorem Try.infoS : (Try.prog.info? 139).map (·.size) = some 2 := by kernel_rfl
theorem resultsSet {fn : Func} {p : Tmp} (h : fn.results = #[.cell p 139]) {q : PSet} (tmps : Array Value) {w : World} {g : Nat}
    (hp : tmps.getD p undef = .pointer (some ⟨g, 0, none⟩)) (hg : Blk w g (setC q) 139) : (results fn tmps).run Try.prog w = .ok (setV q) w :=
  results_cell_row h tmps w g 139 _ (0, 0) _ hp hg Try.underlying139 rfl Try.infoS
theorem set0 : setC PSet.none = #[.int .u64 0, .int .u64 0] := rfl

set_option maxHeartbeats 1600000 in
theorem after_any (R : RulesT) (gb : Nat) (O : Nat → Prop) (fv lv : Value) (s : PSet) (w : World) (h : RulesAt w gb O R fv lv) (hl : R.follow.length ≤ 1000) :
    Calls Try.prog 101 #[.pointer (some ⟨gb, 0, none⟩), setV s] w fun e w' =>
      e = .returned (setV (R.after s)) ∧ Below w.heap.size w w' := by
  obtain ⟨_, ad, cap, rfl, hrow⟩ := ownsRow_form h.fol
  have cg : w.cell? ⟨gb, 514, none⟩ = some (.slice ad R.follow.length cap) := by rw [h.blk.cell]; exact rulesC_514 _ _ _ _
  have hgb := h.blk.lt
  have hgb1 : gb < w.heap.size + 1 := by omega
  have hgb2 : gb < w.heap.size + 1 + 1 := by omega
  go_enter Try.func101, Try.ntmps101
  go_wp2_with fail
  go_loopg [14] R.follow.length (fun g i wr => ∃ k : Nat, k ≤ R.follow.length ∧ g = R.follow.length - k ∧ i = .int .i64 (k : Int) ∧
    Below w.heap.size w wr ∧ Blk wr w.heap.size (setC s) 139 ∧ Blk wr (w.heap.size + 1) (setC PSet.none) 139 ∧ Blk wr (w.heap.size + 1 + 1) (setC (afterAt s R.follow k)) 139)
  case atStart =>
    refine ⟨0, by omega, rfl, rfl, Below3 _ _ _ _, ((Blk.new w _ _).alloc _).alloc _, ?_, ?_⟩
    · exact (Blk.at1 w _ _ _).alloc _
    · exact Blk.at2 w _ _ _ _
  case round =>
    obtain ⟨k, hk, rfl, rfl, hb, hS, hZ, hA⟩ := hrel
    by_cases hlt : k < R.follow.length
    · have e0 : decide ((k : Int) < (R.follow.length : Int)) = true := by simp; omega
      rcases hrow with ⟨rfl, h0⟩ | ⟨fb, cur, rfl, _⟩
      · omega
      have hRw := h.below hb
      have r0 : wr.cell? ⟨fb, k * 2, none⟩ = some (.int .u64 (R.follow[k].lo.toNat : Int)) := by rw [ownsRow_cell hRw.fol _ (by omega), setsC_get0 _ k hlt]
      have r1 : wr.cell? ⟨fb, k * 2 + 1, none⟩ = some (.int .u64 (R.follow[k].hi.toNat : Int)) := by rw [ownsRow_cell hRw.fol _ (by omega), setsC_get1 _ k hlt]
      have i0 : (0 : Int) ≤ (k : Int) := by omega
      have i1 : (k : Int) < (R.follow.length : Int) := by omega
      have s0 : wr.cell? ⟨w.heap.size, 0, none⟩ = some (.int .u64 (s.lo.toNat : Int)) := hS.cell 0
      have s1 : wr.cell? ⟨w.heap.size, 1, none⟩ = some (.int .u64 (s.hi.toNat : Int)) := hS.cell 1
      have zs : w.heap.size + 1 + 1 < wr.heap.size := hA.lt
      have zs0 : w.heap.size < wr.heap.size := by omega
      have HH : Hid (Below w.heap.size w wr ∧ Blk wr w.heap.size (setC s) 139 ∧ Blk wr (w.heap.size + 1) (setC PSet.none) 139 ∧ Blk wr (w.heap.size + 1 + 1) (setC (afterAt s R.follow k)) 139) := ⟨hb, hS, hZ, hA⟩
      have HR := hide h
      clear hb hS hZ hA hRw h cg
      go_wp2_with fail
      refine (has_any s k (by omega) _).mono ?_
      rintro e w1 ⟨rfl, hb1⟩
      obtain ⟨hb, hS, hZ, hA⟩ := HH.out
      have hS1 := (hS.alloc (.cells (setC R.follow[k]) 139)).below hb1
      have hZ1 := (hZ.alloc (.cells (setC R.follow[k]) 139)).below hb1
      have hA1 := (hA.alloc (.cells (setC R.follow[k]) 139)).below hb1
      have hF1 := (Blk.new wr (setC R.follow[k]) 139).below hb1
      have hbb := (hb.alloc (by omega) (.cells (setC R.follow[k]) 139)).trans (hb1.mono (by simp; omega))
      clear hb hS hZ hA HH
      cases hh : s.has k with
      | false =>
        have HH : Hid (Below w.heap.size w w1 ∧ Blk w1 w.heap.size (setC s) 139 ∧ Blk w1 (w.heap.size + 1) (setC PSet.none) 139 ∧ Blk w1 (w.heap.size + 1 + 1) (setC (afterAt s R.follow k)) 139) := ⟨hbb, hS1, hZ1, hA1⟩
        have HF := hide hh
        clear hbb hS1 hZ1 hA1 hF1 hb1 hh
        go_wp2_with fail
        go_roundg (R.follow.length - (k + 1))
        case measure => omega
        case rel =>
          obtain ⟨q1, q2, q3, q4⟩ := HH.out
          exact ⟨k + 1, by omega, rfl, by go_num, q1, q2, q3, by rw [afterAt_step s _ k hlt, if_neg (by simp [HF.out])]; exact q4⟩
      | true =>
        have a0 : w1.cell? ⟨w.heap.size + 1 + 1, 0, none⟩ = some (.int .u64 ((afterAt s R.follow k).lo.toNat : Int)) := hA1.cell 0
        have a1 : w1.cell? ⟨w.heap.size + 1 + 1, 1, none⟩ = some (.int .u64 ((afterAt s R.follow k).hi.toNat : Int)) := hA1.cell 1
        have f0 : w1.cell? ⟨wr.heap.size, 0, none⟩ = some (.int .u64 (R.follow[k].lo.toNat : Int)) := hF1.cell 0
        have f1 : w1.cell? ⟨wr.heap.size, 1, none⟩ = some (.int .u64 (R.follow[k].hi.toNat : Int)) := hF1.cell 1
        have HH : Hid (Below w.heap.size w w1 ∧ Blk w1 w.heap.size (setC s) 139 ∧ Blk w1 (w.heap.size + 1) (setC PSet.none) 139 ∧ Blk w1 (w.heap.size + 1 + 1) (setC (afterAt s R.follow k)) 139) := ⟨hbb, hS1, hZ1, hA1⟩
        have HF := hide hh
        clear hbb hS1 hZ1 hA1 hF1 hb1 hh
        go_wp2_with fail
        refine (or_any (afterAt s R.follow k) R.follow[k] _).mono ?_
        rintro e w2 ⟨rfl, hb2⟩
        obtain ⟨q1, q2, q3, q4⟩ := HH.out
        have q4' := q4.below hb2
        have g0 := q4'.cell 0
        have g1 := q4'.cell 1
        have gf0 := q4'.frozen 0
        have gf1 := q4'.frozen 1
        simp only [List.getElem?_toArray, List.getElem?_cons_zero, List.getElem?_cons_succ] at g0 g1
        have HH2 : Hid (Below w.heap.size w w2 ∧ Blk w2 w.heap.size (setC s) 139 ∧ Blk w2 (w.heap.size + 1) (setC PSet.none) 139 ∧ Blk w2 (w.heap.size + 1 + 1) (setC (afterAt s R.follow k)) 139) := ⟨q1.trans (hb2.mono (by have := q1.size; omega)), q2.below hb2, q3.below hb2, q4'⟩
        clear q1 q2 q3 q4 q4' hb2 HH
        go_wp2_with fail
        go_roundg (R.follow.length - (k + 1))
        case measure => omega
        case rel =>
          obtain ⟨q1, q2, q3, q4⟩ := HH2.out
          refine ⟨k + 1, by omega, rfl, by go_num, (q1.setCell (by simp; omega) _).setCell (by simp; omega) _, (q2.setOther (by simp; omega) _).setOther (by simp; omega) _, (q3.setOther (by simp) _).setOther (by simp) _, ?_⟩
          rw [afterAt_step s _ k hlt, if_pos HF.out]
          exact (q4.set 0 _).set 1 _
    · have e0 : decide ((k : Int) < (R.follow.length : Int)) = false := by simp; omega
      have a0 : wr.cell? ⟨w.heap.size + 1 + 1, 0, none⟩ = some (.int .u64 ((afterAt s R.follow k).lo.toNat : Int)) := hA.cell 0
      have a1 : wr.cell? ⟨w.heap.size + 1 + 1, 1, none⟩ = some (.int .u64 ((afterAt s R.follow k).hi.toNat : Int)) := hA.cell 1
      have z0 : wr.cell? ⟨w.heap.size + 1, 0, none⟩ = some (.int .u64 0) := hZ.cell 0
      have z1 : wr.cell? ⟨w.heap.size + 1, 1, none⟩ = some (.int .u64 0) := hZ.cell 1
      have zf0 := hZ.frozen 0
      have zf1 := hZ.frozen 1
      have HA := hide (afterAt_all s R.follow k (by omega))
      go_wp2_with fail
      have e9 : R.after s = afterAt s R.follow k := HA.out.symm
      rw [e9]
      exact bodyPost_ret (resultsSet Try.results101 _ rfl ((hZ.set 0 _).set 1 _)) rfl ⟨rfl, (hb.setCell (by simp) _).setCell (by simp) _⟩
end Go.Proofs.Ytmgpdaemcbbikaa
