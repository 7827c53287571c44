import Derived.Test.YtmgpdaemcbbikaaRules
import Derived.Test.YtmgpdaemcbbikaaKept2
namespace Go.Proofs.Ytmgpdaemcbbikaa
open Go.RowKit Go.Deep
set_option linter.unusedVariables false

theorem ruleFrom_bd (s : PSet) : ∀ (l : List PSet) (k : Nat), -1 ≤ ruleFrom s k l ∧ ruleFrom s k l < (k + l.length : Nat)
  | [], k => by simp [ruleFrom]; omega
  | x :: r, k => by
    unfold ruleFrom
    split
    · simp; omega
    · have := ruleFrom_bd s r (k + 1)
      simp at this ⊢
      omega
theorem ruleFrom_drop (s : PSet) (l : List PSet) (k : Nat) (h : k < l.length) : ruleFrom s k (l.drop k) = if s.meets l[k] then (k : Int) else ruleFrom s (k + 1) (l.drop (k + 1)) := by
  rw [List.drop_eq_getElem_cons h]; rfl

set_option maxHeartbeats 1600000 in
theorem rule_any (R : RulesT) (gb : Nat) (O : Nat → Prop) (fv lv : Value) (s : PSet) (w : World) (h : RulesAt w gb O R fv lv) (hl : R.last.length ≤ 1000) :
    Calls Try.prog 104 #[.pointer (some ⟨gb, 0, none⟩), setV s] w fun e w' =>
      e = .returned (.int .i64 (R.rule s)) ∧ Below w.heap.size w w' := by
  obtain ⟨_, ad, cap, rfl, hrow⟩ := ownsRow_form h.las
  have cg : w.cell? ⟨gb, 515, none⟩ = some (.slice ad R.last.length cap) := by rw [h.blk.cell]; exact rulesC_515 _ _ _ _
  have hgb := h.blk.lt
  have hgb1 : gb < w.heap.size + 1 := by omega
  generalize hF : R.rule s = F
  have HF : Hid (ruleFrom s 0 R.last = F) := hF
  clear hF
  go_enter Try.func104, Try.ntmps104
  go_wp2_with fail
  go_loopg [12] R.last.length (fun g i wr => ∃ k : Nat, k ≤ R.last.length ∧ g = R.last.length - k ∧ i = .int .i64 (k : Int) ∧
    Below w.heap.size w wr ∧ Blk wr w.heap.size (setC s) 139 ∧ ruleFrom s k (R.last.drop k) = F)
  case atStart =>
    exact ⟨0, by omega, rfl, rfl, Below1 _ _, Blk.new w _ _, HF.out⟩
  case round =>
    obtain ⟨k, hk, rfl, rfl, hb, hS, hfr⟩ := hrel
    by_cases hlt : k < R.last.length
    · have e0 : decide ((k : Int) < (R.last.length : Int)) = true := by simp; omega
      rcases hrow with ⟨rfl, h0⟩ | ⟨fb, cur, rfl, _⟩
      · omega
      have hRw := h.below hb
      have r0 : wr.cell? ⟨fb, k * 2, none⟩ = some (.int .u64 (R.last[k].lo.toNat : Int)) := by rw [ownsRow_cell hRw.las _ (by omega), setsC_get0 _ k hlt]
      have r1 : wr.cell? ⟨fb, k * 2 + 1, none⟩ = some (.int .u64 (R.last[k].hi.toNat : Int)) := by rw [ownsRow_cell hRw.las _ (by omega), setsC_get1 _ k hlt]
      have i0 : (0 : Int) ≤ (k : Int) := by omega
      have i1 : (k : Int) < (R.last.length : Int) := by omega
      have s0 : wr.cell? ⟨w.heap.size, 0, none⟩ = some (.int .u64 (s.lo.toNat : Int)) := hS.cell 0
      have s1 : wr.cell? ⟨w.heap.size, 1, none⟩ = some (.int .u64 (s.hi.toNat : Int)) := hS.cell 1
      have zs0 : w.heap.size < wr.heap.size := hS.lt
      have HH : Hid (Below w.heap.size w wr ∧ Blk wr w.heap.size (setC s) 139 ∧ ruleFrom s k (R.last.drop k) = F) := ⟨hb, hS, hfr⟩
      clear hb hS hRw h cg hfr HF
      go_wp2_with fail
      refine (meets_any s R.last[k] _).mono ?_
      rintro e w1 ⟨rfl, hb1⟩
      obtain ⟨hb, hS, hfr⟩ := HH.out
      have hS1 := (hS.alloc (.cells (setC R.last[k]) 139)).below hb1
      have hbb := (hb.alloc (by omega) (.cells (setC R.last[k]) 139)).trans (hb1.mono (by simp; omega))
      rw [ruleFrom_drop s _ k hlt] at hfr
      clear hb hS HH
      cases hh : s.meets R.last[k] with
      | false =>
        rw [hh, if_neg (by simp)] at hfr
        have HH : Hid (Below w.heap.size w w1 ∧ Blk w1 w.heap.size (setC s) 139 ∧ ruleFrom s (k + 1) (R.last.drop (k + 1)) = F) := ⟨hbb, hS1, hfr⟩
        clear hbb hS1 hfr hb1 hh
        go_wp2_with fail
        go_roundg (R.last.length - (k + 1))
        case measure => omega
        case rel =>
          obtain ⟨q1, q2, q3⟩ := HH.out
          exact ⟨k + 1, by omega, rfl, by go_num, q1, q2, q3⟩
      | true =>
        rw [hh, if_pos rfl] at hfr
        subst hfr
        have HH : Hid (Below w.heap.size w w1) := hbb
        clear hbb hS1 hb1 hh
        go_wp2_with fail
        go_ret
        exact ⟨rfl, HH.out⟩
    · have e0 : decide ((k : Int) < (R.last.length : Int)) = false := by simp; omega
      rw [List.drop_of_length_le (by omega)] at hfr
      have hfe : F = -1 := hfr.symm
      subst hfe
      clear hfr HF
      go_wp2_with fail
      go_ret
      exact ⟨rfl, hb⟩
end Go.Proofs.Ytmgpdaemcbbikaa
