import Derived.Test.YtmgpdaemcbbikaaRules
import Derived.Test.YtmgpdaemcbbikaaKept2
import Derived.Test.YtmgpdaemcbbikaaPlainStates
namespace Go.Proofs.Ytmgpdaemcbbikaa
open Go.RowKit Go.Deep
set_option linter.unusedVariables false

theorem SetRow.below {w w' : World} {v : Value} {l : List PSet} (h : SetRow w v l) (k : Below w.heap.size w w') : SetRow w' v l := ownsRow_kept (ex := fun _ => False) h (Kept.ofBelow k) (fun _ _ e => e)

set_option maxHeartbeats 1600000 in
theorem find_any (v : Value) (l : List PSet) (s : PSet) (w : World) (h : SetRow w v l) (hl : l.length ≤ 1000) :
    Calls Try.prog 103 #[v, setV s] w fun e w' => e = .returned (.int .i64 (findF l s)) ∧ Below w.heap.size w w' := by
  obtain ⟨_, ad, cap, rfl, hrow⟩ := ownsRow_form h
  unfold findF
  cases he : s.isEmpty with
  | true =>
    rw [if_pos rfl]
    go_enter Try.func103, Try.ntmps103
    go_wp2_with fail
    refine (empty_any s _).mono ?_
    rintro e w1 ⟨rfl, hb1⟩
    rw [he]
    go_wp2_with fail
    go_ret
    exact ⟨rfl, (Below1 w _).trans (hb1.mono (by simp))⟩
  | false =>
    rw [if_neg (by simp)]
    generalize hF : idxF l s = F
    have HF := hide hF
    have HR := hide h
    clear hF h
    go_enter Try.func103, Try.ntmps103
    go_wp2_with fail
    refine (empty_any s _).mono ?_
    rintro e w1 ⟨rfl, hb1⟩
    rw [he]
    have HB : Hid (Below w.heap.size w w1 ∧ Blk w1 w.heap.size (setC s) 139) := ⟨(Below1 w _).trans (hb1.mono (by simp)), (Blk.new w _ _).below hb1⟩
    clear hb1
    go_wp2_with fail
    go_loopg [11] l.length (fun g i wr => ∃ k : Nat, k ≤ l.length ∧ g = l.length - k ∧ i = .int .i64 (k : Int) ∧
      Below w.heap.size w wr ∧ Blk wr w.heap.size (setC s) 139 ∧ k + idxF (l.drop k) s = F)
    case atStart =>
      obtain ⟨q1, q2⟩ := HB.out
      exact ⟨0, by omega, rfl, rfl, q1, q2, by simpa using HF.out⟩
    case round =>
      obtain ⟨k, hk, rfl, rfl, hb, hS, hfr⟩ := hrel
      clear HB HF
      by_cases hlt : k < l.length
      · have e0 : decide ((k : Int) < (l.length : Int)) = true := by simp; omega
        rcases hrow with ⟨rfl, h0⟩ | ⟨fb, cur, rfl, _⟩
        · omega
        have hRw := HR.out.below hb
        have r0 : wr.cell? ⟨fb, k * 2, none⟩ = some (.int .u64 (l[k].lo.toNat : Int)) := by rw [ownsRow_cell hRw _ (by omega), setsC_get0 _ k hlt]
        have r1 : wr.cell? ⟨fb, k * 2 + 1, none⟩ = some (.int .u64 (l[k].hi.toNat : Int)) := by rw [ownsRow_cell hRw _ (by omega), setsC_get1 _ k hlt]
        have i0 : (0 : Int) ≤ (k : Int) := by omega
        have i1 : (k : Int) < (l.length : Int) := by omega
        have s0 : wr.cell? ⟨w.heap.size, 0, none⟩ = some (.int .u64 (s.lo.toNat : Int)) := hS.cell 0
        have s1 : wr.cell? ⟨w.heap.size, 1, none⟩ = some (.int .u64 (s.hi.toNat : Int)) := hS.cell 1
        have zs0 : w.heap.size < wr.heap.size := hS.lt
        have HH : Hid (Below w.heap.size w wr ∧ Blk wr w.heap.size (setC s) 139 ∧ k + idxF (l.drop k) s = F) := ⟨hb, hS, hfr⟩
        clear hb hS hRw hfr
        cases hb1 : ((l[k].lo.toNat : Int) == (s.lo.toNat : Int)) with
        | false =>
          have HN := hide (PSet.ne_lo hb1)
          go_wp2_with fail
          go_roundg (l.length - (k + 1))
          case measure => omega
          case rel =>
            obtain ⟨hb, hS, hfr⟩ := HH.out
            rw [idxF_drop l s k hlt, if_neg HN.out] at hfr
            exact ⟨k + 1, by omega, rfl, by go_num, hb.alloc (by omega) _, hS.alloc _, by omega⟩
        | true =>
          cases hb2 : ((l[k].hi.toNat : Int) == (s.hi.toNat : Int)) with
          | false =>
            have HN := hide (PSet.ne_hi hb2)
            go_wp2_with fail
            go_roundg (l.length - (k + 1))
            case measure => omega
            case rel =>
              obtain ⟨hb, hS, hfr⟩ := HH.out
              rw [idxF_drop l s k hlt, if_neg HN.out] at hfr
              exact ⟨k + 1, by omega, rfl, by go_num, hb.alloc (by omega) _, hS.alloc _, by omega⟩
          | true =>
            have hN := PSet.eq_of hb1 hb2
            have hfe : F = k := by
              have hfr := HH.out.2.2
              rw [idxF_drop l s k hlt, if_pos hN] at hfr
              omega
            subst hfe
            clear hN
            go_wp2_with fail
            go_ret
            exact ⟨rfl, HH.out.1.alloc (by omega) _⟩
      · have e0 : decide ((k : Int) < (l.length : Int)) = false := by simp; omega
        rw [List.drop_of_length_le (by omega)] at hfr
        have hfe : F = l.length := by simp [idxF] at hfr; omega
        subst hfe
        clear hfr
        go_wp2_with fail
        go_ret
        exact ⟨rfl, hb⟩
end Go.Proofs.Ytmgpdaemcbbikaa
