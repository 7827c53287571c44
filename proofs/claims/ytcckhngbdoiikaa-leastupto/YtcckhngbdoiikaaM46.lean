import Derived.Test.YtcckhngbdoiikaaM45

namespace Go.Proofs.Ytcckhngbdoiikaa
open Go.RowKit Go.Deep
set_option linter.unusedVariables false

/-- Where the state at a place was before. -/
def wasAt (vis : List Nat) (s : Nat) : Option Nat := (List.range s).find? (fun f => vis.getD f 0 == vis.getD s 0)
/-- Where a state was and where it comes again; 0 and 0, if none does. -/
def repeatF (vis : List Nat) : Nat × Nat := match (List.range vis.length).find? (fun s => (wasAt vis s).isSome) with
  | none => (0, 0)
  | some s => ((wasAt vis s).getD 0, s)
theorem wasAt_lt {vis : List Nat} {s f : Nat} (h : wasAt vis s = some f) : f < s := by
  have := List.mem_of_find?_eq_some h
  simpa using this
theorem repeatF_le (vis : List Nat) (h : 0 < vis.length) : (repeatF vis).1 ≤ (repeatF vis).2 ∧ (repeatF vis).2 < vis.length := by
  unfold repeatF
  split
  · exact ⟨Nat.le_refl _, h⟩
  · rename_i s hs
    have h1 := List.mem_of_find?_eq_some hs
    have h2 : s < vis.length := by simpa using h1
    refine ⟨?_, h2⟩
    cases hw : wasAt vis s with
    | none => simp
    | some f => have := wasAt_lt hw; simp; omega

set_option maxRecDepth 20000 in
set_option maxHeartbeats 1600000 in
theorem repeat_any (vis : List Nat) (v : Value) (w : World) (h : IRow w v (natsI vis)) (hl : vis.length ≤ 200000) :
    Calls Try.prog 125 #[v] w fun e w' => e = .returned (.tuple #[.int .i64 ((repeatF vis).1 : Int), .int .i64 ((repeatF vis).2 : Int)]) ∧ Below w.heap.size w w' := by
  obtain ⟨vd, vcap, rfl, hvrow⟩ := h.formN
  have HV := hide h
  clear h
  go_enter Try.func125, Try.ntmps125
  go_wp2_with fail
  go_loopg [10] vis.length (fun G sv wr => ∃ s : Nat, sv = .int .i64 (s : Int) ∧ s ≤ vis.length ∧ G = vis.length - s ∧ wr = w ∧ ∀ j, j < s → wasAt vis j = none)
  case atStart => exact ⟨0, rfl, by omega, rfl, rfl, fun j hj => by omega⟩
  case round =>
    obtain ⟨s, rfl, hs, rfl, rfl, hno⟩ := hrel
    have HNO := hide hno
    clear hno
    by_cases hlt : s < vis.length
    · have e0 : decide ((s : Int) < (vis.length : Int)) = true := by simp; omega
      rcases hvrow with h9 | ⟨vg, rfl⟩
      · omega
      have c0 := HV.out.cellN s hlt
      have s0 : (0 : Int) ≤ (s : Int) := by omega
      have s1 : (s : Int) < (vis.length : Int) := by omega
      have hcap : vis.length ≤ vcap := by
        obtain ⟨_, ad9, cap9, e9, ⟨h1, h2⟩ | ⟨g9, cur9, h1, h2, h3, _⟩⟩ := ownsRow_form HV.out
        · rw [natsI_len] at h2; omega
        · rw [natsI_len] at h3
          injection e9 with e1 e2 e3
          omega
      have s2 : (s : Int) ≤ (vcap : Int) := by omega
      obtain ⟨vs, hvs⟩ : ∃ vs, vis.getD s 0 = vs := ⟨_, rfl⟩
      rw [hvs] at c0
      have HVS := hide hvs
      clear hcap hvs
      go_wp2_with fail
      go_loopg [19] s (fun G fv wi => ∃ f : Nat, fv = .int .i64 (f : Int) ∧ f ≤ s ∧ G = s - f ∧ wi = wr ∧ ∀ j, j < f → vis.getD j 0 ≠ vis.getD s 0)
      case atStart => exact ⟨0, rfl, by omega, rfl, rfl, fun j hj => by omega⟩
      case round =>
        obtain ⟨f, rfl, hf, rfl, rfl, hnf⟩ := hrel
        have HNF := hide hnf
        clear hnf
        by_cases hfl : f < s
        · have e1 : decide ((f : Int) < (s : Int)) = true := by simp; omega
          have c1 := HV.out.cellN f (by omega)
          have f0 : (0 : Int) ≤ (f : Int) := by omega
          have f1 : (f : Int) < (s : Int) := by omega
          obtain ⟨vf, hvf⟩ : ∃ vf, vis.getD f 0 = vf := ⟨_, rfl⟩
          rw [hvf] at c1
          have HVF := hide hvf
          clear hvf
          by_cases heq : vf = vs
          · have e2 : ((vf : Int) == (vs : Int)) = true := by rw [heq]; simp
            have hwas : wasAt vis s = some f := by
              unfold wasAt
              rw [List.find?_range_eq_some]
              exact ⟨by rw [HVF.out, HVS.out, heq]; simp, by simpa using hfl, fun j hj => by simpa using HNF.out j hj⟩
            have hrep : repeatF vis = (f, s) := by
              have h9 : (List.range vis.length).find? (fun s => (wasAt vis s).isSome) = some s := by
                rw [List.find?_range_eq_some]
                exact ⟨by rw [hwas]; rfl, by simpa using hlt, fun j hj => by rw [HNO.out j hj]; rfl⟩
              unfold repeatF
              rw [h9]
              simp [hwas]
            have HREP := hide hrep
            clear hwas hrep
            subst heq
            go_wp2_with fail
            go_ret2
            exact ⟨by rw [HREP.out]; rfl, Below.refl _ _⟩
          · have e2 : ((vf : Int) == (vs : Int)) = false := by
              rw [beq_eq_false_iff_ne]
              intro e
              exact heq (by omega)
            have HEQ := hide heq
            go_wp2_with fail
            go_roundg (s - (f + 1))
            case measure => omega
            case rel =>
              refine ⟨f + 1, by go_num, by omega, rfl, rfl, fun j hj => ?_⟩
              by_cases e : j < f
              · exact HNF.out j e
              · rw [show j = f by omega, HVF.out, HVS.out]; exact HEQ.out
        · have e1 : decide ((f : Int) < (s : Int)) = false := by simp; omega
          obtain rfl : f = s := by omega
          go_wp2_with fail
          go_roundg (vis.length - (f + 1))
          case measure => omega
          case rel =>
            refine ⟨f + 1, by go_num, by omega, rfl, rfl, fun j hj => ?_⟩
            by_cases e : j < f
            · exact HNO.out j e
            · rw [show j = f by omega]
              unfold wasAt
              rw [List.find?_range_eq_none]
              intro i hi
              simpa using HNF.out i hi
    · have e0 : decide ((s : Int) < (vis.length : Int)) = false := by simp; omega
      obtain rfl : s = vis.length := by omega
      have hrep : repeatF vis = (0, 0) := by
        have h9 : (List.range vis.length).find? (fun s => (wasAt vis s).isSome) = none := by
          rw [List.find?_range_eq_none]
          intro i hi
          rw [HNO.out i hi]; rfl
        unfold repeatF
        rw [h9]
      have HREP := hide hrep
      clear hrep
      go_wp2_with fail
      go_ret2
      exact ⟨by rw [HREP.out]; rfl, Below.refl _ _⟩
end Go.Proofs.Ytcckhngbdoiikaa
