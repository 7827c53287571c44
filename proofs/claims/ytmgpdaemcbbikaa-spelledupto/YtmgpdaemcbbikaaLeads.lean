import Derived.Test.YtmgpdaemcbbikaaRowsI
namespace Go.Proofs.Ytmgpdaemcbbikaa
open Go.RowKit Go.Deep
set_option linter.unusedVariables false

/-- Every entry of a row is -1 or a node's number. -/
def RowOk (n : Nat) (row : List Int) : Prop := ∀ to ∈ row, to = -1 ∨ (0 ≤ to ∧ to < (n : Int))

set_option maxHeartbeats 1600000 in
theorem leads_any (rv mv : Value) (row : List Int) (marked : List Bool) (w : World) (hr : IRow w rv row) (hm : BRow w mv marked) (hl : row.length ≤ 1000) (hml : marked.length ≤ 1000) (hok : RowOk marked.length row) :
    Calls Try.prog 134 #[rv, mv] w fun e w' => e = .returned (.bool (leadsF row marked)) ∧ w' = w := by
  obtain ⟨ad, cap, rfl, hrow⟩ := hr.form
  obtain ⟨md, mcap, rfl, hmrow⟩ := hm.form
  generalize hF : leadsF row marked = F
  unfold leadsF at hF
  have HF := hide hF
  clear hF
  go_enter Try.func134, Try.ntmps134
  go_wp2_with fail
  go_loopg [9] row.length (fun g i wr => ∃ k : Nat, k ≤ row.length ∧ g = row.length - k ∧ i = .int .i64 (k : Int) ∧ wr = w ∧ (row.drop k).any (fun to => to != -1 && marked.getD to.toNat false) = F)
  case atStart => exact ⟨0, by omega, rfl, rfl, rfl, by simpa using HF.out⟩
  case round =>
    obtain ⟨k, hk, rfl, rfl, rfl, hfr⟩ := hrel
    clear HF
    by_cases hlt : k < row.length
    · have e0 : decide ((k : Int) < (row.length : Int)) = true := by simp; omega
      rcases hrow with h0 | ⟨g, rfl⟩
      · omega
      have r0 := hr.cell k hlt
      have i0 : (0 : Int) ≤ (k : Int) := by omega
      have i1 : (k : Int) < (row.length : Int) := by omega
      rw [List.drop_eq_getElem_cons hlt, List.any_cons] at hfr
      have hto := hok row[k] (List.getElem_mem hlt)
      generalize row[k] = to at r0 hfr hto
      by_cases hn : to = -1
      · subst hn
        have HFR := hide hfr
        clear hfr hto
        go_wp2_with fail
        go_roundg (row.length - (k + 1))
        case measure => omega
        case rel => exact ⟨k + 1, by omega, rfl, by go_num, rfl, by simpa using HFR.out⟩
      · have e1 : (to != -1) = true := by simp [hn]
        obtain ⟨j, rfl⟩ : ∃ j : Nat, to = (j : Int) := ⟨to.toNat, by omega⟩
        have hj : j < marked.length := by omega
        rcases hmrow with h0 | ⟨mg, rfl⟩
        · omega
        have m0 := hm.cell j hj
        have j0 : (0 : Int) ≤ (j : Int) := by omega
        have j1 : (j : Int) < (marked.length : Int) := by omega
        have hgd : marked.getD j false = marked[j] := by simp [hj]
        simp only [Int.toNat_natCast, hgd, e1, Bool.true_and] at hfr
        cases hb : marked[j] with
        | true =>
          rw [hb] at hfr m0
          have hfe : F = true := by simpa using hfr.symm
          subst hfe
          clear hfr hgd hb hto hn
          go_wp2_with fail
          go_ret
          exact ⟨rfl, rfl⟩
        | false =>
          rw [hb] at hfr m0
          have HFR := hide hfr
          clear hfr hgd hb hto hn
          go_wp2_with fail
          go_roundg (row.length - (k + 1))
          case measure => omega
          case rel => exact ⟨k + 1, by omega, rfl, by go_num, rfl, by simpa using HFR.out⟩
    · have e0 : decide ((k : Int) < (row.length : Int)) = false := by simp; omega
      rw [List.drop_of_length_le (by omega)] at hfr
      have hfe : F = false := by simpa using hfr.symm
      subst hfe
      clear hfr
      go_wp2_with fail
      go_ret
      exact ⟨rfl, rfl⟩
end Go.Proofs.Ytmgpdaemcbbikaa
