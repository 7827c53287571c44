import Derived.Test.YtmgpdaemcbbikaaReadA
namespace Go.Proofs.Ytmgpdaemcbbikaa
open Go.RowKit Go.Deep
set_option linter.unusedVariables false
/-- pick: a number below n, of any number. -/
def pickF (i : Int) (n : Nat) : Nat := ((if i < 0 then -(i + 1) else i) % (n : Int)).toNat
theorem pick_any (i : Int) (n : Nat) (hi : -9223372036854775808 ≤ i ∧ i ≤ 9223372036854775807) (hn : 0 < n) (hn2 : n ≤ 1000000) (w : World) :
    Calls Try.prog 16 #[.int .i64 i, .int .i64 (n : Int)] w fun e w' => e = .returned (.int .i64 (pickF i n : Int)) ∧ w' = w := by
  have hnz : ((n : Int) == 0) = false := by simp; omega
  have hr : 0 ≤ (if i < 0 then -(i + 1) else i) % (n : Int) := Int.emod_nonneg _ (by omega)
  have hp : ((pickF i n : Nat) : Int) = (if i < 0 then -(i + 1) else i) % (n : Int) := by unfold pickF; omega
  by_cases h0 : i < 0
  · have e0 : decide (i < 0) = true := by simp [h0]
    rw [if_pos h0] at hp hr
    have ht : -(i + 1).tmod (n : Int) = (pickF i n : Int) := by rw [hp, ← Int.neg_tmod, Int.tmod_eq_emod_of_nonneg (by omega)]
    have HP := hide ht
    clear hp ht
    go_enter Try.func16, Try.ntmps16
    go_wp2_with fail
    rw [HP.out]
    go_ret
    exact ⟨rfl, rfl⟩
  · have e0 : decide (i < 0) = false := by simp; omega
    rw [if_neg h0] at hp hr
    have HP := hide hp
    clear hp
    go_enter Try.func16, Try.ntmps16
    go_wp2_with fail
    rw [← HP.out]
    go_ret
    exact ⟨rfl, rfl⟩
theorem pickF_lt (i : Int) (n : Nat) (hn : 0 < n) : pickF i n < n := by
  unfold pickF
  have h1 := Int.emod_nonneg (if i < 0 then -(i + 1) else i) (show (n : Int) ≠ 0 by omega)
  have h2 := Int.emod_lt_of_pos (if i < 0 then -(i + 1) else i) (show (0 : Int) < n by omega)
  omega
end Go.Proofs.Ytmgpdaemcbbikaa
