import Derived.Test.YtmgpdaemcbbikaaNew
import Derived.Test.YtmgpdaemcbbikaaPickN
namespace Go.Proofs.Ytmgpdaemcbbikaa
open Go.RowKit Go.Deep
set_option linter.unusedVariables false
abbrev sureText : ByteArray := ⟨#[97, 124, 97, 98, 99]⟩
def lenOf : NewT → Nat
  | .bad _ _ => 0
  | .lexer _ g => g.rule.length
theorem sureLen : lenOf (newF sureText) = 4 := by kernel_rfl
theorem sureNew : ∃ kd g, newF sureText = .lexer kd g ∧ g.rule.length = 4 := by
  have h := sureLen
  generalize newF sureText = X at h ⊢
  cases X with
  | bad e a => simp [lenOf] at h
  | lexer kd g => exact ⟨kd, g, rfl, h⟩

set_option maxHeartbeats 800000 in
theorem sure_any (w : World) : Calls Try.prog 14 #[] w fun e w' => e = .returned (.bool true) ∧ Below w.heap.size w w' := by
  obtain ⟨kd, g, hn, hg⟩ := sureNew
  have HN := hide hn
  have HG := hide hg
  have HC := hide (new_any sureText (by decide) w)
  clear hn hg
  go_enter Try.func14, Try.ntmps14
  go_wp2_with fail
  refine HC.out.mono ?_
  rw [HN.out]
  rintro e w1 ⟨hb1, pb, rfl, hL⟩
  have HS := hide (states_any pb kd g w1 hL)
  have HB := hide hb1
  clear hL hb1
  go_wp2_with fail
  refine HS.out.mono ?_
  rintro e w2 ⟨rfl, rfl⟩
  rw [HG.out]
  go_wp2_with fail
  go_ret
  exact ⟨rfl, HB.out⟩

end Go.Proofs.Ytmgpdaemcbbikaa
