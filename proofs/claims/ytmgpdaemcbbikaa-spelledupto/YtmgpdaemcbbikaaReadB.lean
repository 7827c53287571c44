import Derived.Test.YtmgpdaemcbbikaaReadA
import Derived.Test.YtmgpdaemcbbikaaBools
namespace Go.Proofs.Ytmgpdaemcbbikaa
open Go.RowKit Go.Deep
set_option linter.unusedVariables false

theorem Rd.setM {w : World} {rb : Nat} {s : ByteArray} {p gb : Nat} (h : Rd w rb s p gb) (h1 : 1 ≤ p) : Rd (w.setCell ⟨rb, 1, none⟩ (.int .i64 ((p : Int) - 1))) rb s (p - 1) gb := by
  have := h.set (p - 1)
  rwa [show (((p - 1 : Nat) : Int)) = (p : Int) - 1 from by omega] at this

set_option maxHeartbeats 800000 in
theorem member_any (s : ByteArray) (p rb gb : Nat) (w : World) (hr : Rd w rb s p gb) (hs : s.size ≤ 120) (hp : p ≤ s.size) :
    Calls Try.prog 159 #[.pointer (some ⟨rb, 0, none⟩)] w fun e w' =>
      e = .returned (.tuple #[.int .i64 (memberF s p).1, .int .i64 (memberF s p).2.1, .bool (memberF s p).2.2.1]) ∧ Rd w' rb s (memberF s p).2.2.2 gb ∧ Kept (· = rb) w w' := by
  have hK : Kept (· = rb) w w := Kept.refl _ _
  have hI1 := item_any s p rb gb w hr hs (by omega)
  have hpos := itemF_pos s p hp
  unfold memberF
  rcases hI : itemF s p with ⟨lo, ok, q⟩
  rw [hI] at hI1 hpos
  simp only at hI1 hpos ⊢
  have HI1 := hide hI1
  clear hI1 hI
  cases ok with
  | false =>
    rw [if_pos (Or.inl rfl)]
    go_enter Try.func159, Try.ntmps159
    go_wp2_with fail
    refine (unhide HI1).mono ?_
    rintro e w1 ⟨rfl, hr1, hk1⟩
    have HH : Hid (Rd w1 rb s q gb ∧ Kept (· = rb) w w1) := ⟨hr1, hk1⟩
    clear hr1 hk1
    go_wp2_with fail
    go_ret3
    exact ⟨rfl, HH.out.1, HH.out.2⟩
  | true =>
    by_cases h45 : peekI s q = 45
    · rw [if_neg (by simp [h45])]
      have hq : q < s.size := peekI_in (by rw [h45]; decide)
      have hpos2 := itemF_pos s (q + 1) (by omega)
      rcases hI : itemF s (q + 1) with ⟨hi, ok2, q2⟩
      rw [hI] at hpos2
      simp only at hpos2 ⊢
      have hI2 : ∀ W, Rd W rb s (q + 1) gb → _ := fun W h => item_any s (q + 1) rb gb W h hs (by omega)
      rw [hI] at hI2
      have HI2 := hide hI2
      clear hI2 hI
      by_cases hlt : ok2 = true ∧ hi < lo
      · rw [if_pos hlt]
        obtain ⟨rfl, hlt⟩ := hlt
        go_enter Try.func159, Try.ntmps159
        go_wp2_with fail
        refine (unhide HI1).mono ?_
        rintro e w1 ⟨rfl, hr1, hk1⟩
        have c1 := hr1.c1
        have f1 := hr1.f1
        go_wp2_with fail
        refine (peek_any s q rb gb _ hr1 hs (by omega)).mono ?_
        rintro e w2 ⟨rfl, n, rfl⟩
        rw [h45]
        go_wp2_with fail
        refine ((unhide HI2) _ (hr1.drewN n).set1).mono ?_
        rintro e w2 ⟨rfl, hr2, hk2⟩
        have c2 := hr2.c1
        have f2 := hr2.f1
        go_wp2_with fail
        go_ret3
        exact ⟨rfl, hr2.setM (by omega), (((hk1.drewN n).setCell (fun _ => rfl) _).trans' hk2).setCell (fun _ => rfl) _⟩
      · rw [if_neg hlt]
        cases ok2 with
        | false =>
          go_enter Try.func159, Try.ntmps159
          go_wp2_with fail
          refine (unhide HI1).mono ?_
          rintro e w1 ⟨rfl, hr1, hk1⟩
          have c1 := hr1.c1
          have f1 := hr1.f1
          go_wp2_with fail
          refine (peek_any s q rb gb _ hr1 hs (by omega)).mono ?_
          rintro e w2 ⟨rfl, n, rfl⟩
          rw [h45]
          go_wp2_with fail
          refine ((unhide HI2) _ (hr1.drewN n).set1).mono ?_
          rintro e w2 ⟨rfl, hr2, hk2⟩
          go_wp2_with fail
          go_ret3
          exact ⟨rfl, hr2, ((hk1.drewN n).setCell (fun _ => rfl) _).trans' hk2⟩
        | true =>
          have hge : ¬ hi < lo := fun e => hlt ⟨rfl, e⟩
          clear hlt
          go_enter Try.func159, Try.ntmps159
          go_wp2_with fail
          refine (unhide HI1).mono ?_
          rintro e w1 ⟨rfl, hr1, hk1⟩
          have c1 := hr1.c1
          have f1 := hr1.f1
          go_wp2_with fail
          refine (peek_any s q rb gb _ hr1 hs (by omega)).mono ?_
          rintro e w2 ⟨rfl, n, rfl⟩
          rw [h45]
          go_wp2_with fail
          refine ((unhide HI2) _ (hr1.drewN n).set1).mono ?_
          rintro e w2 ⟨rfl, hr2, hk2⟩
          go_wp2_with fail
          go_ret3
          exact ⟨rfl, hr2, ((hk1.drewN n).setCell (fun _ => rfl) _).trans' hk2⟩
    · rw [if_pos (Or.inr h45)]
      have e1 : (peekI s q != 45) = true := by simp [h45]
      go_enter Try.func159, Try.ntmps159
      go_wp2_with fail
      refine (unhide HI1).mono ?_
      rintro e w1 ⟨rfl, hr1, hk1⟩
      go_wp2_with fail
      refine (peek_any s q rb gb _ hr1 hs (by omega)).mono ?_
      rintro e w2 ⟨rfl, n, rfl⟩
      have HH : Hid (Rd w1 rb s q gb ∧ Kept (· = rb) w w1) := ⟨hr1, hk1⟩
      clear hr1 hk1
      go_wp2_with fail
      go_ret3
      exact ⟨rfl, HH.out.1.drewN n, HH.out.2.drewN n⟩
end Go.Proofs.Ytmgpdaemcbbikaa
