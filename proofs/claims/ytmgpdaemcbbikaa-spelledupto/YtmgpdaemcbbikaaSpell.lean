import Derived.Test.YtmgpdaemcbbikaaPlainSpell
namespace Go.Proofs.Ytmgpdaemcbbikaa
open Go.RowKit Go.Deep
set_option linter.unusedVariables false

theorem Below4 {w w1 w2 w3 w4 : World} (h1 : Below w.heap.size w w1) (h2 : Below w1.heap.size w1 w2) (h3 : Below w2.heap.size w2 w3) (h4 : Below w3.heap.size w3 w4) : Below w.heap.size w w4 := by
  have z1 := h1.size
  have z2 := h2.size
  have z3 := h3.size
  exact ((h1.trans (h2.mono z1)).trans (h3.mono (by omega))).trans (h4.mono (by omega))

set_option maxRecDepth 20000 in
set_option maxHeartbeats 3200000 in
theorem spelled_any (text other : ByteArray) (cut : Int) (ht : text.size ≤ 140737488355328) (ho : other.size ≤ 140737488355328) (hc : -9223372036854775808 ≤ cut ∧ cut ≤ 9223372036854775807) (w : World) :
    Calls Try.prog 4 #[.string text, .string other, .int .i64 cut] w fun e w' => e = .returned (.bool true) ∧ Below w.heap.size w w' := by
  have HSU := hide (sure_any w)
  have HNE := hide (fun (s : ByteArray) (hs : s.size ≤ 140737488355328 + 200) (W : World) => new_any s (by unfold maxLen; omega) W)
  by_cases hl : 120 < text.size
  · have hX : newF text = .bad 1 0 := by unfold newF; rw [if_pos hl]
    have HX := hide hX
    have e1 : decide ((120 : Int) < (text.size : Int)) = true := by simp; omega
    clear hX
    go_enter Try.func4, Try.ntmps4
    go_wp2_with fail
    refine HSU.out.mono ?_
    rintro e w1 ⟨rfl, hb1⟩
    have HB1 := hide hb1
    clear hb1
    go_wp2_with fail
    refine (HNE.out text (by omega) w1).mono ?_
    rw [HX.out]
    rintro e w2 ⟨hb2, rfl⟩
    go_wp2_with fail
    go_ret
    exact ⟨rfl, HB1.out.trans (hb2.mono HB1.out.size)⟩
  · have e1 : decide ((120 : Int) < (text.size : Int)) = false := by simp; omega
    have hgd := allF_good text
    have hno := newF_of (s := text) (by omega)
    have hbe := fun n (hn : n ≤ text.size) => newF_begin (s := text) (n := n) (by omega) hn
    have hbh := newF_behind (s := text) (u := other)
    generalize allF text = F at hgd hno hbe hbh
    obtain ⟨ok, p, R⟩ := F
    simp only at hgd hno hbe hbh
    cases ok with
    | false =>
      have hX := hno.1 rfl
      have HX := hide hX
      have HBE := hide (hbe p hgd.1 (.inr (Nat.le_refl _)))
      have HBH := hide (hbh rfl)
      have hp := hgd.1
      clear hX hno hbe hbh hgd
      have e2 : decide ((p : Int) < 0) = false := by simp
      have e3 : decide ((text.size : Int) < (p : Int)) = false := by simp; omega
      have e5 : ∃ b, ((p : Int) != 0) = b := ⟨_, rfl⟩
      obtain ⟨b5, e5⟩ := e5
      by_cases hpe : p = text.size
      · have e4 : ((p : Int) == (text.size : Int)) = true := by simp [hpe]
        clear hpe
        go_enter Try.func4, Try.ntmps4
        go_wp2_with fail
        refine HSU.out.mono ?_
        rintro e w1 ⟨rfl, hb1⟩
        have HB1 := hide hb1
        clear hb1
        go_wp2_with fail
        refine (HNE.out text (by omega) w1).mono ?_
        rw [HX.out]
        rintro e w2 ⟨hb2, rfl⟩
        have HB2 := hide hb2
        clear hb2
        cases b5 <;>
          (go_wp2_with fail
           go_ret
           exact ⟨rfl, HB1.out.trans (HB2.out.mono HB1.out.size)⟩)
      · have hlt : p < text.size := by omega
        have e4 : ((p : Int) == (text.size : Int)) = false := by simp; omega
        clear hpe
        go_enter Try.func4, Try.ntmps4
        go_wp2_with fail
        refine HSU.out.mono ?_
        rintro e w1 ⟨rfl, hb1⟩
        have HB1 := hide hb1
        clear hb1
        go_wp2_with fail
        refine (HNE.out text (by omega) w1).mono ?_
        rw [HX.out]
        rintro e w2 ⟨hb2, rfl⟩
        have HB2 := hide hb2
        clear hb2
        have hI0 : (0 : Int) ≤ (p : Int) + 1 := by omega
        have hI1 : (p : Int) + 1 ≤ (text.size : Int) := by omega
        have hI2 : (p : Int) ≤ (text.size : Int) := by omega
        have hI3 : (0 : Int) ≤ (p : Int) := by omega
        have hT : (text.extract 0 (p + 1) ++ other).size ≤ 140737488355328 + 200 := by rw [ByteArray.size_append, extract_size (by omega)]; omega
        have hU : (text.extract 0 p).size ≤ 140737488355328 + 200 := by rw [extract_size (by omega)]; omega
        have HT := hide hT
        have HU := hide hU
        have hbh := HBH.out hlt
        clear hT hU
        by_cases hbig : 120 < p + 1 + other.size
        · rw [if_pos hbig] at hbh
          have e6 : decide ((120 : Int) < (p : Int) + 1 + (other.size : Int)) = true := by simp; omega
          have HT2 := hide hbh
          clear hbh hbig
          cases b5 <;> rcases HBE.out with hz | hz | ⟨kd, g, hz⟩
          all_goals
            have HZ := hide hz
            clear hz
            go_wp2_with fail
            refine (HNE.out _ HT.out w2).mono ?_
            rw [HT2.out]
            rintro e w3 ⟨hb3, rfl⟩
            have HB3 := hide hb3
            clear hb3
            go_wp2_with fail
            refine (HNE.out _ HU.out w3).mono ?_
            rw [HZ.out]
            first
            | (rintro e w4 ⟨hb4, rfl⟩)
            | (rintro e w4 ⟨hb4, pb, rfl, hL⟩; clear hL)
            have HB4 := hide hb4
            clear hb4
            go_wp2_with fail
            go_ret
            exact ⟨rfl, Below4 HB1.out HB2.out HB3.out HB4.out⟩
        · rw [if_neg hbig] at hbh
          have e6 : decide ((120 : Int) < (p : Int) + 1 + (other.size : Int)) = false := by simp; omega
          have HT2 := hide hbh
          clear hbh hbig
          cases b5 <;> rcases HBE.out with hz | hz | ⟨kd, g, hz⟩
          all_goals
            have HZ := hide hz
            clear hz
            go_wp2_with fail
            refine (HNE.out _ HT.out w2).mono ?_
            rw [HT2.out]
            rintro e w3 ⟨hb3, rfl⟩
            have HB3 := hide hb3
            clear hb3
            go_wp2_with fail
            refine (HNE.out _ HU.out w3).mono ?_
            rw [HZ.out]
            first
            | (rintro e w4 ⟨hb4, rfl⟩)
            | (rintro e w4 ⟨hb4, pb, rfl, hL⟩; clear hL)
            have HB4 := hide hb4
            clear hb4
            go_wp2_with fail
            go_ret
            exact ⟨rfl, Below4 HB1.out HB2.out HB3.out HB4.out⟩
    | true =>
      have hX := hno.2 rfl
      have hlen1 : 0 < text.size + 1 := by omega
      have hpk := pickF_lt cut (text.size + 1) hlen1
      have HPK := hide (fun W => pick_any cut (text.size + 1) hc hlen1 (by omega) W)
      generalize pickF cut (text.size + 1) = n at hpk HPK
      have HBE := hide (hbe n (by omega) (.inl rfl))
      have hI2 : (n : Int) ≤ (text.size : Int) := by omega
      have hI3 : (0 : Int) ≤ (n : Int) := by omega
      have hU : (text.extract 0 n).size ≤ 140737488355328 + 200 := by rw [extract_size (by omega)]; omega
      have HU := hide hU
      clear hno hbe hbh hgd hU
      rcases hX with hX | ⟨kd1, g1, hX⟩ <;> rcases HBE.out with hz | hz | ⟨kd, g, hz⟩
      all_goals
        have HX := hide hX
        have HZ := hide hz
        clear hX hz
        go_enter Try.func4, Try.ntmps4
        go_wp2_with fail
        refine HSU.out.mono ?_
        rintro e w1 ⟨rfl, hb1⟩
        have HB1 := hide hb1
        clear hb1
        go_wp2_with fail
        refine (HNE.out text (by omega) w1).mono ?_
        rw [HX.out]
        first
        | (rintro e w2 ⟨hb2, rfl⟩)
        | (rintro e w2 ⟨hb2, pb1, rfl, hL1⟩; clear hL1)
        have HB2 := hide hb2
        clear hb2
        go_wp2_with fail
        refine (HPK.out w2).mono ?_
        rintro e w3 ⟨rfl, rfl⟩
        go_wp2_with fail
        refine (HNE.out _ HU.out w3).mono ?_
        rw [HZ.out]
        first
        | (rintro e w4 ⟨hb4, rfl⟩)
        | (rintro e w4 ⟨hb4, pb, rfl, hL⟩; clear hL)
        have HB4 := hide hb4
        clear hb4
        go_wp2_with fail
        go_ret
        exact ⟨rfl, Below4 HB1.out HB2.out (Below.refl _ _) HB4.out⟩
end Go.Proofs.Ytmgpdaemcbbikaa
