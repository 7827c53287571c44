import Derived.Test.YtmgpdaemcbbikaaC33
import Derived.Test.YtmgpdaemcbbikaaC32
import Derived.Test.YtmgpdaemcbbikaaC29

namespace Go.Proofs.Ytmgpdaemcbbikaa
open Go.RowKit Go.Deep
set_option linter.unusedVariables false

set_option maxHeartbeats 1600000 in
/-- The lexer of some rules, where the reading goes as it must. -/
theorem given_any (all : List NodeT) (tops : List Nat) (av tv : Value) (w : World) (ha : NodeRow w av all) (ht : IRow w tv (natsI tops)) (hs : SpellOk all tops)
    (hg : (newF (spellK all tops tops.length).1 = .bad 1 0 ∧ 120 < (spellK all tops tops.length).1.size) ∨ (newF (spellK all tops tops.length).1 = .bad 3 0 ∧ (spellK all tops tops.length).1.size ≤ 120 ∧ 5 < (spellK all tops tops.length).2) ∨ ((spellK all tops tops.length).1.size ≤ 120 ∧ ∃ kd g, newF (spellK all tops tops.length).1 = .lexer kd g)) :
    Calls Try.prog 22 #[.agg #[av, tv]] w fun e w' => Below w.heap.size w w' ∧
      ((∃ kd g pb, newF (spellK all tops tops.length).1 = .lexer kd g ∧ e = .returned (.tuple #[.pointer (some ⟨pb, 0, none⟩), .bool true]) ∧ LexAt w' pb kd g) ∨ e = .returned (.tuple #[.pointer none, .bool true])) := by
  have HSP := hide (spelling_any all tops av tv (w.alloc (.cells #[av, tv] 42)) (ha.below (Below1 _ _)) (ht.below (Below1 _ _)) hs)
  have h1 := (hs.size tops.length (Nat.le_refl _)).1
  have h2 := (hs.size tops.length (Nat.le_refl _)).2
  obtain ⟨ad, acap, rfl, _⟩ := ha.form
  obtain ⟨td, tcap, rfl, _⟩ := ht.formN
  generalize spellK all tops tops.length = r at HSP hg h1 h2 ⊢
  obtain ⟨t, n⟩ := r
  simp only at hg h1 h2
  have HNE := hide (fun W => new_any t (by unfold maxLen; omega) W)
  clear ha ht hs
  rcases hg with ⟨hx, hz⟩ | ⟨hx, hz, hn⟩ | ⟨hz, kd, g, hx⟩
  · have e1 : decide ((120 : Int) < (t.size : Int)) = true := by simp; omega
    have HX := hide hx
    clear hx
    go_enter Try.func22, Try.ntmps22
    go_wp2_with fail
    refine HSP.out.mono ?_
    rintro e w1 ⟨rfl, hb1⟩
    have HB1 := hide hb1
    clear hb1
    go_wp2_with fail
    refine (HNE.out _).mono ?_
    rw [HX.out]
    rintro e w2 ⟨hb2, rfl⟩
    have hb : Below w.heap.size w w2 := (Below1 w _).trans ((HB1.out.mono (by simp)).trans (hb2.mono (by have := HB1.out.size; simp at this; omega)))
    have HB := hide hb
    clear hb hb2
    go_wp2_with fail
    go_ret2
    exact ⟨HB.out, .inr rfl⟩
  · have e1 : decide ((120 : Int) < (t.size : Int)) = false := by simp; omega
    have e2 : decide ((5 : Int) < (n : Int)) = true := by simp; omega
    have HX := hide hx
    clear hx
    go_enter Try.func22, Try.ntmps22
    go_wp2_with fail
    refine HSP.out.mono ?_
    rintro e w1 ⟨rfl, hb1⟩
    have HB1 := hide hb1
    clear hb1
    go_wp2_with fail
    refine (HNE.out _).mono ?_
    rw [HX.out]
    rintro e w2 ⟨hb2, rfl⟩
    have hb : Below w.heap.size w w2 := (Below1 w _).trans ((HB1.out.mono (by simp)).trans (hb2.mono (by have := HB1.out.size; simp at this; omega)))
    have HB := hide hb
    clear hb hb2
    go_wp2_with fail
    go_ret2
    exact ⟨HB.out, .inr rfl⟩
  · have e1 : decide ((120 : Int) < (t.size : Int)) = false := by simp; omega
    have HX := hide hx
    go_enter Try.func22, Try.ntmps22
    go_wp2_with fail
    refine HSP.out.mono ?_
    rintro e w1 ⟨rfl, hb1⟩
    have HB1 := hide hb1
    clear hb1
    go_wp2_with fail
    refine (HNE.out _).mono ?_
    rw [HX.out]
    rintro e w2 ⟨hb2, pb, rfl, hL⟩
    have hb : Below w.heap.size w w2 := (Below1 w _).trans ((HB1.out.mono (by simp)).trans (hb2.mono (by have := HB1.out.size; simp at this; omega)))
    have HB := hide hb
    have HL := hide hL
    clear hb hb2 hL hx
    go_wp2_with fail
    go_ret2
    exact ⟨HB.out, .inl ⟨kd, g, pb, HX.out, rfl, HL.out⟩⟩
end Go.Proofs.Ytmgpdaemcbbikaa
