import Derived.Test.YtmgpdaemcbbikaaRules
namespace Go.Proofs.Ytmgpdaemcbbikaa
open Go.RowKit Go.Deep
set_option linter.unusedVariables false

/-- The list while the loop goes. -/
def linkAt (a b : PSet) (l : List PSet) (k : Nat) : List PSet := linkFrom a b 0 (l.take k) ++ l.drop k
theorem linkAt_length (a b : PSet) (l : List PSet) (k : Nat) : (linkAt a b l k).length = l.length := by
  simp [linkAt, linkFrom_length]; omega
theorem linkAt_get (a b : PSet) (l : List PSet) (k : Nat) (h : k < l.length) : (linkAt a b l k)[k]? = some l[k] := by
  unfold linkAt
  have hlen : (linkFrom a b 0 (l.take k)).length = k := by rw [linkFrom_length, List.length_take]; omega
  rw [List.getElem?_append_right (by omega), hlen]; simp [h]
theorem linkAt_step (a b : PSet) (l : List PSet) (k : Nat) (h : k < l.length) :
    linkAt a b l (k + 1) = (linkAt a b l k).set k (if a.has k then l[k].or b else l[k]) := by
  unfold linkAt
  have hlen : (linkFrom a b 0 (l.take k)).length = k := by rw [linkFrom_length, List.length_take]; omega
  have hd : l.drop k = l[k] :: l.drop (k + 1) := List.drop_eq_getElem_cons h
  rw [List.take_succ_eq_append_getElem h, linkFrom_append, List.set_append_right _ _ (by omega), hlen, hd, Nat.sub_self, List.set_cons_zero, List.append_assoc]
  have hk : (l.take k).length = k := by rw [List.length_take]; omega
  rw [hk, Nat.zero_add]
  rfl
theorem linkAt_skip (a b : PSet) (l : List PSet) (k : Nat) (h : k < l.length) (hf : a.has k = false) : linkAt a b l (k + 1) = linkAt a b l k := by
  rw [linkAt_step a b l k h]
  apply List.ext_getElem?
  intro j
  rw [List.getElem?_set]
  by_cases e : k = j
  · subst e; rw [if_pos rfl, if_pos (by rw [linkAt_length]; exact h), linkAt_get a b l k h, if_neg (by simp [hf])]
  · simp [e]
theorem linkAt_all (a b : PSet) (l : List PSet) (k : Nat) (h : l.length ≤ k) : linkAt a b l k = linkFrom a b 0 l := by
  unfold linkAt; rw [List.take_of_length_le h, List.drop_of_length_le h, List.append_nil]

set_option maxHeartbeats 1600000 in
theorem link_any (R : RulesT) (gb : Nat) (O : Nat → Prop) (fv lv : Value) (a b : PSet) (w : World) (h : RulesAt w gb O R fv lv) (hl : R.follow.length ≤ 1000) :
    Calls Try.prog 151 #[.pointer (some ⟨gb, 0, none⟩), setV a, setV b] w fun e w' =>
      e = .returned (.tuple #[]) ∧ RulesAt w' gb O (R.link a b) fv lv ∧ Kept O w w' := by
  obtain ⟨_, ad, cap, rfl, hrow⟩ := ownsRow_form h.fol
  have cg : w.cell? ⟨gb, 514, none⟩ = some (.slice ad R.follow.length cap) := by rw [h.blk.cell]; exact rulesC_514 _ _ _ _
  have hgb := h.blk.lt
  go_enter Try.func151, Try.ntmps151
  go_wp2_with fail
  have hK : Kept O w w := Kept.refl _ _
  go_loopg [12] R.follow.length (fun g i wr => ∃ k : Nat, k ≤ R.follow.length ∧ g = R.follow.length - k ∧ i = .int .i64 (k : Int) ∧
    RulesAt wr gb O { R with follow := linkAt a b R.follow k } (.slice ad R.follow.length cap) lv ∧ Kept O w wr ∧ Blk wr w.heap.size (setC a) 139 ∧ Blk wr (w.heap.size + 1) (setC b) 139)
  case atStart =>
    refine ⟨0, by omega, rfl, rfl, ?_, (hK.alloc _).alloc _, (Blk.new w _ _).alloc _, ?_⟩
    · have e0 : linkAt a b R.follow 0 = R.follow := by simp [linkAt, linkFrom]
      rw [e0]
      exact h.below (Below2 _ _ _)
    · have := Blk.new (w.alloc (.cells (setC a) 139)) (setC b) 139
      simpa using this
  case round =>
    obtain ⟨k, hk, rfl, rfl, hR, hk1, hA, hB⟩ := hrel
    by_cases hlt : k < R.follow.length
    · have a0 : wr.cell? ⟨w.heap.size, 0, none⟩ = some (.int .u64 (a.lo.toNat : Int)) := hA.cell 0
      have a1 : wr.cell? ⟨w.heap.size, 1, none⟩ = some (.int .u64 (a.hi.toNat : Int)) := hA.cell 1
      have e0 : decide ((k : Int) < (R.follow.length : Int)) = true := by simp; omega
      rcases hrow with ⟨rfl, h0⟩ | ⟨fb, cur, rfl, _⟩
      · omega
      have HH : Hid (RulesAt wr gb O { R with follow := linkAt a b R.follow k } (.slice (some ⟨fb, 0, none⟩) R.follow.length cap) lv ∧ Kept O w wr ∧ Blk wr w.heap.size (setC a) 139 ∧ Blk wr (w.heap.size + 1) (setC b) 139) := ⟨hR, hk1, hA, hB⟩
      clear hR hk1 hA hB
      go_wp2_with fail
      refine (has_any a k (by omega) _).mono ?_
      rintro e w1 ⟨rfl, hb1⟩
      obtain ⟨hR, hk1, hA, hB⟩ := HH.out
      have hR1 := hR.below hb1
      have hk2 := hk1.below hb1
      have hA1 := hA.below hb1
      have hB1 := hB.below hb1
      clear hR hk1 hA hB HH
      cases hh : a.has k with
      | false =>
        have HH : Hid (RulesAt w1 gb O { R with follow := linkAt a b R.follow k } (.slice (some ⟨fb, 0, none⟩) R.follow.length cap) lv ∧ Kept O w w1 ∧ Blk w1 w.heap.size (setC a) 139 ∧ Blk w1 (w.heap.size + 1) (setC b) 139) := ⟨hR1, hk2, hA1, hB1⟩
        have HF := hide hh
        clear hR1 hk2 hA1 hB1 hb1 hh
        go_wp2_with fail
        go_roundg (R.follow.length - (k + 1))
        case measure => omega
        case rel =>
          obtain ⟨hR1, hk2, hA1, hB1⟩ := HH.out
          exact ⟨k + 1, by omega, rfl, by go_num, by rw [linkAt_skip a b _ k hlt HF.out]; exact hR1, hk2, hA1, hB1⟩
      | true =>
        have g0 : w1.cell? ⟨gb, 514, none⟩ = some (.slice (some ⟨fb, 0, none⟩) R.follow.length cap) := by rw [hR1.blk.cell]; exact rulesC_514 _ _ _ _
        have b0 : w1.cell? ⟨w.heap.size + 1, 0, none⟩ = some (.int .u64 (b.lo.toNat : Int)) := hB1.cell 0
        have b1 : w1.cell? ⟨w.heap.size + 1, 1, none⟩ = some (.int .u64 (b.hi.toNat : Int)) := hB1.cell 1
        have hL : (linkAt a b R.follow k)[k]? = some R.follow[k] := linkAt_get a b R.follow k hlt
        have hlen : (linkAt a b R.follow k).length = R.follow.length := linkAt_length a b R.follow k
        have hrow1 : w1.ownsRow 0 139 2 (.slice (some ⟨fb, 0, none⟩) R.follow.length cap) R.follow.length (setsC (linkAt a b R.follow k)) := by have := hR1.fol; unfold SetRow at this; simp only [hlen] at this; exact this
        have hg' : (linkAt a b R.follow k)[k]'(by rw [hlen]; exact hlt) = R.follow[k] := Option.some.inj ((List.getElem?_eq_getElem _).symm.trans hL)
        have r0 : w1.cell? ⟨fb, k * 2, none⟩ = some (.int .u64 (R.follow[k].lo.toNat : Int)) := by rw [ownsRow_cell hrow1 _ (by omega), setsC_get0 _ k (by rw [hlen]; exact hlt), hg']
        have r1 : w1.cell? ⟨fb, k * 2 + 1, none⟩ = some (.int .u64 (R.follow[k].hi.toNat : Int)) := by rw [ownsRow_cell hrow1 _ (by omega), setsC_get1 _ k (by rw [hlen]; exact hlt), hg']
        have fr0 := ownsRow_frozen hrow1 (k * 2)
        have fr1 := ownsRow_frozen hrow1 (k * 2 + 1)
        have i0 : (0 : Int) ≤ (k : Int) := by omega
        have i1 : (k : Int) < (R.follow.length : Int) := by omega
        have n1 : fb ≠ gb := (hR1.ofo fb rfl).2
        have hfbw : fb < w.heap.size := h.olt _ (hR1.ofo fb rfl).1
        have n2 : fb ≠ w.heap.size + 1 := by omega
        have z1 : gb < w1.heap.size := hR1.blk.lt
        have z2 : w.heap.size + 1 < w1.heap.size := hB1.lt
        have z3 : fb < w1.heap.size := hR1.olt _ (hR1.ofo fb rfl).1
        have HH : Hid (RulesAt w1 gb O { R with follow := linkAt a b R.follow k } (.slice (some ⟨fb, 0, none⟩) R.follow.length cap) lv ∧ Kept O w w1 ∧ Blk w1 w.heap.size (setC a) 139 ∧ Blk w1 (w.heap.size + 1) (setC b) 139) := ⟨hR1, hk2, hA1, hB1⟩
        have HL := hide hL
        have HROW := hide hrow1
        have HFol := hide hh
        have HLen := hide hlen
        clear hR1 hk2 hA1 hB1 hb1 hL hg' hrow1 hh hlen h cg a0 a1
        go_wp2_with fail
        go_region_with (go_at_call 131; refine (or_any R.follow[k] b _).mono ?_; rintro e w2 ⟨rfl, hb2⟩; have q0 := (hb2.cell (p := ⟨fb, k * 2, none⟩) z3).trans r0; have q1 := (hb2.cell (p := ⟨fb, k * 2 + 1, none⟩) z3).trans r1; have p0 := (hb2.frozen (p := ⟨fb, k * 2, none⟩) z3).trans fr0; have p1 := (hb2.frozen (p := ⟨fb, k * 2 + 1, none⟩) z3).trans fr1; have q2 := hb2.cell (p := ⟨gb, 514, none⟩) z1)
        all_goals
          go_wp2_with fail
          go_roundg (R.follow.length - (k + 1))
          case measure => omega
          case rel =>
            obtain ⟨hR1, hk2, hA1, hB1⟩ := HH.out
            have hR2 := (hR1.drew.below hb2)
            have hst := RulesAt.setFollow (R := { R with follow := linkAt a b R.follow k }) (by simpa [HLen.out] using hR2) k (by simpa [HLen.out] using hlt) (R.follow[k].or b)
            have e3 : linkAt a b R.follow (k + 1) = (linkAt a b R.follow k).set k (R.follow[k].or b) := by rw [linkAt_step a b _ k hlt, if_pos HFol.out]
            refine ⟨k + 1, by omega, rfl, by go_num, ?_, ?_, ?_, ?_⟩
            · rw [e3]; simpa [HLen.out] using hst
            · exact (((hk2.drew).below hb2).setCell (fun _ => (hR1.ofo fb rfl).1) _).setCell (fun _ => (hR1.ofo fb rfl).1) _
            · exact ((hA1.drew.below hb2).setOther (by simp; omega) _).setOther (by simp; omega) _
            · exact ((hB1.drew.below hb2).setOther (by simp; omega) _).setOther (by simp; omega) _
    · have e0 : decide ((k : Int) < (R.follow.length : Int)) = false := by simp; omega
      go_wp2_with fail
      go_end0
      have e3 := linkAt_all a b R.follow k (by omega)
      rw [e3] at hR
      exact ⟨rfl, hR, hk1⟩
end Go.Proofs.Ytmgpdaemcbbikaa
