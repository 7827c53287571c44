import Derived.Test.YtcckhngbdoiikaaN15
import Derived.Test.YtcckhngbdoiikaaN11

namespace Go.Proofs.Ytcckhngbdoiikaa
open Go.RowKit Go.Deep
set_option linter.unusedVariables false

theorem ruleFrom_drop (s : PSet) (l : List PSet) (k : Nat) (h : k < l.length) : ruleFrom s k (l.drop k) = if s.meets l[k] then (k : Int) else ruleFrom s (k + 1) (l.drop (k + 1)) := by
  rw [List.drop_eq_getElem_cons h]; rfl

set_option maxHeartbeats 1600000 in
theorem rule_any (R : RulesT) (gb : Nat) (O : Nat → Prop) (fv lv : Value) (s : PSet) (w : World) (h : RulesAt w gb O R fv lv) (hl : R.last.length ≤ 1000) :
    Calls Try.prog 113 #[.pointer (some ⟨gb, 0, none⟩), setV s] w fun e w' =>
      e = .returned (.int .i64 (R.rule s)) ∧ Below w.heap.size w w' := by
  obtain ⟨_, ad, cap, rfl, hrow⟩ := ownsRow_form h.las
  have cg : w.cell? ⟨gb, 515, none⟩ = some (.slice ad R.last.length cap) := by rw [h.blk.cell]; exact rulesC_515 _ _ _ _
  have hgb := h.blk.lt
  have hgb1 : gb < w.heap.size + 1 := by omega
  generalize hF : R.rule s = F
  have HF : Hid (ruleFrom s 0 R.last = F) := hF
  clear hF
  go_enter Try.func113, Try.ntmps113
  go_wp2_with fail
  go_loopg [12] R.last.length (fun g i wr => ∃ k : Nat, k ≤ R.last.length ∧ g = R.last.length - k ∧ i = .int .i64 (k : Int) ∧
    Below w.heap.size w wr ∧ Blk wr w.heap.size (setC s) 148 ∧ ruleFrom s k (R.last.drop k) = F)
  case atStart =>
    exact ⟨0, by omega, rfl, rfl, Below1 _ _, Blk.new w _ _, HF.out⟩
  case round =>
    obtain ⟨k, hk, rfl, rfl, hb, hS, hfr⟩ := hrel
    by_cases hlt : k < R.last.length
    · have e0 : decide ((k : Int) < (R.last.length : Int)) = true := by simp; omega
      rcases hrow with ⟨rfl, h0⟩ | ⟨fb, cur, rfl, _⟩
      · omega
      have hRw := h.below hb
      have r0 : wr.cell? ⟨fb, k * 2, none⟩ = some (.int .u64 (R.last[k].lo.toNat : Int)) := by rw [ownsRow_cell hRw.las _ (by omega), setsC_get0 _ k hlt]
      have r1 : wr.cell? ⟨fb, k * 2 + 1, none⟩ = some (.int .u64 (R.last[k].hi.toNat : Int)) := by rw [ownsRow_cell hRw.las _ (by omega), setsC_get1 _ k hlt]
      have i0 : (0 : Int) ≤ (k : Int) := by omega
      have i1 : (k : Int) < (R.last.length : Int) := by omega
      have s0 : wr.cell? ⟨w.heap.size, 0, none⟩ = some (.int .u64 (s.lo.toNat : Int)) := hS.cell 0
      have s1 : wr.cell? ⟨w.heap.size, 1, none⟩ = some (.int .u64 (s.hi.toNat : Int)) := hS.cell 1
      have zs0 : w.heap.size < wr.heap.size := hS.lt
      have HH : Hid (Below w.heap.size w wr ∧ Blk wr w.heap.size (setC s) 148 ∧ ruleFrom s k (R.last.drop k) = F) := ⟨hb, hS, hfr⟩
      clear hb hS hRw h cg hfr HF
      go_wp2_with fail
      refine (meets_any s R.last[k] _).mono ?_
      rintro e w1 ⟨rfl, hb1⟩
      obtain ⟨hb, hS, hfr⟩ := HH.out
      have hS1 := (hS.alloc (.cells (setC R.last[k]) 148)).below hb1
      have hbb := (hb.alloc (by omega) (.cells (setC R.last[k]) 148)).trans (hb1.mono (by simp; omega))
      rw [ruleFrom_drop s _ k hlt] at hfr
      clear hb hS HH
      cases hh : s.meets R.last[k] with
      | false =>
        rw [hh, if_neg (by simp)] at hfr
        have HH : Hid (Below w.heap.size w w1 ∧ Blk w1 w.heap.size (setC s) 148 ∧ ruleFrom s (k + 1) (R.last.drop (k + 1)) = F) := ⟨hbb, hS1, hfr⟩
        clear hbb hS1 hfr hb1 hh
        go_wp2_with fail
        go_roundg (R.last.length - (k + 1))
        case measure => omega
        case rel =>
          obtain ⟨q1, q2, q3⟩ := HH.out
          exact ⟨k + 1, by omega, rfl, by go_num, q1, q2, q3⟩
      | true =>
        rw [hh, if_pos rfl] at hfr
        subst hfr
        have HH : Hid (Below w.heap.size w w1) := hbb
        clear hbb hS1 hb1 hh
        go_wp2_with fail
        go_ret
        exact ⟨rfl, HH.out⟩
    · have e0 : decide ((k : Int) < (R.last.length : Int)) = false := by simp; omega
      rw [List.drop_of_length_le (by omega)] at hfr
      have hfe : F = -1 := hfr.symm
      subst hfe
      clear hfr HF
      go_wp2_with fail
      go_ret
      exact ⟨rfl, hb⟩
end Go.Proofs.Ytcckhngbdoiikaa

namespace Go.Proofs.Ytcckhngbdoiikaa
open Go.RowKit Go.Deep
set_option linter.unusedVariables false

theorem kcell {O : Nat → Prop} {W w1 : World} {n : Nat} (hk : Kept O W w1) (ho : ∀ k, O k → k < n) :
    (∀ b o, n ≤ b → b < W.heap.size → w1.cell? ⟨b, o, none⟩ = W.cell? ⟨b, o, none⟩) ∧ (∀ b o, n ≤ b → b < W.heap.size → w1.frozen? ⟨b, o, none⟩ = W.frozen? ⟨b, o, none⟩) :=
  ⟨fun b o h1 h2 => hk.cell (p := ⟨b, o, none⟩) h2 (fun e => by have := ho b e; omega), fun b o h1 h2 => hk.frozen (p := ⟨b, o, none⟩) h2 (fun e => by have := ho b e; omega)⟩

set_option maxHeartbeats 1600000 in
theorem chain_ff (R : RulesT) (gb : Nat) (O : Nat → Prop) (fv lv : Value) (af al bf bl : PSet) (w : World) (h : RulesAt w gb O R fv lv) (hl : R.follow.length ≤ 1000) :
    Calls Try.prog 158 #[.pointer (some ⟨gb, 0, none⟩), partV ⟨af, al, false⟩, partV ⟨bf, bl, false⟩] w fun e w' =>
      e = .returned (partV (chainPart ⟨af, al, false⟩ ⟨bf, bl, false⟩)) ∧ RulesAt w' gb O (R.link al bf) fv lv ∧ Kept O w w' := by
  have hK : Kept O w w := Kept.refl _ _
  go_enter Try.func158, Try.ntmps158
  go_wp2_with fail
  refine (link_any R gb O fv lv al bf _ ((((h.alloc _).alloc _).alloc _)) hl).mono ?_
  rintro e w1 ⟨rfl, hR1, hk1⟩
  obtain ⟨hc1, hf1⟩ := kcell hk1 h.olt
  have hz1 : w.heap.size + 2 < w1.heap.size := by have := hk1.size; simp at this; omega
  have y0 : w.heap.size < w1.heap.size := by omega
  have y1 : w.heap.size + 1 < w1.heap.size := by omega
  have y2 : w.heap.size + 1 + 1 < w1.heap.size := by omega
  have l0 : w.heap.size ≤ w.heap.size + 1 := by omega
  have l1 : w.heap.size ≤ w.heap.size + 1 + 1 := by omega
  have ne2 : ¬ O (w.heap.size + 1 + 1) := fun e => by have := h.olt _ e; omega
  have hZ1 : Blk w1 (w.heap.size + 1 + 1) part0 222 := by
    have h9 : Blk (((w.alloc (.cells (partC ⟨af, al, false⟩) 222)).alloc (.cells (partC ⟨bf, bl, false⟩) 222)).alloc (.cells part0 222)) (w.heap.size + 1 + 1) part0 222 := by
      have := Blk.new ((w.alloc (.cells (partC ⟨af, al, false⟩) 222)).alloc (.cells (partC ⟨bf, bl, false⟩) 222)) part0 222
      simpa using this
    exact h9.kept hk1 ne2
  have hkW : Kept O w w1 := (((hK.alloc _).alloc _).alloc _).trans' hk1
  have HH : Hid (RulesAt w1 gb O (R.link al bf) fv lv ∧ Kept O w w1 ∧ Blk w1 (w.heap.size + 1 + 1) part0 222) := ⟨hR1, hkW, hZ1⟩
  have hno : ∀ k, O k → k < w.heap.size := h.olt
  have HNO := hide hno
  clear hR1 hkW hZ1 hno
  go_wp2_with fail
  obtain ⟨hR1, hkW, hZ1⟩ := HH.out
  have hno := HNO.out
  have hq : ∀ {X : World} {v : Value} {j : Nat}, RulesAt X gb O (R.link al bf) fv lv → RulesAt (X.setCell ⟨w.heap.size + 1 + 1, j, none⟩ v) gb O (R.link al bf) fv lv := fun {X v j} hX =>
    hX.kept (ex := fun k => k = w.heap.size + 1 + 1) (Kept.setCell (ex := fun k => k = w.heap.size + 1 + 1) (Kept.refl _ _) (fun _ => rfl) _) (fun b hb e => by have := hno b hb; omega)
  exact bodyPost_ret (resultsPart (q := chainPart ⟨af, al, false⟩ ⟨bf, bl, false⟩) Try.results158 _ rfl ((((((hZ1.set 0 _).set 1 _).set 2 _).set 3 _).set 4 _).alloc _)) rfl
    ⟨rfl, (hq (hq (hq (hq (hq hR1))))).alloc _, (((((hkW.setCell (by simp; omega) _).setCell (by simp; omega) _).setCell (by simp; omega) _).setCell (by simp; omega) _).setCell (by simp; omega) _).alloc _⟩
set_option maxHeartbeats 1600000 in
theorem chain_ft (R : RulesT) (gb : Nat) (O : Nat → Prop) (fv lv : Value) (af al bf bl : PSet) (w : World) (h : RulesAt w gb O R fv lv) (hl : R.follow.length ≤ 1000) :
    Calls Try.prog 158 #[.pointer (some ⟨gb, 0, none⟩), partV ⟨af, al, false⟩, partV ⟨bf, bl, true⟩] w fun e w' =>
      e = .returned (partV (chainPart ⟨af, al, false⟩ ⟨bf, bl, true⟩)) ∧ RulesAt w' gb O (R.link al bf) fv lv ∧ Kept O w w' := by
  have hK : Kept O w w := Kept.refl _ _
  go_enter Try.func158, Try.ntmps158
  go_wp2_with fail
  refine (link_any R gb O fv lv al bf _ ((((h.alloc _).alloc _).alloc _)) hl).mono ?_
  rintro e w1 ⟨rfl, hR1, hk1⟩
  obtain ⟨hc1, hf1⟩ := kcell hk1 h.olt
  have hz1 : w.heap.size + 2 < w1.heap.size := by have := hk1.size; simp at this; omega
  have y0 : w.heap.size < w1.heap.size := by omega
  have y1 : w.heap.size + 1 < w1.heap.size := by omega
  have y2 : w.heap.size + 1 + 1 < w1.heap.size := by omega
  have l0 : w.heap.size ≤ w.heap.size + 1 := by omega
  have l1 : w.heap.size ≤ w.heap.size + 1 + 1 := by omega
  have ne2 : ¬ O (w.heap.size + 1 + 1) := fun e => by have := h.olt _ e; omega
  have hZ1 : Blk w1 (w.heap.size + 1 + 1) part0 222 := by
    have h9 : Blk (((w.alloc (.cells (partC ⟨af, al, false⟩) 222)).alloc (.cells (partC ⟨bf, bl, true⟩) 222)).alloc (.cells part0 222)) (w.heap.size + 1 + 1) part0 222 := by
      have := Blk.new ((w.alloc (.cells (partC ⟨af, al, false⟩) 222)).alloc (.cells (partC ⟨bf, bl, true⟩) 222)) part0 222
      simpa using this
    exact h9.kept hk1 ne2
  have hkW : Kept O w w1 := (((hK.alloc _).alloc _).alloc _).trans' hk1
  have HH : Hid (RulesAt w1 gb O (R.link al bf) fv lv ∧ Kept O w w1 ∧ Blk w1 (w.heap.size + 1 + 1) part0 222) := ⟨hR1, hkW, hZ1⟩
  have hno : ∀ k, O k → k < w.heap.size := h.olt
  have HNO := hide hno
  clear hR1 hkW hZ1 hno
  go_wp2_with fail
  refine (or_any bl al _).mono ?_
  rintro e w2 ⟨rfl, hb2⟩
  obtain ⟨hc2, hf2⟩ := bcell hb2
  have hz2 : w1.heap.size < w2.heap.size := by have := hb2.size; simp at this; omega
  have p20 : w.heap.size < w2.heap.size := by omega
  have p21 : w.heap.size + 1 < w2.heap.size := by omega
  have p22 : w.heap.size + 1 + 1 < w2.heap.size := by omega
  go_wp2_with fail
  obtain ⟨hR1, hkW, hZ1⟩ := HH.out
  have hno := HNO.out
  have hq : ∀ {X : World} {v : Value} {j i : Nat}, w.heap.size ≤ i → RulesAt X gb O (R.link al bf) fv lv → RulesAt (X.setCell ⟨i, j, none⟩ v) gb O (R.link al bf) fv lv := fun {X v j i} hi hX =>
    hX.kept (ex := fun k => k = i) (Kept.setCell (ex := fun k => k = i) (Kept.refl _ _) (fun _ => rfl) _) (fun b hb e => by have := hno b hb; omega)
  have hR3 := (hR1.alloc _).below hb2
  have hZ3 := (hZ1.alloc _).below hb2
  have hk3 := (hkW.alloc _).below hb2
  exact bodyPost_ret (resultsPart (q := chainPart ⟨af, al, false⟩ ⟨bf, bl, true⟩) Try.results158 _ rfl ((((((((hZ3.setOther (p := ⟨w1.heap.size, 2, none⟩) (by simp; omega) _).setOther (p := ⟨w1.heap.size, 3, none⟩) (by simp; omega) _).set 0 _).set 1 _).set 2 _).set 3 _).set 4 _))) rfl
    ⟨rfl, hq (by omega) (hq (by omega) (hq (by omega) (hq (by omega) (hq (by omega) (hq (by omega) (hq (by omega) hR3)))))), (((((((hk3.setCell (by simp; omega) _).setCell (by simp; omega) _).setCell (by simp; omega) _).setCell (by simp; omega) _).setCell (by simp; omega) _).setCell (by simp; omega) _).setCell (by simp; omega) _)⟩
set_option maxHeartbeats 1600000 in
theorem chain_tf (R : RulesT) (gb : Nat) (O : Nat → Prop) (fv lv : Value) (af al bf bl : PSet) (w : World) (h : RulesAt w gb O R fv lv) (hl : R.follow.length ≤ 1000) :
    Calls Try.prog 158 #[.pointer (some ⟨gb, 0, none⟩), partV ⟨af, al, true⟩, partV ⟨bf, bl, false⟩] w fun e w' =>
      e = .returned (partV (chainPart ⟨af, al, true⟩ ⟨bf, bl, false⟩)) ∧ RulesAt w' gb O (R.link al bf) fv lv ∧ Kept O w w' := by
  have hK : Kept O w w := Kept.refl _ _
  go_enter Try.func158, Try.ntmps158
  go_wp2_with fail
  refine (link_any R gb O fv lv al bf _ ((((h.alloc _).alloc _).alloc _)) hl).mono ?_
  rintro e w1 ⟨rfl, hR1, hk1⟩
  obtain ⟨hc1, hf1⟩ := kcell hk1 h.olt
  have hz1 : w.heap.size + 2 < w1.heap.size := by have := hk1.size; simp at this; omega
  have y0 : w.heap.size < w1.heap.size := by omega
  have y1 : w.heap.size + 1 < w1.heap.size := by omega
  have y2 : w.heap.size + 1 + 1 < w1.heap.size := by omega
  have l0 : w.heap.size ≤ w.heap.size + 1 := by omega
  have l1 : w.heap.size ≤ w.heap.size + 1 + 1 := by omega
  have ne2 : ¬ O (w.heap.size + 1 + 1) := fun e => by have := h.olt _ e; omega
  have hZ1 : Blk w1 (w.heap.size + 1 + 1) part0 222 := by
    have h9 : Blk (((w.alloc (.cells (partC ⟨af, al, true⟩) 222)).alloc (.cells (partC ⟨bf, bl, false⟩) 222)).alloc (.cells part0 222)) (w.heap.size + 1 + 1) part0 222 := by
      have := Blk.new ((w.alloc (.cells (partC ⟨af, al, true⟩) 222)).alloc (.cells (partC ⟨bf, bl, false⟩) 222)) part0 222
      simpa using this
    exact h9.kept hk1 ne2
  have hkW : Kept O w w1 := (((hK.alloc _).alloc _).alloc _).trans' hk1
  have HH : Hid (RulesAt w1 gb O (R.link al bf) fv lv ∧ Kept O w w1 ∧ Blk w1 (w.heap.size + 1 + 1) part0 222) := ⟨hR1, hkW, hZ1⟩
  have hno : ∀ k, O k → k < w.heap.size := h.olt
  have HNO := hide hno
  clear hR1 hkW hZ1 hno
  go_wp2_with fail
  refine (or_any af bf _).mono ?_
  rintro e w2 ⟨rfl, hb2⟩
  obtain ⟨hc2, hf2⟩ := bcell hb2
  have hz2 : w1.heap.size < w2.heap.size := by have := hb2.size; simp at this; omega
  have p20 : w.heap.size < w2.heap.size := by omega
  have p21 : w.heap.size + 1 < w2.heap.size := by omega
  have p22 : w.heap.size + 1 + 1 < w2.heap.size := by omega
  go_wp2_with fail
  obtain ⟨hR1, hkW, hZ1⟩ := HH.out
  have hno := HNO.out
  have hq : ∀ {X : World} {v : Value} {j i : Nat}, w.heap.size ≤ i → RulesAt X gb O (R.link al bf) fv lv → RulesAt (X.setCell ⟨i, j, none⟩ v) gb O (R.link al bf) fv lv := fun {X v j i} hi hX =>
    hX.kept (ex := fun k => k = i) (Kept.setCell (ex := fun k => k = i) (Kept.refl _ _) (fun _ => rfl) _) (fun b hb e => by have := hno b hb; omega)
  have hR3 := (hR1.alloc _).below hb2
  have hZ3 := (hZ1.alloc _).below hb2
  have hk3 := (hkW.alloc _).below hb2
  exact bodyPost_ret (resultsPart (q := chainPart ⟨af, al, true⟩ ⟨bf, bl, false⟩) Try.results158 _ rfl ((((((((hZ3.setOther (p := ⟨w1.heap.size, 0, none⟩) (by simp; omega) _).setOther (p := ⟨w1.heap.size, 1, none⟩) (by simp; omega) _).set 0 _).set 1 _).set 2 _).set 3 _).set 4 _))) rfl
    ⟨rfl, hq (by omega) (hq (by omega) (hq (by omega) (hq (by omega) (hq (by omega) (hq (by omega) (hq (by omega) hR3)))))), (((((((hk3.setCell (by simp; omega) _).setCell (by simp; omega) _).setCell (by simp; omega) _).setCell (by simp; omega) _).setCell (by simp; omega) _).setCell (by simp; omega) _).setCell (by simp; omega) _)⟩
set_option maxHeartbeats 1600000 in
theorem chain_tt (R : RulesT) (gb : Nat) (O : Nat → Prop) (fv lv : Value) (af al bf bl : PSet) (w : World) (h : RulesAt w gb O R fv lv) (hl : R.follow.length ≤ 1000) :
    Calls Try.prog 158 #[.pointer (some ⟨gb, 0, none⟩), partV ⟨af, al, true⟩, partV ⟨bf, bl, true⟩] w fun e w' =>
      e = .returned (partV (chainPart ⟨af, al, true⟩ ⟨bf, bl, true⟩)) ∧ RulesAt w' gb O (R.link al bf) fv lv ∧ Kept O w w' := by
  have hK : Kept O w w := Kept.refl _ _
  go_enter Try.func158, Try.ntmps158
  go_wp2_with fail
  refine (link_any R gb O fv lv al bf _ ((((h.alloc _).alloc _).alloc _)) hl).mono ?_
  rintro e w1 ⟨rfl, hR1, hk1⟩
  obtain ⟨hc1, hf1⟩ := kcell hk1 h.olt
  have hz1 : w.heap.size + 2 < w1.heap.size := by have := hk1.size; simp at this; omega
  have y0 : w.heap.size < w1.heap.size := by omega
  have y1 : w.heap.size + 1 < w1.heap.size := by omega
  have y2 : w.heap.size + 1 + 1 < w1.heap.size := by omega
  have l0 : w.heap.size ≤ w.heap.size + 1 := by omega
  have l1 : w.heap.size ≤ w.heap.size + 1 + 1 := by omega
  have ne2 : ¬ O (w.heap.size + 1 + 1) := fun e => by have := h.olt _ e; omega
  have hZ1 : Blk w1 (w.heap.size + 1 + 1) part0 222 := by
    have h9 : Blk (((w.alloc (.cells (partC ⟨af, al, true⟩) 222)).alloc (.cells (partC ⟨bf, bl, true⟩) 222)).alloc (.cells part0 222)) (w.heap.size + 1 + 1) part0 222 := by
      have := Blk.new ((w.alloc (.cells (partC ⟨af, al, true⟩) 222)).alloc (.cells (partC ⟨bf, bl, true⟩) 222)) part0 222
      simpa using this
    exact h9.kept hk1 ne2
  have hkW : Kept O w w1 := (((hK.alloc _).alloc _).alloc _).trans' hk1
  have HH : Hid (RulesAt w1 gb O (R.link al bf) fv lv ∧ Kept O w w1 ∧ Blk w1 (w.heap.size + 1 + 1) part0 222) := ⟨hR1, hkW, hZ1⟩
  have hno : ∀ k, O k → k < w.heap.size := h.olt
  have HNO := hide hno
  clear hR1 hkW hZ1 hno
  go_wp2_with fail
  refine (or_any af bf _).mono ?_
  rintro e w2 ⟨rfl, hb2⟩
  obtain ⟨hc2, hf2⟩ := bcell hb2
  have hz2 : w1.heap.size < w2.heap.size := by have := hb2.size; simp at this; omega
  have p20 : w.heap.size < w2.heap.size := by omega
  have p21 : w.heap.size + 1 < w2.heap.size := by omega
  have p22 : w.heap.size + 1 + 1 < w2.heap.size := by omega
  go_wp2_with fail
  refine (or_any bl al _).mono ?_
  rintro e w3 ⟨rfl, hb3⟩
  obtain ⟨hc3, hf3⟩ := bcell hb3
  have hz3 : w1.heap.size < w3.heap.size := by have := hb3.size; simp at this; omega
  have p30 : w.heap.size < w3.heap.size := by omega
  have p31 : w.heap.size + 1 < w3.heap.size := by omega
  have p32 : w.heap.size + 1 + 1 < w3.heap.size := by omega
  go_wp2_with fail
  obtain ⟨hR1, hkW, hZ1⟩ := HH.out
  have hno := HNO.out
  have hq : ∀ {X : World} {v : Value} {j i : Nat}, w.heap.size ≤ i → RulesAt X gb O (R.link al bf) fv lv → RulesAt (X.setCell ⟨i, j, none⟩ v) gb O (R.link al bf) fv lv := fun {X v j i} hi hX =>
    hX.kept (ex := fun k => k = i) (Kept.setCell (ex := fun k => k = i) (Kept.refl _ _) (fun _ => rfl) _) (fun b hb e => by have := hno b hb; omega)
  have hR3 := ((hq (i := w1.heap.size) (j := 1) (v := .int .u64 ((af.or bf).hi.toNat : Int)) (by omega) (hq (i := w1.heap.size) (j := 0) (v := .int .u64 ((af.or bf).lo.toNat : Int)) (by omega) ((hR1.alloc _).below hb2))).below hb3)
  have hZ3 := ((((hZ1.alloc _).below hb2).setOther (p := ⟨w1.heap.size, 0, none⟩) (by simp; omega) (.int .u64 ((af.or bf).lo.toNat : Int))).setOther (p := ⟨w1.heap.size, 1, none⟩) (by simp; omega) (.int .u64 ((af.or bf).hi.toNat : Int))).below hb3
  have hk3 := ((((hkW.alloc _).below hb2).setCell (p := ⟨w1.heap.size, 0, none⟩) (by simp; omega) (.int .u64 ((af.or bf).lo.toNat : Int))).setCell (p := ⟨w1.heap.size, 1, none⟩) (by simp; omega) (.int .u64 ((af.or bf).hi.toNat : Int))).below hb3
  exact bodyPost_ret (resultsPart (q := chainPart ⟨af, al, true⟩ ⟨bf, bl, true⟩) Try.results158 _ rfl ((((((((hZ3.setOther (p := ⟨w1.heap.size, 2, none⟩) (by simp; omega) _).setOther (p := ⟨w1.heap.size, 3, none⟩) (by simp; omega) _).set 0 _).set 1 _).set 2 _).set 3 _).set 4 _))) rfl
    ⟨rfl, hq (by omega) (hq (by omega) (hq (by omega) (hq (by omega) (hq (by omega) (hq (by omega) (hq (by omega) hR3)))))), (((((((hk3.setCell (by simp; omega) _).setCell (by simp; omega) _).setCell (by simp; omega) _).setCell (by simp; omega) _).setCell (by simp; omega) _).setCell (by simp; omega) _).setCell (by simp; omega) _)⟩
theorem chain_any (R : RulesT) (gb : Nat) (O : Nat → Prop) (fv lv : Value) (a b : PartT) (w : World) (h : RulesAt w gb O R fv lv) (hl : R.follow.length ≤ 1000) :
    Calls Try.prog 158 #[.pointer (some ⟨gb, 0, none⟩), partV a, partV b] w fun e w' =>
      e = .returned (partV (chainPart a b)) ∧ RulesAt w' gb O (R.chain a b) fv lv ∧ Kept O w w' := by
  obtain ⟨af, al, ae⟩ := a
  obtain ⟨bf, bl, be⟩ := b
  cases ae <;> cases be
  · exact chain_ff R gb O fv lv af al bf bl w h hl
  · exact chain_ft R gb O fv lv af al bf bl w h hl
  · exact chain_tf R gb O fv lv af al bf bl w h hl
  · exact chain_tt R gb O fv lv af al bf bl w h hl
end Go.Proofs.Ytcckhngbdoiikaa
