import Derived.Test.YtcckhngbdoiikaaM43

namespace Go.Proofs.Ytcckhngbdoiikaa
open Go.RowKit Go.Deep
set_option linter.unusedVariables false

def tokenF (g : Graph) (n : Nat) : List Bool := (List.range n).map (fun (s : Nat) => decide (ruleOfF g (s : Int) ≠ -1))
def stepsTo (kd : Nat → Nat) (g : Graph) (n : Nat) : List (List StepT) := (List.range n).map (fun (s : Nat) => stepsF kd g s)
def weaveF (kd : Nat → Nat) (g : Graph) : WebT := ⟨tokenF g g.rule.length, stepsTo kd g g.rule.length⟩
theorem stepsTo_succ (kd : Nat → Nat) (g : Graph) (n : Nat) : stepsTo kd g (n + 1) = stepsTo kd g n ++ [stepsF kd g n] := by simp [stepsTo, List.range_succ]
theorem tokenF_len (g : Graph) (n : Nat) : (tokenF g n).length = n := by simp [tokenF]
theorem stepsTo_len (kd : Nat → Nat) (g : Graph) (n : Nat) : (stepsTo kd g n).length = n := by simp [stepsTo]
theorem own_blk {w : World} {e : TypeId} {size n : Nat} {v : Value} {xs : List Value} {b : Nat} (h : w.ownsRow 0 e size v n xs) (hb : v.ownBlock = some b) : ∃ cur, Blk w b cur e := by
  obtain ⟨_, ad, cap, rfl, ⟨rfl, _⟩ | ⟨g, cur, rfl, h2, _⟩⟩ := ownsRow_form h
  · simp [Value.ownBlock] at hb
  · cases (Option.some.inj hb : g = b); exact ⟨cur, h2⟩
/-- Rows of different types do not meet. -/
theorem own_ne {w : World} {e e' : TypeId} {size size' n n' : Nat} {v v' : Value} {xs xs' : List Value} (h : w.ownsRow 0 e size v n xs) (h' : w.ownsRow 0 e' size' v' n' xs') (hne : e ≠ e') : ∀ b, v.ownBlock = some b → ¬ v'.ownBlock = some b := fun b hb hb' => by
  obtain ⟨cur, hB⟩ := own_blk h hb
  exact ownsRow_ne h' hB hne hb'
theorem Try.infoBool3 : (Try.prog.info? 4).map (fun i => (i.zero, i.size, i.bytes)) = some (some (.bool false), 1, 1) := by kernel_rfl
theorem Try.infoSteps3 : (Try.prog.info? 201).map (fun i => (i.zero, i.size, i.bytes)) = some (some (.slice none 0 0), 1, 24) := by kernel_rfl
theorem tokenF_succ (g : Graph) (n : Nat) : tokenF g (n + 1) = tokenF g n ++ [decide (ruleOfF g (n : Int) ≠ -1)] := by simp [tokenF, List.range_succ]

set_option maxRecDepth 20000 in
set_option maxHeartbeats 3200000 in
theorem weave_any (pb : Nat) (kd : Nat → Nat) (g : Graph) (w : World) (h : LexAt w pb kd g) (ho : LexOk kd g) (hi : StepsIn kd g) (hl : g.rule.length ≤ 50000) :
    Calls Try.prog 92 #[.pointer (some ⟨pb, 0, none⟩)] w fun e w' => ∃ wb, e = .returned (.pointer (some ⟨wb, 0, none⟩)) ∧ WebAt w' wb (weaveF kd g) ∧ Below w.heap.size w w' := by
  have HR := hide (fun (W : World) (hb : Below w.heap.size w W) (st : Int) => tableRule_any pb kd g st W (h.below hb))
  have HCO := hide (fun (W : World) (hb : Below w.heap.size w W) => tableCount_any pb kd g W (h.below hb))
  have HST := hide (fun (W : World) (hb : Below w.heap.size w W) (s : Nat) => steps_any pb kd g s W (h.below hb) ho hi hl)
  clear h ho hi
  go_enter Try.func92, Try.ntmps92
  go_wp2_with fail
  go_loopg [4] g.rule.length (fun G iv wr => ∃ (i : Nat) (tv sv : Value), iv = .int .i64 (i : Int) ∧ i ≤ g.rule.length ∧ G = g.rule.length - i ∧ Below w.heap.size w wr ∧ Blk wr w.heap.size #[tv, sv] 169 ∧ BRow wr tv (tokenF g i) ∧ StepRows wr sv (stepsTo kd g i) ∧ (∀ b, tv.ownBlock = some b → w.heap.size < b) ∧ (∀ b, sv.ownBlock = some b → w.heap.size < b))
  case atStart => exact ⟨0, .slice none 0 0, .slice none 0 0, rfl, by omega, rfl, Below1 _ _, Blk.new _ _ _, World.ownsRow_nil _ _ _ _, ⟨[], World.ownsRow_nil _ _ _ _, rfl, fun i x hx => by simp at hx⟩, fun b h => by simp [Value.ownBlock] at h, fun b h => by simp [Value.ownBlock] at h⟩
  case round =>
    obtain ⟨i, tv, sv, rfl, hi, rfl, hbw, hB, hT, hS, hO1, hO2⟩ := hrel
    by_cases hlt : i < g.rule.length
    · have e0 : decide ((i : Int) < (g.rule.length : Int)) = true := by simp; omega
      obtain ⟨td, tcap, rfl, _⟩ := hT.form
      obtain ⟨sd, scap, rfl, _⟩ := hS.form
      rw [tokenF_len] at hB hT hO1
      rw [stepsTo_len] at hB hS hO2
      have HH : Hid (Below w.heap.size w wr ∧ Blk wr w.heap.size #[.slice td i tcap, .slice sd i scap] 169 ∧ BRow wr (.slice td i tcap) (tokenF g i) ∧ StepRows wr (.slice sd i scap) (stepsTo kd g i) ∧ (∀ b, (Value.slice td i tcap).ownBlock = some b → w.heap.size < b) ∧ (∀ b, (Value.slice sd i scap).ownBlock = some b → w.heap.size < b)) := ⟨hbw, hB, hT, hS, hO1, hO2⟩
      clear hbw hB hT hS hO1 hO2
      go_wp2_with fail
      refine (HCO.out wr HH.out.1).mono ?_
      rintro e w0 ⟨rfl, rfl⟩
      go_wp2_with fail
      refine (HR.out w0 HH.out.1 (i : Int)).mono ?_
      rintro e w1 ⟨rfl, rfl⟩
      have htk := tokenF_succ g i
      have hdec : (ruleOfF g (i : Int) != -1) = decide (ruleOfF g (i : Int) ≠ -1) := by
        by_cases e : ruleOfF g (i : Int) = -1
        · simp [e]
        · simp [e, bne]
      generalize ruleOfF g (i : Int) = r at htk hdec
      generalize hbr : decide (r ≠ -1) = br at htk hdec
      have HTK := hide htk
      obtain ⟨ii, hii, hz0, hz1, hz2⟩ := info_parts Try.infoBool3
      have hol : (w1.alloc (.cells #[.bool br] 4)).ownsRow 0 4 1 (.slice td i tcap) i ((tokenF g i).map Value.bool) := by
        have h9 := HH.out.2.2.1.below (Below1 w1 (.cells #[.bool br] 4))
        unfold BRow at h9
        rw [tokenF_len] at h9
        exact h9
      have HOL := hide hol
      have c0 := HH.out.2.1.cell 0
      have f0 := HH.out.2.1.frozen 0
      have zb := HH.out.2.1.lt
      clear hol htk hbr
      go_wp2_with (at_builtin; (refine wpList_append_lies _ (by rfl) _ _ _ (by rfl) 0 4 ii _ 1 1 Try.underlying119 hii hz0 hz1 hz2 rfl (by omega) (.slice td i tcap) i ((tokenF g i).map Value.bool) (by rfl) HOL.out ⟨w1.heap.size, 0, none⟩ 1 1 [.bool br] (by rfl) (by rfl) (World.news_of_block (cs := #[.bool br]) (t := 4) (fr := (0, 0)) (by have := heap_alloc_new w1 (.cells #[.bool br] 4); simpa using this)) (by simp [Value.oneCell']) (by omega) (by unfold maxLen; omega) (by omega) (by simp) (w1.heap.size + 1) (by simp) ?_))
      intro gg cap6 w6 hown6 hgrow6 hat6 hlt6
      obtain ⟨w7, hw7⟩ : ∃ w7 : World, w6.setCell ⟨w.heap.size, 0, none⟩ (.slice (some ⟨gg, 0, none⟩) (i + 1) cap6) = w7 := ⟨_, rfl⟩
      obtain ⟨h1, h2, h3, h4, h5, h6⟩ := HH.out
      have hk6 : Kept (fun x => (Value.slice td i tcap).ownBlock = some x) (w1.alloc (.cells #[.bool br] 4)) w6 := ⟨hgrow6.os, hgrow6.tape, hgrow6.output, hgrow6.size, fun k hk he => hgrow6.block k hk (fun e => he e.symm)⟩
      have hB6 : Blk w6 w.heap.size #[.slice td i tcap, .slice sd i scap] 169 := (h2.alloc _).kept hk6 (fun e => by have := h5 _ e; omega)
      have hS6 : StepRows w6 (.slice sd i scap) (stepsTo kd g i) := by
        have h9 := h4.below (Below1 w1 (.cells #[.bool br] 4))
        obtain ⟨vs, g1, g2, g3⟩ := h9
        exact ⟨vs, ownsRow_kept g1 hk6 (own_ne g1 HOL.out (by decide)), g2, fun k x hx => (g3 k x hx).kept hk6 (own_ne (g3 k x hx) HOL.out (by decide))⟩
      have hT6 : BRow w6 (.slice (some ⟨gg, 0, none⟩) (i + 1) cap6) (tokenF g (i + 1)) := by
        unfold BRow
        rw [HTK.out, List.map_append, List.length_append, tokenF_len]
        exact hown6
      have hgg : w.heap.size < gg := by
        rcases hat6 with e | e
        · exact h5 gg e
        · omega
      have hb6 : Below w.heap.size w w6 := by
        have k1 : Below w.heap.size w (w1.alloc (.cells #[.bool br] 4)) := h1.alloc h1.size _
        exact k1.trans ⟨hk6.os, hk6.tape, hk6.output, hk6.size, fun x hx => hk6.block x (by have := k1.size; omega) (fun e => by have := h5 x e; omega)⟩
      have ks : Kept (fun x => x = w.heap.size) w6 w7 := by rw [← hw7]; exact Kept.setCell (ex := fun x => x = w.heap.size) (p := ⟨w.heap.size, 0, none⟩) (Kept.refl _ _) (fun _ => rfl) _
      have HH7 : Hid (Below w.heap.size w w7 ∧ Blk w7 w.heap.size #[.slice (some ⟨gg, 0, none⟩) (i + 1) cap6, .slice sd i scap] 169 ∧ BRow w7 (.slice (some ⟨gg, 0, none⟩) (i + 1) cap6) (tokenF g (i + 1)) ∧ StepRows w7 (.slice sd i scap) (stepsTo kd g i) ∧ w.heap.size < gg ∧ (∀ b, (Value.slice sd i scap).ownBlock = some b → w.heap.size < b)) := by
        refine ⟨by rw [← hw7]; exact hb6.setCell (p := ⟨w.heap.size, 0, none⟩) (Nat.le_refl _) _, by rw [← hw7]; exact hB6.set 0 _, hT6.kept ks (fun b hb e => by cases (Option.some.inj hb : gg = b); omega), ?_, hgg, h6⟩
        obtain ⟨vs, g1, g2, g3⟩ := hS6
        refine ⟨vs, ownsRow_kept g1 ks (fun b hb e => by have := h6 b hb; omega), g2, fun k x hx => (g3 k x hx).kept ks (fun b hb e => ?_)⟩
        subst e
        obtain ⟨cur, hcur⟩ := own_blk (g3 k x hx) hb
        have := (hcur.one hB6).2
        revert this
        decide
      have c6 := hB6.cell 0
      have f6 := hB6.frozen 0
      have z6 := hB6.lt
      clear h1 h2 h3 h4 h5 h6 hk6 hB6 hS6 hT6 hgg hb6 ks hown6 hgrow6 hat6 hlt6 HOL HH c0 f0
      go_upto_region 7 with fail
      try rw [hw7]
      clear hw7 c6 f6
      go_wp2_with fail
      refine (HST.out w7 HH7.out.1 i).mono ?_
      rintro e w8 ⟨nv, rfl, hSR, hvo, hb8⟩
      obtain ⟨nd, ncap, rfl, _⟩ := hSR.form
      have HH8 : Hid (Below w.heap.size w w8 ∧ Blk w8 w.heap.size #[.slice (some ⟨gg, 0, none⟩) (i + 1) cap6, .slice sd i scap] 169 ∧ BRow w8 (.slice (some ⟨gg, 0, none⟩) (i + 1) cap6) (tokenF g (i + 1)) ∧ StepRows w8 (.slice sd i scap) (stepsTo kd g i) ∧ w.heap.size < gg ∧ (∀ b, (Value.slice sd i scap).ownBlock = some b → w.heap.size < b) ∧ StepRow w8 (.slice nd (stepsF kd g i).length ncap) (stepsF kd g i)) :=
        ⟨HH7.out.1.trans (hb8.mono HH7.out.1.size), HH7.out.2.1.below hb8, HH7.out.2.2.1.below hb8, HH7.out.2.2.2.1.below hb8, HH7.out.2.2.2.2.1, HH7.out.2.2.2.2.2, hSR⟩
      clear hSR hvo hb8 HH7
      obtain ⟨vs, g1, g2, g3⟩ := HH8.out.2.2.2.1
      obtain ⟨ij, hij, hy0, hy1, hy2⟩ := info_parts Try.infoSteps3
      have hol : (w8.alloc (.cells #[.slice nd (stepsF kd g i).length ncap] 201)).ownsRow 0 201 1 (.slice sd i scap) i vs := by
        have h9 := ownsRow_kept (ex := fun _ => False) g1 (Kept.ofBelow (Below1 w8 (.cells #[.slice nd (stepsF kd g i).length ncap] 201))) (fun _ _ e => e)
        rw [stepsTo_len] at h9
        exact h9
      have HOL := hide hol
      have HVS : Hid (vs.length = i ∧ ∀ k x, vs[k]? = some x → StepRow w8 x ((stepsTo kd g i).getD k [])) := ⟨by rw [stepsTo_len] at g2; exact g2, g3⟩
      have c1 := HH8.out.2.1.cell 1
      have f1 := HH8.out.2.1.frozen 1
      have z8 := HH8.out.2.1.lt
      clear hol g1 g2 g3
      go_wp2_with (at_builtin; (refine wpList_append_lies _ (by rfl) _ _ _ (by rfl) 0 201 ij _ 1 24 Try.underlying167 hij hy0 hy1 hy2 rfl (by omega) (.slice sd i scap) i vs (by rfl) HOL.out ⟨w8.heap.size, 0, none⟩ 1 1 [.slice nd (stepsF kd g i).length ncap] (by rfl) (by rfl) (World.news_of_block (cs := #[.slice nd (stepsF kd g i).length ncap]) (t := 201) (fr := (0, 0)) (by have := heap_alloc_new w8 (.cells #[.slice nd (stepsF kd g i).length ncap] 201); simpa using this)) (by simp [Value.oneCell']) (by omega) (by unfold maxLen; omega) (by omega) (by simp) (w8.heap.size + 1) (by simp) ?_))
      intro gs cap9 w9 hown9 hgrow9 hat9 hlt9
      obtain ⟨h1, h2, h3, h4, h5, h6, h7⟩ := HH8.out
      have hk9 : Kept (fun x => (Value.slice sd i scap).ownBlock = some x) (w8.alloc (.cells #[.slice nd (stepsF kd g i).length ncap] 201)) w9 := ⟨hgrow9.os, hgrow9.tape, hgrow9.output, hgrow9.size, fun k hk he => hgrow9.block k hk (fun e => he e.symm)⟩
      have hB9 : Blk w9 w.heap.size #[.slice (some ⟨gg, 0, none⟩) (i + 1) cap6, .slice sd i scap] 169 := (h2.alloc _).kept hk9 (fun e => by have := h6 _ e; omega)
      have hT9 : BRow w9 (.slice (some ⟨gg, 0, none⟩) (i + 1) cap6) (tokenF g (i + 1)) := (h3.below (Below1 _ _)).kept hk9 (own_ne (h3.below (Below1 _ _)) HOL.out (by decide))
      have hS9 : StepRows w9 (.slice (some ⟨gs, 0, none⟩) (i + 1) cap9) (stepsTo kd g (i + 1)) := by
        refine ⟨vs ++ [.slice nd (stepsF kd g i).length ncap], by rw [stepsTo_len]; exact hown9, by rw [stepsTo_len]; simp [HVS.out.1], fun k x hx => ?_⟩
        rw [stepsTo_succ]
        by_cases e : k < i
        · rw [List.getElem?_append_left (by rw [HVS.out.1]; exact e)] at hx
          have e9 : (stepsTo kd g i ++ [stepsF kd g i]).getD k [] = (stepsTo kd g i).getD k [] := by rw [List.getD_eq_getElem?_getD, List.getElem?_append_left (by rw [stepsTo_len]; exact e), ← List.getD_eq_getElem?_getD]
          rw [e9]
          have h8 := (HVS.out.2 k x hx).below (Below1 w8 (.cells #[.slice nd (stepsF kd g i).length ncap] 201))
          exact h8.kept hk9 (own_ne h8 HOL.out (by decide))
        · rw [List.getElem?_append_right (by rw [HVS.out.1]; omega), HVS.out.1] at hx
          have hki : k = i := by
            rcases Nat.lt_or_ge (k - i) 1 with e2 | e2
            · omega
            · rw [List.getElem?_eq_none (by simpa using e2)] at hx; cases hx
          subst hki
          simp only [Nat.sub_self, List.getElem?_cons_zero, Option.some.injEq] at hx
          subst hx
          have e9 : (stepsTo kd g k ++ [stepsF kd g k]).getD k [] = stepsF kd g k := by rw [List.getD_eq_getElem?_getD, List.getElem?_append_right (by rw [stepsTo_len]; omega), stepsTo_len]; simp
          rw [e9]
          have h8 := h7.below (Below1 w8 (.cells #[.slice nd (stepsF kd g k).length ncap] 201))
          exact h8.kept hk9 (own_ne h8 HOL.out (by decide))
      have hgs : w.heap.size < gs := by
        rcases hat9 with e | e
        · exact h6 gs e
        · omega
      have hb9 : Below w.heap.size w w9 := by
        have k1 : Below w.heap.size w (w8.alloc (.cells #[.slice nd (stepsF kd g i).length ncap] 201)) := h1.alloc h1.size _
        exact k1.trans ⟨hk9.os, hk9.tape, hk9.output, hk9.size, fun x hx => hk9.block x (by have := k1.size; omega) (fun e => by have := h6 x e; omega)⟩
      have HH9 : Hid (Below w.heap.size w w9 ∧ Blk w9 w.heap.size #[.slice (some ⟨gg, 0, none⟩) (i + 1) cap6, .slice sd i scap] 169 ∧ BRow w9 (.slice (some ⟨gg, 0, none⟩) (i + 1) cap6) (tokenF g (i + 1)) ∧ StepRows w9 (.slice (some ⟨gs, 0, none⟩) (i + 1) cap9) (stepsTo kd g (i + 1)) ∧ w.heap.size < gg ∧ w.heap.size < gs) := ⟨hb9, hB9, hT9, hS9, h5, hgs⟩
      have c9 := hB9.cell 1
      have f9 := hB9.frozen 1
      have z9 := hB9.lt
      clear h1 h2 h3 h4 h5 h6 h7 hk9 hB9 hT9 hS9 hgs hb9 hown9 hgrow9 hat9 hlt9 HOL HH8 c1 f1 HVS
      go_wp2_with fail
      go_roundg (g.rule.length - (i + 1))
      case measure => omega
      case rel =>
        obtain ⟨h1, h2, h3, h4, h5, h6⟩ := HH9.out
        have ks : Kept (fun x => x = w.heap.size) w9 (w9.setCell ⟨w.heap.size, 1, none⟩ (.slice (some ⟨gs, 0, none⟩) (i + 1) cap9)) := Kept.setCell (ex := fun x => x = w.heap.size) (p := ⟨w.heap.size, 1, none⟩) (Kept.refl _ _) (fun _ => rfl) _
        refine ⟨i + 1, .slice (some ⟨gg, 0, none⟩) (i + 1) cap6, .slice (some ⟨gs, 0, none⟩) (i + 1) cap9, by go_num, by omega, rfl, h1.setCell (p := ⟨w.heap.size, 1, none⟩) (Nat.le_refl _) _, h2.set 1 _, h3.kept ks (fun b hb e => by cases (Option.some.inj hb : gg = b); omega), ?_, fun b hb => by cases (Option.some.inj hb : gg = b); exact h5, fun b hb => by cases (Option.some.inj hb : gs = b); exact h6⟩
        obtain ⟨vs', g1, g2, g3⟩ := h4
        refine ⟨vs', ownsRow_kept g1 ks (fun b hb e => by cases (Option.some.inj hb : gs = b); omega), g2, fun k x hx => (g3 k x hx).kept ks (fun b hb e => ?_)⟩
        subst e
        obtain ⟨cur, hcur⟩ := own_blk (g3 k x hx) hb
        have := (hcur.one h2).2
        revert this
        decide
    · have e0 : decide ((i : Int) < (g.rule.length : Int)) = false := by simp; omega
      obtain rfl : i = g.rule.length := by omega
      have HH : Hid (Below w.heap.size w wr ∧ Blk wr w.heap.size #[tv, sv] 169 ∧ BRow wr tv (tokenF g g.rule.length) ∧ StepRows wr sv (stepsTo kd g g.rule.length)) := ⟨hbw, hB, hT, hS⟩
      clear hbw hB hT hS hO1 hO2
      go_wp2_with fail
      refine (HCO.out wr HH.out.1).mono ?_
      rintro e w0 ⟨rfl, rfl⟩
      go_wp2_with fail
      go_ret
      exact ⟨w.heap.size, rfl, ⟨tv, sv, HH.out.2.1, HH.out.2.2.1, HH.out.2.2.2⟩, HH.out.1⟩
end Go.Proofs.Ytcckhngbdoiikaa
