import Derived.Test.YtcckhngbdoiikaaM45
import Derived.Test.YtcckhngbdoiikaaS01
import Derived.Deep.DeepCutAuto
import Derived.Test.YtcckhngbdoiikaaM31
import Derived.Test.YtcckhngbdoiikaaM36
import Derived.Test.YtcckhngbdoiikaaM39

namespace Go.Proofs.Ytcckhngbdoiikaa
open Go.RowKit Go.Deep
set_option linter.unusedVariables false

/-- What told tells, in memory. -/
structure TabC (w : World) (tg og : Nat) (rg rc : Nat → Nat) (kd : Nat → Nat) (g : Graph) : Prop where
  to_ : ∀ i, i < g.rule.length → w.cell? ⟨tg, i, none⟩ = some (.slice (some ⟨rg i, 0, none⟩) 256 (rc i))
  row : ∀ i b, i < g.rule.length → b < 256 → w.cell? ⟨rg i, b, none⟩ = some (.int .i64 (nextF kd g (i : Int) (b : Int)))
  of_ : ∀ i, i < g.rule.length → w.cell? ⟨og, i, none⟩ = some (.int .i64 (ruleOfF g (i : Int)))
  tlt : tg < w.heap.size
  olt : og < w.heap.size
  rlt : ∀ i, i < g.rule.length → rg i < w.heap.size
theorem TabC.below {w w' : World} {tg og : Nat} {rg rc : Nat → Nat} {kd : Nat → Nat} {g : Graph} (h : TabC w tg og rg rc kd g) (k : Below w.heap.size w w') : TabC w' tg og rg rc kd g :=
  ⟨fun i hi => (k.cell (p := ⟨tg, i, none⟩) h.tlt).trans (h.to_ i hi), fun i b hi hb => (k.cell (p := ⟨rg i, b, none⟩) (h.rlt i hi)).trans (h.row i b hi hb), fun i hi => (k.cell (p := ⟨og, i, none⟩) h.olt).trans (h.of_ i hi), by have := k.size; have := h.tlt; omega, by have := k.size; have := h.olt; omega, fun i hi => by have := k.size; have := h.rlt i hi; omega⟩
theorem rowB_take (kd : Nat → Nat) (g : Graph) (i b : Nat) (hb : b < 256) : (rowB kd g i).take (b + 1) = (rowB kd g i).take b ++ [nextF kd g (i : Int) (b : Int)] := by
  have h : b < (rowB kd g i).length := by rw [rowB_len]; exact hb
  rw [List.take_succ_eq_append_getElem h]
  congr 2
  simp [rowB]

set_option maxRecDepth 20000 in
set_option maxHeartbeats 6400000 in
theorem front_any (tg og tcap ocap : Nat) (rg rc : Nat → Nat) (kd : Nat → Nat) (g : Graph) (s : Nat) (w : World) (h : TabC w tg og rg rc kd g) (hf : LexFit kd g) (hlen : g.next.length = g.rule.length) (hs : s < g.rule.length) :
    Calls Try.prog 69 #[.agg #[.slice (some ⟨tg, 0, none⟩) g.rule.length tcap, .slice (some ⟨og, 0, none⟩) g.rule.length ocap], .int .i64 (s : Int)] w fun e w' => ∃ f, e = .returned (.int .i64 f) ∧ FrontIs kd g s f ∧ Below w.heap.size w w' := by
  have hfew := hf.few
  have HF := hide (And.intro hf hlen)
  have HIN := hide hf.into
  have HT := hide h
  have hmk := makeBools g.rule.length (by omega)
  have s0 : (0 : Int) ≤ (s : Int) := by omega
  have s1 : (s : Int) < (g.rule.length : Int) := by omega
  have HS := hide hs
  clear h hf hlen
  obtain ⟨w1, hw1⟩ : ∃ w1 : World, (w.alloc (.cells #[.slice (some ⟨tg, 0, none⟩) g.rule.length tcap, .slice (some ⟨og, 0, none⟩) g.rule.length ocap] 48)).alloc (.cells (boolsA (List.replicate g.rule.length false)) 4) = w1 := ⟨_, rfl⟩
  have hN1 : Blk w1 (w.heap.size + 1) (boolsA (List.replicate g.rule.length false)) 4 := by rw [← hw1]; exact Blk.at1 _ _ _ _
  have hT1 : Blk w1 w.heap.size #[.slice (some ⟨tg, 0, none⟩) g.rule.length tcap, .slice (some ⟨og, 0, none⟩) g.rule.length ocap] 48 := by rw [← hw1]; exact (Blk.new _ _ _).alloc _
  have hb1 : Below w.heap.size w w1 := by rw [← hw1]; exact Below2 _ _ _
  have x0 := boolsA_cellD hN1 s (by simp; omega)
  have xf := hN1.frozen s
  have zx := hN1.lt
  have HW1 : Hid (Blk w1 (w.heap.size + 1) (boolsA (List.replicate g.rule.length false)) 4 ∧ Blk w1 w.heap.size #[.slice (some ⟨tg, 0, none⟩) g.rule.length tcap, .slice (some ⟨og, 0, none⟩) g.rule.length ocap] 48 ∧ Below w.heap.size w w1) := ⟨hN1, hT1, hb1⟩
  clear hN1 hT1 hb1
  go_enter Try.func69, Try.ntmps69
  go_upto_region 3 with fail
  try rw [hw1]
  clear hw1
  go_wp2_with fail
  go_loopg [6, 7, 8] (g.rule.length + 1) (fun G nv fv kv wr => ∃ (k far nb : Nat) (now : List Bool), nv = .slice (some ⟨nb, 0, none⟩) g.rule.length g.rule.length ∧ fv = .int .i64 (far : Int) ∧ kv = .int .i64 (((k + 1 : Nat)) : Int) ∧ k ≤ g.rule.length + 1 ∧ G = g.rule.length + 1 - k ∧ FInv kd g s k now far ∧ Blk wr nb (boolsA now) 4 ∧ w.heap.size < nb ∧ Below w.heap.size w wr ∧ Blk wr w.heap.size #[.slice (some ⟨tg, 0, none⟩) g.rule.length tcap, .slice (some ⟨og, 0, none⟩) g.rule.length ocap] 48 ∧ (0 < k → ∃ u, FwdT kd g (s : Int) k u))
  case atStart =>
    refine ⟨0, 0, w.heap.size + 1, (List.replicate g.rule.length false).set s true, rfl, rfl, rfl, by omega, rfl, FInv.start HS.out, ?_, by omega, ?_, ?_, fun h0 => by omega⟩
    · rw [← boolsA_set]; exact HW1.out.1.set s _
    · exact HW1.out.2.2.setCell (p := ⟨w.heap.size + 1, s, none⟩) (show w.heap.size ≤ w.heap.size + 1 by omega) _
    · exact HW1.out.2.1.setOther (p := ⟨w.heap.size + 1, s, none⟩) (show w.heap.size ≠ w.heap.size + 1 by omega) _
  case round =>
    obtain ⟨k, far, nb, now, rfl, rfl, rfl, hk, rfl, hFI, hN, hnb, hbw, hTb, hu⟩ := hrel
    by_cases hle : k ≤ g.rule.length
    · have e0 : decide (((k + 1 : Nat) : Int) ≤ (g.rule.length : Int) + 1) = true := by simp; omega
      have hnl := hFI.len
      have HFI := hide hFI
      have HH : Hid (Blk wr nb (boolsA now) 4 ∧ Below w.heap.size w wr ∧ Blk wr w.heap.size #[.slice (some ⟨tg, 0, none⟩) g.rule.length tcap, .slice (some ⟨og, 0, none⟩) g.rule.length ocap] 48) := ⟨hN, hbw, hTb⟩
      have znb := hN.lt
      have zwr := hTb.lt
      clear hFI hN hbw hTb hu
      obtain ⟨wo, rfl⟩ : ∃ wo : World, wo = wr := ⟨_, rfl⟩
      obtain ⟨st0, hst0⟩ : ∃ st0 : FroT, st0 = ⟨List.replicate g.rule.length false, false, far⟩ := ⟨_, rfl⟩
      have HST0 := hide hst0
      have hx0 : st0.next = List.replicate g.rule.length false := by rw [hst0]
      have hx1 : st0.any = false := by rw [hst0]
      have hx2 : st0.far = far := by rw [hst0]
      have HX := hide (And.intro hx0 (And.intro hx1 hx2))
      clear hst0 hx0 hx1 hx2
      go_wp2_with fail
      go_loopg [7, 10, 11] g.rule.length (fun G fv sv iv wi => ∃ (i : Nat) (st : FroT), fv = .int .i64 (st.far : Int) ∧ sv = .bool st.any ∧ iv = .int .i64 (i : Int) ∧ i ≤ g.rule.length ∧ G = g.rule.length - i ∧ (rowsTo kd g now i).foldl (fstep g (k + 1)) st0 = st ∧ Blk wi wo.heap.size (boolsA st.next) 4 ∧ Below wo.heap.size wo wi)
      case atStart =>
        obtain ⟨x0, x1, x2⟩ := HX.out
        refine ⟨0, st0, by rw [x2], by rw [x1], rfl, by omega, rfl, rfl, ?_, Below1 _ _⟩
        rw [x0]
        exact Blk.new _ _ _
      case round =>
        obtain ⟨i, st, rfl, rfl, rfl, hi, rfl, hst, hX, hbi⟩ := hrel
        by_cases hlt : i < g.rule.length
        · have e1 : decide ((i : Int) < (g.rule.length : Int)) = true := by simp; omega
          have i0 : (0 : Int) ≤ (i : Int) := by omega
          have i1 : (i : Int) < (g.rule.length : Int) := by omega
          have HI : Hid ((rowsTo kd g now i).foldl (fstep g (k + 1)) st0 = st ∧ Blk wr wo.heap.size (boolsA st.next) 4 ∧ Below wo.heap.size wo wr) := ⟨hst, hX, hbi⟩
          clear hst hX hbi
          obtain ⟨wm, rfl⟩ : ∃ wm : World, wm = wr := ⟨_, rfl⟩
          go_wp2_with fail
          go_loopg [7, 10, 12] 256 (fun G fv sv bv wj => ∃ (b : Nat) (st' : FroT), fv = .int .i64 (st'.far : Int) ∧ sv = .bool st'.any ∧ bv = .int .i64 (b : Int) ∧ b ≤ 256 ∧ G = 256 - b ∧ ((now.getD i false = true ∧ ((rowB kd g i).take b).foldl (fstep g (k + 1)) st = st') ∨ (now.getD i false = false ∧ st' = st ∧ b = 0)) ∧ Blk wj wo.heap.size (boolsA st'.next) 4 ∧ Below wo.heap.size wo wj)
          case atStart =>
            refine ⟨0, st, rfl, rfl, rfl, by omega, rfl, ?_, HI.out.2.1, HI.out.2.2⟩
            cases hh : now.getD i false with
            | true => exact .inl ⟨rfl, rfl⟩
            | false => exact .inr ⟨rfl, rfl, rfl⟩
          case round =>
            obtain ⟨b, st', rfl, rfl, rfl, hb, rfl, hfo, hX, hbj⟩ := hrel
            have hN' := HH.out.1.below hbj
            have n0 := boolsA_cellD hN' i (by omega)
            have hsl : st'.next.length = g.rule.length := by
              have h0 : st.next.length = g.rule.length := by rw [← HI.out.1, fsteps_len, HX.out.1]; simp
              rcases hfo with ⟨_, e⟩ | ⟨_, e, _⟩
              · rw [← e, fsteps_len, h0]
              · rw [e, h0]
            by_cases hb2 : b < 256
            · have e2 : decide ((b : Int) < 256) = true := by simp; omega
              rcases hfo with ⟨hm, hfo⟩ | ⟨hm, rfl, rfl⟩
              · rw [hm] at n0
                have hbb : Below w.heap.size w wr := HH.out.2.1.trans (hbj.mono HH.out.2.1.size)
                have hTC := HT.out.below hbb
                have hTb := HH.out.2.2.below hbj
                have c0 := hTb.cell 0
                have c1 := hTb.cell 1
                have t0 := hTC.to_ i hlt
                have t1 := hTC.row i b hlt hb2
                have b0 : (0 : Int) ≤ (b : Int) := by omega
                have b1 : (b : Int) < 256 := by omega
                have hin := HIN.out (i : Int) (b : Int)
                have htk := rowB_take kd g i b hb2
                have HJ : Hid (((rowB kd g i).take b).foldl (fstep g (k + 1)) st = st' ∧ Blk wr wo.heap.size (boolsA st'.next) 4 ∧ Below wo.heap.size wo wr ∧ (rowB kd g i).take (b + 1) = (rowB kd g i).take b ++ [nextF kd g (i : Int) (b : Int)]) := ⟨hfo, hX, hbj, htk⟩
                have HTO := hide (fun j hj => hTC.of_ j hj)
                generalize nextF kd g (i : Int) (b : Int) = u at t1 hin HJ
                clear hfo hX hbj htk hN' hbb hTC hTb
                rcases hin with rfl | ⟨hu0, hu1⟩
                · go_wp2_with fail
                  go_roundg (256 - (b + 1))
                  case measure => omega
                  case rel =>
                    obtain ⟨r1, r2, r3, r4⟩ := HJ.out
                    refine ⟨b + 1, st', rfl, rfl, by go_num, by omega, rfl, .inl ⟨hm, ?_⟩, r2, r3⟩
                    rw [r4, List.foldl_append, r1]
                    rfl
                · obtain ⟨q, rfl⟩ : ∃ q : Nat, u = (q : Int) := ⟨u.toNat, by omega⟩
                  have hq : q < g.rule.length := by omega
                  have o0 := HTO.out q hq
                  have u0 : (0 : Int) ≤ (q : Int) := by omega
                  have u1 : (q : Int) < (g.rule.length : Int) := by omega
                  have e3 : decide ((0 : Int) ≤ (q : Int)) = true := by simp
                  by_cases hr : ruleOfF g (q : Int) = -1
                  · have e4 : (ruleOfF g (q : Int) != -1) = false := by simp [hr]
                    have hst2 : fstep g (k + 1) st' (q : Int) = ⟨st'.next.set q true, true, st'.far⟩ := by
                      unfold fstep
                      rw [if_neg (fun e => e.2 hr), if_pos u0, Int.toNat_natCast]
                    generalize ruleOfF g (q : Int) = r at o0 e4
                    have x0 := boolsA_cellD HJ.out.2.1 q (by omega)
                    have xf := HJ.out.2.1.frozen q
                    have xz := HJ.out.2.1.lt
                    have HS2 := hide hst2
                    clear hst2 hr
                    go_wp2_with fail
                    go_roundg (256 - (b + 1))
                    case measure => omega
                    case rel =>
                      obtain ⟨r1, r2, r3, r4⟩ := HJ.out
                      refine ⟨b + 1, ⟨st'.next.set q true, true, st'.far⟩, rfl, rfl, by go_num, by omega, rfl, .inl ⟨hm, ?_⟩, ?_, ?_⟩
                      · rw [r4, List.foldl_append, r1]
                        exact HS2.out
                      · show Blk _ _ (boolsA (st'.next.set q true)) _
                        rw [← boolsA_set]
                        exact r2.set q _
                      · exact r3.setCell (p := ⟨wo.heap.size, q, none⟩) (Nat.le_refl _) _
                  · have e4 : (ruleOfF g (q : Int) != -1) = true := by simp [hr]
                    have hst2 : fstep g (k + 1) st' (q : Int) = ⟨st'.next, st'.any, k + 1⟩ := by
                      unfold fstep
                      rw [if_pos ⟨u0, hr⟩]
                    generalize ruleOfF g (q : Int) = r at o0 e4
                    have HS2 := hide hst2
                    clear hst2 hr
                    go_wp2_with fail
                    go_roundg (256 - (b + 1))
                    case measure => omega
                    case rel =>
                      obtain ⟨r1, r2, r3, r4⟩ := HJ.out
                      refine ⟨b + 1, ⟨st'.next, st'.any, k + 1⟩, rfl, rfl, by go_num, by omega, rfl, .inl ⟨hm, ?_⟩, r2, r3⟩
                      rw [r4, List.foldl_append, r1]
                      exact HS2.out
              · rw [hm] at n0
                have HJ : Hid (Blk wr wo.heap.size (boolsA st'.next) 4 ∧ Below wo.heap.size wo wr) := ⟨hX, hbj⟩
                clear hX hbj hN'
                go_wp2_with fail
                go_roundg (g.rule.length - (i + 1))
                case measure => omega
                case rel =>
                  refine ⟨i + 1, st', rfl, rfl, by go_num, by omega, rfl, ?_, HJ.out.1, HJ.out.2⟩
                  rw [rowsTo_succ, hm, if_neg (by simp), List.append_nil]
                  exact HI.out.1
            · have e2 : decide ((b : Int) < 256) = false := by simp; omega
              obtain rfl : b = 256 := by omega
              rcases hfo with ⟨hm, hfo⟩ | ⟨_, _, h9⟩
              · have HJ : Hid (Blk wr wo.heap.size (boolsA st'.next) 4 ∧ Below wo.heap.size wo wr ∧ ((rowB kd g i).take 256).foldl (fstep g (k + 1)) st = st') := ⟨hX, hbj, hfo⟩
                clear hX hbj hN' hfo
                go_wp2_with fail
                go_roundg (g.rule.length - (i + 1))
                case measure => omega
                case rel =>
                  refine ⟨i + 1, st', rfl, rfl, by go_num, by omega, rfl, ?_, HJ.out.1, HJ.out.2.1⟩
                  rw [rowsTo_succ, if_pos hm, List.foldl_append, HI.out.1, ← HJ.out.2.2, List.take_of_length_le (by rw [rowB_len]; exact Nat.le_refl _)]
              · omega
        · have e1 : decide ((i : Int) < (g.rule.length : Int)) = false := by simp; omega
          obtain rfl : i = g.rule.length := by omega
          obtain ⟨f1, f2, f3⟩ := HFI.out.round HF.out.1 HF.out.2 st (by rw [← HST0.out]; exact hst)
          have HI : Hid (Blk wr wo.heap.size (boolsA st.next) 4 ∧ Below wo.heap.size wo wr ∧ FInv kd g s (k + 1) st.next st.far ∧ (st.any = false → ∀ d, LeadT kd g d (s : Int) → d + 1 ≤ st.far) ∧ (st.any = true → ∃ u, FwdT kd g (s : Int) (k + 1) u)) := ⟨hX, hbi, f1, f2, f3⟩
          clear hst hX hbi f1 f2 f3
          cases hsa : st.any with
          | true =>
            go_wp2_with fail
            go_roundg (g.rule.length + 1 - (k + 1))
            case measure => omega
            case rel =>
              obtain ⟨r1, r2, r3, r4, r5⟩ := HI.out
              refine ⟨k + 1, st.far, wo.heap.size, st.next, rfl, rfl, by go_num, by omega, rfl, r3, r1, by omega, HH.out.2.1.trans (r2.mono HH.out.2.1.size), HH.out.2.2.below r2, fun _ => r5 hsa⟩
          | false =>
            go_wp2_with fail
            go_ret
            obtain ⟨r1, r2, r3, r4, r5⟩ := HI.out
            refine ⟨_, rfl, .inl ⟨st.far, rfl, ?_, r4 hsa, r3.there⟩, HH.out.2.1.trans (r2.mono HH.out.2.1.size)⟩
            have := r3.le
            omega
    · have e0 : decide (((k + 1 : Nat) : Int) ≤ (g.rule.length : Int) + 1) = false := by simp; omega
      obtain rfl : k = g.rule.length + 1 := by omega
      have HU := hide (And.intro (hu (by omega)) hbw)
      clear hu hbw hFI hN hTb
      go_wp2_with fail
      go_ret
      exact ⟨_, rfl, .inr ⟨rfl, HU.out.1⟩, HU.out.2⟩

end Go.Proofs.Ytcckhngbdoiikaa

namespace Go.Proofs.Ytcckhngbdoiikaa
open Go.RowKit Go.Deep
set_option linter.unusedVariables false

set_option maxRecDepth 20000 in
set_option maxHeartbeats 3200000 in
theorem greatest_any (tg og tcap ocap : Nat) (rg rc : Nat → Nat) {R : RulesT} (kd : Nat → Nat) (g : Graph) (w : World) (h : TabC w tg og rg rc kd g) (hR : buildF R = some (kd, g)) (hf : LexFit kd g) :
    Calls Try.prog 38 #[.agg #[.slice (some ⟨tg, 0, none⟩) g.rule.length tcap, .slice (some ⟨og, 0, none⟩) g.rule.length ocap]] w fun e w' => e = .returned (.int .i64 (if (gapOf kd g).bounded = true then ((gapOf kd g).k : Int) else -1)) ∧ Below w.heap.size w w' := by
  have hfew := hf.few
  have hlen := (build_lexG hR).len
  have HFR := hide (fun (W : World) (hb : Below w.heap.size w W) (s : Nat) (hs : s < g.rule.length) => front_any tg og tcap ocap rg rc kd g s W (h.below hb) hf hlen hs)
  have HT := hide h
  have HR := hide hR
  have HF := hide hf
  clear h hR hf hlen
  generalize hV : (if (gapOf kd g).bounded = true then ((gapOf kd g).k : Int) else -1) = V
  have HV := hide hV
  clear hV
  go_enter Try.func38, Try.ntmps38
  go_wp2_with fail
  go_loopg [3, 4] g.rule.length (fun G kv sv wr => ∃ (s k : Nat), kv = .int .i64 (k : Int) ∧ sv = .int .i64 (s : Int) ∧ s ≤ g.rule.length ∧ G = g.rule.length - s ∧ GrInv kd g s k ∧ Below w.heap.size w wr ∧ Blk wr w.heap.size #[.slice (some ⟨tg, 0, none⟩) g.rule.length tcap, .slice (some ⟨og, 0, none⟩) g.rule.length ocap] 48)
  case atStart => exact ⟨0, 0, rfl, rfl, by omega, rfl, GrInv.start kd g, Below1 _ _, Blk.new _ _ _⟩
  case round =>
    obtain ⟨s, k, rfl, rfl, hs, rfl, hG, hbw, hTb⟩ := hrel
    have c0 := hTb.cell 0
    have c1 := hTb.cell 1
    have hkl := hG.le
    by_cases hlt : s < g.rule.length
    · have e0 : decide ((s : Int) < (g.rule.length : Int)) = true := by simp; omega
      have o0 := (HT.out.below hbw).of_ s hlt
      have i0 : (0 : Int) ≤ (s : Int) := by omega
      have i1 : (s : Int) < (g.rule.length : Int) := by omega
      have HH : Hid (GrInv kd g s k ∧ Below w.heap.size w wr ∧ Blk wr w.heap.size #[.slice (some ⟨tg, 0, none⟩) g.rule.length tcap, .slice (some ⟨og, 0, none⟩) g.rule.length ocap] 48) := ⟨hG, hbw, hTb⟩
      have HF1 := hide (HFR.out wr hbw s hlt)
      clear hG hbw hTb
      by_cases hsk : 0 < s ∧ ruleOfF g (s : Int) = -1
      · have e1 : decide ((0 : Int) < (s : Int)) = true := by simp; omega
        have e2 : (ruleOfF g (s : Int) == -1) = true := by simp [hsk.2]
        have HSK := hide hsk
        have hs0 : 0 < s := hsk.1
        generalize ruleOfF g (s : Int) = r at o0 e2
        clear hsk
        go_wp2_with fail
        go_roundg (g.rule.length - (s + 1))
        case measure => omega
        case rel => exact ⟨s + 1, k, rfl, by go_num, by omega, rfl, HH.out.1.skip HSK.out.1 HSK.out.2, HH.out.2.1, HH.out.2.2⟩
      · have htk : ruleOfF g (s : Int) ≠ -1 ∨ s = 0 := by
          by_cases e : s = 0
          · exact .inr e
          · exact .inl (fun e' => hsk ⟨by omega, e'⟩)
        have HTK := hide htk
        have hway : (s = 0 ∧ decide ((0 : Int) < (s : Int)) = false) ∨ (decide ((0 : Int) < (s : Int)) = true ∧ (ruleOfF g (s : Int) == -1) = false ∧ 0 < s) := by
          by_cases e : s = 0
          · exact .inl ⟨e, by simp [e]⟩
          · exact .inr ⟨by simp; omega, by simp; exact fun e' => hsk ⟨by omega, e'⟩, by omega⟩
        clear hsk htk
        go_upto_region 5 with fail
        go_cut [22] (fun cv wx => cv = .bool false ∧ wx = wr)
        case first =>
          rcases hway with ⟨rfl, e1⟩ | ⟨e1, e2, e3⟩
          all_goals
            go_wp2_with fail
            go_meet
            exact ⟨rfl, rfl⟩
        case rest =>
          obtain ⟨rfl, rfl⟩ := hcut
          clear hway o0
          go_wp2_with fail
          refine HF1.out.mono ?_
          rintro e w1 ⟨f, rfl, hfi, hb1⟩
          have HH1 : Hid (Below w.heap.size w w1 ∧ Blk w1 w.heap.size #[.slice (some ⟨tg, 0, none⟩) g.rule.length tcap, .slice (some ⟨og, 0, none⟩) g.rule.length ocap] 48) := ⟨HH.out.2.1.trans (hb1.mono HH.out.2.1.size), HH.out.2.2.below hb1⟩
          clear hb1 HF1 c0 c1
          rcases hfi with ⟨far, rfl, h1, h2, h3⟩ | ⟨rfl, hbad⟩
          · have e3 : decide ((far : Int) < 0) = false := by simp
            have hst := HH.out.1.step hlt HTK.out h1 h2 h3
            have HST := hide hst
            clear hst h2 h3
            by_cases hkf : k < far
            · have e4 : decide ((k : Int) < (far : Int)) = true := by simp; omega
              go_wp2_with fail
              go_roundg (g.rule.length - (s + 1))
              case measure => omega
              case rel => exact ⟨s + 1, far, rfl, by go_num, by omega, rfl, by have h9 := HST.out; rw [if_pos hkf] at h9; exact h9, HH1.out.1, HH1.out.2⟩
            · have e4 : decide ((k : Int) < (far : Int)) = false := by simp; omega
              go_wp2_with fail
              go_roundg (g.rule.length - (s + 1))
              case measure => omega
              case rel => exact ⟨s + 1, k, rfl, by go_num, by omega, rfl, by have h9 := HST.out; rw [if_neg hkf] at h9; exact h9, HH1.out.1, HH1.out.2⟩
          · have hbf := front_bad HR.out HF.out hlt HTK.out hbad
            have HBF := hide hbf
            clear hbf hbad
            go_wp2_with fail
            go_ret
            refine ⟨?_, HH1.out.1⟩
            rw [← HV.out, HBF.out]
            rfl
    · have e0 : decide ((s : Int) < (g.rule.length : Int)) = false := by simp; omega
      obtain rfl : s = g.rule.length := by omega
      obtain ⟨d1, d2⟩ := hG.done HR.out HF.out
      have HB := hide (And.intro hbw (And.intro d1 d2))
      clear hG hbw hTb d1 d2
      go_wp2_with fail
      go_ret
      refine ⟨?_, HB.out.1⟩
      rw [← HV.out, if_pos HB.out.2.1, HB.out.2.2]
      rfl
end Go.Proofs.Ytcckhngbdoiikaa

namespace Go.Proofs.Ytcckhngbdoiikaa
open Go.RowKit Go.Deep
set_option linter.unusedVariables false

abbrev rowsV (rg : Nat → Nat) (s : Nat) : List Value := (List.range s).map (fun i => .slice (some ⟨rg i, 0, none⟩) 256 256)
abbrev rulesTo (g : Graph) (s : Nat) : List Int := (List.range s).map (fun (i : Nat) => ruleOfF g (i : Int))
/-- How told stands: so many rows, so many rules. -/
structure ToldAt (w0 w : World) (n r : Nat) (tov ofv : Value) (rg : Nat → Nat) (kd : Nat → Nat) (g : Graph) : Prop where
  below : Below w0.heap.size w0 w
  to_ : NRow w tov (rowsV rg n)
  row : ∀ i, i < n → Blk w (rg i) (intsA (rowB kd g i)) 3
  of_ : IRow w ofv (rulesTo g r)
  tob : ∀ b, tov.ownBlock = some b → w0.heap.size + 1 < b
  ofb : ∀ b, ofv.ownBlock = some b → w0.heap.size + 1 < b ∧ ∀ i, i < n → rg i ≠ b
  rb : ∀ i, i < n → w0.heap.size + 1 < rg i
  res : Blk w w0.heap.size #[.slice none 0 0, .slice none 0 0] 48
  t : Blk w (w0.heap.size + 1) #[tov, ofv] 48
theorem ToldAt.more {w0 w w' : World} {n r : Nat} {tov ofv : Value} {rg : Nat → Nat} {kd : Nat → Nat} {g : Graph} (h : ToldAt w0 w n r tov ofv rg kd g) (k : Below w.heap.size w w') : ToldAt w0 w' n r tov ofv rg kd g :=
  ⟨h.below.trans (k.mono h.below.size), h.to_.below k, fun i hi => (h.row i hi).below k, h.of_.below k, h.tob, h.ofb, h.rb, h.res.below k, h.t.below k⟩
/-- One row more. -/
theorem ToldAt.push1 {w0 w w2 : World} {n r : Nat} {tov ofv : Value} {rg : Nat → Nat} {kd : Nat → Nat} {g : Graph} (h : ToldAt w0 w n r tov ofv rg kd g) {rb : Nat} (hI : Blk w rb (intsA (rowB kd g n)) 3) (hrb : w0.heap.size + 1 < rb) (hof : ofv.ownBlock ≠ some rb) {gg cap : Nat}
    (hown : w2.ownsRow 0 40 1 (.slice (some ⟨gg, 0, none⟩) (n + 1) cap) (n + 1) (rowsV rg n ++ [.slice (some ⟨rb, 0, none⟩) 256 256])) (hgrow : (w.alloc (.cells #[.slice (some ⟨rb, 0, none⟩) 256 256] 40)).grownBy w2 tov.ownBlock) (hat : tov.ownBlock = some gg ∨ gg = w.heap.size + 1) :
    ToldAt w0 (w2.setCell ⟨w0.heap.size + 1, 0, none⟩ (.slice (some ⟨gg, 0, none⟩) (n + 1) cap)) (n + 1) r (.slice (some ⟨gg, 0, none⟩) (n + 1) cap) ofv (fun i => if i = n then rb else rg i) kd g := by
  have hA := h.more (Below1 w (.cells #[.slice (some ⟨rb, 0, none⟩) 256 256] 40))
  have hI1 := hI.below (Below1 w (.cells #[.slice (some ⟨rb, 0, none⟩) 256 256] 40))
  have hk : Kept (fun b => tov.ownBlock = some b) (w.alloc (.cells #[.slice (some ⟨rb, 0, none⟩) 256 256] 40)) w2 := ⟨hgrow.os, hgrow.tape, hgrow.output, hgrow.size, fun k hk he => hgrow.block k hk (fun e => he e.symm)⟩
  have hz := h.t.lt
  have hgg : w0.heap.size + 1 < gg := by
    rcases hat with e | e
    · exact h.tob gg e
    · omega
  have hko : Kept (fun k => k = w0.heap.size + 1) w2 (w2.setCell ⟨w0.heap.size + 1, 0, none⟩ (.slice (some ⟨gg, 0, none⟩) (n + 1) cap)) := Kept.setCell (ex := fun k => k = w0.heap.size + 1) (p := ⟨w0.heap.size + 1, 0, none⟩) (Kept.refl _ _) (fun _ => rfl) _
  have hrows : ∀ i, i < n + 1 → Blk w2 (if i = n then rb else rg i) (intsA (rowB kd g i)) 3 ∧ w0.heap.size + 1 < (if i = n then rb else rg i) := fun i hi => by
    by_cases e : i = n
    · rw [if_pos e, e]
      exact ⟨hI1.kept hk (fun e => ownsRow_ne hA.to_ hI1 (by decide) e), hrb⟩
    · rw [if_neg e]
      exact ⟨(hA.row i (by omega)).kept hk (fun e => ownsRow_ne hA.to_ (hA.row i (by omega)) (by decide) e), h.rb i (by omega)⟩
  have hrv : rowsV rg n ++ [.slice (some ⟨rb, 0, none⟩) 256 256] = rowsV (fun i => if i = n then rb else rg i) (n + 1) := by
    unfold rowsV
    rw [List.range_succ, List.map_append]
    congr 1
    · apply List.map_congr_left
      intro i hi
      have := List.mem_range.1 hi
      simp only
      rw [if_neg (by omega)]
    · simp
  refine ⟨?_, ?_, fun i hi => ?_, ?_, fun b hb => ?_, fun b hb => ⟨(h.ofb b hb).1, fun i hi => ?_⟩, fun i hi => (hrows i hi).2, ?_, ?_⟩
  · exact (hA.below.trans ⟨hk.os, hk.tape, hk.output, hk.size, fun b hb => hk.block b (by simp; omega) (fun e => by have := h.tob b e; omega)⟩).setCell (p := ⟨w0.heap.size + 1, 0, none⟩) (show w0.heap.size ≤ w0.heap.size + 1 by omega) _
  · have h1 : NRow w2 (.slice (some ⟨gg, 0, none⟩) (n + 1) cap) (rowsV (fun i => if i = n then rb else rg i) (n + 1)) := by
      unfold NRow
      rw [← hrv]
      simpa using hown
    exact h1.kept hko (fun b hb e => by cases (Option.some.inj hb : gg = b); omega)
  · have := (hrows i hi).2
    exact (hrows i hi).1.setOther (p := ⟨w0.heap.size + 1, 0, none⟩) (by show _ ≠ w0.heap.size + 1; omega) _
  · exact (hA.of_.kept hk (own_ne hA.of_ hA.to_ (by decide))).kept hko (fun b hb e => by have := (h.ofb b hb).1; omega)
  · cases (Option.some.inj hb : gg = b)
    exact hgg
  · by_cases e : i = n
    · rw [if_pos e]
      intro e'
      exact hof (by rw [e']; exact hb)
    · rw [if_neg e]
      exact (h.ofb b hb).2 i (by omega)
  · exact (hA.res.kept hk (fun e => ownsRow_ne hA.to_ hA.res (by decide) e)).setOther (p := ⟨w0.heap.size + 1, 0, none⟩) (by show _ ≠ w0.heap.size + 1; omega) _
  · exact (hA.t.kept hk (fun e => ownsRow_ne hA.to_ hA.t (by decide) e)).set 0 _
/-- One rule more. -/
theorem ToldAt.push2 {w0 w w2 : World} {n r : Nat} {tov ofv : Value} {rg : Nat → Nat} {kd : Nat → Nat} {g : Graph} (h : ToldAt w0 w n r tov ofv rg kd g) {x : Int} (hx : ruleOfF g (r : Int) = x) {gf cap : Nat}
    (hown : w2.ownsRow 0 3 1 (.slice (some ⟨gf, 0, none⟩) (r + 1) cap) (r + 1) ((rulesTo g r).map (Value.int .i64) ++ [.int .i64 x])) (hgrow : (w.alloc (.cells #[.int .i64 x] 3)).grownBy w2 ofv.ownBlock) (hat : ofv.ownBlock = some gf ∨ gf = w.heap.size + 1) :
    ToldAt w0 (w2.setCell ⟨w0.heap.size + 1, 1, none⟩ (.slice (some ⟨gf, 0, none⟩) (r + 1) cap)) n (r + 1) tov (.slice (some ⟨gf, 0, none⟩) (r + 1) cap) rg kd g := by
  subst hx
  have hA := h.more (Below1 w (.cells #[.int .i64 (ruleOfF g (r : Int))] 3))
  have hk : Kept (fun b => ofv.ownBlock = some b) (w.alloc (.cells #[.int .i64 (ruleOfF g (r : Int))] 3)) w2 := ⟨hgrow.os, hgrow.tape, hgrow.output, hgrow.size, fun k hk he => hgrow.block k hk (fun e => he e.symm)⟩
  have hz := h.t.lt
  have hgf : w0.heap.size + 1 < gf := by
    rcases hat with e | e
    · exact (h.ofb gf e).1
    · omega
  have hko : Kept (fun k => k = w0.heap.size + 1) w2 (w2.setCell ⟨w0.heap.size + 1, 1, none⟩ (.slice (some ⟨gf, 0, none⟩) (r + 1) cap)) := Kept.setCell (ex := fun k => k = w0.heap.size + 1) (p := ⟨w0.heap.size + 1, 1, none⟩) (Kept.refl _ _) (fun _ => rfl) _
  have hrv : (rulesTo g r).map (Value.int .i64) ++ [.int .i64 (ruleOfF g (r : Int))] = (rulesTo g (r + 1)).map (Value.int .i64) := by
    unfold rulesTo
    rw [List.range_succ, List.map_append, List.map_append]
    simp
  have hne : ofv.ownBlock ≠ some w0.heap.size := fun e => by have := (h.ofb _ e).1; omega
  have hne1 : ofv.ownBlock ≠ some (w0.heap.size + 1) := fun e => by have := (h.ofb _ e).1; omega
  refine ⟨?_, ?_, fun i hi => ?_, ?_, h.tob, fun b hb => ?_, h.rb, ?_, ?_⟩
  · exact (hA.below.trans ⟨hk.os, hk.tape, hk.output, hk.size, fun b hb => hk.block b (by simp; omega) (fun e => by have := (h.ofb b e).1; omega)⟩).setCell (p := ⟨w0.heap.size + 1, 1, none⟩) (show w0.heap.size ≤ w0.heap.size + 1 by omega) _
  · exact (hA.to_.kept hk (own_ne hA.to_ hA.of_ (by decide))).kept hko (fun b hb e => by have := h.tob b hb; omega)
  · have h1 := h.rb i hi
    exact ((hA.row i hi).kept hk (fun e => (h.ofb _ e).2 i hi rfl)).setOther (p := ⟨w0.heap.size + 1, 1, none⟩) (by show _ ≠ w0.heap.size + 1; omega) _
  · have h1 : IRow w2 (.slice (some ⟨gf, 0, none⟩) (r + 1) cap) (rulesTo g (r + 1)) := by
      unfold IRow
      rw [← hrv]
      simpa using hown
    exact h1.kept hko (fun b hb e => by cases (Option.some.inj hb : gf = b); omega)
  · cases (Option.some.inj hb : gf = b)
    refine ⟨hgf, fun i hi => ?_⟩
    rcases hat with e | e
    · exact (h.ofb gf e).2 i hi
    · have := (h.row i hi).lt
      omega
  · exact (hA.res.kept hk hne).setOther (p := ⟨w0.heap.size + 1, 1, none⟩) (by show _ ≠ w0.heap.size + 1; omega) _
  · exact (hA.t.kept hk hne1).set 1 _
theorem TabC.setCell {w : World} {tg og : Nat} {rg rc : Nat → Nat} {kd : Nat → Nat} {g : Graph} (h : TabC w tg og rg rc kd g) {p : Addr} (h1 : tg ≠ p.block) (h2 : og ≠ p.block) (h3 : ∀ i, i < g.rule.length → rg i ≠ p.block) (v : Value) : TabC (w.setCell p v) tg og rg rc kd g := by
  have hk : Kept (fun k => k = p.block) w (w.setCell p v) := Kept.setCell (ex := fun k => k = p.block) (Kept.refl _ _) (fun _ => rfl) _
  exact ⟨fun i hi => (hk.cell (p := ⟨tg, i, none⟩) h.tlt h1).trans (h.to_ i hi), fun i b hi hb => (hk.cell (p := ⟨rg i, b, none⟩) (h.rlt i hi) (h3 i hi)).trans (h.row i b hi hb), fun i hi => (hk.cell (p := ⟨og, i, none⟩) h.olt h2).trans (h.of_ i hi), by have := hk.size; have := h.tlt; omega, by have := hk.size; have := h.olt; omega, fun i hi => by have := hk.size; have := h.rlt i hi; omega⟩
theorem ToldAt.tab {w0 w : World} {tg tcap og ocap : Nat} {rg : Nat → Nat} {kd : Nat → Nat} {g : Graph} (h : ToldAt w0 w g.rule.length g.rule.length (.slice (some ⟨tg, 0, none⟩) g.rule.length tcap) (.slice (some ⟨og, 0, none⟩) g.rule.length ocap) rg kd g) : TabC w tg og rg (fun _ => 256) kd g := by
  have hl1 : (rowsV rg g.rule.length).length = g.rule.length := by simp
  have hl2 : (rulesTo g g.rule.length).length = g.rule.length := by simp
  have h1 : NRow w (.slice (some ⟨tg, 0, none⟩) (rowsV rg g.rule.length).length tcap) (rowsV rg g.rule.length) := by rw [hl1]; exact h.to_
  have h2 : IRow w (.slice (some ⟨og, 0, none⟩) (rulesTo g g.rule.length).length ocap) (rulesTo g g.rule.length) := by rw [hl2]; exact h.of_
  refine ⟨fun i hi => ?_, fun i b hi hb => ?_, fun i hi => ?_, ownsRow_lt h.to_ tg rfl, ownsRow_lt h.of_ og rfl, fun i hi => (h.row i hi).lt⟩
  · have := h1.cell i (by omega)
    rw [this]
    simp
  · have hbl : b < (rowB kd g i).length := by rw [rowB_len]; exact hb
    have h3 := intsA_cell (h.row i hi) b hbl
    have h4 := rowB_get kd g i b hb
    rw [h3, ← h4]
    simp [hbl]
  · have := h2.cell i (by omega)
    rw [this]
    simp
theorem Try.infoTab : (Try.prog.info? 48).map (·.size) = some 2 := by kernel_rfl

set_option maxRecDepth 20000 in
set_option maxHeartbeats 6400000 in
theorem told_any (pb : Nat) {R : RulesT} (kd : Nat → Nat) (g : Graph) (w : World) (h : LexAt w pb kd g) (hR : buildF R = some (kd, g)) (hf : LexFit kd g) :
    Calls Try.prog 24 #[.pointer (some ⟨pb, 0, none⟩)] w fun e w' => ∃ tg tcap og ocap rg rc, e = .returned (.tuple #[.agg #[.slice (some ⟨tg, 0, none⟩) g.rule.length tcap, .slice (some ⟨og, 0, none⟩) g.rule.length ocap], .bool true]) ∧ TabC w' tg og rg rc kd g ∧ Below w.heap.size w w' := by
  have hfew := hf.few
  have hpos := hf.pos
  have HST := hide (fun (W : World) (hb : Below w.heap.size w W) => states_any pb kd g W (h.below hb))
  have HNX := hide (fun (W : World) (hb : Below w.heap.size w W) (s b : Int) => lexNext_any pb kd g s b W (h.below hb) hf.ok)
  have HRU := hide (fun (W : World) (hb : Below w.heap.size w W) (s : Int) => lexRule_any pb kd g s W (h.below hb))
  have HGE := hide (fun s => build_rule_ge hR s)
  have HIN := hide hf.into
  have hmk : ∀ w : World, (Instr.makeSlice 40 (.int .i64 256) (.int .i64 256)).run Try.prog w = .ok (.slice (some ⟨w.heap.size, 0, none⟩) 256 256) (w.alloc (.cells (intsA (List.replicate 256 0)) 3)) := makeInts 256 (by omega)
  clear h hR hf
  go_enter Try.func24, Try.ntmps24
  go_wp2_with fail
  refine (HST.out _ (Below2 _ _ _)).mono ?_
  rintro e w1 ⟨rfl, rfl⟩
  have e0 : decide ((g.rule.length : Int) < 1) = false := by simp; omega
  have e1 : decide ((61 : Int) < (g.rule.length : Int)) = false := by simp; omega
  go_wp2_with fail
  go_loopg [6] g.rule.length (fun G sv wr => ∃ (s : Nat) (tov ofv : Value) (rg : Nat → Nat), sv = .int .i64 (s : Int) ∧ s ≤ g.rule.length ∧ G = g.rule.length - s ∧ ToldAt w wr s s tov ofv rg kd g)
  case atStart =>
    refine ⟨0, .slice none 0 0, .slice none 0 0, fun _ => 0, rfl, by omega, rfl, ⟨Below2 _ _ _, ?_, fun i hi => by omega, ?_, fun b e => (by cases e), fun b e => (by cases e), fun i hi => by omega, (Blk.new _ _ _).alloc _, Blk.at1 _ _ _ _⟩⟩
    · exact World.ownsRow_nil _ _ _ _
    · exact World.ownsRow_nil _ _ _ _
  case round =>
    obtain ⟨s, tov, ofv, rg, rfl, hs, rfl, hA⟩ := hrel
    by_cases hlt : s < g.rule.length
    · have e2 : decide ((s : Int) < (g.rule.length : Int)) = true := by simp; omega
      have HA := hide hA
      clear hA
      obtain ⟨wo, rfl⟩ : ∃ wo : World, wo = wr := ⟨_, rfl⟩
      go_wp2_with fail
      go_loopg [8] 256 (fun G bv wi => ∃ (b : Nat) (l : List Int), bv = .int .i64 (b : Int) ∧ b ≤ 256 ∧ G = 256 - b ∧ l.length = 256 ∧ (∀ j : Nat, j < b → l.getD j 0 = nextF kd g (s : Int) (j : Int)) ∧ Blk wi wo.heap.size (intsA l) 3 ∧ Below wo.heap.size wo wi)
      case atStart => exact ⟨0, List.replicate 256 0, rfl, by omega, rfl, by simp, fun j hj => by omega, Blk.new _ _ _, Below1 _ _⟩
      case round =>
        obtain ⟨b, l, rfl, hb, rfl, hl, hsp, hI, hbi⟩ := hrel
        have hbw : Below w.heap.size w wr := HA.out.below.trans (hbi.mono HA.out.below.size)
        by_cases hb2 : b < 256
        · have e3 : decide ((b : Int) < 256) = true := by simp; omega
          have b0 : (0 : Int) ≤ (b : Int) := by omega
          have b1 : (b : Int) < 256 := by omega
          have HN1 := hide (HNX.out wr hbw (s : Int) (b : Int))
          have hin := HIN.out (s : Int) (b : Int)
          have HI : Hid (l.length = 256 ∧ (∀ j : Nat, j < b → l.getD j 0 = nextF kd g (s : Int) (j : Int)) ∧ Blk wr wo.heap.size (intsA l) 3 ∧ Below wo.heap.size wo wr) := ⟨hl, hsp, hI, hbi⟩
          clear hl hsp hI hbi hbw
          go_wp2_with fail
          refine HN1.out.mono ?_
          rintro e w2 ⟨rfl, hb2'⟩
          obtain ⟨r1, r2, r3, r4⟩ := HI.out
          have hI2 := r3.below hb2'
          obtain ⟨lb, x0⟩ : ∃ lb, w2.cell? ⟨wo.heap.size, b, none⟩ = some (.int .i64 lb) := ⟨_, intsA_cell hI2 b (by omega)⟩
          have xf := hI2.frozen b
          have xz := hI2.lt
          have HI2 : Hid (l.length = 256 ∧ (∀ j : Nat, j < b → l.getD j 0 = nextF kd g (s : Int) (j : Int)) ∧ Blk w2 wo.heap.size (intsA l) 3 ∧ Below wo.heap.size wo w2) := ⟨r1, r2, hI2, r4.trans (hb2'.mono r4.size)⟩
          clear r1 r2 r3 r4 hI2 hb2' HI HN1
          obtain ⟨u, hu⟩ : ∃ u, nextF kd g (s : Int) (b : Int) = u := ⟨_, rfl⟩
          have HU := hide hu
          rw [hu] at hin ⊢
          have e4 : decide (u < -1) = false := by simp; omega
          have e5 : decide ((g.rule.length : Int) ≤ u) = false := by simp; omega
          clear hu
          go_wp2_with fail
          go_roundg (256 - (b + 1))
          case measure => omega
          case rel =>
            obtain ⟨r1, r2, r3, r4⟩ := HI2.out
            refine ⟨b + 1, l.set b u, by go_num, by omega, rfl, by simp [r1], fun j hj => ?_, ?_, ?_⟩
            · rw [getD_set _ _ _ _ (by omega)]
              split
              · rename_i e; rw [e, HU.out]
              · exact r2 j (by omega)
            · rw [← intsA_set]
              exact r3.set b _
            · exact r4.setCell (p := ⟨wo.heap.size, b, none⟩) (Nat.le_refl _) _
        · have e3 : decide ((b : Int) < 256) = false := by simp; omega
          obtain rfl : b = 256 := by omega
          have hrow : l = rowB kd g s := by
            refine List.ext_getElem (by rw [hl, rowB_len]) fun j h1 h2 => ?_
            have h3 := hsp j (by omega)
            have h4 := rowB_get kd g s j (by omega)
            rw [← h4] at h3
            simpa [h1, h2] using h3
          subst hrow
          have HR1 := hide (HRU.out wr hbw (s : Int))
          have hge := HGE.out (s : Int)
          have HA2 := hide (HA.out.more hbi)
          have HA0 := hide HA.out
          have HI : Hid (Blk wr wo.heap.size (intsA (rowB kd g s)) 3 ∧ wo.heap.size < wr.heap.size) := ⟨hI, hI.lt⟩
          have hz2 := HA.out.t.lt
          clear hl hsp hI hbi hbw HA
          go_wp2_with fail
          refine HR1.out.mono ?_
          rintro e w2 ⟨rfl, rfl⟩
          obtain ⟨r, hr⟩ : ∃ r, ruleOfF g (s : Int) = r := ⟨_, rfl⟩
          have HRR := hide hr
          rw [hr] at hge ⊢
          have e4 : decide (r < -1) = false := by simp; omega
          clear hr HR1
          have hTo := HA2.out.to_
          have hOf := HA2.out.of_
          obtain ⟨td, tcap, htov, _⟩ := hTo.form
          obtain ⟨od, ocap, hofv, _⟩ := hOf.form
          have hl1 : (rowsV rg s).length = s := by simp
          have hl2 : (rulesTo g s).length = s := by simp
          rw [hl1] at htov
          rw [hl2] at hofv
          subst htov hofv
          have c0 := HA2.out.t.cell 0
          have c1 := HA2.out.t.cell 1
          have f0 := HA2.out.t.frozen 0
          have f1 := HA2.out.t.frozen 1
          have zt := HA2.out.t.lt
          clear hTo hOf hl1 hl2
          obtain ⟨ij, hj, hy0, hy1, hy2⟩ := info_parts Try.infoN3
          have hom : (w2.alloc (.cells #[.slice (some ⟨wo.heap.size, 0, none⟩) 256 256] 40)).ownsRow 0 40 1 (.slice td s tcap) s (rowsV rg s) := by
            have h9 := HA2.out.to_.below (Below1 w2 (.cells #[.slice (some ⟨wo.heap.size, 0, none⟩) 256 256] 40))
            unfold NRow at h9
            simpa using h9
          have HOM := hide hom
          have hs61 : s ≤ 61 := by omega
          clear hom
          go_wp2_with (at_builtin; (refine wpList_append_lies _ (by rfl) _ _ _ (by rfl) 0 40 ij _ 1 24 Try.underlying46 hj hy0 hy1 hy2 rfl (by omega) (.slice td s tcap) s (rowsV rg s) (by rfl) HOM.out ⟨w2.heap.size, 0, none⟩ 1 1 [.slice (some ⟨wo.heap.size, 0, none⟩) 256 256] (by rfl) (by rfl) (World.news_of_block (cs := #[.slice (some ⟨wo.heap.size, 0, none⟩) 256 256]) (t := 40) (fr := (0, 0)) (heap_alloc_new w2 _)) (by simp [Value.oneCell']) (by omega) (by unfold maxLen; omega) (by omega) (by simp) (w2.heap.size + 1) (by simp) ?_))
          intro gg cap3 w3 hown3 hgrow3 hat3 hlt3
          have hA1 := HA2.out.more (Below1 w2 (.cells #[.slice (some ⟨wo.heap.size, 0, none⟩) 256 256] 40))
          have hk3 : Kept (fun b => (Value.slice td s tcap).ownBlock = some b) (w2.alloc (.cells #[.slice (some ⟨wo.heap.size, 0, none⟩) 256 256] 40)) w3 := ⟨hgrow3.os, hgrow3.tape, hgrow3.output, hgrow3.size, fun k hk he => hgrow3.block k hk (fun e => he e.symm)⟩
          have ht3 := hA1.t.kept hk3 (fun e => ownsRow_ne hA1.to_ hA1.t (by decide) e)
          have hofne : (Value.slice od s ocap).ownBlock ≠ some wo.heap.size := fun e => by
            have h9 := ownsRow_lt HA0.out.of_ wo.heap.size e
            omega
          have hA3 := HA2.out.push1 HI.out.1 (by omega) hofne hown3 hgrow3 hat3
          have HA3 := hide hA3
          have d0 := ht3.cell 0
          have d1 := ht3.cell 1
          have df0 := ht3.frozen 0
          have df1 := ht3.frozen 1
          have zt3 := ht3.lt
          obtain ⟨ii, hii, hz0, hz1, hz2⟩ := info_parts Try.infoI3
          have hol : ((w3.setCell ⟨w.heap.size + 1, 0, none⟩ (.slice (some ⟨gg, 0, none⟩) (s + 1) cap3)).alloc (.cells #[.int .i64 r] 3)).ownsRow 0 3 1 (.slice od s ocap) s ((rulesTo g s).map (Value.int .i64)) := by
            have h9 := hA3.of_.below (Below1 _ (.cells #[.int .i64 r] 3))
            unfold IRow at h9
            simpa using h9
          have HOL := hide hol
          clear hA1 hk3 ht3 hofne hA3 hol hown3 hgrow3 hat3 HOM HA2 HI c0 c1 f0 f1 hj hy0 hy1 hy2
          go_wp2_with (at_builtin; (refine wpList_append_lies _ (by rfl) _ _ _ (by rfl) 0 3 ii _ 1 8 Try.underlying40 hii hz0 hz1 hz2 rfl (by omega) (.slice od s ocap) s ((rulesTo g s).map (Value.int .i64)) (by rfl) HOL.out ⟨w3.heap.size, 0, none⟩ 1 1 [.int .i64 r] (by rfl) (by rfl) (World.news_of_block (cs := #[.int .i64 r]) (t := 3) (fr := (0, 0)) (by have := heap_alloc_new (w3.setCell ⟨w.heap.size + 1, 0, none⟩ (.slice (some ⟨gg, 0, none⟩) (s + 1) cap3)) (.cells #[.int .i64 r] 3); simpa using this)) (by simp [Value.oneCell']) (by omega) (by unfold maxLen; omega) (by omega) (by simp) (w3.heap.size + 1) (by simp) ?_))
          intro gf cap4 w4 hown4 hgrow4 hat4 hlt4
          have hA5 := HA3.out.push2 HRR.out (by unfold rulesTo; rw [List.map_map]; exact hown4) hgrow4 (by simpa using hat4)
          have hA4 := HA3.out.more (Below1 _ (.cells #[.int .i64 r] 3))
          have hk4 : Kept (fun b => (Value.slice od s ocap).ownBlock = some b) ((w3.setCell ⟨w.heap.size + 1, 0, none⟩ (.slice (some ⟨gg, 0, none⟩) (s + 1) cap3)).alloc (.cells #[.int .i64 r] 3)) w4 := ⟨hgrow4.os, hgrow4.tape, hgrow4.output, hgrow4.size, fun k hk he => hgrow4.block k hk (fun e => he e.symm)⟩
          have ht4 := hA4.t.kept hk4 (fun e => by have := (hA4.ofb _ e).1; omega)
          have d2 := ht4.cell 1
          have df2 := ht4.frozen 1
          have zt4 := ht4.lt
          have HA5 := hide hA5
          clear hA5 hA4 hk4 ht4 hown4 hgrow4 hat4 HA3 HOL d0 d1 df0 df1
          go_wp2_with fail
          go_roundg (g.rule.length - (s + 1))
          case measure => omega
          case rel => exact ⟨s + 1, _, _, _, by go_num, by omega, rfl, HA5.out⟩
    · have e2 : decide ((s : Int) < (g.rule.length : Int)) = false := by simp; omega
      obtain rfl : s = g.rule.length := by omega
      obtain ⟨td, tcap, htov, htg⟩ := hA.to_.form
      obtain ⟨od, ocap, hofv, hog⟩ := hA.of_.form
      have hl1 : (rowsV rg g.rule.length).length = g.rule.length := by simp
      have hl2 : (rulesTo g g.rule.length).length = g.rule.length := by simp
      rw [hl1] at htov htg
      rw [hl2] at hofv hog
      subst htov hofv
      rcases htg with h9 | ⟨tg, rfl⟩
      · omega
      rcases hog with h9 | ⟨og, rfl⟩
      · omega
      have c0 := hA.t.cell 0
      have c1 := hA.t.cell 1
      have z0 := hA.res.cell 0
      have z1 := hA.res.cell 1
      have zf0 := hA.res.frozen 0
      have zf1 := hA.res.frozen 1
      have zt := hA.t.lt
      have HA := hide hA
      clear hA
      go_wp2_with fail
      have hbF := (HA.out.below.setCell (p := ⟨w.heap.size, 0, none⟩) (Nat.le_refl _) (.slice (some ⟨tg, 0, none⟩) g.rule.length tcap)).setCell (p := ⟨w.heap.size, 1, none⟩) (Nat.le_refl _) (.slice (some ⟨og, 0, none⟩) g.rule.length ocap)
      have h1 : tg ≠ w.heap.size := by have := HA.out.tob tg rfl; omega
      have h2 : og ≠ w.heap.size := by have := (HA.out.ofb og rfl).1; omega
      have h3 : ∀ i, i < g.rule.length → rg i ≠ w.heap.size := fun i hi => by have := HA.out.rb i hi; omega
      exact bodyPost_ret (results_cell_tmp Try.results24 _ _ w.heap.size 48 _ (0, 0) _ rfl ((HA.out.res.set 0 _).set 1 _) Try.underlying48 rfl Try.infoTab) rfl ⟨tg, tcap, og, ocap, rg, fun _ => 256, rfl, (HA.out.tab.setCell (p := ⟨w.heap.size, 0, none⟩) h1 h2 h3 _).setCell (p := ⟨w.heap.size, 1, none⟩) h1 h2 h3 _, hbF⟩
end Go.Proofs.Ytcckhngbdoiikaa

namespace Go.Proofs.Ytcckhngbdoiikaa
open Go.RowKit Go.Deep
set_option linter.unusedVariables false

/-- The words from a place on, of what was begun. -/
theorem words_begun {all : List NodeT} {tops : List Nat} {trs : List Tree} (hfit : Fitted all tops trs) (s : ByteArray) (hs : s.size ≤ 50000) (htl : tops.length ≤ 2000000) {w w5 : World} {av tv : Value} (ha : NodeRow w av all) (ht : IRow w tv (natsI tops)) {kv : Value} {R : Nat → Nat} (hb5 : Below w.heap.size w w5) (hwb : Blk w5 (w.heap.size + 1) #[av, tv, .string s, kv] 128) (hbg : Begun w5 (w.heap.size + 1) (s.size + 1) kv R all.length) (p : Nat) (hp : p ≤ s.size) :
    ∃ c : MemoC, c.s = s ∧ (∀ t, c.tr t = trs.getD t treeD) ∧ Calls Try.prog 35 #[.pointer (some ⟨w.heap.size + 1, 0, none⟩), .int .i64 (p : Int)] w5 fun e w' => ∃ v, e = .returned v ∧ BRows w' v (wordRows c tops p) (s.size + 1) ∧ Below w.heap.size w w' := by
  have hpos : 0 < all.length := by
    have h9 := hfit.ne
    have h8 := hfit.into 0 (List.length_pos_iff.2 h9)
    omega
  obtain ⟨kg, kcap, rfl, hM⟩ := Memo.ofBegun (fun t => trs.getD t treeD) hpos hwb (ha.below hb5) hbg
  have hM0 := hM (fun _ => False)
  obtain ⟨c, hc⟩ : ∃ c : MemoC, c = ⟨w.heap.size + 1, kg, kcap, R, av, tv, s, all, fun t => trs.getD t treeD⟩ := ⟨_, rfl⟩
  have hm : Memo c (fun _ => False) w5 := by rw [hc]; exact hM0
  have hcs : c.s = s := by rw [hc]
  have hca : c.all = all := by rw [hc]
  have hct : ∀ t, c.tr t = trs.getD t treeD := by rw [hc]; intro t; rfl
  have hcw : c.wb = w.heap.size + 1 := by rw [hc]
  have hcv : c.tv = tv := by rw [hc]
  have hOV : ∀ t ∈ tops, OverC c t := fun t ht => by
    obtain ⟨j, hj, rfl⟩ := List.getElem_of_mem ht
    have h9 := hfit.into j hj
    have e9 : tops.getD j 0 = tops[j] := by simp [hj]
    rw [e9] at h9
    exact overs c (by rw [hcs]; omega) (fun n hn => hfit.nodes c hca hct n hn) _ (by rw [hca]; exact h9)
  have hRM : ∀ b, c.M b → w.heap.size ≤ b := by
    rintro b ⟨n, hn, rfl⟩
    rw [hca] at hn
    have h9 := (hbg.each n hn).2
    rw [hc]
    show w.heap.size ≤ R n
    omega
  have hcN : c.N = s.size + 1 := by unfold MemoC.N; rw [hcs]
  refine ⟨c, hcs, hct, ?_⟩
  have HWD := words_any c tops hOV (fun _ => False) w5 p (fun b hb => hb.elim) hm (by rw [hcv]; exact ht.below hb5) (by rw [hcs]; exact hp) htl
  rw [hcw, hcN] at HWD
  refine HWD.mono ?_
  rintro e w6 ⟨v, rfl, hrows, _, hk6, _⟩
  exact ⟨v, rfl, hrows, hb5.trans ⟨hk6.os, hk6.tape, hk6.output, hk6.size, fun b hb => hk6.block b (by have := hb5.size; omega) (fun e => by have := hRM b e; omega)⟩⟩

set_option maxRecDepth 20000 in
set_option maxHeartbeats 6400000 in
theorem neighbours_any {all : List NodeT} {tops : List Nat} {trs : List Tree} (hfit : Fitted all tops trs) {kd : Nat → Nat} {g : Graph} (hn : newF (spellK all tops tops.length).1 = .lexer kd g) (u z : ByteArray) (hp : PairIs kd g (bytesN u) (bytesN z)) (hz : 0 < z.size) (hsz : u.size + z.size ≤ 50000) (hal : all.length ≤ 2000000) (htl : tops.length ≤ 2000000) (av tv : Value) (w : World) (ha : NodeRow w av all) (ht : IRow w tv (natsI tops)) :
    Calls Try.prog 39 #[.agg #[av, tv], .string u, .string z] w fun e w' => e = .returned (.bool true) ∧ Below w.heap.size w w' := by
  obtain ⟨ad, acap, rfl, harow⟩ := ha.form
  obtain ⟨td, tcap, rfl, htrow⟩ := ht.formN
  have hS : (u ++ z).size = u.size + z.size := ByteArray.size_append
  have u1 : ∀ W : World, (Op.stringOp .add u z).run Try.prog W = .ok (.string (u ++ z)) W := fun W => run_string_add_sum W _ _ (by omega)
  have ez : z.toList.isEmpty = false := notEmpty z (by omega)
  obtain ⟨wB, hwB⟩ : ∃ wB : World, w.alloc (.cells #[.slice ad all.length acap, .slice td tops.length tcap] 42) = wB := ⟨_, rfl⟩
  have hbB : Below w.heap.size w wB := by rw [← hwB]; exact Below1 _ _
  have haB := ha.below hbB
  have htB := ht.below hbB
  have hrb : Blk wB w.heap.size #[.slice ad all.length acap, .slice td tops.length tcap] 42 := by rw [← hwB]; exact Blk.new _ _ _
  have r0 := hrb.cell 0
  have r1 := hrb.cell 1
  have HBG := hide (begun_any (.slice ad all.length acap) (.slice td tops.length tcap) all (u ++ z) wB haB tops htB (by omega) (by omega))
  have HB := hide (And.intro haB (And.intro htB hbB))
  have HFIT := hide hfit
  have HN := hide hn
  have HP := hide hp
  have HS := hide hS
  have hle : u.size + z.size = (u ++ z).size := hS.symm
  have hle2 : (u ++ z).size ≤ 50000 := by omega
  have hun : u.size < (u ++ z).size := by omega
  clear ha ht haB htB hrb hbB hfit hn hp hS hle
  go_enter Try.func39, Try.ntmps39
  go_upto_region 2 with fail
  try rw [hwB]
  clear u1
  go_wp2_with fail
  try rw [hwB]
  clear hwB
  refine HBG.out.mono ?_
  rintro e w5 ⟨kv, R, rfl, hb5, hwb, hbg⟩
  obtain ⟨c, hcs, hct, hW⟩ := words_begun HFIT.out (u ++ z) hle2 htl HB.out.1 HB.out.2.1 hb5 hwb hbg 0 (Nat.zero_le _)
  have HW := hide hW
  have hno := neigh_ok HFIT.out HN.out c hct hcs HP.out
  have HNO := hide hno
  have hrn : ∀ i, i < (wordRows c tops 0).length → ((wordRows c tops 0).getD i []).length = (u ++ z).size + 1 := fun j hj => by
    have hj' : j < tops.length := by simpa [wordRows] using hj
    have e9 : (wordRows c tops 0).getD j [] = rowT (bytesN c.s) (c.tr (tops.getD j 0)) 0 := by simp [wordRows, hj']
    rw [e9, rowT_len]
    unfold MemoC.N
    rw [hcs]
  have hrl : (wordRows c tops 0).length ≤ 2000000 := by simp [wordRows]; omega
  have HRN := hide hrn
  clear hb5 hwb hbg hW hno hrn hcs hct HBG r0 r1
  generalize wordRows c tops 0 = rows at HW HNO HRN hrl
  go_wp2_with fail
  refine HW.out.mono ?_
  rintro e w6 ⟨rv, rfl, hrows, hb6⟩
  obtain ⟨vs, hrow, hvl, hvs⟩ := hrows
  obtain ⟨_, rd, rcap, rfl, hform⟩ := ownsRow_form hrow
  have hcell : ∀ i, i < rows.length → ∃ rg b, rd = some ⟨rg, 0, none⟩ ∧ w6.cell? ⟨rg, i, none⟩ = some (.slice (some ⟨b, 0, none⟩) ((u ++ z).size + 1) ((u ++ z).size + 1)) ∧ BRow w6 (.slice (some ⟨b, 0, none⟩) ((u ++ z).size + 1) ((u ++ z).size + 1)) (rows.getD i []) := fun i hi => by
    rcases hform with ⟨_, h9⟩ | ⟨rg, cur, rfl, _⟩
    · omega
    · obtain ⟨b, h1, h2⟩ := hvs i hi
      exact ⟨rg, b, rfl, by rw [ownsRow_cell hrow i (by omega)]; exact h1, h2⟩
  have HC := hide hcell
  have HB6 : Hid (Below w.heap.size w w6) := HB.out.2.2.trans (hb6.mono HB.out.2.2.size)
  generalize hN1 : u ++ z = s at *
  clear hcell hrow hvs hvl hform hb6 HW hN1
  go_wp2_with fail
  go_loopg [10] s.size (fun G qv wr => ∃ q : Nat, qv = .int .i64 (q : Int) ∧ 0 < q ∧ q ≤ s.size + 1 ∧ G = s.size + 1 - q ∧ wr = w6)
  case atStart => exact ⟨1, rfl, by omega, by omega, by omega, rfl⟩
  case round =>
    obtain ⟨q, rfl, q0, hq, rfl, rfl⟩ := hrel
    by_cases hlt : q ≤ s.size
    · have e0 : decide ((q : Int) ≤ (s.size : Int)) = true := by simp; omega
      obtain ⟨n1, n2⟩ := HNO.out q q0 hlt
      have HNN := hide (And.intro n1 n2)
      clear n1 n2
      go_wp2_with fail
      go_loopg [11, 12] rows.length (fun G bv iv wi => ∃ i : Nat, bv = .bool (anyAt (rows.take i) q) ∧ iv = .int .i64 (i : Int) ∧ i ≤ rows.length ∧ G = rows.length - i ∧ wi = wr)
      case atStart => exact ⟨0, rfl, rfl, by omega, rfl, rfl⟩
      case round =>
        obtain ⟨i, rfl, rfl, hi, rfl, rfl⟩ := hrel
        by_cases hli : i < rows.length
        · have e2 : decide ((i : Int) < (rows.length : Int)) = true := by simp; omega
          obtain ⟨rg, b, rfl, c1, hB⟩ := HC.out i hli
          have c2 := hB.cellD q (by rw [HRN.out i hli]; omega)
          have hat := anyAt_take rows q i hli
          have HAT := hide hat
          have i0 : (0 : Int) ≤ (i : Int) := by omega
          have i1 : (i : Int) < (rows.length : Int) := by omega
          have q1 : (0 : Int) ≤ (q : Int) := by omega
          have q2 : (q : Int) < (s.size : Int) + 1 := by omega
          generalize anyAt (rows.take i) q = wd at HAT
          generalize (rows.getD i []).getD q false = rd9 at HAT c2
          clear hat hB
          cases wd with
          | true =>
            go_wp2_with fail
            go_roundg (rows.length - (i + 1))
            case measure => omega
            case rel => exact ⟨i + 1, by rw [HAT.out]; rfl, by go_num, by omega, rfl, rfl⟩
          | false =>
            go_wp2_with fail
            go_roundg (rows.length - (i + 1))
            case measure => omega
            case rel => exact ⟨i + 1, by rw [HAT.out]; rfl, by go_num, by omega, rfl, rfl⟩
        · have e2 : decide ((i : Int) < (rows.length : Int)) = false := by simp; omega
          obtain rfl : i = rows.length := by omega
          obtain ⟨n1, n2⟩ := HNN.out
          have hw9 : anyAt (rows.take rows.length) q = anyAt rows q := by rw [List.take_length]
          rw [hw9]
          generalize anyAt rows q = wd at n1 n2
          have hway : (wd = true ∧ (q = u.size ∨ q = s.size)) ∨ (q ≠ u.size ∧ q ≠ s.size ∧ (q < u.size ∨ wd = false)) := by
            by_cases h1 : q = u.size ∨ q = s.size
            · exact .inl ⟨n1 h1, h1⟩
            · refine .inr ⟨fun e => h1 (.inl e), fun e => h1 (.inr e), ?_⟩
              by_cases h2 : q < u.size
              · exact .inl h2
              · exact .inr (n2 (by omega) (by omega))
          clear n1 n2 hw9 HNN
          go_upto_region 12 with fail
          go_cut [56] (fun cv wx => cv = .bool false ∧ wx = wr)
          case first =>
            rcases hway with ⟨rfl, h1 | h1⟩ | ⟨h1, h2, h3⟩
            · have f1 : ((q : Int) == (u.size : Int)) = true := by simp [h1]
              clear h1 HNO HRN HC HB HB6 HFIT HN HP HS
              go_wp2_with fail
              go_meet
              exact ⟨rfl, rfl⟩
            · have f2 : ((q : Int) == (s.size : Int)) = true := by simp [h1]
              have f1 : ((q : Int) == (u.size : Int)) = false := by rw [beq_eq_false_iff_ne]; omega
              have f3 : ¬ q = u.size := by omega
              clear h1 HNO HRN HC HB HB6 HFIT HN HP HS
              go_wp2_with fail
              go_meet
              exact ⟨rfl, rfl⟩
            · have f2 : ((q : Int) == (s.size : Int)) = false := by rw [beq_eq_false_iff_ne]; omega
              have f1 : ((q : Int) == (u.size : Int)) = false := by rw [beq_eq_false_iff_ne]; omega
              clear HNO HRN HC HB HB6 HFIT HN HP HS
              go_wp2_with fail
              go_meet
              exact ⟨rfl, rfl⟩
          case rest =>
            obtain ⟨rfl, rfl⟩ := hcut
            go_upto_region 14 with fail
            go_cut [68] (fun cv wx => cv = .bool false ∧ wx = wc)
            case first =>
              by_cases hq1 : u.size < q
              · have f1 : decide ((u.size : Int) < (q : Int)) = true := by rw [decide_eq_true_iff]; omega
                by_cases hq2 : q < s.size
                · have f2 : decide ((q : Int) < (s.size : Int)) = true := by rw [decide_eq_true_iff]; omega
                  have hwd : wd = false := by
                    rcases hway with ⟨_, h1 | h1⟩ | ⟨_, _, h3 | h3⟩
                    · omega
                    · omega
                    · omega
                    · exact h3
                  subst hwd
                  clear HNO HRN HC HB HB6 HFIT HN HP HS hway
                  go_wp2_with fail
                  go_meet
                  exact ⟨rfl, rfl⟩
                · have f2 : decide ((q : Int) < (s.size : Int)) = false := by rw [decide_eq_false_iff_not]; omega
                  clear HNO HRN HC HB HB6 HFIT HN HP HS hway
                  go_wp2_with fail
                  go_meet
                  exact ⟨rfl, rfl⟩
              · have f1 : decide ((u.size : Int) < (q : Int)) = false := by rw [decide_eq_false_iff_not]; omega
                clear HNO HRN HC HB HB6 HFIT HN HP HS hway
                go_wp2_with fail
                go_meet
                exact ⟨rfl, rfl⟩
            case rest =>
              obtain ⟨rfl, rfl⟩ := hcut
              clear hway
              go_wp2_with fail
              go_roundg (s.size + 1 - (q + 1))
              case measure => omega
              case rel => exact ⟨q + 1, by go_num, by omega, by omega, rfl, rfl⟩
    · have e0 : decide ((q : Int) ≤ (s.size : Int)) = false := by simp; omega
      go_wp2_with fail
      go_ret
      exact ⟨rfl, HB6.out⟩
end Go.Proofs.Ytcckhngbdoiikaa
