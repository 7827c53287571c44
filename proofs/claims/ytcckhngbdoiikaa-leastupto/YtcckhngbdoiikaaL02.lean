import Derived.Test.YtcckhngbdoiikaaS02
import Derived.Test.YtcckhngbdoiikaaL01
import Derived.Deep.DeepCutAuto
import Derived.BigQuiet
import Derived.Deep.QuietTactic
import Derived.Test.YtcckhngbdoiikaaM36
import Derived.Deep.RegionWith
import Derived.Test.YtcckhngbdoiikaaS01

namespace Go.Proofs.Ytcckhngbdoiikaa
open Go.RowKit Go.Deep
set_option linter.unusedVariables false

theorem scanRows_le : ∀ (rows : List (List Int)) (s k k' : Nat), scanRows rows s k = some k' → k ≤ k'
  | [], s, k, k', h => by cases h; exact Nat.le_refl _
  | r :: rs, s, k, k', h => by
    unfold scanRows at h
    split at h
    · cases h
    · cases hh : scanL r k with
      | none => rw [hh] at h; cases h
      | some k1 =>
        rw [hh] at h
        have h1 := scanL_le r k k1 hh
        have h2 := scanRows_le rs (s + 1) k1 k' h
        omega
theorem told_next_drop (kd : Nat → Nat) (g : Graph) (n s : Nat) (hs : s < n) : (toldTo kd g n).next.drop s = rowB kd g s :: (toldTo kd g n).next.drop (s + 1) := by
  have h : s < (toldTo kd g n).next.length := by rw [(toldTo_len kd g n).2]; exact hs
  rw [List.drop_eq_getElem_cons h]
  congr 1
  simp [toldTo]
theorem rowB_drop (kd : Nat → Nat) (g : Graph) (s b : Nat) (hb : b < 256) : (rowB kd g s).drop b = nextF kd g (s : Int) (b : Int) :: (rowB kd g s).drop (b + 1) := by
  have h : b < (rowB kd g s).length := by rw [rowB_len]; exact hb
  rw [List.drop_eq_getElem_cons h]
  congr 1
  simp [rowB]

set_option maxRecDepth 20000 in
set_option maxHeartbeats 3200000 in
theorem ordered_any (tg og tcap ocap : Nat) (rg rc : Nat → Nat) {R : RulesT} (kd : Nat → Nat) (g : Graph) (w : World) (h : TabC w tg og rg rc kd g) (hR : buildF R = some (kd, g)) (hf : LexFit kd g) :
    Calls Try.prog 27 #[.agg #[.slice (some ⟨tg, 0, none⟩) g.rule.length tcap, .slice (some ⟨og, 0, none⟩) g.rule.length ocap]] w fun e w' => e = .returned (.bool true) ∧ Below w.heap.size w w' := by
  have hfew := hf.few
  have HO := hide (build_order hR)
  have hb1 : Below w.heap.size w (w.alloc (.cells #[.slice (some ⟨tg, 0, none⟩) g.rule.length tcap, .slice (some ⟨og, 0, none⟩) g.rule.length ocap] 48)) := Below1 _ _
  have HT := hide (h.below hb1)
  have hTb : Blk (w.alloc (.cells #[.slice (some ⟨tg, 0, none⟩) g.rule.length tcap, .slice (some ⟨og, 0, none⟩) g.rule.length ocap] 48)) w.heap.size #[.slice (some ⟨tg, 0, none⟩) g.rule.length tcap, .slice (some ⟨og, 0, none⟩) g.rule.length ocap] 48 := Blk.new _ _ _
  have HB := hide (And.intro hb1 hTb)
  clear h hR hf hb1 hTb
  go_enter Try.func27, Try.ntmps27
  go_wp2_with fail
  generalize w.alloc (.cells #[.slice (some ⟨tg, 0, none⟩) g.rule.length tcap, .slice (some ⟨og, 0, none⟩) g.rule.length ocap] 48) = w1 at HT HB
  have c0 := HB.out.2.cell 0
  go_loopg [3, 4] g.rule.length (fun G kv sv wr => ∃ (k s : Nat), kv = .int .i64 (k : Int) ∧ sv = .int .i64 (s : Int) ∧ s ≤ g.rule.length ∧ G = g.rule.length - s ∧ scanRows ((toldTo kd g g.rule.length).next.drop s) s k = some g.rule.length ∧ wr = w1)
  case atStart => exact ⟨1, 0, rfl, rfl, by omega, rfl, HO.out, rfl⟩
  case round =>
    obtain ⟨k, s, rfl, rfl, hs, rfl, hsc, rfl⟩ := hrel
    clear HO
    by_cases hlt : s < g.rule.length
    · have e0 : decide ((s : Int) < (g.rule.length : Int)) = true := by rw [decide_eq_true_iff]; omega
      rw [told_next_drop kd g _ s hlt] at hsc
      unfold scanRows at hsc
      by_cases hks : k ≤ s
      · rw [if_pos hks] at hsc; cases hsc
      · rw [if_neg hks] at hsc
        have e1 : decide ((k : Int) ≤ (s : Int)) = false := by rw [decide_eq_false_iff_not]; omega
        cases hh : scanL (rowB kd g s) k with
        | none => rw [hh] at hsc; cases hsc
        | some k' =>
          rw [hh] at hsc
          have hsc' : scanRows ((toldTo kd g g.rule.length).next.drop (s + 1)) (s + 1) k' = some g.rule.length := hsc
          have hk' := scanRows_le _ _ _ _ hsc'
          have HSC := hide hsc'
          have HH := hide hh
          have t0 := HT.out.to_ s hlt
          have i0 : (0 : Int) ≤ (s : Int) := by omega
          have i1 : (s : Int) < (g.rule.length : Int) := by omega
          clear hsc hsc' hh
          go_wp2_with fail
          go_loopg [3, 5] 256 (fun G kv bv wi => ∃ (k2 b : Nat), kv = .int .i64 (k2 : Int) ∧ bv = .int .i64 (b : Int) ∧ b ≤ 256 ∧ G = 256 - b ∧ scanL ((rowB kd g s).drop b) k2 = some k' ∧ wi = wr)
          case atStart => exact ⟨k, 0, rfl, rfl, by omega, rfl, HH.out, rfl⟩
          case round =>
            obtain ⟨k2, b, rfl, rfl, hb, rfl, hsl, rfl⟩ := hrel
            clear HH
            by_cases hb2 : b < 256
            · have e2 : decide ((b : Int) < 256) = true := by rw [decide_eq_true_iff]; omega
              have hkl := scanL_le _ _ _ hsl
              rw [rowB_drop kd g s b hb2] at hsl
              have t1 := HT.out.row s b hlt hb2
              generalize nextF kd g (s : Int) (b : Int) = u at hsl t1
              unfold scanL at hsl
              have b0 : (0 : Int) ≤ (b : Int) := by omega
              have b1 : (b : Int) < 256 := by omega
              by_cases hku : (k2 : Int) < u
              · rw [if_pos hku] at hsl; cases hsl
              · rw [if_neg hku] at hsl
                have e3 : decide ((k2 : Int) < u) = false := by rw [decide_eq_false_iff_not]; exact hku
                by_cases hue : u = (k2 : Int)
                · rw [if_pos hue] at hsl
                  have e4 : (u == (k2 : Int)) = true := by rw [beq_iff_eq]; exact hue
                  have HSL := hide hsl
                  clear hsl hue
                  go_wp2_with fail
                  go_roundg (256 - (b + 1))
                  case measure => omega
                  case rel => exact ⟨k2 + 1, b + 1, by go_num, by go_num, by omega, rfl, HSL.out, rfl⟩
                · rw [if_neg hue] at hsl
                  have e4 : (u == (k2 : Int)) = false := by rw [beq_eq_false_iff_ne]; exact hue
                  have HSL := hide hsl
                  clear hsl
                  go_wp2_with fail
                  go_roundg (256 - (b + 1))
                  case measure => omega
                  case rel => exact ⟨k2, b + 1, rfl, by go_num, by omega, rfl, HSL.out, rfl⟩
            · have e2 : decide ((b : Int) < 256) = false := by rw [decide_eq_false_iff_not]; omega
              have hb9 : (rowB kd g s).drop b = [] := List.drop_eq_nil_of_le (by rw [rowB_len]; omega)
              rw [hb9] at hsl
              have hkk : k2 = k' := Option.some.inj hsl
              subst hkk
              clear hsl hb9
              go_wp2_with fail
              go_roundg (g.rule.length - (s + 1))
              case measure => omega
              case rel => exact ⟨k2, s + 1, rfl, by go_num, by omega, rfl, HSC.out, rfl⟩
    · have e0 : decide ((s : Int) < (g.rule.length : Int)) = false := by rw [decide_eq_false_iff_not]; omega
      have h9 : (toldTo kd g g.rule.length).next.drop s = [] := List.drop_eq_nil_of_le (by rw [(toldTo_len kd g _).2]; omega)
      rw [h9] at hsc
      have hk9 : k = g.rule.length := Option.some.inj hsc
      have e1 : ((k : Int) == (g.rule.length : Int)) = true := by rw [beq_iff_eq]; omega
      clear hsc h9 hk9
      go_wp2_with fail
      go_ret
      exact ⟨rfl, HB.out.1⟩
end Go.Proofs.Ytcckhngbdoiikaa

namespace Go.Proofs.Ytcckhngbdoiikaa
open Go.RowKit Go.Deep
set_option linter.unusedVariables false

/-- What a round must mark. -/
def GoodL (kd : Nat → Nat) (g : Graph) (A : List Bool) (i : Nat) : Prop := ruleOfF g (i : Int) ≠ -1 ∨ ∃ b : Nat, b < 256 ∧ nextF kd g (i : Int) (b : Int) ≠ -1 ∧ A.getD (nextF kd g (i : Int) (b : Int)).toNat false = true
/-- In a round, ahead of the state s. -/
structure LiveMid (kd : Nat → Nat) (g : Graph) (A B : List Bool) (s : Nat) : Prop where
  len : B.length = A.length
  up : ∀ i : Nat, A.getD i false = true → B.getD i false = true
  good : ∀ i : Nat, i < s → GoodL kd g A i → B.getD i false = true
/-- At the state s, ahead of the byte b. -/
structure LiveIn (kd : Nat → Nat) (g : Graph) (A B : List Bool) (s b : Nat) : Prop where
  mid : LiveMid kd g A B s
  rule : ruleOfF g (s : Int) ≠ -1 → B.getD s false = true
  next : ∀ c : Nat, c < b → nextF kd g (s : Int) (c : Int) ≠ -1 → A.getD (nextF kd g (s : Int) (c : Int)).toNat false = true → B.getD s false = true
theorem set_up (B : List Bool) (s : Nat) (x : Bool) (hx : B.getD s false = true → x = true) (i : Nat) (h : B.getD i false = true) : (B.set s x).getD i false = true := by
  rw [getD_setB']
  split
  · rename_i e
    exact hx (by rw [e.1]; exact h)
  · exact h
theorem LiveMid.set {kd : Nat → Nat} {g : Graph} {A B : List Bool} {s t : Nat} (h : LiveMid kd g A B t) (x : Bool) (hx : B.getD s false = true → x = true) : LiveMid kd g A (B.set s x) t :=
  ⟨by simp [h.len], fun i hi => set_up B s x hx i (h.up i hi), fun i hi hg => set_up B s x hx i (h.good i hi hg)⟩
theorem LiveMid.into {kd : Nat → Nat} {g : Graph} {A B : List Bool} {s : Nat} (h : LiveMid kd g A B s) (hs : s < B.length) (x : Bool) (hx : x = (B.getD s false || (ruleOfF g (s : Int) != -1))) : LiveIn kd g A (B.set s x) s 0 := by
  refine ⟨h.set x (fun e => by rw [hx, e]; rfl), fun hr => ?_, fun c hc => by omega⟩
  rw [getD_setB', if_pos ⟨rfl, hs⟩, hx]
  have : (ruleOfF g (s : Int) != -1) = true := by simpa using hr
  rw [this]
  simp
theorem LiveIn.none {kd : Nat → Nat} {g : Graph} {A B : List Bool} {s b : Nat} (h : LiveIn kd g A B s b) (hn : nextF kd g (s : Int) (b : Int) = -1 ∨ B.getD (nextF kd g (s : Int) (b : Int)).toNat false = false) : LiveIn kd g A B s (b + 1) := by
  refine ⟨h.mid, h.rule, fun c hc h1 h2 => ?_⟩
  by_cases e : c < b
  · exact h.next c e h1 h2
  · have : c = b := by omega
    subst this
    rcases hn with e | e
    · exact absurd e h1
    · rw [h.mid.up _ h2] at e; cases e
theorem LiveIn.mark {kd : Nat → Nat} {g : Graph} {A B : List Bool} {s b : Nat} (h : LiveIn kd g A B s b) (hs : s < B.length) : LiveIn kd g A (B.set s true) s (b + 1) := by
  have hset : (B.set s true).getD s false = true := by rw [getD_setB', if_pos ⟨rfl, hs⟩]
  exact ⟨h.mid.set true (fun _ => rfl), fun _ => hset, fun _ _ _ _ => hset⟩
theorem LiveIn.done {kd : Nat → Nat} {g : Graph} {A B : List Bool} {s : Nat} (h : LiveIn kd g A B s 256) : LiveMid kd g A B (s + 1) := by
  refine ⟨h.mid.len, h.mid.up, fun i hi hg => ?_⟩
  by_cases e : i < s
  · exact h.mid.good i e hg
  · have : i = s := by omega
    subst this
    rcases hg with e | ⟨b, h1, h2, h3⟩
    · exact h.rule e
    · exact h.next b h1 h2 h3

set_option maxRecDepth 20000 in
set_option maxHeartbeats 6400000 in
theorem lively_any (tg og tcap ocap : Nat) (rg rc : Nat → Nat) {R : RulesT} (kd : Nat → Nat) (g : Graph) (w : World) (h : TabC w tg og rg rc kd g) (hR : buildF R = some (kd, g)) (hf : LexFit kd g) :
    Calls Try.prog 28 #[.agg #[.slice (some ⟨tg, 0, none⟩) g.rule.length tcap, .slice (some ⟨og, 0, none⟩) g.rule.length ocap]] w fun e w' => e = .returned (.bool true) ∧ Below w.heap.size w w' := by
  have hfew := hf.few
  have HIN := hide hf.into
  have HAL := hide (fun (hn : 1 < g.rule.length) (i : Nat) (hi : i < g.rule.length) => build_alive hR hn hi)
  have HT := hide h
  have hmk := makeBools g.rule.length (by omega)
  clear h hR hf
  go_enter Try.func28, Try.ntmps28
  go_wp2_with fail
  go_loopg [5] (g.rule.length + 1) (fun G kv wr => ∃ (k : Nat) (A : List Bool), kv = .int .i64 (k : Int) ∧ k ≤ g.rule.length + 1 ∧ G = g.rule.length + 1 - k ∧ LiveInv kd g k A ∧ Blk wr (w.heap.size + 1) (boolsA A) 4 ∧ Below w.heap.size w wr ∧ Blk wr w.heap.size #[.slice (some ⟨tg, 0, none⟩) g.rule.length tcap, .slice (some ⟨og, 0, none⟩) g.rule.length ocap] 48)
  case atStart => exact ⟨0, List.replicate g.rule.length false, rfl, by omega, rfl, LiveInv.start kd g, Blk.at1 _ _ _ _, Below2 _ _ _, (Blk.new _ _ _).alloc _⟩
  case round =>
    obtain ⟨k, A, rfl, hk, rfl, hI, hA, hbw, hTb⟩ := hrel
    by_cases hle : k ≤ g.rule.length
    · have e0 : decide ((k : Int) ≤ (g.rule.length : Int)) = true := by rw [decide_eq_true_iff]; omega
      have hAl := hI.len
      have HI := hide hI
      have HH : Hid (Blk wr (w.heap.size + 1) (boolsA A) 4 ∧ Below w.heap.size w wr ∧ Blk wr w.heap.size #[.slice (some ⟨tg, 0, none⟩) g.rule.length tcap, .slice (some ⟨og, 0, none⟩) g.rule.length ocap] 48) := ⟨hA, hbw, hTb⟩
      clear hI hA hbw hTb
      obtain ⟨wo, rfl⟩ : ∃ wo : World, wo = wr := ⟨_, rfl⟩
      go_wp2_with fail
      go_loopg [6] g.rule.length (fun G sv wi => ∃ (s : Nat) (B : List Bool), sv = .int .i64 (s : Int) ∧ s ≤ g.rule.length ∧ G = g.rule.length - s ∧ LiveMid kd g A B s ∧ Blk wi (w.heap.size + 1) (boolsA B) 4 ∧ Below w.heap.size w wi ∧ Blk wi w.heap.size #[.slice (some ⟨tg, 0, none⟩) g.rule.length tcap, .slice (some ⟨og, 0, none⟩) g.rule.length ocap] 48)
      case atStart => exact ⟨0, A, rfl, by omega, rfl, ⟨rfl, fun i hi => hi, fun i hi => by omega⟩, HH.out.1, HH.out.2.1, HH.out.2.2⟩
      case round =>
        obtain ⟨s, B, rfl, hs, rfl, hM, hB, hbi, hTb⟩ := hrel
        by_cases hlt : s < g.rule.length
        · have e1 : decide ((s : Int) < (g.rule.length : Int)) = true := by rw [decide_eq_true_iff]; omega
          have hBl : B.length = g.rule.length := hM.len.trans hAl
          have i0 : (0 : Int) ≤ (s : Int) := by omega
          have i1 : (s : Int) < (g.rule.length : Int) := by omega
          have a0 := boolsA_cellD hB s (by omega)
          have af := hB.frozen s
          have az := hB.lt
          have c0 := hTb.cell 0
          have c1 := hTb.cell 1
          have hTC := HT.out.below hbi
          have o0 := hTC.of_ s hlt
          have ht0 := hTC.to_ s hlt
          have hinto := hM.into (by omega) (B.getD s false || (ruleOfF g (s : Int) != -1)) rfl
          have HM := hide hinto
          have HS : Hid (Blk wr (w.heap.size + 1) (boolsA B) 4 ∧ Below w.heap.size w wr ∧ Blk wr w.heap.size #[.slice (some ⟨tg, 0, none⟩) g.rule.length tcap, .slice (some ⟨og, 0, none⟩) g.rule.length ocap] 48) := ⟨hB, hbi, hTb⟩
          have zt := hTb.lt
          clear hM hB hbi hTb hTC hinto ht0
          obtain ⟨wm, rfl⟩ : ∃ wm : World, wm = wr := ⟨_, rfl⟩
          obtain ⟨x, hx⟩ : ∃ x, (B.getD s false || (ruleOfF g (s : Int) != -1)) = x := ⟨_, rfl⟩
          rw [hx] at HM
          go_upto_region 9 with fail
          go_cut [37] (fun cv wx => cv = .bool x ∧ wx = wm.setCell ⟨w.heap.size + 1, s, none⟩ (.bool x))
          case first =>
            generalize B.getD s false = y at a0 hx
            generalize ruleOfF g (s : Int) = r at o0 hx
            clear HM HS HI HH HIN HAL HT
            cases y with
            | true =>
              have hx' : x = true := by rw [← hx]; rfl
              subst hx'
              clear hx
              go_wp2_with fail
              go_meet
              exact ⟨rfl, rfl⟩
            | false =>
              cases hr : (r != -1) with
              | true =>
                have hx' : x = true := by rw [← hx, hr]; rfl
                subst hx'
                clear hx
                go_wp2_with fail
                go_meet
                exact ⟨rfl, rfl⟩
              | false =>
                have hx' : x = false := by rw [← hx, hr]; rfl
                subst hx'
                clear hx
                go_wp2_with fail
                go_meet
                exact ⟨rfl, rfl⟩
          case rest =>
            obtain ⟨rfl, hwc⟩ := hcut
            have hA1 : Blk wc (w.heap.size + 1) (boolsA (B.set s x)) 4 ∧ Below w.heap.size w wc ∧ Blk wc w.heap.size #[.slice (some ⟨tg, 0, none⟩) g.rule.length tcap, .slice (some ⟨og, 0, none⟩) g.rule.length ocap] 48 := by
              rw [hwc]
              refine ⟨?_, HS.out.2.1.setCell (p := ⟨w.heap.size + 1, s, none⟩) (show w.heap.size ≤ w.heap.size + 1 by omega) _, HS.out.2.2.setOther (p := ⟨w.heap.size + 1, s, none⟩) (show w.heap.size ≠ w.heap.size + 1 by omega) _⟩
              rw [← boolsA_set]
              exact HS.out.1.set s _
            have HC := hide hA1
            have hBl2 : (B.set s x).length = g.rule.length := by simp [hBl]
            clear hwc hA1 a0 af az c0 c1 o0 hx HS
            generalize B.set s x = B1 at HC HM hBl2
            go_wp2_with fail
            go_loopg [7] 256 (fun G bv wj => ∃ (b : Nat) (C : List Bool), bv = .int .i64 (b : Int) ∧ b ≤ 256 ∧ G = 256 - b ∧ C.length = g.rule.length ∧ LiveIn kd g A C s b ∧ Blk wj (w.heap.size + 1) (boolsA C) 4 ∧ Below w.heap.size w wj ∧ Blk wj w.heap.size #[.slice (some ⟨tg, 0, none⟩) g.rule.length tcap, .slice (some ⟨og, 0, none⟩) g.rule.length ocap] 48)
            case atStart => exact ⟨0, B1, rfl, by omega, rfl, hBl2, HM.out, HC.out.1, HC.out.2.1, HC.out.2.2⟩
            case round =>
              obtain ⟨b, C, rfl, hb, rfl, hCl, hIn, hC, hbj, hTb⟩ := hrel
              clear HC HM hBl2
              by_cases hb2 : b < 256
              · have e2 : decide ((b : Int) < 256) = true := by rw [decide_eq_true_iff]; omega
                have hTC := HT.out.below hbj
                have t0 := hTC.to_ s hlt
                have t1 := hTC.row s b hlt hb2
                have c0 := hTb.cell 0
                have b0 : (0 : Int) ≤ (b : Int) := by omega
                have b1 : (b : Int) < 256 := by omega
                have hin := HIN.out (s : Int) (b : Int)
                have a1 := boolsA_cellD hC s (by omega)
                have af := hC.frozen s
                have az := hC.lt
                have HS : Hid (Blk wr (w.heap.size + 1) (boolsA C) 4 ∧ Below w.heap.size w wr ∧ Blk wr w.heap.size #[.slice (some ⟨tg, 0, none⟩) g.rule.length tcap, .slice (some ⟨og, 0, none⟩) g.rule.length ocap] 48) := ⟨hC, hbj, hTb⟩
                have HNO := hide (fun hn => hIn.none hn)
                have HMA := hide (hIn.mark (by omega))
                generalize nextF kd g (s : Int) (b : Int) = u at t1 hin HNO
                clear hTC hIn hbj hTb
                rcases hin with rfl | ⟨hu0, hu1⟩
                · clear hC
                  go_wp2_with fail
                  go_roundg (256 - (b + 1))
                  case measure => omega
                  case rel => exact ⟨b + 1, C, by go_num, by omega, rfl, hCl, HNO.out (.inl trivial), HS.out.1, HS.out.2.1, HS.out.2.2⟩
                · obtain ⟨q, rfl⟩ : ∃ q : Nat, u = (q : Int) := ⟨u.toNat, by omega⟩
                  have q0 : (0 : Int) ≤ (q : Int) := by omega
                  have q1 : (q : Int) < (g.rule.length : Int) := by omega
                  have aq := boolsA_cellD hC q (by omega)
                  have hno := HNO.out
                  rw [Int.toNat_natCast] at hno
                  generalize C.getD q false = y at aq hno
                  have HN2 := hide hno
                  have e3 : decide ((0 : Int) ≤ (q : Int)) = true := by simp
                  generalize C.getD s false = y2 at a1
                  clear hC HNO hno
                  cases y with
                  | false =>
                    go_wp2_with fail
                    go_roundg (256 - (b + 1))
                    case measure => omega
                    case rel => exact ⟨b + 1, C, by go_num, by omega, rfl, hCl, HN2.out (.inr trivial), HS.out.1, HS.out.2.1, HS.out.2.2⟩
                  | true =>
                    go_wp2_with fail
                    go_roundg (256 - (b + 1))
                    case measure => omega
                    case rel =>
                      refine ⟨b + 1, C.set s true, by go_num, by omega, rfl, by simp [hCl], HMA.out, ?_, HS.out.2.1.setCell (p := ⟨w.heap.size + 1, s, none⟩) (show w.heap.size ≤ w.heap.size + 1 by omega) _, HS.out.2.2.setOther (p := ⟨w.heap.size + 1, s, none⟩) (show w.heap.size ≠ w.heap.size + 1 by omega) _⟩
                      rw [← boolsA_set]
                      exact HS.out.1.set s _
              · have e2 : decide ((b : Int) < 256) = false := by rw [decide_eq_false_iff_not]; omega
                obtain rfl : b = 256 := by omega
                have HMD := hide hIn.done
                have HS : Hid (Blk wr (w.heap.size + 1) (boolsA C) 4 ∧ Below w.heap.size w wr ∧ Blk wr w.heap.size #[.slice (some ⟨tg, 0, none⟩) g.rule.length tcap, .slice (some ⟨og, 0, none⟩) g.rule.length ocap] 48) := ⟨hC, hbj, hTb⟩
                clear hIn hC hbj hTb
                go_wp2_with fail
                go_roundg (g.rule.length - (s + 1))
                case measure => omega
                case rel => exact ⟨s + 1, C, by go_num, by omega, rfl, HMD.out, HS.out.1, HS.out.2.1, HS.out.2.2⟩
        · have e1 : decide ((s : Int) < (g.rule.length : Int)) = false := by rw [decide_eq_false_iff_not]; omega
          have hs9 : s = g.rule.length := by omega
          have hup : LiveUp kd g A B := ⟨hM.len, hM.up, fun i hi hg => hM.good i (by omega) hg⟩
          have HI2 := hide (HI.out.round HIN.out hup)
          have HS : Hid (Blk wr (w.heap.size + 1) (boolsA B) 4 ∧ Below w.heap.size w wr ∧ Blk wr w.heap.size #[.slice (some ⟨tg, 0, none⟩) g.rule.length tcap, .slice (some ⟨og, 0, none⟩) g.rule.length ocap] 48) := ⟨hB, hbi, hTb⟩
          clear hM hB hbi hTb hs9 hup
          go_wp2_with fail
          go_roundg (g.rule.length + 1 - (k + 1))
          case measure => omega
          case rel => exact ⟨k + 1, B, by go_num, by omega, rfl, HI2.out, HS.out.1, HS.out.2.1, HS.out.2.2⟩
    · have e0 : decide ((k : Int) ≤ (g.rule.length : Int)) = false := by rw [decide_eq_false_iff_not]; omega
      have hk9 : k = g.rule.length + 1 := by omega
      rw [hk9] at hI
      have hAl := hI.len
      have hal : 1 < g.rule.length → ∀ i, i < g.rule.length → A.getD i false = true := fun hn i hi => by
        obtain ⟨d, hd⟩ := HAL.out hn i hi
        exact hI.done hi hd
      have HA2 := hide hal
      have HS : Hid (Blk wr (w.heap.size + 1) (boolsA A) 4 ∧ Below w.heap.size w wr) := ⟨hA, hbw⟩
      clear hI hA hbw hTb hk9 hal
      obtain ⟨wo, rfl⟩ : ∃ wo : World, wo = wr := ⟨_, rfl⟩
      go_wp2_with fail
      go_loopg [8] g.rule.length (fun G sv wi => ∃ s : Nat, sv = .int .i64 (s : Int) ∧ s ≤ g.rule.length ∧ G = g.rule.length - s ∧ wi = wo)
      case atStart => exact ⟨0, rfl, by omega, rfl, rfl⟩
      case round =>
        obtain ⟨s, rfl, hs, rfl, rfl⟩ := hrel
        by_cases hlt : s < g.rule.length
        · have e1 : decide ((s : Int) < (g.rule.length : Int)) = true := by rw [decide_eq_true_iff]; omega
          have i0 : (0 : Int) ≤ (s : Int) := by omega
          have i1 : (s : Int) < (g.rule.length : Int) := by omega
          have a0 := boolsA_cellD HS.out.1 s (by omega)
          by_cases hn : 1 < g.rule.length
          · have e2 : decide ((1 : Int) < (g.rule.length : Int)) = true := by rw [decide_eq_true_iff]; omega
            rw [HA2.out hn s hlt] at a0
            go_wp2_with fail
            go_roundg (g.rule.length - (s + 1))
            case measure => omega
            case rel => exact ⟨s + 1, by go_num, by omega, rfl, rfl⟩
          · have e2 : decide ((1 : Int) < (g.rule.length : Int)) = false := by rw [decide_eq_false_iff_not]; omega
            generalize A.getD s false = x at a0
            cases x with
            | true =>
              go_wp2_with fail
              go_roundg (g.rule.length - (s + 1))
              case measure => omega
              case rel => exact ⟨s + 1, by go_num, by omega, rfl, rfl⟩
            | false =>
              go_wp2_with fail
              go_roundg (g.rule.length - (s + 1))
              case measure => omega
              case rel => exact ⟨s + 1, by go_num, by omega, rfl, rfl⟩
        · have e1 : decide ((s : Int) < (g.rule.length : Int)) = false := by rw [decide_eq_false_iff_not]; omega
          go_wp2_with fail
          go_ret
          exact ⟨rfl, HS.out.2⟩
end Go.Proofs.Ytcckhngbdoiikaa

namespace Go.Proofs.Ytcckhngbdoiikaa
open Go.RowKit Go.Deep
set_option linter.unusedVariables false

/-- What is told apart so far, in memory. -/
structure MatC (w : World) (dg : Nat) (dr : Nat → Nat) (n : Nat) (D : Nat → List Bool) : Prop where
  top : ∀ i, i < n → w.cell? ⟨dg, i, none⟩ = some (.slice (some ⟨dr i, 0, none⟩) n n)
  row : ∀ i, i < n → Blk w (dr i) (boolsA (D i)) 4
  len : ∀ i, i < n → (D i).length = n
  lt : dg < w.heap.size
theorem MatC.below {w w' : World} {dg : Nat} {dr : Nat → Nat} {n : Nat} {D : Nat → List Bool} (h : MatC w dg dr n D) (k : Below w.heap.size w w') : MatC w' dg dr n D :=
  ⟨fun i hi => (k.cell (p := ⟨dg, i, none⟩) h.lt).trans (h.top i hi), fun i hi => (h.row i hi).below k, h.len, by have := k.size; have := h.lt; omega⟩
/-- At one byte. -/
def DiffB (kd : Nat → Nat) (g : Graph) (D : Nat → List Bool) (i j b : Nat) : Prop := (nextF kd g (i : Int) (b : Int) = -1 ∧ nextF kd g (j : Int) (b : Int) ≠ -1) ∨ (nextF kd g (i : Int) (b : Int) ≠ -1 ∧ nextF kd g (j : Int) (b : Int) = -1) ∨ (nextF kd g (i : Int) (b : Int) ≠ -1 ∧ nextF kd g (j : Int) (b : Int) ≠ -1 ∧ (D (nextF kd g (i : Int) (b : Int)).toNat).getD (nextF kd g (j : Int) (b : Int)).toNat false = true)
def DiffD (kd : Nat → Nat) (g : Graph) (D : Nat → List Bool) (i j : Nat) : Prop := ruleOfF g (i : Int) ≠ ruleOfF g (j : Int) ∨ ∃ b : Nat, b < 256 ∧ DiffB kd g D i j b

set_option maxRecDepth 20000 in
set_option maxHeartbeats 6400000 in
theorem differs_any (tg og tcap ocap : Nat) (rg rc : Nat → Nat) (kd : Nat → Nat) (g : Graph) (dg : Nat) (dr : Nat → Nat) (D : Nat → List Bool) (i j : Nat) (w : World) (h : TabC w tg og rg rc kd g) (hD : MatC w dg dr g.rule.length D) (hf : LexFit kd g) (hi : i < g.rule.length) (hj : j < g.rule.length) :
    Calls Try.prog 62 #[.agg #[.slice (some ⟨tg, 0, none⟩) g.rule.length tcap, .slice (some ⟨og, 0, none⟩) g.rule.length ocap], .slice (some ⟨dg, 0, none⟩) g.rule.length g.rule.length, .int .i64 (i : Int), .int .i64 (j : Int)] w fun e w' => (e = .returned (.bool true) ∨ (e = .returned (.bool false) ∧ ¬ DiffD kd g D i j)) ∧ Below w.heap.size w w' := by
  have hfew := hf.few
  have HIN := hide hf.into
  have hb1 : Below w.heap.size w (w.alloc (.cells #[.slice (some ⟨tg, 0, none⟩) g.rule.length tcap, .slice (some ⟨og, 0, none⟩) g.rule.length ocap] 48)) := Below1 _ _
  have hT := h.below hb1
  have hM := hD.below hb1
  have hTb : Blk (w.alloc (.cells #[.slice (some ⟨tg, 0, none⟩) g.rule.length tcap, .slice (some ⟨og, 0, none⟩) g.rule.length ocap] 48)) w.heap.size #[.slice (some ⟨tg, 0, none⟩) g.rule.length tcap, .slice (some ⟨og, 0, none⟩) g.rule.length ocap] 48 := Blk.new _ _ _
  obtain ⟨w1, hw1⟩ : ∃ w1 : World, w.alloc (.cells #[.slice (some ⟨tg, 0, none⟩) g.rule.length tcap, .slice (some ⟨og, 0, none⟩) g.rule.length ocap] 48) = w1 := ⟨_, rfl⟩
  rw [hw1] at hb1 hT hM hTb
  have HB := hide hb1
  have HT := hide hT
  have HM := hide hM
  have HTb := hide hTb
  have c1 := hTb.cell 1
  have o1 := hT.of_ i hi
  have o2 := hT.of_ j hj
  have i0 : (0 : Int) ≤ (i : Int) := by omega
  have i1 : (i : Int) < (g.rule.length : Int) := by omega
  have j0 : (0 : Int) ≤ (j : Int) := by omega
  have j1 : (j : Int) < (g.rule.length : Int) := by omega
  clear h hD hf hb1 hT hM hTb
  have HRR := hide (show ruleOfF g (i : Int) ≠ ruleOfF g (j : Int) → DiffD kd g D i j from fun e => .inl e)
  have HRE := hide (show ruleOfF g (i : Int) = ruleOfF g (j : Int) → (∀ b, b < 256 → ¬ DiffB kd g D i j b) → ¬ DiffD kd g D i j from fun e h9 h8 => by
    rcases h8 with e' | ⟨b, h1, h2⟩
    · exact e' e
    · exact h9 b h1 h2)
  generalize ruleOfF g (i : Int) = r1 at o1 HRR HRE
  generalize ruleOfF g (j : Int) = r2 at o2 HRR HRE
  go_enter Try.func62, Try.ntmps62
  go_wp2_with fail
  try rw [hw1]
  clear hw1
  obtain ⟨x, hx⟩ : ∃ x, (r1 != r2) = x := ⟨_, rfl⟩
  go_quiet (fail)
  obtain ⟨w2, hw2⟩ : ∃ w2 : World, w1.drewN nq = w2 := ⟨_, rfl⟩
  rw [hw2]
  have hb2 : Below w1.heap.size w1 w2 := by rw [← hw2]; exact Below_drewN (Below.refl _ _) _
  have HT2 := hide (HT.out.below hb2)
  have HM2 := hide (HM.out.below hb2)
  have HB2 := hide (HB.out.trans (hb2.mono HB.out.size))
  have hTb2 := HTb.out.below hb2
  have c0 := hTb2.cell 0
  clear hw2 hb2 hTb2 HT HM HB HTb o1 o2 c1
  cases x with
  | false =>
    have hrr : r1 = r2 := by rw [bne_eq_false_iff_eq] at hx; exact hx
    clear hx
    have HR2 := hide (HRE.out hrr)
    clear HRE HRR hrr
    go_wp2_with fail
    go_loopg [9] 256 (fun G bv wr => ∃ b : Nat, bv = .int .i64 (b : Int) ∧ b ≤ 256 ∧ G = 256 - b ∧ (∀ c, c < b → ¬ DiffB kd g D i j c) ∧ wr = w2)
    case atStart => exact ⟨0, rfl, by omega, rfl, fun c hc => by omega, rfl⟩
    case round =>
      obtain ⟨b, rfl, hb, rfl, hno, rfl⟩ := hrel
      by_cases hb2 : b < 256
      · have e1 : decide ((b : Int) < 256) = true := by rw [decide_eq_true_iff]; omega
        have t0 := HT2.out.to_ i hi
        have t1 := HT2.out.row i b hi hb2
        have t2 := HT2.out.to_ j hj
        have t3 := HT2.out.row j b hj hb2
        have b0 : (0 : Int) ≤ (b : Int) := by omega
        have b1 : (b : Int) < 256 := by omega
        have hin := HIN.out (i : Int) (b : Int)
        have hjn := HIN.out (j : Int) (b : Int)
        have hstep : ¬ DiffB kd g D i j b → ∀ c, c < b + 1 → ¬ DiffB kd g D i j c := fun h9 c hc => by
          by_cases e : c < b
          · exact hno c e
          · have : c = b := by omega
            subst this
            exact h9
        have hdb : DiffB kd g D i j b ↔ ((nextF kd g (i : Int) (b : Int) = -1 ∧ nextF kd g (j : Int) (b : Int) ≠ -1) ∨ (nextF kd g (i : Int) (b : Int) ≠ -1 ∧ nextF kd g (j : Int) (b : Int) = -1) ∨ (nextF kd g (i : Int) (b : Int) ≠ -1 ∧ nextF kd g (j : Int) (b : Int) ≠ -1 ∧ (D (nextF kd g (i : Int) (b : Int)).toNat).getD (nextF kd g (j : Int) (b : Int)).toNat false = true)) := Iff.rfl
        generalize nextF kd g (i : Int) (b : Int) = u at t1 hin hdb
        generalize nextF kd g (j : Int) (b : Int) = v at t3 hjn hdb
        have HST := hide hstep
        have HDB := hide hdb
        clear hno hstep hdb
        rcases hin with rfl | ⟨hu0, hu1⟩
        · rcases hjn with rfl | ⟨hv0, hv1⟩
          · go_wp2_with fail
            go_roundg (256 - (b + 1))
            case measure => omega
            case rel => exact ⟨b + 1, by go_num, by omega, rfl, HST.out (fun e => by have := HDB.out.1 e; simp at this), rfl⟩
          · obtain ⟨q, rfl⟩ : ∃ q : Nat, v = (q : Int) := ⟨v.toNat, by omega⟩
            have e2 : decide ((q : Int) < 0) = false := by simp
            go_wp2_with fail
            go_ret
            exact ⟨.inl rfl, HB2.out⟩
        · obtain ⟨p, rfl⟩ : ∃ p : Nat, u = (p : Int) := ⟨u.toNat, by omega⟩
          have e2 : decide ((p : Int) < 0) = false := by simp
          have e4 : decide ((0 : Int) ≤ (p : Int)) = true := by simp
          rcases hjn with rfl | ⟨hv0, hv1⟩
          · go_wp2_with fail
            go_ret
            exact ⟨.inl rfl, HB2.out⟩
          · obtain ⟨q, rfl⟩ : ∃ q : Nat, v = (q : Int) := ⟨v.toNat, by omega⟩
            have e3 : decide ((q : Int) < 0) = false := by simp
            have e5 : decide ((0 : Int) ≤ (q : Int)) = true := by simp
            have hp : p < g.rule.length := by omega
            have hq : q < g.rule.length := by omega
            have m0 := HM2.out.top p hp
            have hln := HM2.out.len p hp
            have m1 := boolsA_cellD (HM2.out.row p hp) q (by omega)
            have p0 : (0 : Int) ≤ (p : Int) := by omega
            have p1 : (p : Int) < (g.rule.length : Int) := by omega
            have q0 : (0 : Int) ≤ (q : Int) := by omega
            have q1 : (q : Int) < (g.rule.length : Int) := by omega
            have hdb := HDB.out
            rw [Int.toNat_natCast, Int.toNat_natCast] at hdb
            generalize (D p).getD q false = y at m1 hdb
            have HD2 := hide hdb
            clear hdb HDB hln
            cases y with
            | true =>
              go_wp2_with fail
              go_ret
              exact ⟨.inl rfl, HB2.out⟩
            | false =>
              go_wp2_with fail
              go_roundg (256 - (b + 1))
              case measure => omega
              case rel =>
                refine ⟨b + 1, by go_num, by omega, rfl, HST.out (fun e => ?_), rfl⟩
                rcases HD2.out.1 e with ⟨e1, _⟩ | ⟨_, e1⟩ | ⟨_, _, e1⟩
                · omega
                · omega
                · simp at e1
      · have e1 : decide ((b : Int) < 256) = false := by rw [decide_eq_false_iff_not]; omega
        obtain rfl : b = 256 := by omega
        have HF := hide (HR2.out hno)
        clear hno
        go_wp2_with fail
        go_ret
        exact ⟨.inr ⟨rfl, HF.out⟩, HB2.out⟩
  | true =>
    clear hx
    go_wp2_with fail
    go_ret
    exact ⟨.inl rfl, HB2.out⟩
end Go.Proofs.Ytcckhngbdoiikaa

namespace Go.Proofs.Ytcckhngbdoiikaa
open Go.RowKit Go.Deep
set_option linter.unusedVariables false

/-- What is told apart so far. -/
structure ApInv (kd : Nat → Nat) (g : Graph) (k : Nat) (D : Nat → List Bool) (i j : Nat) : Prop where
  up : ∀ a b, a < g.rule.length → b < g.rule.length → MoreT kd g k a b → (D a).getD b false = true
  new : ∀ a b, a < g.rule.length → b < g.rule.length → (a < i ∨ (a = i ∧ b < j)) → MoreT kd g (k + 1) a b → (D a).getD b false = true
theorem ApInv.row {kd : Nat → Nat} {g : Graph} {k : Nat} {D : Nat → List Bool} {i : Nat} (h : ApInv kd g k D i g.rule.length) : ApInv kd g k D (i + 1) 0 :=
  ⟨h.up, fun a b ha hb hc hm => h.new a b ha hb (by rcases hc with e | ⟨_, e⟩; by_cases e' : a < i; exact .inl e'; exact .inr ⟨by omega, hb⟩; omega) hm⟩
theorem ApInv.round {kd : Nat → Nat} {g : Graph} {k : Nat} {D : Nat → List Bool} (h : ApInv kd g k D g.rule.length 0) : ApInv kd g (k + 1) D 0 0 :=
  ⟨fun a b ha hb hm => h.new a b ha hb (.inl ha) hm, fun a b _ _ hc => by omega⟩
theorem ApInv.step {kd : Nat → Nat} {g : Graph} (hi : StepsIn kd g) {k : Nat} {D : Nat → List Bool} {i j : Nat} (h : ApInv kd g k D i j) (hil : i < g.rule.length) (hjl : j < g.rule.length) (hl : (D i).length = g.rule.length) (x : Bool) (hx1 : (D i).getD j false = true → x = true) (hx2 : x = false → ¬ DiffD kd g D i j) : ApInv kd g k (fun a => if a = i then (D i).set j x else D a) i (j + 1) := by
  have hget : ∀ a b, ((fun a => if a = i then (D i).set j x else D a) a).getD b false = if a = i ∧ b = j then x else (D a).getD b false := fun a b => by
    simp only
    by_cases e : a = i
    · rw [if_pos e, getD_setB']
      by_cases e' : j = b
      · rw [if_pos ⟨e', by omega⟩, if_pos ⟨e, e'.symm⟩]
      · rw [if_neg (fun z => e' z.1), if_neg (fun z => e' z.2.symm), e]
    · rw [if_neg e, if_neg (fun z => e z.1)]
  have hkeep : ∀ a b, (D a).getD b false = true → (if a = i ∧ b = j then x else (D a).getD b false) = true := fun a b hd => by
    split
    · rename_i e
      rw [e.1, e.2] at hd
      exact hx1 hd
    · exact hd
  refine ⟨fun a b ha hb hm => ?_, fun a b ha hb hc hm => ?_⟩
  · rw [hget]
    exact hkeep a b (h.up a b ha hb hm)
  · rw [hget]
    by_cases e : a = i ∧ b = j
    · rw [if_pos e]
      obtain ⟨rfl, rfl⟩ := e
      cases hxx : x with
      | true => rfl
      | false =>
        exfalso
        rcases hm with hm | hm | ⟨c, hc', hm⟩
        · have := hx1 (h.up a b ha hb hm)
          rw [hxx] at this
          cases this
        · exact hx2 hxx (.inl hm)
        · refine hx2 hxx (.inr ⟨c, hc', ?_⟩)
          rcases hm with e | e | ⟨e1, e2, e3⟩
          · exact .inl e
          · exact .inr (.inl e)
          · have q1 := hi (a : Int) (c : Int)
            have q2 := hi (b : Int) (c : Int)
            exact .inr (.inr ⟨e1, e2, h.up _ _ (by omega) (by omega) e3⟩)
    · rw [if_neg e]
      exact h.new a b ha hb (by
        rcases hc with e' | ⟨e1, e2⟩
        · exact .inl e'
        · exact .inr ⟨e1, by omega⟩) hm
/-- The rows, in memory. -/
structure MatI (w0 w : World) (tab : Array Value) (cs : Array Value) (dr : Nat → Nat) (n : Nat) (D : Nat → List Bool) : Prop where
  below : Below w0.heap.size w0 w
  tab : Blk w w0.heap.size tab 48
  top : Blk w (w0.heap.size + 1) cs 119
  cs : ∀ i, i < n → cs[i]? = some (.slice (some ⟨dr i, 0, none⟩) n n)
  row : ∀ i, i < n → Blk w (dr i) (boolsA (D i)) 4
  len : ∀ i, i < n → (D i).length = n
  inj : ∀ i j, i < n → j < n → dr i = dr j → i = j
  big : ∀ i, i < n → w0.heap.size + 1 < dr i
theorem MatI.mat {w0 w : World} {tab cs : Array Value} {dr : Nat → Nat} {n : Nat} {D : Nat → List Bool} (h : MatI w0 w tab cs dr n D) : MatC w (w0.heap.size + 1) dr n D :=
  ⟨fun i hi => by rw [h.top.cell]; exact h.cs i hi, h.row, h.len, h.top.lt⟩
theorem MatI.more {w0 w w' : World} {tab cs : Array Value} {dr : Nat → Nat} {n : Nat} {D : Nat → List Bool} (h : MatI w0 w tab cs dr n D) (k : Below w.heap.size w w') : MatI w0 w' tab cs dr n D :=
  ⟨h.below.trans (k.mono h.below.size), h.tab.below k, h.top.below k, h.cs, fun i hi => (h.row i hi).below k, h.len, h.inj, h.big⟩
theorem MatI.set {w0 w : World} {tab cs : Array Value} {dr : Nat → Nat} {n : Nat} {D : Nat → List Bool} (h : MatI w0 w tab cs dr n D) (i j : Nat) (hi : i < n) (x : Bool) : MatI w0 (w.setCell ⟨dr i, j, none⟩ (.bool x)) tab cs dr n (fun a => if a = i then (D i).set j x else D a) := by
  have hb := h.big i hi
  refine ⟨h.below.setCell (p := ⟨dr i, j, none⟩) (show w0.heap.size ≤ dr i by omega) _, h.tab.setOther (p := ⟨dr i, j, none⟩) (show w0.heap.size ≠ dr i by omega) _, h.top.setOther (p := ⟨dr i, j, none⟩) (show w0.heap.size + 1 ≠ dr i by omega) _, h.cs, fun a ha => ?_, fun a ha => ?_, h.inj, h.big⟩
  · by_cases e : a = i
    · rw [if_pos e, e, ← boolsA_set]
      exact (h.row i hi).set j _
    · rw [if_neg e]
      exact (h.row a ha).setOther (p := ⟨dr i, j, none⟩) (fun e' => e (h.inj a i ha hi e')) _
  · by_cases e : a = i
    · rw [if_pos e]; simp [h.len i hi]
    · rw [if_neg e]; exact h.len a ha
end Go.Proofs.Ytcckhngbdoiikaa

namespace Go.Proofs.Ytcckhngbdoiikaa
open Go.RowKit Go.Deep
set_option linter.unusedVariables false

/-- Where a text leads. -/
theorem runK_take {kd : Nat → Nat} {g : Graph} (s : ByteArray) (i : Nat) (h : i < s.size) : runK g 0 (((bytesN s).take (i + 1)).map kd) = stepK g (runK g 0 (((bytesN s).take i).map kd)) (kd ((bytesN s).getD i 0)) := by
  have hl : i < (bytesN s).length := by rw [bytesN_len]; exact h
  rw [List.take_succ_eq_append_getElem hl, List.map_append, runK_app]
  have e : (bytesN s).getD i 0 = (bytesN s)[i] := by simp [hl]
  rw [e]
  rfl
theorem peek_getD (s : ByteArray) (i : Nat) (h : i < s.size) : peekI s i = (((bytesN s).getD i 0 : Nat) : Int) ∧ (bytesN s).getD i 0 < 256 := by
  have hl : i < (bytesN s).length := by rw [bytesN_len]; exact h
  have h1 := peek_bytes s i h hl
  have e : (bytesN s).getD i 0 = (bytesN s)[i] := by simp [hl]
  rw [e]
  exact h1

set_option maxRecDepth 20000 in
set_option maxHeartbeats 3200000 in
theorem run_any (tg og tcap ocap : Nat) (rg rc : Nat → Nat) (kd : Nat → Nat) (g : Graph) (s : ByteArray) (w : World) (h : TabC w tg og rg rc kd g) (hG : LexG kd g) (hf : LexFit kd g) (hs : s.size ≤ 50000) :
    Calls Try.prog 61 #[.agg #[.slice (some ⟨tg, 0, none⟩) g.rule.length tcap, .slice (some ⟨og, 0, none⟩) g.rule.length ocap], .int .i64 0, .string s] w fun e w' => e = .returned (.int .i64 (runK g 0 ((bytesN s).map kd))) ∧ Below w.heap.size w w' := by
  have hfew := hf.few
  have hpos := hf.pos
  have HG := hide hG
  have HT := hide h
  have hbn : (bytesN s).length = s.size := bytesN_len s
  have HFIN := hide (show ((bytesN s).take s.size) = bytesN s from List.take_of_length_le (by omega))
  have hneg : ∀ i, runK g 0 (((bytesN s).take i).map kd) = -1 → runK g 0 ((bytesN s).map kd) = -1 := fun i hi => by
    have e : bytesN s = (bytesN s).take i ++ (bytesN s).drop i := (List.take_append_drop i _).symm
    rw [e, List.map_append, runK_app, hi]
    exact runK_neg g _
  have HNEG := hide hneg
  generalize hX : runK g 0 ((bytesN s).map kd) = X
  have HX := hide hX
  clear h hG hf hneg hX hbn
  go_enter Try.func61, Try.ntmps61
  go_wp2_with fail
  go_loopg [1, 7] (s.size + 1) (fun G sv iv wr => ∃ (i : Nat) (u : Int), sv = .int .i64 u ∧ iv = .int .i64 (i : Int) ∧ i ≤ s.size ∧ G = s.size + 1 - i ∧ u = runK g 0 (((bytesN s).take i).map kd) ∧ (u = -1 ∨ ∃ q : Nat, u = (q : Int) ∧ q < g.rule.length) ∧ Below w.heap.size w wr ∧ Blk wr w.heap.size #[.slice (some ⟨tg, 0, none⟩) g.rule.length tcap, .slice (some ⟨og, 0, none⟩) g.rule.length ocap] 48)
  case atStart => exact ⟨0, 0, rfl, rfl, by omega, by omega, rfl, .inr ⟨0, rfl, hpos⟩, Below1 _ _, Blk.new _ _ _⟩
  case round =>
    obtain ⟨i, u, rfl, rfl, hi, rfl, hu, hq, hbw, hTb⟩ := hrel
    by_cases hlt : i < s.size
    · have e0 : decide ((i : Int) < (s.size : Int)) = true := by rw [decide_eq_true_iff]; omega
      rcases hq with rfl | ⟨q, rfl, hq⟩
      · have hx : X = -1 := by rw [← HX.out]; exact HNEG.out i hu.symm
        have HB := hide (And.intro hbw hx)
        clear hbw hTb hu hx
        go_wp2_with fail
        go_ret
        exact ⟨by rw [HB.out.2]; rfl, HB.out.1⟩
      · have e1 : decide ((0 : Int) ≤ (q : Int)) = true := by simp
        obtain ⟨pk1, pk2⟩ := peek_getD s i hlt
        have hst := runK_take (kd := kd) (g := g) s i hlt
        rw [← hu] at hst
        have hsb := HG.out.step q ((bytesN s).getD i 0) hq pk2
        have hnx := nextF_step HG.out hq pk2
        have hTC := HT.out.below hbw
        have t0 := hTC.to_ q hq
        have t1 := hTC.row q ((bytesN s).getD i 0) hq pk2
        rw [hnx] at t1
        have c0 := hTb.cell 0
        have i0 : (0 : Int) ≤ (i : Int) := by omega
        have i1 : (i : Int) < (s.size : Int) := by omega
        have q0 : (0 : Int) ≤ (q : Int) := by omega
        have q1 : (q : Int) < (g.rule.length : Int) := by omega
        have WB := hide (wrapByte s i hlt)
        have PK := hide pk1
        generalize (bytesN s).getD i 0 = bb at t1 pk2 hst hsb PK
        generalize stepK g (q : Int) (kd bb) = v at t1 hst hsb
        have bb0 : (0 : Int) ≤ (bb : Int) := by omega
        have bb1 : (bb : Int) < 256 := by omega
        have HH : Hid (Below w.heap.size w wr ∧ Blk wr w.heap.size #[.slice (some ⟨tg, 0, none⟩) g.rule.length tcap, .slice (some ⟨og, 0, none⟩) g.rule.length ocap] 48 ∧ v = runK g 0 (((bytesN s).take (i + 1)).map kd) ∧ (v = -1 ∨ ∃ q : Nat, v = (q : Int) ∧ q < g.rule.length)) := ⟨hbw, hTb, hst.symm, hsb⟩
        have wb := WB.out
        rw [PK.out] at wb
        clear hbw hTb hu hst hsb hTC hnx WB PK
        try clear pk1
        go_wp2_with fail
        go_quiet (fail)
        clear wb
        go_wp2_with fail
        go_roundg (s.size + 1 - (i + 1))
        case measure => omega
        case rel => exact ⟨i + 1, v, rfl, by go_num, by omega, rfl, HH.out.2.2.1, HH.out.2.2.2, Below_drewN HH.out.1 _, Blk.drewN HH.out.2.1 _⟩
    · have e0 : decide ((i : Int) < (s.size : Int)) = false := by rw [decide_eq_false_iff_not]; omega
      obtain rfl : i = s.size := by omega
      have hx : X = u := by rw [← HX.out, hu, HFIN.out]
      have HB := hide (And.intro hbw hx)
      clear hbw hTb hu hx hq
      go_wp2_with fail
      go_ret
      exact ⟨by rw [HB.out.2]; rfl, HB.out.1⟩
end Go.Proofs.Ytcckhngbdoiikaa

namespace Go.Proofs.Ytcckhngbdoiikaa
open Go.RowKit Go.Deep
set_option linter.unusedVariables false

theorem ruleFrom_none : ∀ (l : List PSet) (k : Nat), ruleFrom PSet.none k l = -1
  | [], k => rfl
  | x :: l, k => by
    unfold ruleFrom
    have h : PSet.none.meets x = false := by
      obtain ⟨xl, xh⟩ := x
      simp [PSet.meets, PSet.none]
    rw [h]
    exact ruleFrom_none l (k + 1)
/-- The empty text is no token. -/
theorem build_zero {R : RulesT} {kd : Nat → Nat} {g : Graph} (h : buildF R = some (kd, g)) : accK g 0 = -1 := by
  have h1 := build_acc h [] (by simp)
  have h2 : accK g 0 = R.rule PSet.none := h1
  rw [h2]
  exact ruleFrom_none R.last 0
/-- The first row that is marked there. -/
def firstTo (rows : List (List Bool)) (q : Nat) : Nat → Int
  | 0 => -1
  | i + 1 => if (rows.getD i []).getD q false = true ∧ firstTo rows q i = -1 then (i : Int) else firstTo rows q i
theorem firstTo_none (rows : List (List Bool)) (q : Nat) : ∀ n, (∀ i, i < n → (rows.getD i []).getD q false = false) → firstTo rows q n = -1
  | 0, _ => rfl
  | n + 1, h => by
    unfold firstTo
    rw [firstTo_none rows q n (fun i hi => h i (by omega)), if_neg (by rw [h n (by omega)]; simp)]
theorem firstTo_at (rows : List (List Bool)) (q i : Nat) (h1 : (rows.getD i []).getD q false = true) (h2 : ∀ j, j < i → (rows.getD j []).getD q false = false) : ∀ n, i < n → firstTo rows q n = (i : Int)
  | 0, h => by omega
  | n + 1, h => by
    unfold firstTo
    by_cases e : i < n
    · have ih := firstTo_at rows q i h1 h2 n e
      rw [ih, if_neg (fun x => by omega)]
    · have : i = n := by omega
      subst this
      rw [if_pos ⟨h1, firstTo_none rows q i h2⟩]
theorem first_rule {all : List NodeT} {tops : List Nat} {trs : List Tree} (h : Fitted all tops trs) {kd : Nat → Nat} {g : Graph} (hn : newF (spellK all tops tops.length).1 = .lexer kd g) (c : MemoC) (hc : ∀ t, c.tr t = trs.getD t treeD) (hq : 0 < c.s.size) :
    firstTo (wordRows c tops 0) c.s.size (wordRows c tops 0).length = accK g (runK g 0 ((bytesN c.s).map kd)) := by
  have hlen : (topTrees trs tops).length = tops.length := by simp [topTrees]
  have hwl : (wordRows c tops 0).length = tops.length := by simp [wordRows]
  have hbl : (bytesN c.s).length = c.s.size := bytesN_len c.s
  have htk : (bytesN c.s).take c.s.size = bytesN c.s := List.take_of_length_le (by omega)
  have hw : bytesN c.s ≠ [] := fun e => by rw [e] at hbl; simp at hbl; omega
  have ht := h.toks hn (bytesN c.s) hw (fun x hx => by
    simp only [bytesN, List.mem_map] at hx
    obtain ⟨b, _, rfl⟩ := hx
    exact b.toNat_lt)
  generalize accK g (runK g 0 ((bytesN c.s).map kd)) = r at ht
  have hrow : ∀ i (hi : i < tops.length), ((wordRows c tops 0).getD i []).getD c.s.size false = true ↔ ((topTrees trs tops)[i]'(by omega)).Word (bytesN c.s) := fun i hi => by
    have := word_row c trs tops hc 0 c.s.size i hi (by omega) (Nat.zero_le _) (by omega)
    rw [seg_zero, htk] at this
    exact this
  rcases ht with ⟨rfl, e⟩ | ⟨i, hi, rfl, e, e2⟩
  · refine firstTo_none _ _ _ (fun i hi => ?_)
    cases hh : ((wordRows c tops 0).getD i []).getD c.s.size false with
    | false => rfl
    | true => exact absurd ((hrow i (by omega)).1 hh) (e i (by omega))
  · refine firstTo_at _ _ i ((hrow i (by omega)).2 e) (fun j hj => ?_) _ (by omega)
    cases hh : ((wordRows c tops 0).getD j []).getD c.s.size false with
    | false => rfl
    | true => exact absurd ((hrow j (by omega)).1 hh) (e2 j hj)

set_option maxRecDepth 20000 in
set_option maxHeartbeats 6400000 in
theorem means_any {all : List NodeT} {tops : List Nat} {trs : List Tree} (hfit : Fitted all tops trs) {R : RulesT} {kd : Nat → Nat} {g : Graph} (hn : newF (spellK all tops tops.length).1 = .lexer kd g) (hR : buildF R = some (kd, g)) (hf : LexFit kd g) (s : ByteArray) (hs : s.size ≤ 50000) (hal : all.length ≤ 2000000) (htl : tops.length ≤ 2000000) (tg og tcap ocap : Nat) (rg rc : Nat → Nat) (av tv : Value) (w : World) (h : TabC w tg og rg rc kd g) (ha : NodeRow w av all) (ht : IRow w tv (natsI tops)) :
    Calls Try.prog 26 #[.agg #[.slice (some ⟨tg, 0, none⟩) g.rule.length tcap, .slice (some ⟨og, 0, none⟩) g.rule.length ocap], .agg #[av, tv], .string s] w fun e w' => e = .returned (.bool true) ∧ Below w.heap.size w w' := by
  obtain ⟨ad, acap, rfl, harow⟩ := ha.form
  obtain ⟨td, tcap9, rfl, htrow⟩ := ht.formN
  have hG := build_lexG hR
  have hz := build_zero hR
  obtain ⟨wB, hwB⟩ : ∃ wB : World, (w.alloc (.cells #[.slice (some ⟨tg, 0, none⟩) g.rule.length tcap, .slice (some ⟨og, 0, none⟩) g.rule.length ocap] 48)).alloc (.cells #[.slice ad all.length acap, .slice td tops.length tcap9] 42) = wB := ⟨_, rfl⟩
  have hbB : Below w.heap.size w wB := by rw [← hwB]; exact Below2 _ _ _
  have hTb : Blk wB w.heap.size #[.slice (some ⟨tg, 0, none⟩) g.rule.length tcap, .slice (some ⟨og, 0, none⟩) g.rule.length ocap] 48 := by rw [← hwB]; exact (Blk.new _ _ _).alloc _
  have hRb : Blk wB (w.heap.size + 1) #[.slice ad all.length acap, .slice td tops.length tcap9] 42 := by rw [← hwB]; exact Blk.at1 _ _ _ _
  have HRU := hide (run_any tg og tcap ocap rg rc kd g s wB (h.below hbB) hG hf hs)
  have HB : Hid (TabC wB tg og rg rc kd g ∧ NodeRow wB (.slice ad all.length acap) all ∧ IRow wB (.slice td tops.length tcap9) (natsI tops) ∧ Below w.heap.size w wB ∧ Blk wB w.heap.size #[.slice (some ⟨tg, 0, none⟩) g.rule.length tcap, .slice (some ⟨og, 0, none⟩) g.rule.length ocap] 48 ∧ Blk wB (w.heap.size + 1) #[.slice ad all.length acap, .slice td tops.length tcap9] 42) := ⟨h.below hbB, ha.below hbB, ht.below hbB, hbB, hTb, hRb⟩
  have c0 := hTb.cell 0
  have c1 := hTb.cell 1
  have hin := run_in hG (bytesN s) 0 (fun b hb => by
    simp only [bytesN, List.mem_map] at hb
    obtain ⟨x, _, rfl⟩ := hb
    exact x.toNat_lt) hf.pos
  have hfr := fun (c : MemoC) (hc : ∀ t, c.tr t = trs.getD t treeD) (hcs : c.s = s) (hq : 0 < s.size) => first_rule hfit hn c hc (by rw [hcs]; exact hq)
  have HFR := hide hfr
  have HFIT := hide hfit
  have hacc : ∀ q : Nat, q < g.rule.length → ruleOfF g (q : Int) = accK g (q : Int) := fun q hq => ruleOf_acc hq
  have hemp : s.size = 0 → runK g 0 ((bytesN s).map kd) = 0 := fun e => by
    have : bytesN s = [] := List.eq_nil_of_length_eq_zero (by rw [bytesN_len]; exact e)
    rw [this]
    rfl
  have hin' : runK g 0 ((bytesN s).map kd) = -1 ∨ ∃ j : Nat, j < g.rule.length ∧ runK g 0 ((bytesN s).map kd) = (j : Int) := hin
  obtain ⟨u, hu⟩ : ∃ u, runK g 0 ((bytesN s).map kd) = u := ⟨_, rfl⟩
  have HU := hide hu
  rw [hu] at HRU hin' hemp
  have HAC := hide (And.intro hacc (And.intro hz hemp))
  clear h ha ht hfit hn hR hf hG hz hbB hTb hRb hin hfr hacc hu hemp
  go_enter Try.func26, Try.ntmps26
  go_wp2_with fail
  try rw [hwB]
  clear hwB
  refine HRU.out.mono ?_
  rintro e w1 ⟨rfl, hb1⟩
  obtain ⟨q1, q2, q3, q4, q5, q6⟩ := HB.out
  have HB1 : Hid (TabC w1 tg og rg rc kd g ∧ NodeRow w1 (.slice ad all.length acap) all ∧ IRow w1 (.slice td tops.length tcap9) (natsI tops) ∧ Below w.heap.size w w1 ∧ Blk w1 w.heap.size #[.slice (some ⟨tg, 0, none⟩) g.rule.length tcap, .slice (some ⟨og, 0, none⟩) g.rule.length ocap] 48) := ⟨q1.below hb1, q2.below hb1, q3.below hb1, q4.trans (hb1.mono q4.size), q5.below hb1⟩
  have hr1 := q6.below hb1
  have r0 := hr1.cell 0
  have r1 := hr1.cell 1
  have HBG := hide (begun_any (.slice ad all.length acap) (.slice td tops.length tcap9) all s w1 HB1.out.2.1 tops HB1.out.2.2.1 hs (by omega))
  clear q1 q2 q3 q4 q5 q6 hb1 hr1 HB HRU c0 c1
  go_wp2_with fail
  refine HBG.out.mono ?_
  rintro e w5 ⟨kv, R9, rfl, hb5, hwb, hbg⟩
  obtain ⟨c, hcs, hct, hW⟩ := words_begun HFIT.out s hs htl HB1.out.2.1 HB1.out.2.2.1 hb5 hwb hbg 0 (Nat.zero_le _)
  have HW := hide hW
  have hfr : 0 < s.size → firstTo (wordRows c tops 0) s.size (wordRows c tops 0).length = accK g u := fun hq => by
    have := HFR.out c hct hcs hq
    rw [hcs, HU.out] at this
    exact this
  have hrn : ∀ i, i < (wordRows c tops 0).length → ((wordRows c tops 0).getD i []).length = s.size + 1 := fun j hj => by
    have hj' : j < tops.length := by simpa [wordRows] using hj
    have e9 : (wordRows c tops 0).getD j [] = rowT (bytesN c.s) (c.tr (tops.getD j 0)) 0 := by simp [wordRows, hj']
    rw [e9, rowT_len]
    unfold MemoC.N
    rw [hcs]
  have hrl : (wordRows c tops 0).length ≤ 2000000 := by simp [wordRows]; omega
  have HRN := hide hrn
  have HF2 := hide hfr
  clear hb5 hwb hbg hW hfr hrn hcs hct HBG r0 r1 HFR HFIT HU
  generalize wordRows c tops 0 = rows at HW HF2 HRN hrl
  go_wp2_with fail
  refine HW.out.mono ?_
  rintro e w6 ⟨rv, rfl, hrows, hb6⟩
  obtain ⟨vs, hrow, hvl, hvs⟩ := hrows
  obtain ⟨_, rd, rcap, rfl, hform⟩ := ownsRow_form hrow
  have hcell : ∀ i, i < rows.length → ∃ rg b, rd = some ⟨rg, 0, none⟩ ∧ w6.cell? ⟨rg, i, none⟩ = some (.slice (some ⟨b, 0, none⟩) (s.size + 1) (s.size + 1)) ∧ BRow w6 (.slice (some ⟨b, 0, none⟩) (s.size + 1) (s.size + 1)) (rows.getD i []) := fun i hi => by
    rcases hform with ⟨_, h9⟩ | ⟨rg, cur, rfl, _⟩
    · omega
    · obtain ⟨b, h1, h2⟩ := hvs i hi
      exact ⟨rg, b, rfl, by rw [ownsRow_cell hrow i (by omega)]; exact h1, h2⟩
  have HC := hide hcell
  obtain ⟨q1, q2, q3, q4, q5⟩ := HB1.out
  have HB6 : Hid (TabC w6 tg og rg rc kd g ∧ Below w.heap.size w w6 ∧ Blk w6 w.heap.size #[.slice (some ⟨tg, 0, none⟩) g.rule.length tcap, .slice (some ⟨og, 0, none⟩) g.rule.length ocap] 48) := ⟨q1.below hb6, q4.trans (hb6.mono q4.size), q5.below hb6⟩
  clear hcell hrow hvs hvl hform hb6 HW q1 q2 q3 q4 q5 HB1
  have hfin : ∃ r : Int, (s.size = 0 → r = -1) ∧ (0 < s.size → r = firstTo rows s.size rows.length) ∧ r = accK g u := by
    obtain ⟨_, h2, h3⟩ := HAC.out
    by_cases e : s.size = 0
    · exact ⟨-1, fun _ => rfl, fun e' => by omega, by rw [h3 e, h2]⟩
    · exact ⟨accK g u, fun e' => absurd e' e, fun e' => (HF2.out e').symm, rfl⟩
  obtain ⟨rr, rr1, rr2, rr3⟩ := hfin
  have HRR := hide (And.intro rr1 rr2)
  have HR3 := hide rr3
  clear rr1 rr2 rr3 HF2
  go_wp2_with fail
  go_loopg [8, 10] (rows.length + 1) (fun G rv iv wr => ∃ (i : Nat) (x : Int), rv = .int .i64 x ∧ iv = .int .i64 (i : Int) ∧ i ≤ rows.length ∧ G = rows.length + 1 - i ∧ ((s.size = 0 ∧ x = -1 ∧ i = 0) ∨ (0 < s.size ∧ x = firstTo rows s.size i)) ∧ wr = w6)
  case atStart =>
    refine ⟨0, -1, rfl, rfl, by omega, by omega, ?_, rfl⟩
    by_cases e : s.size = 0
    · exact .inl ⟨e, rfl, rfl⟩
    · exact .inr ⟨by omega, rfl⟩
  case round =>
    obtain ⟨i, x, rfl, rfl, hi, rfl, hx, rfl⟩ := hrel
    by_cases hgo : i < rows.length ∧ 0 < s.size
    · obtain ⟨hli, hsz⟩ := hgo
      have hxx : x = firstTo rows s.size i := by
        rcases hx with ⟨e, _⟩ | ⟨_, e⟩
        · omega
        · exact e
      have e2 : decide ((i : Int) < (rows.length : Int)) = true := by rw [decide_eq_true_iff]; omega
      have en := notEmpty s (by omega)
      obtain ⟨rg9, b, rfl, m1, hB⟩ := HC.out i hli
      have m2 := hB.cellD s.size (by rw [HRN.out i hli]; omega)
      have hstep : firstTo rows s.size (i + 1) = if (rows.getD i []).getD s.size false = true ∧ firstTo rows s.size i = -1 then (i : Int) else firstTo rows s.size i := rfl
      rw [← hxx] at hstep
      generalize (rows.getD i []).getD s.size false = y at m2 hstep
      have i0 : (0 : Int) ≤ (i : Int) := by omega
      have i1 : (i : Int) < (rows.length : Int) := by omega
      have s0 : (0 : Int) ≤ (s.size : Int) := by omega
      have s1 : (s.size : Int) < (s.size : Int) + 1 := by omega
      have HST := hide hstep
      have hsz' := hsz
      clear hx hxx hB hstep
      cases y with
      | false =>
        go_wp2_with fail
        go_roundg (rows.length + 1 - (i + 1))
        case measure => omega
        case rel => exact ⟨i + 1, x, rfl, by go_num, by omega, rfl, .inr ⟨hsz', by rw [HST.out]; simp⟩, rfl⟩
      | true =>
        by_cases hm : x = -1
        · have e3 : (x == -1) = true := by rw [hm]; rfl
          have HM := hide hm
          clear hm
          go_wp2_with fail
          go_roundg (rows.length + 1 - (i + 1))
          case measure => omega
          case rel => exact ⟨i + 1, (i : Int), rfl, by go_num, by omega, rfl, .inr ⟨hsz', by rw [HST.out]; simp [HM.out]⟩, rfl⟩
        · have e3 : (x == -1) = false := by rw [beq_eq_false_iff_ne]; exact hm
          have HM := hide hm
          clear hm
          go_wp2_with fail
          go_roundg (rows.length + 1 - (i + 1))
          case measure => omega
          case rel => exact ⟨i + 1, x, rfl, by go_num, by omega, rfl, .inr ⟨hsz', by rw [HST.out, if_neg (fun e => HM.out e.2)]⟩, rfl⟩
    · have hxr : x = rr := by
        obtain ⟨g1, g2⟩ := HRR.out
        rcases hx with ⟨e, e', _⟩ | ⟨e, e'⟩
        · rw [e', g1 e]
        · have : i = rows.length := by omega
          rw [e', this, g2 e]
      subst hxr
      have hway : (¬ i < rows.length ∧ decide ((i : Int) < (rows.length : Int)) = false) ∨ (i < rows.length ∧ decide ((i : Int) < (rows.length : Int)) = true ∧ s.toList.isEmpty = true) := by
        by_cases e : i < rows.length
        · have e9 : s.size = 0 := by omega
          refine .inr ⟨e, by rw [decide_eq_true_iff]; omega, ?_⟩
          have e8 : s = ⟨#[]⟩ := (emptyStr s).2 e9
          unfold ByteArray.toList
          unfold ByteArray.toList.loop
          rw [if_neg (by omega)]
          rfl
        · exact .inl ⟨e, by rw [decide_eq_false_iff_not]; omega⟩
      clear hx hgo
      go_upto_region 5 with fail
      go_cut [25] (fun cv wx => cv = .bool false ∧ wx = wr)
      case first =>
        rcases hway with ⟨f0, f1⟩ | ⟨f0, f1, f2⟩
        all_goals
          clear HC HRN HB6 HRR HR3 HAC
          go_wp2_with fail
          go_meet
          exact ⟨rfl, rfl⟩
      case rest =>
        obtain ⟨rfl, rfl⟩ := hcut
        clear hway
        rcases hin' with rfl | ⟨q, hq, rfl⟩
        · have hx1 : x = -1 := by rw [HR3.out]; rfl
          have e3 : (x == -1) = true := by rw [hx1]; rfl
          clear hx1 HR3
          go_wp2_with fail
          go_ret
          exact ⟨rfl, HB6.out.2.1⟩
        · have o0 := HB6.out.1.of_ q hq
          rw [HAC.out.1 q hq, ← HR3.out] at o0
          have c1 := HB6.out.2.2.cell 1
          have e3 : decide ((q : Int) < 0) = false := by simp
          have e4 : (x == x) = true := by simp
          have q0 : (0 : Int) ≤ (q : Int) := by omega
          have q1 : (q : Int) < (g.rule.length : Int) := by omega
          clear HR3 HAC HRR
          go_wp2_with fail
          go_ret
          exact ⟨rfl, HB6.out.2.1⟩
end Go.Proofs.Ytcckhngbdoiikaa
