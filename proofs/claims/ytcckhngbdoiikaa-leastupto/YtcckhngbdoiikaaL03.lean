import Derived.Test.YtcckhngbdoiikaaL02
import Derived.Test.YtcckhngbdoiikaaM48

namespace Go.Proofs.Ytcckhngbdoiikaa
open Go.RowKit Go.Deep
set_option linter.unusedVariables false

set_option maxRecDepth 20000 in
set_option maxHeartbeats 6400000 in
theorem apart_any (tg og tcap ocap : Nat) (rg rc : Nat → Nat) {R : RulesT} (kd : Nat → Nat) (g : Graph) (w : World) (h : TabC w tg og rg rc kd g) (hR : buildF R = some (kd, g)) (hf : LexFit kd g) :
    Calls Try.prog 29 #[.agg #[.slice (some ⟨tg, 0, none⟩) g.rule.length tcap, .slice (some ⟨og, 0, none⟩) g.rule.length ocap]] w fun e w' => e = .returned (.bool true) ∧ Below w.heap.size w w' := by
  have hfew := hf.few
  have HIN := hide hf.into
  have HAP := hide (fun (i j : Nat) (hi : i < g.rule.length) (hj : j < g.rule.length) (hne : i ≠ j) => build_apart hR hi hj hne)
  have HDF := hide (fun (W : World) (hb : Below w.heap.size w W) (dg : Nat) (dr : Nat → Nat) (D : Nat → List Bool) (i j : Nat) (hD : MatC W dg dr g.rule.length D) (hi : i < g.rule.length) (hj : j < g.rule.length) => differs_any tg og tcap ocap rg rc kd g dg dr D i j W (h.below hb) hD hf hi hj)
  have hmk := makeNils g.rule.length (by omega)
  have hmk2 := makeBools g.rule.length (by omega)
  clear h hR hf
  obtain ⟨tab, htab⟩ : ∃ tab : Array Value, tab = #[.slice (some ⟨tg, 0, none⟩) g.rule.length tcap, .slice (some ⟨og, 0, none⟩) g.rule.length ocap] := ⟨_, rfl⟩
  go_enter Try.func29, Try.ntmps29
  go_wp2_with fail
  go_loopg [5] g.rule.length (fun G iv wr => ∃ (i : Nat) (dr : Nat → Nat) (cs : Array Value), iv = .int .i64 (i : Int) ∧ i ≤ g.rule.length ∧ G = g.rule.length - i ∧ Below w.heap.size w wr ∧ Blk wr w.heap.size tab 48 ∧ Blk wr (w.heap.size + 1) cs 119 ∧ cs.size = g.rule.length ∧ (∀ a, a < i → cs[a]? = some (.slice (some ⟨dr a, 0, none⟩) g.rule.length g.rule.length)) ∧ (∀ a, a < i → Blk wr (dr a) (boolsA (List.replicate g.rule.length false)) 4) ∧ (∀ a b, a < i → b < i → dr a = dr b → a = b) ∧ (∀ a, a < i → w.heap.size + 1 < dr a))
  case atStart =>
    refine ⟨0, fun _ => 0, nilsA g.rule.length, rfl, by omega, rfl, Below2 _ _ _, ?_, Blk.at1 _ _ _ _, by simp [nilsA], fun a ha => by omega, fun a ha => by omega, fun a b ha => by omega, fun a ha => by omega⟩
    rw [htab]
    exact (Blk.new _ _ _).alloc _
  case round =>
    obtain ⟨i, dr, cs, rfl, hi, rfl, hbw, hTb, hTo, hcs, h1, h2, h3, h4⟩ := hrel
    by_cases hlt : i < g.rule.length
    · have e0 : decide ((i : Int) < (g.rule.length : Int)) = true := by rw [decide_eq_true_iff]; omega
      have i0 : (0 : Int) ≤ (i : Int) := by omega
      have i1 : (i : Int) < (g.rule.length : Int) := by omega
      have hTo' := hTo.alloc (.cells (boolsA (List.replicate g.rule.length false)) 4)
      obtain ⟨x0, d0⟩ : ∃ x0, (wr.alloc (.cells (boolsA (List.replicate g.rule.length false)) 4)).cell? ⟨w.heap.size + 1, i, none⟩ = some x0 := ⟨cs[i], by rw [hTo'.cell]; exact Array.getElem?_eq_getElem _⟩
      have df := hTo'.frozen i
      have dz := hTo'.lt
      have zt := hTo.lt
      have HH : Hid (Below w.heap.size w wr ∧ Blk wr w.heap.size tab 48 ∧ Blk wr (w.heap.size + 1) cs 119 ∧ cs.size = g.rule.length ∧ (∀ a, a < i → cs[a]? = some (.slice (some ⟨dr a, 0, none⟩) g.rule.length g.rule.length)) ∧ (∀ a, a < i → Blk wr (dr a) (boolsA (List.replicate g.rule.length false)) 4) ∧ (∀ a b, a < i → b < i → dr a = dr b → a = b) ∧ (∀ a, a < i → w.heap.size + 1 < dr a)) := ⟨hbw, hTb, hTo, hcs, h1, h2, h3, h4⟩
      clear hbw hTb hTo hTo' hcs h1 h2 h3 h4
      obtain ⟨w1, hw1⟩ : ∃ w1 : World, wr.alloc (.cells (boolsA (List.replicate g.rule.length false)) 4) = w1 := ⟨_, rfl⟩
      rw [hw1] at d0 df dz
      go_wp2_with fail
      go_roundg (g.rule.length - (i + 1))
      case measure => omega
      case rel =>
        obtain ⟨q1, q2, q3, q4, q5, q6, q7, q8⟩ := HH.out
        have hb1 : Below wr.heap.size wr w1 := by rw [← hw1]; exact Below1 _ _
        have hlast : Blk w1 wr.heap.size (boolsA (List.replicate g.rule.length false)) 4 := by rw [← hw1]; exact Blk.new _ _ _
        refine ⟨i + 1, fun a => if a = i then wr.heap.size else dr a, cs.setIfInBounds i (.slice (some ⟨wr.heap.size, 0, none⟩) g.rule.length g.rule.length), by go_num, by omega, rfl, ?_, ?_, ?_, by simp [q4], fun a ha => ?_, fun a ha => ?_, fun a b ha hb hab => ?_, fun a ha => ?_⟩
        · exact (q1.trans (hb1.mono q1.size)).setCell (p := ⟨w.heap.size + 1, i, none⟩) (show w.heap.size ≤ w.heap.size + 1 by omega) _
        · exact (q2.below hb1).setOther (p := ⟨w.heap.size + 1, i, none⟩) (show w.heap.size ≠ w.heap.size + 1 by omega) _
        · exact (q3.below hb1).set i _
        · dsimp only
          by_cases e : a = i
          · rw [e, if_pos rfl]
            rw [Array.getElem?_setIfInBounds_self_of_lt (by omega)]
          · rw [if_neg e, Array.getElem?_setIfInBounds_ne (by omega)]
            exact q5 a (by omega)
        · dsimp only
          by_cases e : a = i
          · rw [if_pos e]
            exact hlast.setOther (p := ⟨w.heap.size + 1, i, none⟩) (show wr.heap.size ≠ w.heap.size + 1 by omega) _
          · rw [if_neg e]
            have := q8 a (by omega)
            exact ((q6 a (by omega)).below hb1).setOther (p := ⟨w.heap.size + 1, i, none⟩) (show dr a ≠ w.heap.size + 1 by omega) _
        · dsimp only at hab
          by_cases ea : a = i
          · by_cases eb : b = i
            · omega
            · rw [if_pos ea, if_neg eb] at hab
              have := (q6 b (by omega)).lt
              omega
          · by_cases eb : b = i
            · rw [if_neg ea, if_pos eb] at hab
              have := (q6 a (by omega)).lt
              omega
            · rw [if_neg ea, if_neg eb] at hab
              exact q7 a b (by omega) (by omega) hab
        · dsimp only
          by_cases e : a = i
          · rw [if_pos e]; omega
          · rw [if_neg e]; exact q8 a (by omega)
    · have e0 : decide ((i : Int) < (g.rule.length : Int)) = false := by rw [decide_eq_false_iff_not]; omega
      have hi9 : i = g.rule.length := by omega
      subst hi9
      have hMI : MatI w wr tab cs dr g.rule.length (fun _ => List.replicate g.rule.length false) := ⟨hbw, hTb, hTo, h1, h2, fun a ha => by simp, h3, h4⟩
      have HMI := hide hMI
      have HBW := hide hbw
      clear hbw hTb hTo hcs h1 h2 h3 h4 hMI
      go_wp2_with fail
      go_loopg [6] (g.rule.length + 1) (fun G kv wi => ∃ (k : Nat) (D : Nat → List Bool), kv = .int .i64 (k : Int) ∧ k ≤ g.rule.length + 1 ∧ G = g.rule.length + 1 - k ∧ ApInv kd g k D 0 0 ∧ MatI w wi tab cs dr g.rule.length D)
      case atStart => exact ⟨0, _, rfl, by omega, rfl, ⟨fun a b _ _ hm => hm.elim, fun a b _ _ hc => by omega⟩, HMI.out⟩
      case round =>
        obtain ⟨k, D, rfl, hk, rfl, hAp, hM⟩ := hrel
        clear HMI
        by_cases hle : k ≤ g.rule.length
        · have e1 : decide ((k : Int) ≤ (g.rule.length : Int)) = true := by rw [decide_eq_true_iff]; omega
          have HS := hide (And.intro hAp hM)
          clear hAp hM
          go_wp2_with fail
          go_loopg [7] g.rule.length (fun G iv wi => ∃ (i : Nat) (D : Nat → List Bool), iv = .int .i64 (i : Int) ∧ i ≤ g.rule.length ∧ G = g.rule.length - i ∧ ApInv kd g k D i 0 ∧ MatI w wi tab cs dr g.rule.length D)
          case atStart => exact ⟨0, D, rfl, by omega, rfl, HS.out.1, HS.out.2⟩
          case round =>
            obtain ⟨i, D2, rfl, hi2, rfl, hAp, hM⟩ := hrel
            clear HS
            by_cases hlt : i < g.rule.length
            · have e2 : decide ((i : Int) < (g.rule.length : Int)) = true := by rw [decide_eq_true_iff]; omega
              have HS := hide (And.intro hAp hM)
              clear hAp hM
              go_wp2_with fail
              go_loopg [8] g.rule.length (fun G jv wi => ∃ (j : Nat) (D : Nat → List Bool), jv = .int .i64 (j : Int) ∧ j ≤ g.rule.length ∧ G = g.rule.length - j ∧ ApInv kd g k D i j ∧ MatI w wi tab cs dr g.rule.length D)
              case atStart => exact ⟨0, D2, rfl, by omega, rfl, HS.out.1, HS.out.2⟩
              case round =>
                obtain ⟨j, D3, rfl, hj, rfl, hAp, hM⟩ := hrel
                clear HS
                by_cases hjl : j < g.rule.length
                · have e3 : decide ((j : Int) < (g.rule.length : Int)) = true := by rw [decide_eq_true_iff]; omega
                  have i0 : (0 : Int) ≤ (i : Int) := by omega
                  have i1 : (i : Int) < (g.rule.length : Int) := by omega
                  have j0 : (0 : Int) ≤ (j : Int) := by omega
                  have j1 : (j : Int) < (g.rule.length : Int) := by omega
                  have hln := hM.len i hlt
                  have m0 := hM.mat.top i hlt
                  have m1 := boolsA_cellD (hM.row i hlt) j (by omega)
                  have mf := (hM.row i hlt).frozen j
                  have mz := (hM.row i hlt).lt
                  have tz := hM.top.lt
                  have bz := hM.tab.lt
                  have bne := hM.big i hlt
                  have c0 : wr.cell? ⟨w.heap.size, 0, none⟩ = some (.slice (some ⟨tg, 0, none⟩) g.rule.length tcap) := by rw [hM.tab.cell 0, htab]; rfl
                  have c1 : wr.cell? ⟨w.heap.size, 1, none⟩ = some (.slice (some ⟨og, 0, none⟩) g.rule.length ocap) := by rw [hM.tab.cell 1, htab]; rfl
                  have HX := hide (fun x hx1 hx2 => hAp.step HIN.out hlt hjl hln x hx1 hx2)
                  have HSET := hide (fun x => hM.set i j hlt x)
                  have HS := hide hM
                  have HDC := hide (fun (V : World) (hb : Below wr.heap.size wr V) => HDF.out V (hM.below.trans (hb.mono hM.below.size)) (w.heap.size + 1) dr D3 i j (hM.mat.below hb) hlt hjl)
                  obtain ⟨y, hy⟩ : ∃ y, (D3 i).getD j false = y := ⟨_, rfl⟩
                  have HY := hide hy
                  rw [hy] at m1
                  clear hAp hM hln hy HDF HAP HIN HBW
                  cases y with
                  | true =>
                    go_wp2_with fail
                    go_region
                    go_wp2_with fail
                    go_roundg (g.rule.length - (j + 1))
                    case measure => omega
                    case rel => exact ⟨j + 1, _, by go_num, by omega, rfl, HX.out true (fun _ => rfl) (fun e => by cases e), (HSET.out true).more ⟨rfl, rfl, rfl, Nat.le_refl _, fun _ _ => rfl⟩⟩
                  | false =>
                    go_wp2_with fail
                    go_region_with (go_at_call 62; refine (HDC.out _ (Below_drew (Below.refl _ _))).mono ?_; rintro e w5 ⟨he, hb5⟩; have n1 := (hb5.cell (p := ⟨dr i, j, none⟩) mz).trans m1; have n2 := (hb5.frozen (p := ⟨dr i, j, none⟩) mz).trans mf; have n0 := (hb5.cell (p := ⟨w.heap.size + 1, i, none⟩) tz).trans m0; obtain ⟨x, rfl, hxd⟩ : ∃ x, e = .returned (.bool x) ∧ (x = false → ¬ DiffD kd g D3 i j) := by (rcases he with rfl | ⟨rfl, hnd⟩; exact ⟨true, rfl, fun e => by cases e⟩; exact ⟨false, rfl, fun _ => hnd⟩))
                    all_goals
                      go_wp2_with fail
                      go_roundg (g.rule.length - (j + 1))
                      case measure => omega
                      case rel => exact ⟨j + 1, _, by go_num, by omega, rfl, HX.out x (fun e => by rw [HY.out] at e; cases e) hxd, (HS.out.more ((Below_drew (Below.refl _ _)).trans (hb5.mono (Nat.le_refl _)))).set i j hlt x⟩
                · have e3 : decide ((j : Int) < (g.rule.length : Int)) = false := by rw [decide_eq_false_iff_not]; omega
                  have hj9 : j = g.rule.length := by omega
                  have HS := hide (And.intro (show ApInv kd g k D3 (i + 1) 0 by rw [hj9] at hAp; exact hAp.row) hM)
                  clear hAp hM hj9
                  go_wp2_with fail
                  go_roundg (g.rule.length - (i + 1))
                  case measure => omega
                  case rel => exact ⟨i + 1, D3, by go_num, by omega, rfl, HS.out.1, HS.out.2⟩
            · have e2 : decide ((i : Int) < (g.rule.length : Int)) = false := by rw [decide_eq_false_iff_not]; omega
              have hi9 : i = g.rule.length := by omega
              have HS := hide (And.intro (show ApInv kd g (k + 1) D2 0 0 by rw [hi9] at hAp; exact hAp.round) hM)
              clear hAp hM hi9
              go_wp2_with fail
              go_roundg (g.rule.length + 1 - (k + 1))
              case measure => omega
              case rel => exact ⟨k + 1, D2, by go_num, by omega, rfl, HS.out.1, HS.out.2⟩
        · have e1 : decide ((k : Int) ≤ (g.rule.length : Int)) = false := by rw [decide_eq_false_iff_not]; omega
          have hk9 : k = g.rule.length + 1 := by omega
          rw [hk9] at hAp
          have hall : ∀ a b, a < g.rule.length → b < g.rule.length → a ≠ b → (D a).getD b false = true := fun a b ha hb hne => hAp.up a b ha hb (HAP.out a b ha hb hne)
          have HAL := hide hall
          have HM := hide hM
          clear hAp hM hk9 hall
          obtain ⟨wo, rfl⟩ : ∃ wo : World, wo = wr := ⟨_, rfl⟩
          go_wp2_with fail
          go_loopg [9] g.rule.length (fun G iv wi => ∃ i : Nat, iv = .int .i64 (i : Int) ∧ i ≤ g.rule.length ∧ G = g.rule.length - i ∧ wi = wo)
          case atStart => exact ⟨0, rfl, by omega, rfl, rfl⟩
          case round =>
            obtain ⟨i, rfl, hi2, rfl, rfl⟩ := hrel
            by_cases hlt : i < g.rule.length
            · have e2 : decide ((i : Int) < (g.rule.length : Int)) = true := by rw [decide_eq_true_iff]; omega
              have i0 : (0 : Int) ≤ (i : Int) := by omega
              have i1 : (i : Int) < (g.rule.length : Int) := by omega
              have m0 := HM.out.mat.top i hlt
              go_wp2_with fail
              go_loopg [10] i (fun G jv wi => ∃ j : Nat, jv = .int .i64 (j : Int) ∧ j ≤ i ∧ G = i - j ∧ wi = wr)
              case atStart => exact ⟨0, rfl, by omega, rfl, rfl⟩
              case round =>
                obtain ⟨j, rfl, hj, rfl, rfl⟩ := hrel
                by_cases hjl : j < i
                · have e3 : decide ((j : Int) < (i : Int)) = true := by rw [decide_eq_true_iff]; omega
                  have j0 : (0 : Int) ≤ (j : Int) := by omega
                  have j1 : (j : Int) < (g.rule.length : Int) := by omega
                  have hln := HM.out.len i hlt
                  have m1 := boolsA_cellD (HM.out.row i hlt) j (by omega)
                  rw [HAL.out i j hlt (by omega) (by omega)] at m1
                  clear hln
                  go_wp2_with fail
                  go_roundg (i - (j + 1))
                  case measure => omega
                  case rel => exact ⟨j + 1, by go_num, by omega, rfl, rfl⟩
                · have e3 : decide ((j : Int) < (i : Int)) = false := by rw [decide_eq_false_iff_not]; omega
                  go_wp2_with fail
                  go_roundg (g.rule.length - (i + 1))
                  case measure => omega
                  case rel => exact ⟨i + 1, by go_num, by omega, rfl, rfl⟩
            · have e2 : decide ((i : Int) < (g.rule.length : Int)) = false := by rw [decide_eq_false_iff_not]; omega
              go_wp2_with fail
              go_ret
              exact ⟨rfl, HM.out.below⟩
end Go.Proofs.Ytcckhngbdoiikaa
