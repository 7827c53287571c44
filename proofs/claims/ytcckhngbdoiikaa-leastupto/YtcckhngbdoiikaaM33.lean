import Derived.Test.YtcckhngbdoiikaaM32
import Derived.Laws.CopyOwn
import Derived.Deep.RegionHeld3

namespace Go.Proofs.Ytcckhngbdoiikaa
open Go.RowKit Go.Deep
set_option linter.unusedVariables false

theorem Try.infoBool : (Try.prog.info? 4).map (·.size) = some 1 := by kernel_rfl
/-- A row of bools laid over another one. -/
theorem copyB {ops : Array Oper} {rest : List Oper} {o : Oper} {a : Act} {w : World} {Q : Exit → Act → World → Prop} (hgd : o.guard = none) (d s : Operand) (dT sT : TypeId)
    (ho : o.op = .call { callee := .builtin .copy, args := #[d, s], argTypes := #[dT, sT] }) (hu : Try.prog.underlying dT = some (.slice 4)) (g b n : Nat) (row old : List Bool)
    (hd : a.eval d = .slice (some ⟨g, 0, none⟩) n n) (hs : a.eval s = .slice (some ⟨b, 0, none⟩) n n) (hg : Blk w g (boolsA old) 4) (hol : old.length = n) (hr : BRow w (.slice (some ⟨b, 0, none⟩) n n) row) (hrl : row.length = n)
    (h : ∀ w', Kept (fun k => k = g) w w' → Blk w' g (boolsA row) 4 → wpList Try.prog ops Q rest (a.put o.dst (goInt n)) w') : wpList Try.prog ops Q (o :: rest) a w := by
  refine wpList_copy_own hgd d s dT sT ho 4 hu Try.infoBool g 0 n n ⟨b, 0, none⟩ n n hd hs (boolsA old) 4 hg (row.map Value.bool) (by simp [hrl]) (fun j v hj => ?_) (by simp [boolsA, hrl, hol]) (fun v hv => ?_) ?_
  · have hj' : j < row.length := by
      have := (List.getElem?_eq_some_iff.1 hj).1
      simpa using this
    have hadd : (⟨b, 0, none⟩ : Addr).add j = ⟨b, j, none⟩ := by unfold Addr.add; split <;> simp_all
    rw [hadd, hr.cellD j hj']
    simp [hj'] at hj ⊢
    exact hj
  · rw [List.mem_map] at hv
    obtain ⟨x, _, rfl⟩ := hv
    rfl
  · have e : (List.take 0 (boolsA old).toList ++ (row.map Value.bool ++ List.drop (0 + (row.map Value.bool).length) (boolsA old).toList)).toArray = boolsA row := by
      simp [boolsA, hrl, hol]
    rw [e]
    have hl : ((row.map Value.bool).length) = n := by simp [hrl]
    rw [hl]
    exact h _ (Kept.setRow (ex := fun k => k = g) (Kept.refl _ _) (fun _ => rfl) _) (hg.setRow _)

set_option maxRecDepth 20000 in
set_option maxHeartbeats 1600000 in
theorem find_or (c : MemoC) (n : Nat) (hn : n < c.all.length) (x : NodeT) (hx : c.all.getD n nodeD = x) (hkd : x.kind = 5) (htr : c.tr n = .or (c.tr x.l) (c.tr x.r)) (h1 : OverC c x.l) (h2 : OverC c x.r) (A : Nat → Prop) (w : World) (p : Nat) (hA : ∀ b, A b → b < w.heap.size) (hm : Memo c A w) (hp : p ≤ c.s.size) (hs : c.s.size ≤ 50000) :
    Calls Try.prog 91 #[.pointer (some ⟨c.wb, 0, none⟩), .int .i64 (n : Int), .int .i64 (p : Int)] w (RowOut c A w (rowT (bytesN c.s) (c.tr n) p)) := by
  obtain ⟨ad, acap, hav, harow⟩ := hm.nodes.form
  rcases harow with h0 | ⟨ag, rfl⟩
  · omega
  have hnd : NodeRow w (.slice (some ⟨ag, 0, none⟩) c.all.length acap) c.all := by have := hm.nodes; rw [hav] at this; exact this
  have s0 : w.cell? ⟨c.wb, 0, none⟩ = some (.slice (some ⟨ag, 0, none⟩) c.all.length acap) := by rw [← hav]; exact hm.blk.cell 0
  have s2 : w.cell? ⟨c.wb, 2, none⟩ = some (.string c.s) := hm.blk.cell 2
  have cA := fun k hk => hnd.cell n k hn hk
  rw [hx] at cA
  obtain ⟨xk, xa, xb, xl, xr, xt, xp⟩ := x
  simp only at hkd htr h1 h2
  subst hkd
  have a0 := cA 0 (by omega)
  have a1 := cA 1 (by omega)
  have a2 := cA 2 (by omega)
  have a3 := cA 3 (by omega)
  have a4 := cA 4 (by omega)
  have a5 := cA 5 (by omega)
  have a6 := cA 6 (by omega)
  simp only [nodesC, List.getElem?_cons_zero, List.getElem?_cons_succ, Nat.add_zero] at a0 a1 a2 a3 a4 a5 a6
  have n0 : (0 : Int) ≤ (n : Int) := by omega
  have n1 : (n : Int) < (c.all.length : Int) := by omega
  have hm1 : Memo c A (w.alloc (.cells (nodeC ⟨5, xa, xb, xl, xr, xt, xp⟩) 114)) := hm.below (Below1 _ _)
  have hA1 : ∀ b, A b → b < (w.alloc (.cells (nodeC ⟨5, xa, xb, xl, xr, xt, xp⟩) 114)).heap.size := fun b hb => by have := hA b hb; simp; omega
  have HM1 := hide hm1
  have HA1 := hide hA1
  have HK1 : Hid (Kept c.M w (w.alloc (.cells (nodeC ⟨5, xa, xb, xl, xr, xt, xp⟩) 114))) := hide ((Kept.refl _ _).alloc _)
  have HB1 := hide (Blk.new w (nodeC ⟨5, xa, xb, xl, xr, xt, xp⟩) 114)
  have HAA := hide hA
  have hN2 : c.N ≤ 50001 := by unfold MemoC.N; omega
  have hN1 : (c.s.size : Int) + 1 = (c.N : Int) := by unfold MemoC.N; omega
  have hmk := makeBools c.N (by omega)
  have zwb : c.wb < w.heap.size := hm.blk.lt
  have hm2 : Memo c (fun b => A b ∨ b = w.heap.size + 1) ((w.alloc (.cells (nodeC ⟨5, xa, xb, xl, xr, xt, xp⟩) 114)).alloc (.cells (boolsA (List.replicate c.N false)) 4)) := by
    have h9 := hm1.fresh.below (Below1 _ (.cells (boolsA (List.replicate c.N false)) 4))
    simpa using h9
  have hA2 : ∀ b, (A b ∨ b = w.heap.size + 1) → b < ((w.alloc (.cells (nodeC ⟨5, xa, xb, xl, xr, xt, xp⟩) 114)).alloc (.cells (boolsA (List.replicate c.N false)) 4)).heap.size := fun b hb => by
    rcases hb with e | e
    · have := hA b e; simp; omega
    · simp; omega
  have HM2 := hide hm2
  have HA2 := hide hA2
  have HK2 : Hid (Kept c.M w ((w.alloc (.cells (nodeC ⟨5, xa, xb, xl, xr, xt, xp⟩) 114)).alloc (.cells (boolsA (List.replicate c.N false)) 4))) := hide (((Kept.refl _ _).alloc _).alloc _)
  have HB2 := hide (Blk.at1 w (.cells (nodeC ⟨5, xa, xb, xl, xr, xt, xp⟩) 114) (boolsA (List.replicate c.N false)) 4)
  have HB3 := hide ((Blk.new w (nodeC ⟨5, xa, xb, xl, xr, xt, xp⟩) 114).alloc (.cells (boolsA (List.replicate c.N false)) 4))
  have HT := hide htr
  have HO1 := hide (h1 _ _ p hA2 hm2 hp)
  have HO2 := hide h2
  clear htr h1 h2 hm2 hA2
  clear cA hm hm1 hA1 hnd hA hx hav
  go_enter Try.func91, Try.ntmps91
  go_wp2_with fail
  refine HO1.out.mono ?_
  rintro e w1 ⟨b1, rfl, hnb1, hBR1, hmm1, hk1⟩
  have hX1 : Blk w1 w.heap.size (nodeC ⟨5, xa, xb, xl, xr, xt, xp⟩) 114 := HB3.out.kept hk1 (HM2.out.not HB3.out (by decide))
  have hO1 : Blk w1 (w.heap.size + 1) (boolsA (List.replicate c.N false)) 4 := HB2.out.kept hk1 (HM2.out.not HB2.out (by decide))
  have c4 : w1.cell? ⟨w.heap.size, 4, none⟩ = some (.int .i64 (xr : Int)) := hX1.cell 4
  have hz := hk1.size
  have HOV := hide (HO2.out (fun b => A b ∨ b = w.heap.size + 1) w1 p (fun b hb => by have := HA2.out b hb; omega) hmm1 hp)
  have HH1 : Hid (Blk w1 (w.heap.size + 1) (boolsA (List.replicate c.N false)) 4 ∧ BRow w1 (.slice (some ⟨b1, 0, none⟩) c.N c.N) (rowT (bytesN c.s) (c.tr xl) p) ∧ Kept c.M w w1 ∧ b1 ≠ w.heap.size + 1 ∧ Memo c (fun b => A b ∨ b = w.heap.size + 1) w1) := ⟨hO1, hBR1, HK2.out.trans hk1 (fun i _ e => e), fun e => hnb1 (.inr e), hmm1⟩
  clear hBR1 hmm1 hk1 hX1 hnb1 hO1
  go_wp2_with fail
  refine HOV.out.mono ?_
  rintro e w2 ⟨b2, rfl, hnb2, hBR2, hmm2, hk2⟩
  obtain ⟨q1, q2, q3, q4, q5⟩ := HH1.out
  have HH2 : Hid (Blk w2 (w.heap.size + 1) (boolsA (List.replicate c.N false)) 4 ∧ BRow w2 (.slice (some ⟨b1, 0, none⟩) c.N c.N) (rowT (bytesN c.s) (c.tr xl) p) ∧ BRow w2 (.slice (some ⟨b2, 0, none⟩) c.N c.N) (rowT (bytesN c.s) (c.tr xr) p) ∧ Kept c.M w w2 ∧ b1 ≠ w.heap.size + 1 ∧ b2 ≠ w.heap.size + 1 ∧ Memo c (fun b => A b ∨ b = w.heap.size + 1) w2) :=
    ⟨q1.kept hk2 (q5.not q1 (by decide)), q5.brow hk2 q2, hBR2, q3.trans hk2 (fun i _ e => e), q4, fun e => hnb2 (.inr e), hmm2⟩
  clear q1 q2 q3 q4 q5 hnb2 hBR2 hmm2 hk2 HH1 c4
  obtain ⟨wo, rfl⟩ : ∃ wo : World, wo = w2 := ⟨_, rfl⟩
  go_wp2_with fail
  go_loopg [13] c.N (fun G iv wi => ∃ (i : Nat) (l : List Bool), iv = .int .i64 (i : Int) ∧ i ≤ c.N ∧ G = c.N - i ∧ l.length = c.N ∧ (∀ q, q < i → (l.getD q false = true ↔ EndsW (bytesN c.s) (c.tr n).Word p q)) ∧ Blk wi (w.heap.size + 1) (boolsA l) 4 ∧ Kept (fun x => x = w.heap.size + 1) wo wi)
  case atStart => exact ⟨0, _, rfl, by omega, rfl, by simp, fun q hq => by omega, HH2.out.1, Kept.refl _ _⟩
  case round =>
    obtain ⟨i, l, rfl, hi, rfl, hll, hsp, hI, hk⟩ := hrel
    have zI := hI.lt
    by_cases hli : i < c.N
    · have e1 : decide ((i : Int) < (c.N : Int)) = true := by simp; omega
      obtain ⟨q1, q2, q3, q4, q5, q6, q7⟩ := HH2.out
      have cO := boolsA_cellD hI i (by rw [hll]; exact hli)
      have fO := hI.frozen i
      have cE := (q2.kept hk (fun b' hb' e => by cases (Option.some.inj hb' : b1 = b'); exact q5 e)).cellD i (by rw [rowT_len]; exact hli)
      have cF := (q3.kept hk (fun b' hb' e => by cases (Option.some.inj hb' : b2 = b'); exact q6 e)).cellD i (by rw [rowT_len]; exact hli)
      have hE : (rowT (bytesN c.s) (c.tr xl) p).getD i false = true ↔ EndsW (bytesN c.s) (c.tr xl).Word p i := rowW_getD
      have hF : (rowT (bytesN c.s) (c.tr xr) p).getD i false = true ↔ EndsW (bytesN c.s) (c.tr xr).Word p i := rowW_getD
      have hOr : EndsW (bytesN c.s) (c.tr n).Word p i ↔ (EndsW (bytesN c.s) (c.tr xl).Word p i ∨ EndsW (bytesN c.s) (c.tr xr).Word p i) := by rw [HT.out]; exact ends_or
      generalize (rowT (bytesN c.s) (c.tr xl) p).getD i false = ei at cE hE
      generalize (rowT (bytesN c.s) (c.tr xr) p).getD i false = fi at cF hF
      generalize l.getD i false = oi at cO
      have i0 : (0 : Int) ≤ (i : Int) := by omega
      have i1 : (i : Int) < (c.N : Int) := by omega
      have HI : Hid (Blk wr (w.heap.size + 1) (boolsA l) 4 ∧ Kept (fun x => x = w.heap.size + 1) wo wr ∧ l.length = c.N ∧ (∀ q, q < i → (l.getD q false = true ↔ EndsW (bytesN c.s) (c.tr n).Word p q)) ∧ ((ei || fi) = true ↔ EndsW (bytesN c.s) (c.tr n).Word p i)) := ⟨hI, hk, hll, hsp, by rw [Bool.or_eq_true, hOr, hE, hF]⟩
      clear hI hk hll hsp hE hF hOr q1 q2 q3 q4 q5 q6 q7
      cases ei <;> go_wp2_with fail
      all_goals
        go_roundg (c.N - (i + 1))
        case measure => omega
        case rel =>
          obtain ⟨r1, r2, r3, r4, r5⟩ := HI.out
          refine ⟨i + 1, l.set i _, by go_num, by omega, rfl, by simp [r3], fun q hq => ?_, by rw [← boolsA_set]; exact r1.set i _, r2.setCell (p := ⟨w.heap.size + 1, i, none⟩) (fun _ => rfl) _⟩
          rw [getD_setB _ _ _ _ (by omega)]
          split
          · rename_i e; rw [e, ← r5]; simp
          · exact r4 q (by omega)
    · have e1 : decide ((i : Int) < (c.N : Int)) = false := by simp; omega
      obtain rfl : i = c.N := by omega
      have HI : Hid (Blk wr (w.heap.size + 1) (boolsA l) 4 ∧ Kept (fun x => x = w.heap.size + 1) wo wr ∧ l.length = c.N ∧ (∀ q, q < c.N → (l.getD q false = true ↔ EndsW (bytesN c.s) (c.tr n).Word p q))) := ⟨hI, hk, hll, hsp⟩
      clear hI hk hll hsp
      go_wp2_with fail
      go_ret
      obtain ⟨r1, r2, r3, r4⟩ := HI.out
      obtain ⟨q1, q2, q3, q4, q5, q6, q7⟩ := HH2.out
      have hrow : l = rowT (bytesN c.s) (c.tr n) p := rowW_ext (by rw [r3, bytesN_len]; rfl) fun q hq => r4 q (by rw [bytesN_len] at hq; exact MemoC.ltN.2 hq)
      refine ⟨w.heap.size + 1, rfl, fun e => by have := HAA.out _ e; omega, ?_, (q7.keptA r2 (.inr rfl) q1).weak (fun b e => .inl e), ?_⟩
      · have h6 := BRow.ofBlk r1 (by rw [r3]; omega)
        rw [r3] at h6
        rw [← hrow]
        exact h6
      · exact ⟨r2.os.trans q4.os, r2.tape.trans q4.tape, r2.output.trans q4.output, by have := q4.size; have := r2.size; omega, fun k hk he => (r2.block k (by have := q4.size; omega) (by omega)).trans (q4.block k hk he)⟩

set_option maxRecDepth 20000 in
set_option maxHeartbeats 1600000 in
theorem find_maybe (c : MemoC) (n : Nat) (hn : n < c.all.length) (x : NodeT) (hx : c.all.getD n nodeD = x) (hkd : x.kind = 8) (htr : c.tr n = .maybe (c.tr x.l)) (h1 : OverC c x.l) (A : Nat → Prop) (w : World) (p : Nat) (hA : ∀ b, A b → b < w.heap.size) (hm : Memo c A w) (hp : p ≤ c.s.size) (hs : c.s.size ≤ 50000) :
    Calls Try.prog 91 #[.pointer (some ⟨c.wb, 0, none⟩), .int .i64 (n : Int), .int .i64 (p : Int)] w (RowOut c A w (rowT (bytesN c.s) (c.tr n) p)) := by
  obtain ⟨ad, acap, hav, harow⟩ := hm.nodes.form
  rcases harow with h0 | ⟨ag, rfl⟩
  · omega
  have hnd : NodeRow w (.slice (some ⟨ag, 0, none⟩) c.all.length acap) c.all := by have := hm.nodes; rw [hav] at this; exact this
  have s0 : w.cell? ⟨c.wb, 0, none⟩ = some (.slice (some ⟨ag, 0, none⟩) c.all.length acap) := by rw [← hav]; exact hm.blk.cell 0
  have s2 : w.cell? ⟨c.wb, 2, none⟩ = some (.string c.s) := hm.blk.cell 2
  have cA := fun k hk => hnd.cell n k hn hk
  rw [hx] at cA
  obtain ⟨xk, xa, xb, xl, xr, xt, xp⟩ := x
  simp only at hkd htr h1
  subst hkd
  have a0 := cA 0 (by omega)
  have a1 := cA 1 (by omega)
  have a2 := cA 2 (by omega)
  have a3 := cA 3 (by omega)
  have a4 := cA 4 (by omega)
  have a5 := cA 5 (by omega)
  have a6 := cA 6 (by omega)
  simp only [nodesC, List.getElem?_cons_zero, List.getElem?_cons_succ, Nat.add_zero] at a0 a1 a2 a3 a4 a5 a6
  have n0 : (0 : Int) ≤ (n : Int) := by omega
  have n1 : (n : Int) < (c.all.length : Int) := by omega
  have hm1 : Memo c A (w.alloc (.cells (nodeC ⟨8, xa, xb, xl, xr, xt, xp⟩) 114)) := hm.below (Below1 _ _)
  have hA1 : ∀ b, A b → b < (w.alloc (.cells (nodeC ⟨8, xa, xb, xl, xr, xt, xp⟩) 114)).heap.size := fun b hb => by have := hA b hb; simp; omega
  have HM1 := hide hm1
  have HA1 := hide hA1
  have HK1 : Hid (Kept c.M w (w.alloc (.cells (nodeC ⟨8, xa, xb, xl, xr, xt, xp⟩) 114))) := hide ((Kept.refl _ _).alloc _)
  have HB1 := hide (Blk.new w (nodeC ⟨8, xa, xb, xl, xr, xt, xp⟩) 114)
  have HAA := hide hA
  have hN2 : c.N ≤ 50001 := by unfold MemoC.N; omega
  have hN1 : (c.s.size : Int) + 1 = (c.N : Int) := by unfold MemoC.N; omega
  have hmk := makeBools c.N (by omega)
  have zwb : c.wb < w.heap.size := hm.blk.lt
  have hm2 : Memo c (fun b => A b ∨ b = w.heap.size + 1) ((w.alloc (.cells (nodeC ⟨8, xa, xb, xl, xr, xt, xp⟩) 114)).alloc (.cells (boolsA (List.replicate c.N false)) 4)) := by
    have h9 := hm1.fresh.below (Below1 _ (.cells (boolsA (List.replicate c.N false)) 4))
    simpa using h9
  have hA2 : ∀ b, (A b ∨ b = w.heap.size + 1) → b < ((w.alloc (.cells (nodeC ⟨8, xa, xb, xl, xr, xt, xp⟩) 114)).alloc (.cells (boolsA (List.replicate c.N false)) 4)).heap.size := fun b hb => by
    rcases hb with e | e
    · have := hA b e; simp; omega
    · simp; omega
  have HM2 := hide hm2
  have HA2 := hide hA2
  have HK2 : Hid (Kept c.M w ((w.alloc (.cells (nodeC ⟨8, xa, xb, xl, xr, xt, xp⟩) 114)).alloc (.cells (boolsA (List.replicate c.N false)) 4))) := hide (((Kept.refl _ _).alloc _).alloc _)
  have HB2 := hide (Blk.at1 w (.cells (nodeC ⟨8, xa, xb, xl, xr, xt, xp⟩) 114) (boolsA (List.replicate c.N false)) 4)
  have HB3 := hide ((Blk.new w (nodeC ⟨8, xa, xb, xl, xr, xt, xp⟩) 114).alloc (.cells (boolsA (List.replicate c.N false)) 4))
  have HT := hide htr
  have HO1 := hide (h1 _ _ p hA2 hm2 hp)
  clear htr h1 hm2 hA2
  clear cA hm hm1 hA1 hnd hA hx hav
  go_enter Try.func91, Try.ntmps91
  go_wp2_with fail
  refine HO1.out.mono ?_
  rintro e w1 ⟨b1, rfl, hnb1, hBR1, hmm1, hk1⟩
  have hO1 : Blk w1 (w.heap.size + 1) (boolsA (List.replicate c.N false)) 4 := HB2.out.kept hk1 (HM2.out.not HB2.out (by decide))
  have hz := hk1.size
  have p0 : (0 : Int) ≤ (p : Int) := by omega
  have p1 : (p : Int) < (c.N : Int) := by have := MemoC.ltN.2 hp; omega
  have HH1 : Hid (Blk w1 (w.heap.size + 1) (boolsA (List.replicate c.N false)) 4 ∧ BRow w1 (.slice (some ⟨b1, 0, none⟩) c.N c.N) (rowT (bytesN c.s) (c.tr xl) p) ∧ Kept c.M w w1 ∧ b1 ≠ w.heap.size + 1 ∧ Memo c (fun b => A b ∨ b = w.heap.size + 1) w1) := ⟨hO1, hBR1, HK2.out.trans hk1 (fun i _ e => e), fun e => hnb1 (.inr e), hmm1⟩
  clear hBR1 hmm1 hk1 hnb1 hO1
  go_wp2_with (first | (refine copyB rfl (.tmp 123) (.tmp 124) 119 119 rfl Try.underlying119 (w.heap.size + 1) b1 c.N (rowT (bytesN c.s) (c.tr xl) p) (List.replicate c.N false) rfl rfl HH1.out.1 (by simp) HH1.out.2.1 (rowT_len _ _ _) ?_))
  intro w2 hk2 hO2
  have cO := boolsA_cellD hO2 p (by rw [rowT_len]; exact MemoC.ltN.2 hp)
  have fO := hO2.frozen p
  have HH2 : Hid (Blk w2 (w.heap.size + 1) (boolsA (rowT (bytesN c.s) (c.tr xl) p)) 4 ∧ Kept (fun b => b = w.heap.size + 1) w1 w2) := ⟨hO2, hk2⟩
  clear hk2 hO2
  go_wp2_with fail
  go_ret
  obtain ⟨q1, q2, q3, q4, q5⟩ := HH1.out
  obtain ⟨r1, r2⟩ := HH2.out
  have hpl : p < (rowT (bytesN c.s) (c.tr xl) p).length := by rw [rowT_len]; exact MemoC.ltN.2 hp
  have hrow : (rowT (bytesN c.s) (c.tr xl) p).set p true = rowT (bytesN c.s) (c.tr n) p := rowW_ext (by simp [rowW_len]) fun q hq => by
    rw [getD_setB _ _ _ _ hpl, HT.out]
    have hmb := @ends_maybe (bytesN c.s) (c.tr xl).Word p q (by rw [bytesN_len]; exact hp)
    have hb9 : (rowT (bytesN c.s) (c.tr xl) p).getD q false = true ↔ EndsW (bytesN c.s) (c.tr xl).Word p q := rowW_getD
    split
    · rename_i e; exact ⟨fun _ => hmb.2 (.inl e), fun _ => rfl⟩
    · rename_i e
      rw [hb9]
      exact ⟨fun h => hmb.2 (.inr h), fun h => by rcases hmb.1 h with h | h; exact absurd h e; exact h⟩
  have r3 := r2.setCell (p := ⟨w.heap.size + 1, p, none⟩) (fun _ => rfl) (.bool true)
  refine ⟨w.heap.size + 1, rfl, fun e => by have := HAA.out _ e; omega, ?_, (q5.keptA r3 (.inr rfl) q1).weak (fun b e => .inl e), ?_⟩
  · have h6 := BRow.ofBlk (l := (rowT (bytesN c.s) (c.tr xl) p).set p true) (by rw [← boolsA_set]; exact r1.set p _) (by simp [rowW_len, bytesN_len]; unfold MemoC.N at hN2; omega)
    rw [hrow, rowT_len] at h6
    exact h6
  · exact ⟨r3.os.trans q3.os, r3.tape.trans q3.tape, r3.output.trans q3.output, by have := q3.size; have := r3.size; omega, fun k hk he => (r3.block k (by have := q3.size; omega) (by omega)).trans (q3.block k hk he)⟩
end Go.Proofs.Ytcckhngbdoiikaa

namespace Go.Proofs.Ytcckhngbdoiikaa
open Go.RowKit Go.Deep
set_option linter.unusedVariables false

/-- The contract of 'find' at a node. -/
def FindC (c : MemoC) (n : Nat) : Prop := ∀ (A : Nat → Prop) (w : World) (p : Nat), (∀ b, A b → b < w.heap.size) → Memo c A w → p ≤ c.s.size →
  Calls Try.prog 91 #[.pointer (some ⟨c.wb, 0, none⟩), .int .i64 (n : Int), .int .i64 (p : Int)] w (RowOut c A w (rowT (bytesN c.s) (c.tr n) p))

theorem Memo.drew {c : MemoC} {A : Nat → Prop} {w : World} (h : Memo c A w) : Memo c A w.drew :=
  h.below ⟨rfl, rfl, rfl, Nat.le_refl _, fun _ _ => rfl⟩

set_option maxRecDepth 20000 in
set_option maxHeartbeats 3200000 in
theorem over_any (c : MemoC) (n : Nat) (hn : n < c.all.length) (HF : FindC c n) : OverC c n := by
  intro A w p hA hm hp
  have hpN : p < c.N := MemoC.ltN.2 hp
  obtain ⟨ks, hk1, hk2⟩ := hm.known
  obtain ⟨cs, hr1, hr2, hr3⟩ := hm.rows n hn
  have s3 : w.cell? ⟨c.wb, 3, none⟩ = some (.slice (some ⟨c.kg, 0, none⟩) c.all.length c.kcap) := hm.blk.cell 3
  have s4 : w.cell? ⟨c.kg, n, none⟩ = some (.slice (some ⟨c.R n, 0, none⟩) c.N c.N) := by rw [hk1.cell]; exact hk2 n hn
  have s5 : w.cell? ⟨c.R n, p, none⟩ = cs[p]? := hr1.cell p
  have n0 : (0 : Int) ≤ (n : Int) := by omega
  have n1 : (n : Int) < (c.all.length : Int) := by omega
  have p0 : (0 : Int) ≤ (p : Int) := by omega
  have p1 : (p : Int) < (c.N : Int) := by omega
  have hq := fun (W : World) (ad : Option Addr) (l c : Nat) => Lib.run_eql_slice_nil W 119 4 ad l c 0 0 Try.underlying119
  rcases hr3 p hp with e | ⟨b, e, hnb, hBR⟩
  · rw [e] at s5
    have hq1 := fun W => hq W none 0 0
    clear hq
    have HM := hide hm
    have HFI := hide (HF A w.drew p hA hm.drew hp)
    have HFF : Hid (∀ W', Memo c A W' → W'.cell? ⟨c.wb, 3, none⟩ = some (.slice (some ⟨c.kg, 0, none⟩) c.all.length c.kcap) ∧ W'.cell? ⟨c.kg, n, none⟩ = some (.slice (some ⟨c.R n, 0, none⟩) c.N c.N) ∧ (∃ v9, W'.cell? ⟨c.R n, p, none⟩ = some v9) ∧ W'.frozen? ⟨c.R n, p, none⟩ = false) := hide (fun W' h9 => by
      obtain ⟨ks, hk1, hk2⟩ := h9.known
      obtain ⟨cs, hr1, hr2, hr3⟩ := h9.rows n hn
      refine ⟨h9.blk.cell 3, by rw [hk1.cell]; exact hk2 n hn, ?_, hr1.frozen p⟩
      rw [hr1.cell p]
      rcases hr3 p hp with e | ⟨b, e, _⟩
      · exact ⟨_, e⟩
      · exact ⟨_, e⟩)
    have hne1 : c.wb ≠ c.R n := fun e9 => by have := (hm.blk.one (e9 ▸ hr1)).2; revert this; decide
    have hne2 : c.kg ≠ c.R n := fun e9 => by have := (hk1.one (e9 ▸ hr1)).2; revert this; decide
    have hne3 : c.R n ≠ c.wb := fun e => hne1 e.symm
    have hne4 : c.R n ≠ c.kg := fun e => hne2 e.symm
    clear hm hk1 hk2 hr1 hr2 hr3 e HF
    have S0 : w.drew.cell? ⟨c.wb, 3, none⟩ = some (.slice (some ⟨c.kg, 0, none⟩) c.all.length c.kcap) ∧ w.drew.cell? ⟨c.kg, n, none⟩ = some (.slice (some ⟨c.R n, 0, none⟩) c.N c.N) := ⟨s3, s4⟩
    go_enter Try.func67, Try.ntmps67
    go_wp2_with fail
    go_region_held3 (fun w' => w'.cell? ⟨c.wb, 3, none⟩ = some (.slice (some ⟨c.kg, 0, none⟩) c.all.length c.kcap) ∧ w'.cell? ⟨c.kg, n, none⟩ = some (.slice (some ⟨c.R n, 0, none⟩) c.N c.N))
      (first | with_reducible exact S0 | with_reducible exact S1 | exact ⟨by simp [g3, hne3, World.cell?_setCell_far], by simp [g4, hne4, World.cell?_setCell_far]⟩)
      (first | (go_at_call 91; refine HFI.out.mono ?_; rintro e w1 ⟨b1, rfl, hnb1, hBR1, hm1, hk1⟩; obtain ⟨g3, g4, ⟨v9, g5⟩, g6⟩ := HFF.out w1 hm1; have S1 := And.intro g3 g4; have HR1 := hide (And.intro hnb1 (And.intro hBR1 (And.intro hm1 hk1))); clear hnb1 hBR1 hm1 hk1))
    go_wp2_with fail
    go_ret
    obtain ⟨hnb1, hBR1, hm1, hk1⟩ := HR1.out
    have hf := hm1.found hn hp hnb1 hBR1
    exact ⟨b1, rfl, hnb1, hm1.brow hf.2 hBR1, hf.1, ((Kept.refl c.M w).drew.trans hk1 (fun i _ e => e)).trans hf.2 (fun i _ e => e)⟩
  · rw [e] at s5
    have HH : Hid (RowOut c A w (rowT (bytesN c.s) (c.tr n) p) (.returned (.slice (some ⟨b, 0, none⟩) c.N c.N)) w) := ⟨b, rfl, hnb, hBR, hm, Kept.refl _ _⟩
    clear hm hk1 hk2 hr1 hr2 hr3 e HF hBR hnb
    have hq1 := fun W => hq W (some ⟨b, 0, none⟩) c.N c.N
    clear hq
    go_enter Try.func67, Try.ntmps67
    go_wp2_with fail
    go_ret
    exact HH.out
end Go.Proofs.Ytcckhngbdoiikaa

namespace Go.Proofs.Ytcckhngbdoiikaa
open Go.RowKit Go.Deep
set_option linter.unusedVariables false

/-- A list of rows of bools. -/
def BRows (w : World) (v : Value) (rows : List (List Bool)) (n : Nat) : Prop := ∃ vs : List Value, w.ownsRow 0 119 1 v rows.length vs ∧ vs.length = rows.length ∧ ∀ i, i < rows.length → ∃ b, vs[i]? = some (.slice (some ⟨b, 0, none⟩) n n) ∧ BRow w (.slice (some ⟨b, 0, none⟩) n n) (rows.getD i [])
theorem Try.infoBB3 : (Try.prog.info? 119).map (fun i => (i.zero, i.size, i.bytes)) = some (some (.slice none 0 0), 1, 24) := by kernel_rfl
/-- Writes into a list of rows of its own leave it as it is. -/
theorem brow_keptL {w w' : World} {b n cap k : Nat} {l : List Bool} {v : Value} {vs : List Value} (h : BRow w (.slice (some ⟨b, 0, none⟩) n cap) l) (kk : Kept (fun x => v.ownBlock = some x) w w') (hr : w.ownsRow 0 119 1 v k vs) : BRow w' (.slice (some ⟨b, 0, none⟩) n cap) l := by
  obtain ⟨cs, h1⟩ := brow_blk h
  exact h.kept kk (fun b' hb' e => by cases (Option.some.inj hb' : b = b'); exact ownsRow_ne hr h1 (by decide) e)
theorem Memo.keptL {c : MemoC} {A : Nat → Prop} {w w' : World} {v : Value} {k : Nat} {vs : List Value} (h : Memo c A w) (kk : Kept (fun x => v.ownBlock = some x) w w') (hr : w.ownsRow 0 119 1 v k vs) (hR : ∀ b, v.ownBlock = some b → ¬ c.M b) : Memo c A w' := by
  refine ⟨h.blk.kept kk (fun e => ownsRow_ne hr h.blk (by decide) e), h.nodes.kept kk (fun b hb' e => ?_), ?_, fun n hn => ?_, h.inj⟩
  · obtain ⟨_, ad, cap', e', ⟨h1, _⟩ | ⟨g, cur, h1, h2, _⟩⟩ := ownsRow_form h.nodes
    · rw [e', h1] at hb'; simp [Value.ownBlock] at hb'
    · rw [e', h1] at hb'; cases (Option.some.inj hb' : g = b); exact ownsRow_ne hr h2 (by decide) e
  · obtain ⟨cs, h1, h2⟩ := h.known
    exact ⟨cs, h1.kept kk (fun e => ownsRow_ne hr h1 (by decide) e), h2⟩
  · obtain ⟨cs, h1, h2, h3⟩ := h.rows n hn
    refine ⟨cs, h1.kept kk (fun e => hR _ e ⟨n, hn, rfl⟩), h2, fun p hp => ?_⟩
    rcases h3 p hp with e | ⟨b, e1, e2, e3⟩
    · exact .inl e
    · exact .inr ⟨b, e1, e2, brow_keptL e3 kk hr⟩
/-- The rows of the words of each rule from p on. -/
noncomputable def wordRows (c : MemoC) (tops : List Nat) (p : Nat) : List (List Bool) := tops.map (fun t => rowT (bytesN c.s) (c.tr t) p)

set_option maxRecDepth 20000 in
set_option maxHeartbeats 3200000 in
theorem words_any (c : MemoC) (tops : List Nat) (HO : ∀ t ∈ tops, OverC c t) (A : Nat → Prop) (w : World) (p : Nat) (hA : ∀ b, A b → b < w.heap.size) (hm : Memo c A w) (htv : IRow w c.tv (natsI tops)) (hp : p ≤ c.s.size) (htl : tops.length ≤ 2000000) :
    Calls Try.prog 35 #[.pointer (some ⟨c.wb, 0, none⟩), .int .i64 (p : Int)] w fun e w' => ∃ v, e = .returned v ∧ BRows w' v (wordRows c tops p) c.N ∧ Memo c A w' ∧ Kept c.M w w' ∧ IRow w' c.tv (natsI tops) := by
  obtain ⟨td, tcap, htve, htrow⟩ := htv.formN
  have HTE := hide htve
  have HM := hide hm
  have HOV := hide HO
  have HAA := hide hA
  have HTV := hide htv
  clear hm HO hA htv htve
  go_enter Try.func35, Try.ntmps35
  go_wp2_with fail
  go_loopg [5, 6] tops.length (fun G lv iv wr => ∃ (i : Nat) (vs : List Value), iv = .int .i64 (i : Int) ∧ i ≤ tops.length ∧ G = tops.length - i ∧ wr.ownsRow 0 119 1 lv i vs ∧ vs.length = i ∧ (∀ j, j < i → ∃ b, vs[j]? = some (.slice (some ⟨b, 0, none⟩) c.N c.N) ∧ BRow wr (.slice (some ⟨b, 0, none⟩) c.N c.N) (rowT (bytesN c.s) (c.tr (tops.getD j 0)) p)) ∧ (∀ b, lv.ownBlock = some b → w.heap.size ≤ b) ∧
    Memo c A wr ∧ Kept c.M w wr ∧ IRow wr c.tv (natsI tops))
  case atStart => exact ⟨0, [], rfl, by omega, rfl, World.ownsRow_nil _ _ _ _, rfl, fun j hj => by omega, fun b h => by simp [Value.ownBlock] at h, HM.out, Kept.refl _ _, HTV.out⟩
  case round =>
    obtain ⟨i, vs, rfl, hi, rfl, hL, hvl, hrows, hLo, hmm, hk, htr⟩ := hrel
    have s1 : wr.cell? ⟨c.wb, 1, none⟩ = some (.slice td tops.length tcap) := by rw [← HTE.out]; exact hmm.blk.cell 1
    obtain ⟨_, ld, lcap, rfl, hlrow⟩ := ownsRow_form hL
    by_cases hlt : i < tops.length
    · have e0 : decide ((i : Int) < (tops.length : Int)) = true := by simp; omega
      rcases htrow with h0 | ⟨tg, rfl⟩
      · omega
      have ct : wr.cell? ⟨tg, i, none⟩ = some (.int .i64 (tops.getD i 0 : Int)) := by have h9 := htr; rw [HTE.out] at h9; exact h9.cellN i hlt
      have i0 : (0 : Int) ≤ (i : Int) := by omega
      have i1 : (i : Int) < (tops.length : Int) := by omega
      have hmem : tops.getD i 0 ∈ tops := by rw [List.getD_eq_getElem?_getD, List.getElem?_eq_getElem hlt]; exact List.getElem_mem hlt
      have HO1 := hide (HOV.out _ hmem A wr p (fun b hb => by have := HAA.out b hb; have := hk.size; omega) hmm hp)
      generalize htt : tops.getD i 0 = t at ct HO1
      have HH : Hid (wr.ownsRow 0 119 1 (.slice ld i lcap) i vs ∧ vs.length = i ∧ (∀ j, j < i → ∃ b, vs[j]? = some (.slice (some ⟨b, 0, none⟩) c.N c.N) ∧ BRow wr (.slice (some ⟨b, 0, none⟩) c.N c.N) (rowT (bytesN c.s) (c.tr (tops.getD j 0)) p)) ∧ (∀ b, (Value.slice ld i lcap).ownBlock = some b → w.heap.size ≤ b) ∧ Memo c A wr ∧ Kept c.M w wr ∧ IRow wr c.tv (natsI tops) ∧ tops.getD i 0 = t) := ⟨hL, hvl, hrows, hLo, hmm, hk, htr, htt⟩
      clear hL hvl hrows hLo hmm hk htr htt hmem hlrow
      go_wp2_with fail
      refine HO1.out.mono ?_
      rintro e w1 ⟨b1, rfl, hnb1, hBR1, hm1, hk1⟩
      obtain ⟨q1, q2, q3, q4, q5, q6, q7, q8⟩ := HH.out
      have hLk : ∀ b, (Value.slice ld i lcap).ownBlock = some b → ¬ c.M b := fun b hb e => by
        have h1 := q4 b hb
        have h2 := HM.out.lt e
        omega
      have hL1 : w1.ownsRow 0 119 1 (.slice ld i lcap) i vs := ownsRow_kept q1 hk1 hLk
      have ht1 : IRow w1 c.tv (natsI tops) := q7.kept hk1 (fun b' hb' e => by obtain ⟨cs, h1⟩ := q5.type e; exact ownsRow_ne q7 h1 (by decide) hb')
      obtain ⟨ii, hii, hz0, hz1, hz2⟩ := info_parts Try.infoBB3
      have hol : (w1.alloc (.cells #[.slice (some ⟨b1, 0, none⟩) c.N c.N] 119)).ownsRow 0 119 1 (.slice ld i lcap) i vs := ownsRow_kept (ex := fun _ => False) hL1 (Kept.ofBelow (Below1 _ _)) (fun _ _ e => e)
      have HOL := hide hol
      have HH1 : Hid (BRow w1 (.slice (some ⟨b1, 0, none⟩) c.N c.N) (rowT (bytesN c.s) (c.tr t) p) ∧ Memo c A w1 ∧ Kept c.M w w1 ∧ IRow w1 c.tv (natsI tops) ∧ vs.length = i ∧ (∀ j, j < i → ∃ b, vs[j]? = some (.slice (some ⟨b, 0, none⟩) c.N c.N) ∧ BRow w1 (.slice (some ⟨b, 0, none⟩) c.N c.N) (rowT (bytesN c.s) (c.tr (tops.getD j 0)) p)) ∧ (∀ b, (Value.slice ld i lcap).ownBlock = some b → w.heap.size ≤ b) ∧ tops.getD i 0 = t) :=
        ⟨hBR1, hm1, q6.trans hk1 (fun i _ e => e), ht1, q2, fun j hj => by obtain ⟨b, h1, h2⟩ := q3 j hj; exact ⟨b, h1, q5.brow hk1 h2⟩, q4, q8⟩
      have zz := hk1.size
      have zz2 := q6.size
      clear q1 q2 q3 q4 q5 q6 q7 q8 hLk hL1 ht1 hol hBR1 hm1 hk1 hnb1 HH ct s1
      go_wp2_with (at_builtin; (refine wpList_append_lies _ (by rfl) _ _ _ (by rfl) 0 119 ii _ 1 24 Try.underlying61 hii hz0 hz1 hz2 rfl (by omega) (.slice ld i lcap) i vs (by rfl) HOL.out ⟨w1.heap.size, 0, none⟩ 1 1 [.slice (some ⟨b1, 0, none⟩) c.N c.N] (by rfl) (by rfl) (World.news_of_block (cs := #[.slice (some ⟨b1, 0, none⟩) c.N c.N]) (t := 119) (fr := (0, 0)) (by have := heap_alloc_new w1 (.cells #[.slice (some ⟨b1, 0, none⟩) c.N c.N] 119); simpa using this)) (by simp [Value.oneCell']) (by omega) (by unfold maxLen; omega) (by omega) (by simp) (w1.heap.size + 1) (by simp) ?_))
      intro gg cap6 w6 hown6 hgrow6 hat6 hlt6
      have hk6 : Kept (fun b => (Value.slice ld i lcap).ownBlock = some b) (w1.alloc (.cells #[.slice (some ⟨b1, 0, none⟩) c.N c.N] 119)) w6 := ⟨hgrow6.os, hgrow6.tape, hgrow6.output, hgrow6.size, fun k hk he => hgrow6.block k hk (fun e => he e.symm)⟩
      obtain ⟨t1, t2, t3, t4, t5, t6, t7, t8⟩ := HH1.out
      have hR : ∀ b, (Value.slice ld i lcap).ownBlock = some b → ¬ c.M b := fun b hb e => by
        have h1 := t7 b hb
        have h2 := HM.out.lt e
        omega
      have u1 : Memo c A w6 := (t2.below (Below1 _ _)).keptL hk6 HOL.out hR
      have u2 : Kept c.M w w6 := (t3.alloc _).trans hk6 (fun j hj e => by have := t7 j e; omega)
      have u3 : IRow w6 c.tv (natsI tops) := by
        have h9 := t4.below (Below1 w1 (.cells #[.slice (some ⟨b1, 0, none⟩) c.N c.N] 119))
        refine h9.kept hk6 (fun b' hb' e => ?_)
        obtain ⟨_, ad, cap', e', ⟨h1, _⟩ | ⟨g, cur, h1, h2, _⟩⟩ := ownsRow_form h9
        · rw [e', h1] at hb'; simp [Value.ownBlock] at hb'
        · rw [e', h1] at hb'; cases (Option.some.inj hb' : g = b'); exact ownsRow_ne HOL.out h2 (by decide) e
      have u4 : ∀ j, j < i + 1 → ∃ b, (vs ++ [.slice (some ⟨b1, 0, none⟩) c.N c.N])[j]? = some (.slice (some ⟨b, 0, none⟩) c.N c.N) ∧ BRow w6 (.slice (some ⟨b, 0, none⟩) c.N c.N) (rowT (bytesN c.s) (c.tr (tops.getD j 0)) p) := fun j hj => by
        by_cases e : j < i
        · obtain ⟨b, h1, h2⟩ := t6 j e
          exact ⟨b, by rw [List.getElem?_append_left (by omega)]; exact h1, brow_keptL (h2.below (Below1 _ _)) hk6 HOL.out⟩
        · have : j = i := by omega
          subst this
          exact ⟨b1, by rw [List.getElem?_append_right (by omega), t5]; simp, by rw [t8]; exact brow_keptL (t1.below (Below1 _ _)) hk6 HOL.out⟩
      have u5 : w.heap.size ≤ gg := by
        rcases hat6 with e | e
        · exact t7 gg e
        · omega
      have HHX : Hid (Memo c A w6 ∧ Kept c.M w w6 ∧ IRow w6 c.tv (natsI tops) ∧ (∀ j, j < i + 1 → ∃ b, (vs ++ [.slice (some ⟨b1, 0, none⟩) c.N c.N])[j]? = some (.slice (some ⟨b, 0, none⟩) c.N c.N) ∧ BRow w6 (.slice (some ⟨b, 0, none⟩) c.N c.N) (rowT (bytesN c.s) (c.tr (tops.getD j 0)) p)) ∧ w6.ownsRow 0 119 1 (.slice (some ⟨gg, 0, none⟩) (i + 1) cap6) (i + 1) (vs ++ [.slice (some ⟨b1, 0, none⟩) c.N c.N]) ∧ vs.length = i) := ⟨u1, u2, u3, u4, hown6, t5⟩
      clear t1 t2 t3 t4 t5 t6 t7 t8 u1 u2 u3 u4 hR hk6 hown6 hgrow6 hat6 HOL HH1
      go_wp2_with fail
      go_roundg (tops.length - (i + 1))
      case measure => omega
      case rel =>
        obtain ⟨u1, u2, u3, u4, u6, u7⟩ := HHX.out
        refine ⟨i + 1, vs ++ [.slice (some ⟨b1, 0, none⟩) c.N c.N], by go_num, by omega, rfl, by simpa using u6, by simp [u7], u4, fun b e => ?_, u1, u2, u3⟩
        cases (Option.some.inj e : gg = b)
        exact u5
    · have e0 : decide ((i : Int) < (tops.length : Int)) = false := by simp; omega
      obtain rfl : i = tops.length := by omega
      have HH : Hid (∃ v : Value, v = .slice ld tops.length lcap ∧ BRows wr v (wordRows c tops p) c.N ∧ Memo c A wr ∧ Kept c.M w wr ∧ IRow wr c.tv (natsI tops)) := by
        refine ⟨_, rfl, ⟨vs, ?_, by simp [wordRows, hvl], fun i hi => ?_⟩, hmm, hk, htr⟩
        · simpa [wordRows] using hL
        · have hi' : i < tops.length := by simpa [wordRows] using hi
          obtain ⟨b, h1, h2⟩ := hrows i hi'
          refine ⟨b, h1, ?_⟩
          have e9 : (wordRows c tops p).getD i [] = rowT (bytesN c.s) (c.tr (tops.getD i 0)) p := by simp [wordRows, hi']
          rw [e9]; exact h2
      clear hL hvl hrows hLo hmm hk htr
      go_wp2_with fail
      go_ret
      obtain ⟨v, rfl, h1⟩ := HH.out
      exact ⟨_, rfl, h1⟩
end Go.Proofs.Ytcckhngbdoiikaa
