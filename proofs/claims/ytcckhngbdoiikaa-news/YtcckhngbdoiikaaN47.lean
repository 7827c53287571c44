import Derived.Test.YtcckhngbdoiikaaN46

namespace Go.Proofs.Ytcckhngbdoiikaa
open Go.RowKit Go.Deep
set_option linter.unusedVariables false

/-- A cell of a row of where bytes lead. -/
theorem FoundAt.to {w : World} {lo fb : Nat} {tv sv ov : Value} {T : List ByteArray} {S : List (Nat × List Bool)} {To : List (Nat × List Int)} (h : FoundAt w lo fb tv sv ov T S To) (h0 : 0 < To.length) : ∃ og ocap, w.cell? ⟨fb, 2, none⟩ = some (.slice (some ⟨og, 0, none⟩) To.length ocap) ∧ ∀ i, (hi : i < To.length) → w.cell? ⟨og, i, none⟩ = some (.slice (some ⟨To[i].1, 0, none⟩) 256 256) ∧ ∀ b, b < 256 → w.cell? ⟨To[i].1, b, none⟩ = some (.int .i64 (To[i].2.getD b 0)) := by
  have hr := h.tos.row
  obtain ⟨_, od, ocap, rfl, ⟨_, e⟩ | ⟨og, oc, rfl, _⟩⟩ := ownsRow_form hr
  · omega
  refine ⟨og, ocap, h.blk.cell 2, fun i hi => ⟨by rw [ownsRow_cell hr i (by omega)]; simp [slV, hi], fun b hb => ?_⟩⟩
  obtain ⟨h1, h2⟩ := h.tos.each To[i] (List.getElem_mem hi)
  exact intsA_cellD h1 b (by omega)
theorem FoundAt.txt' {w : World} {lo fb : Nat} {tv sv ov : Value} {T : List ByteArray} {S : List (Nat × List Bool)} {To : List (Nat × List Int)} (h : FoundAt w lo fb tv sv ov T S To) (h0 : 0 < T.length) : ∃ tg tcap, w.cell? ⟨fb, 0, none⟩ = some (.slice (some ⟨tg, 0, none⟩) T.length tcap) ∧ ∀ i, (hi : i < T.length) → w.cell? ⟨tg, i, none⟩ = some (.string T[i]) := by
  have hr := h.txt
  obtain ⟨_, od, ocap, rfl, ⟨_, e⟩ | ⟨og, oc, rfl, _⟩⟩ := ownsRow_form hr
  · omega
  exact ⟨og, ocap, h.blk.cell 0, fun i hi => by rw [ownsRow_cell hr i (by omega)]; simp [hi]⟩
set_option maxRecDepth 20000 in
set_option maxHeartbeats 12800000 in
theorem refAlive_any (xb fb lo : Nat) (rs : ByteArray) (f : Nat → Int) (rules : List MT) (tv sv ov : Value) (T : List ByteArray) (S : List (Nat × List Bool)) (To : List (Nat × List Int)) (g : Graph) (K : Nat) (kd : Nat → Nat) (w : World) (hL : LexR w xb rs f rules) (hF : FoundAt w lo fb tv sv ov T S To) (hG : GP T To g K kd rules) :
    Calls Try.prog 105 #[.pointer (some ⟨xb, 0, none⟩), .pointer (some ⟨fb, 0, none⟩)] w fun e w' => ∃ l, e = .returned (.slice (some ⟨w.heap.size, 0, none⟩) T.length T.length) ∧ Blk w' w.heap.size (boolsA l) 4 ∧ l.length = T.length ∧ (∀ i : Nat, i < T.length → (l.getD i false = true ↔ Lives g K (i : Int))) ∧ Below w.heap.size w w' := by
  have htl := hG.tl
  have hto := hG.top
  obtain ⟨N, hN⟩ : ∃ N, T.length = N := ⟨_, rfl⟩
  have hN61 : N ≤ 61 := by omega
  have hN0 : 0 < N := by omega
  have hmk := makeBools N (by omega)
  obtain ⟨tg, tcap, c0, ct⟩ := hF.txt' (by omega)
  have zf := hF.blk.lt
  have HC := hide (And.intro hL (And.intro hF (And.intro hG (And.intro hN ct))))
  rw [hN] at c0 ⊢
  obtain ⟨w1, hw1⟩ : ∃ w1 : World, w.alloc (.cells (boolsA (List.replicate N false)) 4) = w1 := ⟨_, rfl⟩
  have hB1 : Below w.heap.size w w1 := by rw [← hw1]; exact Below1 _ _
  have hO1 : Blk w1 w.heap.size (boolsA (List.replicate N false)) 4 := by rw [← hw1]; exact Blk.new _ _ _
  have H1 := hide (And.intro hB1 hO1)
  clear hL hF hG hN ct htl hto hB1 hO1
  go_enter Try.func105, Try.ntmps105
  go_upto_region 2 with fail
  try rw [hw1]
  clear hw1 hmk
  go_wp2_with fail
  go_loopg [6] N (fun G nv wr => ∃ (n : Nat) (l : List Bool), nv = .int .i64 (n : Int) ∧ n ≤ N ∧ G = N - n ∧ l.length = N ∧ (∀ i, i < N → l.getD i false = decide (i < n ∧ g.rule.getD i 0 ≠ -1)) ∧ Blk wr w.heap.size (boolsA l) 4 ∧ Below w.heap.size w wr)
  case atStart =>
    refine ⟨0, _, rfl, by omega, rfl, by simp, fun i hi => ?_, H1.out.2, H1.out.1⟩
    rw [List.getD_eq_getElem?_getD, List.getElem?_replicate]; split <;> simp
  case round =>
    obtain ⟨n, l, rfl, hn, rfl, hl, hlv, hO, hB⟩ := hrel
    have zo := hO.lt
    have hzz := hB.size
    by_cases hlt : n < N
    · have e0 : decide ((n : Int) < (N : Int)) = true := by simp; omega
      obtain ⟨hL, hF, hG, hN, ct⟩ := HC.out
      have hnT : n < T.length := by omega
      have c02 : wr.cell? ⟨fb, 0, none⟩ = some (.slice (some ⟨tg, 0, none⟩) N tcap) := by rw [hB.cell zf]; exact c0
      obtain ⟨tg', tcap', c9, ct9⟩ := (hF.below hB).txt' (by omega)
      have e9 : tg' = tg := by rw [c02] at c9; injection c9 with e; injection e with e; injection e with e; injection e with e; exact e.symm
      subst e9
      have ct2 := ct9 n hnT
      have HT := hide (refTok_any xb rs T[n] f rules wr (hL.below hB) (hG.size n hnT))
      have htok := hide (hG.tok n · hnT)
      generalize T[n] = tn at ct2 HT htok
      have n0 : (0 : Int) ≤ (n : Int) := by omega
      have n1 : (n : Int) < (N : Int) := by omega
      have HI := hide (And.intro hl (And.intro hlv (And.intro hO hB)))
      clear hL hF hG hN ct ct9 c9 hnT hl hlv hO hB
      go_wp2_with fail
      refine HT.out.mono ?_
      rintro e w2 ⟨r, rfl, hr, hb2⟩
      have hrr := htok.out r hr
      obtain ⟨x, hx⟩ : ∃ x, (r != -1) = x := ⟨_, rfl⟩
      obtain ⟨a1, a2, a3, a4⟩ := HI.out
      have a3' := a3.below hb2
      have cb := boolsA_cellD a3' n (by omega)
      generalize l.getD n false = y at cb
      have fb2 := a3'.frozen n
      have zo2 := a3'.lt
      have HR := hide (And.intro hrr (And.intro hb2 hx))
      clear hrr hb2 hr a1 a2 a3 a4 a3' HT htok
      go_wp2_with fail
      go_roundg (N - (n + 1))
      case measure => omega
      case rel =>
        obtain ⟨a1, a2, a3, a4⟩ := HI.out
        obtain ⟨b1, b2, b3⟩ := HR.out
        refine ⟨n + 1, l.set n x, by go_num, by omega, rfl, by simp [a1], fun i hi => ?_, by rw [← boolsA_set]; exact (a3.below b2).set n _, (a4.trans (b2.mono a4.size)).setCell (Nat.le_refl _) _⟩
        rw [getD_setB _ _ _ _ (by omega)]
        by_cases ei : i = n
        · subst ei
          rw [if_pos rfl, ← b3, b1]
          generalize g.rule.getD i 0 = q
          by_cases e5 : q = -1
          · simp [e5]
          · simp [e5]
        · rw [if_neg ei, a2 i hi]
          have : (i < n + 1 ∧ g.rule.getD i 0 ≠ -1) ↔ (i < n ∧ g.rule.getD i 0 ≠ -1) := by
            constructor
            · rintro ⟨p, q⟩; exact ⟨by omega, q⟩
            · rintro ⟨p, q⟩; exact ⟨by omega, q⟩
          simp only [this]
    · have e0 : decide ((n : Int) < (N : Int)) = false := by simp; omega
      have hnN : n = N := by omega
      obtain ⟨hL, hF, hG, hN, ct⟩ := HC.out
      have htl := hG.tl
      have top0 : TopA g K kd l 0 := by
        refine ⟨by omega, fun i hi hx => ?_, fun i hi hx => ?_, .inr (Nat.zero_le _)⟩
        · rw [hlv i (by omega)] at hx
          exact lives_acc (of_decide_eq_true hx).2
        · rw [hlv i (by omega)]
          exact decide_eq_true ⟨by omega, hx⟩
      have hON : To.length = N := by have := hG.ol; omega
      have HO := hide (And.intro hON hF)
      have HN := hide (hN.symm.trans htl)
      have HG := hide hG
      have HT0 := hide (And.intro top0 (And.intro hO hB))
      clear hL hF hG hN ct htl top0 hl hlv hO hB hnN c0 hON HC
      go_wp2_with fail
      go_loopg [7] N (fun G kv wr => ∃ (k : Nat) (l : List Bool), kv = .int .i64 (k : Int) ∧ k ≤ N ∧ G = N - k ∧ TopA g K kd l k ∧ Blk wr w.heap.size (boolsA l) 4 ∧ Below w.heap.size w wr)
      case atStart => exact ⟨0, l, rfl, by omega, rfl, HT0.out.1, HT0.out.2.1, HT0.out.2.2⟩
      case round =>
        obtain ⟨k, l, rfl, hk, rfl, hT, hO, hB⟩ := hrel
        by_cases hkN : k < N
        · have e1 : decide ((k : Int) < (N : Int)) = true := by simp; omega
          have HI := hide (And.intro hT (And.intro hO hB))
          clear hT hO hB
          go_wp2_with fail
          go_loopg [8] N (fun G nv wr => ∃ (n : Nat) (l2 : List Bool), nv = .int .i64 (n : Int) ∧ n ≤ N ∧ G = N - n ∧ SweepA g K kd l l2 n 0 ∧ Blk wr w.heap.size (boolsA l2) 4 ∧ Below w.heap.size w wr)
          case atStart => exact ⟨0, l, rfl, by omega, rfl, SweepA.start HI.out.1.len HI.out.1.sound HI.out.1.acc, HI.out.2.1, HI.out.2.2⟩
          case round =>
            obtain ⟨n, l2, rfl, hn, rfl, hS, hO, hB⟩ := hrel
            by_cases hnN : n < N
            · have e2 : decide ((n : Int) < (N : Int)) = true := by simp; omega
              have HJ := hide (And.intro hS (And.intro hO hB))
              clear hS hO hB
              go_wp2_with fail
              go_loopg [9] 256 (fun G bv wr => ∃ (b : Nat) (l3 : List Bool), bv = .int .i64 (b : Int) ∧ b ≤ 256 ∧ G = 256 - b ∧ SweepA g K kd l l3 n b ∧ Blk wr w.heap.size (boolsA l3) 4 ∧ Below w.heap.size w wr)
              case atStart => exact ⟨0, l2, rfl, by omega, rfl, HJ.out.1, HJ.out.2.1, HJ.out.2.2⟩
              case round =>
                obtain ⟨b, l3, rfl, hb, rfl, hS, hO, hB⟩ := hrel
                by_cases hbl : b < 256
                · have e3 : decide ((b : Int) < 256) = true := by simp; omega
                  obtain ⟨hON, hF⟩ := HO.out
                  obtain ⟨og, ocap, o1, o2⟩ := (hF.below hB).to (by omega)
                  obtain ⟨p1, p2⟩ := o2 n (by omega)
                  have p3 := p2 b hbl
                  rw [HG.out.step n b (by omega) hbl] at p3
                  rw [hON] at o1
                  generalize To[n].1 = ob at p1 p3
                  have n0 : (0 : Int) ≤ (n : Int) := by omega
                  have n1 : (n : Int) < (N : Int) := by omega
                  have b0 : (0 : Int) ≤ (b : Int) := by omega
                  have b1 : (b : Int) < 256 := by omega
                  have cn := boolsA_cellD hO n (by rw [hS.len, ← HN.out]; exact hnN)
                  have fn := hO.frozen n
                  generalize hyn : l3.getD n false = yn at cn
                  clear hyn
                  have zo3 := hO.lt
                  rcases HG.out.leads (i := n) (b := b) (by rw [← HN.out]; exact hnN) hbl with e | ⟨t, ht, e⟩
                  · rw [e] at p3
                    have HQ := hide (And.intro hS (And.intro hO (And.intro hB e)))
                    clear hS hO hB e hF o2 p2 hON
                    go_wp2_with fail
                    go_roundg (256 - (b + 1))
                    case measure => omega
                    case rel =>
                      obtain ⟨a1, a2, a3, a4⟩ := HQ.out
                      exact ⟨b + 1, l3, by go_num, by omega, rfl, a1.pass (fun t ht => by rw [a4] at ht; omega), a2, a3⟩
                  · rw [e] at p3
                    have htN : t < N := by rw [HN.out]; exact ht
                    have t0 : (0 : Int) ≤ (t : Int) := by omega
                    have t1 : (t : Int) < (N : Int) := by omega
                    have e5 : decide ((0 : Int) ≤ (t : Int)) = true := by simp
                    have cy := boolsA_cellD hO t (by rw [hS.len, ← HN.out]; exact htN)
                    generalize hy : l3.getD t false = y at cy
                    have HQ := hide (And.intro hS (And.intro hO (And.intro hB (And.intro e (And.intro hy ht)))))
                    clear hS hO hB e hF o2 p2 hON hy ht
                    cases y with
                    | true =>
                      go_wp2_with fail
                      go_roundg (256 - (b + 1))
                      case measure => omega
                      case rel =>
                        obtain ⟨a1, a2, a3, a4, a5, a6⟩ := HQ.out
                        exact ⟨b + 1, l3.set n true, by go_num, by omega, rfl, a1.mark HG.out (by rw [← HN.out]; exact hnN) hbl a6 a4 a5, by rw [← boolsA_set]; exact a2.set n _, a3.setCell (Nat.le_refl _) _⟩
                    | false =>
                      go_wp2_with fail
                      go_roundg (256 - (b + 1))
                      case measure => omega
                      case rel =>
                        obtain ⟨a1, a2, a3, a4, a5, a6⟩ := HQ.out
                        exact ⟨b + 1, l3, by go_num, by omega, rfl, a1.pass (fun t' ht => by rw [a4] at ht; rw [show t' = t by omega]; exact a5), a2, a3⟩
                · have e3 : decide ((b : Int) < 256) = false := by simp; omega
                  have hb256 : b = 256 := by omega
                  have HQ := hide (And.intro hS (And.intro hO hB))
                  clear hS hO hB
                  go_wp2_with fail
                  go_roundg (N - (n + 1))
                  case measure => omega
                  case rel =>
                    obtain ⟨a1, a2, a3⟩ := HQ.out
                    rw [hb256] at a1
                    exact ⟨n + 1, l3, by go_num, by omega, rfl, a1.row, a2, a3⟩
            · have e2 : decide ((n : Int) < (N : Int)) = false := by simp; omega
              have hnn : n = N := by omega
              have HQ := hide (And.intro hS (And.intro hO hB))
              clear hS hO hB
              go_wp2_with fail
              go_roundg (N - (k + 1))
              case measure => omega
              case rel =>
                obtain ⟨a1, a2, a3⟩ := HQ.out
                rw [hnn, HN.out] at a1
                exact ⟨k + 1, l2, by go_num, by omega, rfl, a1.done HI.out.1, a2, a3⟩
        · have e1 : decide ((k : Int) < (N : Int)) = false := by simp; omega
          have hkk : k = N := by omega
          have HQ := hide (And.intro hT (And.intro hO hB))
          clear hT hO hB
          go_wp2_with fail
          go_ret
          obtain ⟨a1, a2, a3⟩ := HQ.out
          rw [hkk, HN.out] at a1
          refine ⟨l, rfl, a2, by rw [a1.len]; exact HN.out.symm, fun i hi => a1.end HG.out (by rw [← HN.out]; exact hi), a3⟩
end Go.Proofs.Ytcckhngbdoiikaa

namespace Go.Proofs.Ytcckhngbdoiikaa
open Go.RowKit Go.Deep
set_option linter.unusedVariables false
set_option linter.unusedSimpArgs false

/-- A square of bools in memory. -/
structure DM (w : World) (db N : Nat) (R : Nat → Nat) (D : Nat → List Bool) : Prop where
  blk : ∃ c, Blk w db c 119 ∧ ∀ i, i < N → c[i]? = some (.slice (some ⟨R i, 0, none⟩) N N)
  each : ∀ i, i < N → Blk w (R i) (boolsA (D i)) 4 ∧ (D i).length = N
  inj : ∀ i j, i < N → j < N → R i = R j → i = j
theorem DM.below {w w' : World} {db N : Nat} {R : Nat → Nat} {D : Nat → List Bool} (h : DM w db N R D) (k : Below w.heap.size w w') : DM w' db N R D := by
  obtain ⟨c, h1, h2⟩ := h.blk
  exact ⟨⟨c, h1.below k, h2⟩, fun i hi => ⟨(h.each i hi).1.below k, (h.each i hi).2⟩, h.inj⟩
theorem DM.cells {w : World} {db N : Nat} {R : Nat → Nat} {D : Nat → List Bool} (h : DM w db N R D) {i j : Nat} (hi : i < N) (hj : j < N) : w.cell? ⟨db, i, none⟩ = some (.slice (some ⟨R i, 0, none⟩) N N) ∧ w.cell? ⟨R i, j, none⟩ = some (.bool ((D i).getD j false)) := by
  obtain ⟨c, h1, h2⟩ := h.blk
  obtain ⟨h3, h4⟩ := h.each i hi
  exact ⟨by rw [h1.cell]; exact h2 i hi, boolsA_cellD h3 j (by omega)⟩
/-- Does it lead to one that is alive? -/
def alS (al : List Bool) (s : Int) : Bool := decide (0 ≤ s) && al.getD s.toNat false
/-- Are two steps told apart? -/
def stB (al : List Bool) (D : Nat → List Bool) (s t : Int) : Bool := (alS al s != alS al t) || (alS al s && alS al t && (D s.toNat).getD t.toNat false)
theorem alS_cases {T : List ByteArray} {To : List (Nat × List Int)} {g : Graph} {K : Nat} {kd : Nat → Nat} {rules : List MT} (hG : GP T To g K kd rules) (al : List Bool) {i b : Nat} (hi : i < g.rule.length) (hb : b < 256) : (stepK g (i : Int) (kd b) = -1) ∨ (∃ t : Nat, t < g.rule.length ∧ stepK g (i : Int) (kd b) = (t : Int) ∧ al.getD t false = false) ∨ (∃ t : Nat, t < g.rule.length ∧ stepK g (i : Int) (kd b) = (t : Int) ∧ al.getD t false = true) := by
  rcases hG.leads hi hb with e | ⟨t, ht, e⟩
  · exact .inl e
  · cases hh : al.getD t false with
    | false => exact .inr (.inl ⟨t, ht, e, hh⟩)
    | true => exact .inr (.inr ⟨t, ht, e, hh⟩)
theorem alS_dead (al : List Bool) : alS al (-1) = false := rfl
theorem alS_nat (al : List Bool) (t : Nat) : alS al (t : Int) = al.getD t false := by unfold alS; simp
set_option maxRecDepth 20000 in
set_option maxHeartbeats 12800000 in
theorem refSteps_any (fb lo ab db dcap N i j : Nat) (R : Nat → Nat) (D : Nat → List Bool) (al : List Bool) (rules : List MT) (tv sv ov : Value) (T : List ByteArray) (S : List (Nat × List Bool)) (To : List (Nat × List Int)) (g : Graph) (K : Nat) (kd : Nat → Nat) (w : World) (hF : FoundAt w lo fb tv sv ov T S To) (hG : GP T To g K kd rules) (hN : N = g.rule.length)
    (hA : Blk w ab (boolsA al) 4) (hal : al.length = N) (hD : DM w db N R D) (hi : i < N) (hj : j < N) :
    Calls Try.prog 135 #[.pointer (some ⟨fb, 0, none⟩), .slice (some ⟨ab, 0, none⟩) N N, .slice (some ⟨db, 0, none⟩) N dcap, .int .i64 (i : Int), .int .i64 (j : Int)] w fun e w' => ∃ x, e = .returned (.bool x) ∧ (x = true ↔ ∃ b, b < 256 ∧ stB al D (stepK g (i : Int) (kd b)) (stepK g (j : Int) (kd b)) = true) ∧ Below w.heap.size w w' := by
  have hN61 : N ≤ 61 := by have := hG.top; omega
  have HC := hide (And.intro hF (And.intro hG (And.intro hN (And.intro hA (And.intro hal hD)))))
  have i0 : (0 : Int) ≤ (i : Int) := by omega
  have i1 : (i : Int) < (N : Int) := by omega
  have j0 : (0 : Int) ≤ (j : Int) := by omega
  have j1 : (j : Int) < (N : Int) := by omega
  clear hF hG hN hA hal hD
  go_enter Try.func135, Try.ntmps135
  go_wp2_with fail
  go_loopg [11] 256 (fun G bv wr => ∃ b : Nat, bv = .int .i64 (b : Int) ∧ b ≤ 256 ∧ G = 256 - b ∧ (∀ c, c < b → stB al D (stepK g (i : Int) (kd c)) (stepK g (j : Int) (kd c)) = false) ∧ Below w.heap.size w wr)
  case atStart => exact ⟨0, rfl, by omega, rfl, fun c hc => by omega, Below.refl _ _⟩
  case round =>
    obtain ⟨b, rfl, hb, rfl, hno, hB⟩ := hrel
    by_cases hbl : b < 256
    · have e3 : decide ((b : Int) < 256) = true := by simp; omega
      obtain ⟨hF, hG, hN, hA, hal, hD⟩ := HC.out
      have hON : To.length = N := by rw [hG.ol, hN]
      obtain ⟨og, ocap, o1, o2⟩ := (hF.below hB).to (by omega)
      obtain ⟨p1, p2⟩ := o2 i (by omega)
      obtain ⟨r1, r2⟩ := o2 j (by omega)
      have p3 := p2 b hbl
      have r3 := r2 b hbl
      rw [hG.step i b (by omega) hbl] at p3
      rw [hG.step j b (by omega) hbl] at r3
      rw [hON] at o1
      generalize To[i].1 = ob at p1 p3
      generalize To[j].1 = ob2 at r1 r3
      have hA' := hA.below hB
      have hD' := hD.below hB
      have b0 : (0 : Int) ≤ (b : Int) := by omega
      have b1 : (b : Int) < 256 := by omega
      have c1 := alS_cases hG al (i := i) (b := b) (by omega) hbl
      have c2 := alS_cases hG al (i := j) (b := b) (by omega) hbl
      have HQ := hide (And.intro hno hB)
      obtain ⟨X, hX⟩ : ∃ X, stB al D (stepK g (i : Int) (kd b)) (stepK g (j : Int) (kd b)) = X := ⟨_, rfl⟩
      have HX0 := hide hX
      rw [← hN] at c1 c2
      have hca : ∀ t, t < N → wr.cell? ⟨ab, t, none⟩ = some (.bool (al.getD t false)) := fun t ht => boolsA_cellD hA' t (by omega)
      have hcd : ∀ s t, s < N → t < N → _ := fun s t hs ht => hD'.cells hs ht
      have HCA := hide (And.intro hca hcd)
      clear hF hG hN hA hal hD hON o2 p2 r2 hA' hD' hno hB hca hcd
      generalize stepK g (i : Int) (kd b) = s at c1 p3 hX
      generalize stepK g (j : Int) (kd b) = t at c2 r3 hX
      rcases c1 with rfl | ⟨s, hs, rfl, ha9⟩ | ⟨s, hs, rfl, ha9⟩ <;> rcases c2 with rfl | ⟨t, ht, rfl, ht9⟩ | ⟨t, ht, rfl, ht9⟩
      · simp only [stB, alS_dead, alS_nat, bne, Bool.true_or, beq_self_eq_true, Bool.not_true, Bool.not_false, Bool.false_beq, Bool.true_beq, Bool.false_and, Bool.and_false, Bool.or_false] at hX
        subst hX
        go_wp2_with fail
        go_roundg (256 - (b + 1))
        case measure => omega
        case rel =>
          obtain ⟨a1, a2⟩ := HQ.out
          refine ⟨b + 1, by go_num, by omega, rfl, fun c hc => ?_, a2⟩
          by_cases e : c < b
          · exact a1 c e
          · rw [show c = b by omega]; exact HX0.out
      · have t0 : (0 : Int) ≤ (t : Int) := by omega
        have t1 : (t : Int) < (N : Int) := by omega
        have et : decide ((0 : Int) ≤ (t : Int)) = true := by simp
        have ct := HCA.out.1 t ht
        rw [ht9] at ct
        simp only [stB, alS_dead, alS_nat, ht9, bne, Bool.true_or, beq_self_eq_true, Bool.not_true, Bool.not_false, Bool.false_beq, Bool.true_beq, Bool.false_and, Bool.and_false, Bool.or_false] at hX
        subst hX
        go_wp2_with fail
        go_roundg (256 - (b + 1))
        case measure => omega
        case rel =>
          obtain ⟨a1, a2⟩ := HQ.out
          refine ⟨b + 1, by go_num, by omega, rfl, fun c hc => ?_, a2⟩
          by_cases e : c < b
          · exact a1 c e
          · rw [show c = b by omega]; exact HX0.out
      · have t0 : (0 : Int) ≤ (t : Int) := by omega
        have t1 : (t : Int) < (N : Int) := by omega
        have et : decide ((0 : Int) ≤ (t : Int)) = true := by simp
        have ct := HCA.out.1 t ht
        rw [ht9] at ct
        simp only [stB, alS_dead, alS_nat, ht9, bne, Bool.true_or, beq_self_eq_true, Bool.not_true, Bool.not_false, Bool.false_beq, Bool.true_beq, Bool.false_and, Bool.and_false, Bool.or_false] at hX
        subst hX
        go_wp2_with fail
        go_ret
        obtain ⟨a1, a2⟩ := HQ.out
        exact ⟨true, rfl, ⟨fun _ => ⟨b, hbl, HX0.out⟩, fun _ => rfl⟩, a2⟩
      · have s0 : (0 : Int) ≤ (s : Int) := by omega
        have s1 : (s : Int) < (N : Int) := by omega
        have es : decide ((0 : Int) ≤ (s : Int)) = true := by simp
        have cs := HCA.out.1 s hs
        rw [ha9] at cs
        simp only [stB, alS_dead, alS_nat, ha9, bne, Bool.true_or, beq_self_eq_true, Bool.not_true, Bool.not_false, Bool.false_beq, Bool.true_beq, Bool.false_and, Bool.and_false, Bool.or_false] at hX
        subst hX
        go_wp2_with fail
        go_roundg (256 - (b + 1))
        case measure => omega
        case rel =>
          obtain ⟨a1, a2⟩ := HQ.out
          refine ⟨b + 1, by go_num, by omega, rfl, fun c hc => ?_, a2⟩
          by_cases e : c < b
          · exact a1 c e
          · rw [show c = b by omega]; exact HX0.out
      · have s0 : (0 : Int) ≤ (s : Int) := by omega
        have s1 : (s : Int) < (N : Int) := by omega
        have es : decide ((0 : Int) ≤ (s : Int)) = true := by simp
        have cs := HCA.out.1 s hs
        rw [ha9] at cs
        have t0 : (0 : Int) ≤ (t : Int) := by omega
        have t1 : (t : Int) < (N : Int) := by omega
        have et : decide ((0 : Int) ≤ (t : Int)) = true := by simp
        have ct := HCA.out.1 t ht
        rw [ht9] at ct
        simp only [stB, alS_dead, alS_nat, ha9, ht9, bne, Bool.true_or, beq_self_eq_true, Bool.not_true, Bool.not_false, Bool.false_beq, Bool.true_beq, Bool.false_and, Bool.and_false, Bool.or_false] at hX
        subst hX
        go_wp2_with fail
        go_roundg (256 - (b + 1))
        case measure => omega
        case rel =>
          obtain ⟨a1, a2⟩ := HQ.out
          refine ⟨b + 1, by go_num, by omega, rfl, fun c hc => ?_, a2⟩
          by_cases e : c < b
          · exact a1 c e
          · rw [show c = b by omega]; exact HX0.out
      · have s0 : (0 : Int) ≤ (s : Int) := by omega
        have s1 : (s : Int) < (N : Int) := by omega
        have es : decide ((0 : Int) ≤ (s : Int)) = true := by simp
        have cs := HCA.out.1 s hs
        rw [ha9] at cs
        have t0 : (0 : Int) ≤ (t : Int) := by omega
        have t1 : (t : Int) < (N : Int) := by omega
        have et : decide ((0 : Int) ≤ (t : Int)) = true := by simp
        have ct := HCA.out.1 t ht
        rw [ht9] at ct
        simp only [stB, alS_dead, alS_nat, ha9, ht9, bne, Bool.true_or, beq_self_eq_true, Bool.not_true, Bool.not_false, Bool.false_beq, Bool.true_beq, Bool.false_and, Bool.and_false, Bool.or_false] at hX
        subst hX
        go_wp2_with fail
        go_ret
        obtain ⟨a1, a2⟩ := HQ.out
        exact ⟨true, rfl, ⟨fun _ => ⟨b, hbl, HX0.out⟩, fun _ => rfl⟩, a2⟩
      · have s0 : (0 : Int) ≤ (s : Int) := by omega
        have s1 : (s : Int) < (N : Int) := by omega
        have es : decide ((0 : Int) ≤ (s : Int)) = true := by simp
        have cs := HCA.out.1 s hs
        rw [ha9] at cs
        simp only [stB, alS_dead, alS_nat, ha9, bne, Bool.true_or, beq_self_eq_true, Bool.not_true, Bool.not_false, Bool.false_beq, Bool.true_beq, Bool.false_and, Bool.and_false, Bool.or_false] at hX
        subst hX
        go_wp2_with fail
        go_ret
        obtain ⟨a1, a2⟩ := HQ.out
        exact ⟨true, rfl, ⟨fun _ => ⟨b, hbl, HX0.out⟩, fun _ => rfl⟩, a2⟩
      · have s0 : (0 : Int) ≤ (s : Int) := by omega
        have s1 : (s : Int) < (N : Int) := by omega
        have es : decide ((0 : Int) ≤ (s : Int)) = true := by simp
        have cs := HCA.out.1 s hs
        rw [ha9] at cs
        have t0 : (0 : Int) ≤ (t : Int) := by omega
        have t1 : (t : Int) < (N : Int) := by omega
        have et : decide ((0 : Int) ≤ (t : Int)) = true := by simp
        have ct := HCA.out.1 t ht
        rw [ht9] at ct
        simp only [stB, alS_dead, alS_nat, ha9, ht9, bne, Bool.true_or, beq_self_eq_true, Bool.not_true, Bool.not_false, Bool.false_beq, Bool.true_beq, Bool.false_and, Bool.and_false, Bool.or_false] at hX
        subst hX
        go_wp2_with fail
        go_ret
        obtain ⟨a1, a2⟩ := HQ.out
        exact ⟨true, rfl, ⟨fun _ => ⟨b, hbl, HX0.out⟩, fun _ => rfl⟩, a2⟩
      · have s0 : (0 : Int) ≤ (s : Int) := by omega
        have s1 : (s : Int) < (N : Int) := by omega
        have es : decide ((0 : Int) ≤ (s : Int)) = true := by simp
        have cs := HCA.out.1 s hs
        rw [ha9] at cs
        have t0 : (0 : Int) ≤ (t : Int) := by omega
        have t1 : (t : Int) < (N : Int) := by omega
        have et : decide ((0 : Int) ≤ (t : Int)) = true := by simp
        have ct := HCA.out.1 t ht
        rw [ht9] at ct
        obtain ⟨cd1, cd2⟩ := HCA.out.2 s t hs ht
        simp only [stB, alS_nat, ha9, ht9, Int.toNat_natCast, bne_self_eq_false, Bool.false_or, Bool.true_and] at hX
        rw [hX] at cd2
        clear hX
        cases X with
        | true =>
          go_wp2_with fail
          go_ret
          obtain ⟨a1, a2⟩ := HQ.out
          exact ⟨true, rfl, ⟨fun _ => ⟨b, hbl, HX0.out⟩, fun _ => rfl⟩, a2⟩
        | false =>
          go_wp2_with fail
          go_roundg (256 - (b + 1))
          case measure => omega
          case rel =>
            obtain ⟨a1, a2⟩ := HQ.out
            refine ⟨b + 1, by go_num, by omega, rfl, fun c hc => ?_, a2⟩
            by_cases e : c < b
            · exact a1 c e
            · rw [show c = b by omega]; exact HX0.out
    · have e3 : decide ((b : Int) < 256) = false := by simp; omega
      have HQ := hide (And.intro hno hB)
      clear hno hB
      go_wp2_with fail
      go_ret
      obtain ⟨a1, a2⟩ := HQ.out
      refine ⟨false, rfl, ⟨fun e => (by cases e), fun ⟨c, h1, h2⟩ => ?_⟩, a2⟩
      rw [a1 c (by omega)] at h2; cases h2
end Go.Proofs.Ytcckhngbdoiikaa
