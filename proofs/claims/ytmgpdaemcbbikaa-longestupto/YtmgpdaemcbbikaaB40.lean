import Derived.Test.YtmgpdaemcbbikaaB39
import Derived.Test.YtmgpdaemcbbikaaB24
import Derived.Test.YtmgpdaemcbbikaaB37
import Derived.Test.YtmgpdaemcbbikaaB34

namespace Go.Proofs.Ytmgpdaemcbbikaa
open Go.RowKit Go.Deep
set_option linter.unusedVariables false

set_option maxRecDepth 20000 in
set_option maxHeartbeats 1600000 in
theorem find_row (c : MemoC) (n : Nat) (hn : n < c.all.length) (x : NodeT) (hx : c.all.getD n nodeD = x) (hkd : x.kind = 4) (htr : c.tr n = .row (c.tr x.l) (c.tr x.r)) (h1 : OverC c x.l) (h2 : OverC c x.r) (A : Nat → Prop) (w : World) (p : Nat) (hA : ∀ b, A b → b < w.heap.size) (hm : Memo c A w) (hp : p ≤ c.s.size) (hs : c.s.size ≤ 50000) :
    Calls Try.prog 85 #[.pointer (some ⟨c.wb, 0, none⟩), .int .i64 (n : Int), .int .i64 (p : Int)] w (RowOut c A w (rowT (bytesN c.s) (c.tr n) p)) := by
  obtain ⟨ad, acap, hav, harow⟩ := hm.nodes.form
  rcases harow with h0 | ⟨ag, rfl⟩
  · omega
  have hnd : NodeRow w (.slice (some ⟨ag, 0, none⟩) c.all.length acap) c.all := by have := hm.nodes; rw [hav] at this; exact this
  have s0 : w.cell? ⟨c.wb, 0, none⟩ = some (.slice (some ⟨ag, 0, none⟩) c.all.length acap) := by rw [← hav]; exact hm.blk.cell 0
  have s2 : w.cell? ⟨c.wb, 2, none⟩ = some (.string c.s) := hm.blk.cell 2
  have cA := fun k hk => hnd.cell n k hn hk
  rw [hx] at cA
  obtain ⟨xk, xa, xb, xl, xr, xt, xp⟩ := x
  simp only at hkd htr h1 h2
  subst hkd
  have a0 := cA 0 (by omega)
  have a1 := cA 1 (by omega)
  have a2 := cA 2 (by omega)
  have a3 := cA 3 (by omega)
  have a4 := cA 4 (by omega)
  have a5 := cA 5 (by omega)
  have a6 := cA 6 (by omega)
  simp only [nodesC, List.getElem?_cons_zero, List.getElem?_cons_succ, Nat.add_zero] at a0 a1 a2 a3 a4 a5 a6
  have n0 : (0 : Int) ≤ (n : Int) := by omega
  have n1 : (n : Int) < (c.all.length : Int) := by omega
  have hm1 : Memo c A (w.alloc (.cells (nodeC ⟨4, xa, xb, xl, xr, xt, xp⟩) 104)) := hm.below (Below1 _ _)
  have hA1 : ∀ b, A b → b < (w.alloc (.cells (nodeC ⟨4, xa, xb, xl, xr, xt, xp⟩) 104)).heap.size := fun b hb => by have := hA b hb; simp; omega
  have HM1 := hide hm1
  have HA1 := hide hA1
  have HK1 : Hid (Kept c.M w (w.alloc (.cells (nodeC ⟨4, xa, xb, xl, xr, xt, xp⟩) 104))) := hide ((Kept.refl _ _).alloc _)
  have HB1 := hide (Blk.new w (nodeC ⟨4, xa, xb, xl, xr, xt, xp⟩) 104)
  have HAA := hide hA
  have HT := hide htr
  have HO1 := hide (h1 A _ p hA1 hm1 hp)
  have HO2 := hide h2
  clear htr h1 h2
  clear cA hm hm1 hA1 hnd hA hx hav
  go_enter Try.func85, Try.ntmps85
  go_wp2_with fail
  refine HO1.out.mono ?_
  rintro e w1 ⟨b1, rfl, hnb1, hBR1, hmm1, hk1⟩
  have hX1 : Blk w1 w.heap.size (nodeC ⟨4, xa, xb, xl, xr, xt, xp⟩) 104 := HB1.out.kept hk1 (HM1.out.not HB1.out (by decide))
  have c4 : w1.cell? ⟨w.heap.size, 4, none⟩ = some (.int .i64 (xr : Int)) := hX1.cell 4
  have hz := hk1.size
  have HAL := hide (wall_any c xr HO2.out A w1 b1 c.N (rowT (bytesN c.s) (c.tr xl) p) (fun b hb => by have := HA1.out b hb; omega) hmm1 hBR1 (rowT_len _ _ _) hs)
  have HK2 := hide (HK1.out.trans hk1 (fun i _ e => e))
  clear hBR1 hmm1 hk1 hX1 hnb1
  go_wp2_with fail
  refine HAL.out.mono ?_
  rintro e w2 ⟨l, hll, hspec, b2, rfl, hnb2, hBR2, hmm2, hk2⟩
  have hl : l = rowT (bytesN c.s) (c.tr n) p := by
    rw [HT.out]
    refine rowW_ext (by rw [hll, bytesN_len]; rfl) fun q hq => ?_
    rw [bytesN_len] at hq
    rw [hspec q hq]
    have := @ends_row (bytesN c.s) (c.tr xl).Word (c.tr xr).Word p q
    constructor
    · rintro ⟨m, e1, e2⟩; exact this.2 ⟨m, rowW_getD.1 e1, e2⟩
    · intro e
      obtain ⟨m, e1, e2⟩ := this.1 e
      exact ⟨m, rowW_getD.2 e1, e2⟩
  rw [hl] at hBR2
  have HH : Hid (RowOut c A w (rowT (bytesN c.s) (c.tr n) p) (.returned (.slice (some ⟨b2, 0, none⟩) c.N c.N)) w2) := ⟨b2, rfl, hnb2, hBR2, hmm2, HK2.out.trans hk2 (fun i _ e => e)⟩
  clear hBR2 hmm2 hk2 hspec hll hl hnb2
  go_wp2_with fail
  go_ret
  exact HH.out

set_option maxRecDepth 20000 in
set_option maxHeartbeats 1600000 in
theorem find_star (c : MemoC) (n : Nat) (hn : n < c.all.length) (x : NodeT) (hx : c.all.getD n nodeD = x) (hkd : x.kind = 6) (htr : c.tr n = .star (c.tr x.l)) (h1 : OverC c x.l) (A : Nat → Prop) (w : World) (p : Nat) (hA : ∀ b, A b → b < w.heap.size) (hm : Memo c A w) (hp : p ≤ c.s.size) (hs : c.s.size ≤ 50000) :
    Calls Try.prog 85 #[.pointer (some ⟨c.wb, 0, none⟩), .int .i64 (n : Int), .int .i64 (p : Int)] w (RowOut c A w (rowT (bytesN c.s) (c.tr n) p)) := by
  obtain ⟨ad, acap, hav, harow⟩ := hm.nodes.form
  rcases harow with h0 | ⟨ag, rfl⟩
  · omega
  have hnd : NodeRow w (.slice (some ⟨ag, 0, none⟩) c.all.length acap) c.all := by have := hm.nodes; rw [hav] at this; exact this
  have s0 : w.cell? ⟨c.wb, 0, none⟩ = some (.slice (some ⟨ag, 0, none⟩) c.all.length acap) := by rw [← hav]; exact hm.blk.cell 0
  have s2 : w.cell? ⟨c.wb, 2, none⟩ = some (.string c.s) := hm.blk.cell 2
  have cA := fun k hk => hnd.cell n k hn hk
  rw [hx] at cA
  obtain ⟨xk, xa, xb, xl, xr, xt, xp⟩ := x
  simp only at hkd htr h1
  subst hkd
  have a0 := cA 0 (by omega)
  have a1 := cA 1 (by omega)
  have a2 := cA 2 (by omega)
  have a3 := cA 3 (by omega)
  have a4 := cA 4 (by omega)
  have a5 := cA 5 (by omega)
  have a6 := cA 6 (by omega)
  simp only [nodesC, List.getElem?_cons_zero, List.getElem?_cons_succ, Nat.add_zero] at a0 a1 a2 a3 a4 a5 a6
  have n0 : (0 : Int) ≤ (n : Int) := by omega
  have n1 : (n : Int) < (c.all.length : Int) := by omega
  have hm1 : Memo c A (w.alloc (.cells (nodeC ⟨6, xa, xb, xl, xr, xt, xp⟩) 104)) := hm.below (Below1 _ _)
  have hA1 : ∀ b, A b → b < (w.alloc (.cells (nodeC ⟨6, xa, xb, xl, xr, xt, xp⟩) 104)).heap.size := fun b hb => by have := hA b hb; simp; omega
  have HM1 := hide hm1
  have HA1 := hide hA1
  have HK1 : Hid (Kept c.M w (w.alloc (.cells (nodeC ⟨6, xa, xb, xl, xr, xt, xp⟩) 104))) := hide ((Kept.refl _ _).alloc _)
  have HB1 := hide (Blk.new w (nodeC ⟨6, xa, xb, xl, xr, xt, xp⟩) 104)
  have HAA := hide hA
  have HT := hide htr
  have HO1 := hide (often_any c xl h1 A _ p hA1 hm1 hp hs)
  clear htr h1
  clear cA hm hm1 hA1 hnd hA hx hav
  go_enter Try.func85, Try.ntmps85
  go_wp2_with fail
  refine HO1.out.mono ?_
  rintro e w1 ⟨b1, rfl, hnb1, hBR1, hmm1, hk1⟩
  have hl : rowW (bytesN c.s) (Star (c.tr xl).Word) p = rowT (bytesN c.s) (c.tr n) p := by rw [HT.out]; rfl
  rw [hl] at hBR1
  have HH : Hid (RowOut c A w (rowT (bytesN c.s) (c.tr n) p) (.returned (.slice (some ⟨b1, 0, none⟩) c.N c.N)) w1) := ⟨b1, rfl, hnb1, hBR1, hmm1, HK1.out.trans hk1 (fun i _ e => e)⟩
  clear hBR1 hmm1 hk1 hl hnb1
  go_wp2_with fail
  go_ret
  exact HH.out

set_option maxRecDepth 20000 in
set_option maxHeartbeats 1600000 in
theorem find_plus (c : MemoC) (n : Nat) (hn : n < c.all.length) (x : NodeT) (hx : c.all.getD n nodeD = x) (hkd : x.kind = 7) (htr : c.tr n = .plus (c.tr x.l)) (h1 : OverC c x.l) (A : Nat → Prop) (w : World) (p : Nat) (hA : ∀ b, A b → b < w.heap.size) (hm : Memo c A w) (hp : p ≤ c.s.size) (hs : c.s.size ≤ 50000) :
    Calls Try.prog 85 #[.pointer (some ⟨c.wb, 0, none⟩), .int .i64 (n : Int), .int .i64 (p : Int)] w (RowOut c A w (rowT (bytesN c.s) (c.tr n) p)) := by
  obtain ⟨ad, acap, hav, harow⟩ := hm.nodes.form
  rcases harow with h0 | ⟨ag, rfl⟩
  · omega
  have hnd : NodeRow w (.slice (some ⟨ag, 0, none⟩) c.all.length acap) c.all := by have := hm.nodes; rw [hav] at this; exact this
  have s0 : w.cell? ⟨c.wb, 0, none⟩ = some (.slice (some ⟨ag, 0, none⟩) c.all.length acap) := by rw [← hav]; exact hm.blk.cell 0
  have s2 : w.cell? ⟨c.wb, 2, none⟩ = some (.string c.s) := hm.blk.cell 2
  have cA := fun k hk => hnd.cell n k hn hk
  rw [hx] at cA
  obtain ⟨xk, xa, xb, xl, xr, xt, xp⟩ := x
  simp only at hkd htr h1
  subst hkd
  have a0 := cA 0 (by omega)
  have a1 := cA 1 (by omega)
  have a2 := cA 2 (by omega)
  have a3 := cA 3 (by omega)
  have a4 := cA 4 (by omega)
  have a5 := cA 5 (by omega)
  have a6 := cA 6 (by omega)
  simp only [nodesC, List.getElem?_cons_zero, List.getElem?_cons_succ, Nat.add_zero] at a0 a1 a2 a3 a4 a5 a6
  have n0 : (0 : Int) ≤ (n : Int) := by omega
  have n1 : (n : Int) < (c.all.length : Int) := by omega
  have hm1 : Memo c A (w.alloc (.cells (nodeC ⟨7, xa, xb, xl, xr, xt, xp⟩) 104)) := hm.below (Below1 _ _)
  have hA1 : ∀ b, A b → b < (w.alloc (.cells (nodeC ⟨7, xa, xb, xl, xr, xt, xp⟩) 104)).heap.size := fun b hb => by have := hA b hb; simp; omega
  have HM1 := hide hm1
  have HA1 := hide hA1
  have HK1 : Hid (Kept c.M w (w.alloc (.cells (nodeC ⟨7, xa, xb, xl, xr, xt, xp⟩) 104))) := hide ((Kept.refl _ _).alloc _)
  have HB1 := hide (Blk.new w (nodeC ⟨7, xa, xb, xl, xr, xt, xp⟩) 104)
  have HAA := hide hA
  have HT := hide htr
  have HO1 := hide (often_any c xl h1 A _ p hA1 hm1 hp hs)
  have HO2 := hide h1
  clear htr h1
  clear cA hm hm1 hA1 hnd hA hx hav
  go_enter Try.func85, Try.ntmps85
  go_wp2_with fail
  refine HO1.out.mono ?_
  rintro e w1 ⟨b1, rfl, hnb1, hBR1, hmm1, hk1⟩
  have hX1 : Blk w1 w.heap.size (nodeC ⟨7, xa, xb, xl, xr, xt, xp⟩) 104 := HB1.out.kept hk1 (HM1.out.not HB1.out (by decide))
  have c3 : w1.cell? ⟨w.heap.size, 3, none⟩ = some (.int .i64 (xl : Int)) := hX1.cell 3
  have hz := hk1.size
  have HAL := hide (wall_any c xl HO2.out A w1 b1 c.N (rowW (bytesN c.s) (Star (c.tr xl).Word) p) (fun b hb => by have := HA1.out b hb; omega) hmm1 hBR1 (by rw [rowW_len, bytesN_len]; rfl) hs)
  have HK2 := hide (HK1.out.trans hk1 (fun i _ e => e))
  clear hBR1 hmm1 hk1 hX1 hnb1
  go_wp2_with fail
  refine HAL.out.mono ?_
  rintro e w2 ⟨l, hll, hspec, b2, rfl, hnb2, hBR2, hmm2, hk2⟩
  have hl : l = rowT (bytesN c.s) (c.tr n) p := by
    rw [HT.out]
    refine rowW_ext (by rw [hll, bytesN_len]; rfl) fun q hq => ?_
    rw [bytesN_len] at hq
    rw [hspec q hq]
    have := @ends_row (bytesN c.s) (Star (c.tr xl).Word) (c.tr xl).Word p q
    constructor
    · rintro ⟨m, e1, e2⟩; exact this.2 ⟨m, rowW_getD.1 e1, e2⟩
    · intro e
      obtain ⟨m, e1, e2⟩ := this.1 e
      exact ⟨m, rowW_getD.2 e1, e2⟩
  rw [hl] at hBR2
  have HH : Hid (RowOut c A w (rowT (bytesN c.s) (c.tr n) p) (.returned (.slice (some ⟨b2, 0, none⟩) c.N c.N)) w2) := ⟨b2, rfl, hnb2, hBR2, hmm2, HK2.out.trans hk2 (fun i _ e => e)⟩
  clear hBR2 hmm2 hk2 hspec hll hl hnb2
  go_wp2_with fail
  go_ret
  exact HH.out
end Go.Proofs.Ytmgpdaemcbbikaa

namespace Go.Proofs.Ytmgpdaemcbbikaa
open Go.RowKit Go.Deep
set_option linter.unusedVariables false

set_option maxHeartbeats 1600000 in
/-- The lexer of some rules, where the reading goes as it must. -/
theorem given_any (all : List NodeT) (tops : List Nat) (av tv : Value) (w : World) (ha : NodeRow w av all) (ht : IRow w tv (natsI tops)) (hs : SpellOk all tops)
    (hg : (newF (spellK all tops tops.length).1 = .bad 1 0 ∧ 120 < (spellK all tops tops.length).1.size) ∨ (newF (spellK all tops tops.length).1 = .bad 3 0 ∧ (spellK all tops tops.length).1.size ≤ 120 ∧ 5 < (spellK all tops tops.length).2) ∨ ((spellK all tops tops.length).1.size ≤ 120 ∧ ∃ kd g, newF (spellK all tops tops.length).1 = .lexer kd g)) :
    Calls Try.prog 22 #[.agg #[av, tv]] w fun e w' => Below w.heap.size w w' ∧
      ((∃ kd g pb, newF (spellK all tops tops.length).1 = .lexer kd g ∧ e = .returned (.tuple #[.pointer (some ⟨pb, 0, none⟩), .bool true]) ∧ LexAt w' pb kd g) ∨ e = .returned (.tuple #[.pointer none, .bool true])) := by
  have HSP := hide (spelling_any all tops av tv (w.alloc (.cells #[av, tv] 42)) (ha.below (Below1 _ _)) (ht.below (Below1 _ _)) hs)
  have h1 := (hs.size tops.length (Nat.le_refl _)).1
  have h2 := (hs.size tops.length (Nat.le_refl _)).2
  obtain ⟨ad, acap, rfl, _⟩ := ha.form
  obtain ⟨td, tcap, rfl, _⟩ := ht.formN
  generalize spellK all tops tops.length = r at HSP hg h1 h2 ⊢
  obtain ⟨t, n⟩ := r
  simp only at hg h1 h2
  have HNE := hide (fun W => new_any t (by unfold maxLen; omega) W)
  clear ha ht hs
  rcases hg with ⟨hx, hz⟩ | ⟨hx, hz, hn⟩ | ⟨hz, kd, g, hx⟩
  · have e1 : decide ((120 : Int) < (t.size : Int)) = true := by simp; omega
    have HX := hide hx
    clear hx
    go_enter Try.func22, Try.ntmps22
    go_wp2_with fail
    refine HSP.out.mono ?_
    rintro e w1 ⟨rfl, hb1⟩
    have HB1 := hide hb1
    clear hb1
    go_wp2_with fail
    refine (HNE.out _).mono ?_
    rw [HX.out]
    rintro e w2 ⟨hb2, rfl⟩
    have hb : Below w.heap.size w w2 := (Below1 w _).trans ((HB1.out.mono (by simp)).trans (hb2.mono (by have := HB1.out.size; simp at this; omega)))
    have HB := hide hb
    clear hb hb2
    go_wp2_with fail
    go_ret2
    exact ⟨HB.out, .inr rfl⟩
  · have e1 : decide ((120 : Int) < (t.size : Int)) = false := by simp; omega
    have e2 : decide ((5 : Int) < (n : Int)) = true := by simp; omega
    have HX := hide hx
    clear hx
    go_enter Try.func22, Try.ntmps22
    go_wp2_with fail
    refine HSP.out.mono ?_
    rintro e w1 ⟨rfl, hb1⟩
    have HB1 := hide hb1
    clear hb1
    go_wp2_with fail
    refine (HNE.out _).mono ?_
    rw [HX.out]
    rintro e w2 ⟨hb2, rfl⟩
    have hb : Below w.heap.size w w2 := (Below1 w _).trans ((HB1.out.mono (by simp)).trans (hb2.mono (by have := HB1.out.size; simp at this; omega)))
    have HB := hide hb
    clear hb hb2
    go_wp2_with fail
    go_ret2
    exact ⟨HB.out, .inr rfl⟩
  · have e1 : decide ((120 : Int) < (t.size : Int)) = false := by simp; omega
    have HX := hide hx
    go_enter Try.func22, Try.ntmps22
    go_wp2_with fail
    refine HSP.out.mono ?_
    rintro e w1 ⟨rfl, hb1⟩
    have HB1 := hide hb1
    clear hb1
    go_wp2_with fail
    refine (HNE.out _).mono ?_
    rw [HX.out]
    rintro e w2 ⟨hb2, pb, rfl, hL⟩
    have hb : Below w.heap.size w w2 := (Below1 w _).trans ((HB1.out.mono (by simp)).trans (hb2.mono (by have := HB1.out.size; simp at this; omega)))
    have HB := hide hb
    have HL := hide hL
    clear hb hb2 hL hx
    go_wp2_with fail
    go_ret2
    exact ⟨HB.out, .inl ⟨kd, g, pb, HX.out, rfl, HL.out⟩⟩
end Go.Proofs.Ytmgpdaemcbbikaa
