import Derived.Test.YtcckhngbdoiikaaN16
import Derived.Deep.QuietTactic
import Derived.BigQuiet

namespace Go.Proofs.Ytcckhngbdoiikaa
open Go.RowKit Go.Deep
set_option linter.unusedVariables false

/-- A graph whose rows fit. -/
structure GOk (g : Graph) (K : Nat) : Prop where
  len : g.next.length = g.rule.length
  row : ∀ i, i < g.next.length → (g.next.getD i []).length = K ∧ RowOk g.rule.length (g.next.getD i [])

theorem rowsSame_drop (cls : List Int) (ra rb : List Int) (k : Nat) (h1 : k < ra.length) (h2 : k < rb.length) :
    rowsSame cls (ra.drop k) (rb.drop k) = (stepSame cls ra[k] rb[k] && rowsSame cls (ra.drop (k + 1)) (rb.drop (k + 1))) := by
  have e1 : ra.drop k = ra[k] :: ra.drop (k + 1) := List.drop_eq_getElem_cons h1
  have e2 : rb.drop k = rb[k] :: rb.drop (k + 1) := List.drop_eq_getElem_cons h2
  rw [e1, e2]
  rfl
theorem Below_drewN {B : Nat} {a w : World} (h : Below B a w) (n : Nat) : Below B a (w.drewN n) := ⟨h.os, h.tape, h.output, h.size, h.block⟩

set_option maxHeartbeats 3200000 in
theorem together_any (rv nv cv : Value) (g : Graph) (K : Nat) (cls : List Int) (a b : Nat) (w : World) (hg : GraphAt w rv nv g) (ho : GOk g K) (hc : IRow w cv cls) (hcl : cls.length = g.rule.length) (ha : a < g.rule.length) (hb : b < g.rule.length) (hn : g.rule.length ≤ 1000) (hK : K ≤ 1000) :
    Calls Try.prog 144 #[.agg #[rv, nv], cv, .int .i64 (a : Int), .int .i64 (b : Int)] w fun e w' => e = .returned (.bool (togetherF g cls a b)) ∧ Below w.heap.size w w' := by
  obtain ⟨vs, hN, hvl, hvs⟩ := hg.next
  have hlen := ho.len
  obtain ⟨cd, ccap, rfl, hcrow⟩ := hc.form
  obtain ⟨rd, rcap, rfl, hrrow⟩ := hg.rule.form
  obtain ⟨nd, ncap, rfl, hnrow⟩ := hN.form
  rcases hcrow with h0 | ⟨cg, rfl⟩
  · omega
  rcases hrrow with h0 | ⟨rg, rfl⟩
  · omega
  rcases hnrow with h0 | ⟨ng, rfl⟩
  · omega
  have cla := hc.cell a (by omega)
  have clb := hc.cell b (by omega)
  have rla := hg.rule.cell a ha
  have rlb := hg.rule.cell b hb
  have nla := hN.cell a (by omega)
  have nlb := hN.cell b (by omega)
  have hIa := hvs a vs[a] (List.getElem?_eq_getElem _)
  have hIb := hvs b vs[b] (List.getElem?_eq_getElem _)
  generalize vs[a] = va at nla hIa
  generalize vs[b] = vb at nlb hIb
  have hra := ho.row a (by omega)
  have hrb := ho.row b (by omega)
  generalize hgna : g.next.getD a [] = ra at hIa hra
  generalize hgnb : g.next.getD b [] = rb at hIb hrb
  obtain ⟨ad, acap, rfl, harow⟩ := hIa.form
  obtain ⟨bd, bcap, rfl, hbrow⟩ := hIb.form
  obtain ⟨hral, hraok⟩ := hra
  obtain ⟨hrbl, hrbok⟩ := hrb
  have zc := ownsRow_lt hc cg rfl
  have zr := ownsRow_lt hg.rule rg rfl
  have zn := ownsRow_lt hN ng rfl
  have a0 : (0 : Int) ≤ (a : Int) := by omega
  have a1 : (a : Int) < (cls.length : Int) := by omega
  have a2 : (a : Int) < (g.rule.length : Int) := by omega
  have a3 : (a : Int) < (vs.length : Int) := by omega
  have b0 : (0 : Int) ≤ (b : Int) := by omega
  have b1 : (b : Int) < (cls.length : Int) := by omega
  have b2 : (b : Int) < (g.rule.length : Int) := by omega
  have b3 : (b : Int) < (vs.length : Int) := by omega
  generalize hF : togetherF g cls a b = F
  unfold togetherF at hF
  have g1 : cls.getD a 0 = cls[a]'(by omega) := by simp [show a < cls.length by omega]
  have g2 : cls.getD b 0 = cls[b]'(by omega) := by simp [show b < cls.length by omega]
  have g3 : g.rule.getD a 0 = g.rule[a] := by simp [ha]
  have g4 : g.rule.getD b 0 = g.rule[b] := by simp [hb]
  rw [g1, g2, g3, g4, hgna, hgnb] at hF
  clear g1 g2 g3 g4 hgna hgnb hvs hN hg ho
  generalize cls[a]'(by omega) = ca at cla hF
  generalize cls[b]'(by omega) = cb at clb hF
  generalize g.rule[a] = ua at rla hF
  generalize g.rule[b] = ub at rlb hF
  have hab : ra.length = rb.length := by omega
  have hraK : ra.length ≤ 1000 := by omega
  have HAB := hide hab
  have HRA := hide hraok
  have HRB := hide hrbok
  have HCL := hide hcl
  have HC := hide hc
  have HIA := hide hIa
  have HIB := hide hIb
  clear hab hlen hvl hcl hral hrbl hraok hrbok hc hIa hIb
  by_cases hne : ca = cb
  · subst hne
    have e1 : (ca != ca) = false := by simp
    by_cases hne2 : ua = ub
    · subst hne2
      have e2 : (ua != ua) = false := by simp
      rw [if_neg (by simp)] at hF
      have HF := hide hF
      clear hF
      go_enter Try.func144, Try.ntmps144
      go_wp2_with fail
      go_quiet (fail)
      go_wp2_with fail
      go_loopg [45] ra.length (fun G i wr => ∃ k m : Nat, k ≤ ra.length ∧ G = ra.length - k ∧ i = .int .i64 (k : Int) ∧ wr = (w.alloc (.cells #[.slice (some ⟨rg, 0, none⟩) g.rule.length rcap, .slice (some ⟨ng, 0, none⟩) vs.length ncap] 101)).drewN m ∧ rowsSame cls (ra.drop k) (rb.drop k) = F)
      case atStart => exact ⟨0, _, by omega, rfl, rfl, rfl, by simpa using HF.out⟩
      case round =>
        obtain ⟨k, m, hk, rfl, rfl, rfl, hfr⟩ := hrel
        clear HF
        by_cases hlt : k < ra.length
        · have e0 : decide ((k : Int) < (ra.length : Int)) = true := by simp; omega
          have hltb : k < rb.length := by have := HAB.out; omega
          rcases harow with h0 | ⟨ag, rfl⟩
          · omega
          rcases hbrow with h0 | ⟨bg, rfl⟩
          · omega
          have r0 := HIA.out.cell k hlt
          have r1 := HIB.out.cell k hltb
          have za := ownsRow_lt HIA.out ag rfl
          have zb := ownsRow_lt HIB.out bg rfl
          have i0 : (0 : Int) ≤ (k : Int) := by omega
          have i1 : (k : Int) < (ra.length : Int) := by omega
          have i2 : (k : Int) < (rb.length : Int) := by omega
          rw [rowsSame_drop cls ra rb k hlt hltb] at hfr
          have hx := HRA.out ra[k] (List.getElem_mem hlt)
          have hy := HRB.out rb[k] (List.getElem_mem hltb)
          generalize ra[k] = x at r0 hfr hx
          generalize rb[k] = y at r1 hfr hy
          by_cases hx1 : x = -1
          · subst hx1
            by_cases hy1 : y = -1
            · subst hy1
              have HFR := hide hfr
              clear hfr hx hy
              go_wp2_with fail
              go_roundg (ra.length - (k + 1))
              case measure => omega
              case rel => exact ⟨k + 1, m, by omega, rfl, by go_num, rfl, by simpa [stepSame] using HFR.out⟩
            · have e3 : ((-1 : Int) != y) = true := by simp; omega
              have hfe : F = false := by rw [← hfr]; have : stepSame cls (-1) y = false := by simp [stepSame]; omega
                                         rw [this]; rfl
              subst hfe
              clear hfr hx hy hy1
              go_wp2_with fail
              go_ret
              exact ⟨rfl, Below_drewN (Below1 w _) _⟩
          · have e3 : (x == -1) = false := by simp [hx1]
            by_cases hy1 : y = -1
            · subst hy1
              have e4 : (x != -1) = true := by simp [hx1]
              have hfe : F = false := by rw [← hfr]; have : stepSame cls x (-1) = false := by simp [stepSame, hx1]
                                         rw [this]; rfl
              subst hfe
              clear hfr hx hy hx1
              go_wp2_with fail
              go_ret
              exact ⟨rfl, Below_drewN (Below1 w _) _⟩
            · have e4 : (y == -1) = false := by simp [hy1]
              have hcl := HCL.out
              obtain ⟨x, rfl⟩ : ∃ j : Nat, x = (j : Int) := ⟨x.toNat, by omega⟩
              obtain ⟨y, rfl⟩ : ∃ j : Nat, y = (j : Int) := ⟨y.toNat, by omega⟩
              have hxl : x < cls.length := by omega
              have hyl : y < cls.length := by omega
              have cx := HC.out.cell x hxl
              have cy := HC.out.cell y hyl
              have x0 : (0 : Int) ≤ (x : Int) := by omega
              have x1 : (x : Int) < (cls.length : Int) := by omega
              have y0 : (0 : Int) ≤ (y : Int) := by omega
              have y1 : (y : Int) < (cls.length : Int) := by omega
              have hst : stepSame cls x y = (cls[x] == cls[y]) := by simp [stepSame, hxl, hyl, hx1, hy1]
              rw [hst] at hfr
              generalize cls[x] = px at cx hfr
              generalize cls[y] = py at cy hfr
              clear hcl hx hy hx1 hy1 hst
              by_cases hp : px = py
              · subst hp
                have e5 : (px != px) = false := by simp
                have HFR := hide hfr
                clear hfr
                go_wp2_with fail
                go_quiet (fail)
                go_wp2_with fail
                go_roundg (ra.length - (k + 1))
                case measure => omega
                case rel => exact ⟨k + 1, m + nq, by omega, rfl, by go_num, by simp, by simpa using HFR.out⟩
              · have e5 : (px != py) = true := by simp [hp]
                have hfe : F = false := by rw [← hfr]; simp [hp]
                subst hfe
                clear hfr hp
                go_wp2_with fail
                go_quiet (fail)
                go_wp2_with fail
                go_ret
                exact ⟨rfl, by rw [World.drewN_drewN]; exact Below_drewN (Below1 w _) _⟩
        · have e0 : decide ((k : Int) < (ra.length : Int)) = false := by simp; omega
          rw [List.drop_of_length_le (by omega)] at hfr
          have hfe : F = true := by rw [← hfr]; rfl
          subst hfe
          clear hfr
          go_wp2_with fail
          go_ret
          exact ⟨rfl, Below_drewN (Below1 w _) _⟩
    · have e2 : (ua != ub) = true := by simp [hne2]
      rw [if_pos (.inr hne2)] at hF
      subst hF
      go_enter Try.func144, Try.ntmps144
      go_wp2_with fail
      go_quiet (fail)
      go_wp2_with fail
      go_ret
      exact ⟨rfl, Below_drewN (Below1 w _) _⟩
  · have e1 : (ca != cb) = true := by simp [hne]
    rw [if_pos (.inl hne)] at hF
    subst hF
    go_enter Try.func144, Try.ntmps144
    go_wp2_with fail
    go_quiet (fail)
    go_wp2_with fail
    go_ret
    exact ⟨rfl, Below_drewN (Below1 w _) _⟩
end Go.Proofs.Ytcckhngbdoiikaa

namespace Go.Proofs.Ytcckhngbdoiikaa
open Go.RowKit Go.Deep
set_option linter.unusedVariables false

/-- Whole blocks of ints, of bools. -/
def intsA (l : List Int) : Array Value := (l.map (Value.int .i64)).toArray
def boolsA (l : List Bool) : Array Value := (l.map Value.bool).toArray
theorem intsA_set (l : List Int) (i : Nat) (x : Int) : (intsA l).setIfInBounds i (.int .i64 x) = intsA (l.set i x) := by simp [intsA, List.map_set]
theorem boolsA_set (l : List Bool) (i : Nat) (x : Bool) : (boolsA l).setIfInBounds i (.bool x) = boolsA (l.set i x) := by simp [boolsA, List.map_set]
theorem intsA_made (n : Nat) : madeCells #[.int .i64 0] n = intsA (List.replicate n 0) := by
  apply Array.toList_inj.1
  rw [toList_madeCells_one]
  simp [intsA]
theorem boolsA_made (n : Nat) : madeCells #[.bool false] n = boolsA (List.replicate n false) := by
  apply Array.toList_inj.1
  rw [toList_madeCells_one]
  simp [boolsA]
theorem IRow.ofBlk {w : World} {b : Nat} {l : List Int} (h : Blk w b (intsA l) 3) (hl : l.length ≤ 100000) : IRow w (.slice (some ⟨b, 0, none⟩) l.length l.length) l :=
  ownsRow_mk (by simp) h (Nat.le_refl _) (by unfold maxLen; omega) (by simp [intsA]) (by simp [intsA, List.take_of_length_le])
theorem BRow.ofBlk {w : World} {b : Nat} {l : List Bool} (h : Blk w b (boolsA l) 4) (hl : l.length ≤ 100000) : BRow w (.slice (some ⟨b, 0, none⟩) l.length l.length) l :=
  ownsRow_mk (by simp) h (Nat.le_refl _) (by unfold maxLen; omega) (by simp [boolsA]) (by simp [boolsA, List.take_of_length_le])
theorem intsA_cell {w : World} {b : Nat} {l : List Int} (h : Blk w b (intsA l) 3) (i : Nat) (hi : i < l.length) : w.cell? ⟨b, i, none⟩ = some (.int .i64 l[i]) := by
  rw [h.cell]; simp [intsA, hi]
theorem boolsA_cell {w : World} {b : Nat} {l : List Bool} (h : Blk w b (boolsA l) 4) (i : Nat) (hi : i < l.length) : w.cell? ⟨b, i, none⟩ = some (.bool l[i]) := by
  rw [h.cell]; simp [boolsA, hi]

theorem Try.infoI3 : (Try.prog.info? 3).map (fun i => (i.zero, i.size, i.bytes)) = some (some (.int .i64 0), 1, 8) := by kernel_rfl
theorem Try.infoB3 : (Try.prog.info? 4).map (fun i => (i.zero, i.size, i.bytes)) = some (some (.bool false), 1, 1) := by kernel_rfl
theorem Try.infoN3 : (Try.prog.info? 40).map (fun i => (i.zero, i.size, i.bytes)) = some (some (.slice none 0 0), 1, 24) := by kernel_rfl
theorem makeInts (n : Nat) (hn : n ≤ 100000) (w : World) : (Instr.makeSlice 40 (.int .i64 (n : Int)) (.int .i64 (n : Int))).run Try.prog w = .ok (.slice (some ⟨w.heap.size, 0, none⟩) n n) (w.alloc (.cells (intsA (List.replicate n 0)) 3)) := by
  rw [run_make_row' (P := Try.prog) 40 3 (.int .i64 0) 8 Try.underlying40 Try.infoI3 rfl .i64 .i64 n (by omega) (by omega) w, intsA_made]
theorem makeBools (n : Nat) (hn : n ≤ 100000) (w : World) : (Instr.makeSlice 119 (.int .i64 (n : Int)) (.int .i64 (n : Int))).run Try.prog w = .ok (.slice (some ⟨w.heap.size, 0, none⟩) n n) (w.alloc (.cells (boolsA (List.replicate n false)) 4)) := by
  rw [run_make_row' (P := Try.prog) 119 4 (.bool false) 1 Try.underlying119 Try.infoB3 rfl .i64 .i64 n (by omega) (by omega) w, boolsA_made]

/-! ### refine, plainly -/
theorem mateF_lt (g : Graph) (cls : List Int) (n : Nat) : ∀ (f k e : Nat), mateF g cls n f k = some e → e < n
  | 0, k, e, h => by simp [mateF] at h
  | f + 1, k, e, h => by
    unfold mateF at h
    split at h
    · split at h
      · cases h; assumption
      · exact mateF_lt g cls n f (k + 1) e h
    · cases h
theorem refineAt_len (g : Graph) (cls : List Int) : ∀ n, (refineAt g cls n).1.length = n
  | 0 => rfl
  | n + 1 => by unfold refineAt; split <;> simp [refineAt_len g cls n]
theorem refineAt_bd (g : Graph) (cls : List Int) : ∀ n, (∀ x ∈ (refineAt g cls n).1, 0 ≤ x ∧ x < ((refineAt g cls n).2 : Int)) ∧ (refineAt g cls n).2 ≤ n
  | 0 => by simp [refineAt]
  | n + 1 => by
    have ih := refineAt_bd g cls n
    have hl := refineAt_len g cls n
    unfold refineAt
    split
    · rename_i e he
      have hlt := mateF_lt g cls n _ _ e he
      refine ⟨fun x hx => ?_, by simp; omega⟩
      simp at hx
      rcases hx with hx | hx
      · exact ih.1 x hx
      · subst hx
        have : (refineAt g cls n).1[e]?.getD 0 ∈ (refineAt g cls n).1 := by
          rw [List.getElem?_eq_getElem (by omega)]; simp
        exact ih.1 _ this
    · refine ⟨fun x hx => ?_, by simp; omega⟩
      simp at hx ⊢
      rcases hx with hx | hx
      · have := ih.1 x hx; omega
      · omega
end Go.Proofs.Ytcckhngbdoiikaa

namespace Go.Proofs.Ytcckhngbdoiikaa
open Go.RowKit Go.Deep
set_option linter.unusedVariables false

/-- Rows of rows of ints that the program is making; O: the blocks that they take. -/
structure Rows2 (w : World) (O : Nat → Prop) (nv : Value) (rows : List (List Int)) : Prop where
  ex : ∃ vs : List Value, NRow w nv vs ∧ vs.length = rows.length ∧ (∀ i v, vs[i]? = some v → IRow w v (rows.getD i []) ∧ ∀ b, v.ownBlock = some b → O b ∧ nv.ownBlock ≠ some b)
  ob : ∀ b, nv.ownBlock = some b → O b
  olt : ∀ k, O k → k < w.heap.size

theorem Rows2.kept {w w' : World} {O ex : Nat → Prop} {nv : Value} {rows : List (List Int)} (h : Rows2 w O nv rows) (k : Kept ex w w') (he : ∀ b, O b → ¬ ex b) : Rows2 w' O nv rows := by
  obtain ⟨vs, h1, h2, h3⟩ := h.ex
  exact ⟨⟨vs, h1.kept k (fun b hb => he b (h.ob b hb)), h2, fun i v hv => ⟨(h3 i v hv).1.kept k (fun b hb => he b ((h3 i v hv).2 b hb).1), (h3 i v hv).2⟩⟩, h.ob, fun b hb => Nat.lt_of_lt_of_le (h.olt b hb) k.size⟩
theorem Rows2.below {w w' : World} {O : Nat → Prop} {nv : Value} {rows : List (List Int)} (h : Rows2 w O nv rows) (k : Below w.heap.size w w') : Rows2 w' O nv rows := h.kept (ex := fun _ => False) (Kept.ofBelow k) (fun _ _ e => e)
theorem Rows2.setCell {w : World} {O : Nat → Prop} {nv : Value} {rows : List (List Int)} (h : Rows2 w O nv rows) {a : Addr} (ha : ¬ O a.block) (v : Value) : Rows2 (w.setCell a v) O nv rows :=
  h.kept (ex := fun k => k = a.block) (Kept.setCell (ex := fun k => k = a.block) (Kept.refl _ _) (fun _ => rfl) _) (fun b hb e => ha (e ▸ hb))
theorem Rows2.alloc {w : World} {O : Nat → Prop} {nv : Value} {rows : List (List Int)} (h : Rows2 w O nv rows) (o : Obj) : Rows2 (w.alloc o) O nv rows := h.below (Below1 _ _)
theorem Rows2.drew {w : World} {O : Nat → Prop} {nv : Value} {rows : List (List Int)} (h : Rows2 w O nv rows) : Rows2 w.drew O nv rows := h.kept (ex := fun _ => False) (Kept.refl _ _).drew (fun _ _ e => e)
theorem Rows2.drewN {w : World} {O : Nat → Prop} {nv : Value} {rows : List (List Int)} (h : Rows2 w O nv rows) (n : Nat) : Rows2 (w.drewN n) O nv rows := h.kept (ex := fun _ => False) ((Kept.refl _ _).drewN n) (fun _ _ e => e)
theorem Rows2.nil (w : World) : Rows2 w (fun _ => False) (.slice none 0 0) [] :=
  ⟨⟨[], World.ownsRow_nil _ _ _ _, rfl, fun i v h => by simp at h⟩, fun b h => by simp [Value.ownBlock] at h, fun k h => h.elim⟩
theorem Rows2.push {w w' : World} {O : Nat → Prop} {nv : Value} {rows : List (List Int)} {vs : List Value} (h : Rows2 w O nv rows) (hN : NRow w nv vs) (hvl : vs.length = rows.length)
    (hvs : ∀ i v, vs[i]? = some v → IRow w v (rows.getD i []) ∧ ∀ b, v.ownBlock = some b → O b ∧ nv.ownBlock ≠ some b) {b g cap n : Nat} {row : List Int}
    (hr : IRow w (.slice (some ⟨b, 0, none⟩) n n) row) (hb : ¬ O b) (hown : w'.ownsRow 0 40 1 (.slice (some ⟨g, 0, none⟩) (vs.length + 1) cap) (vs.length + 1) (vs ++ [.slice (some ⟨b, 0, none⟩) n n]))
    (hg : w.grownBy w' nv.ownBlock) (hat : nv.ownBlock = some g ∨ g = w.heap.size) (hlt : g < w'.heap.size) :
    Rows2 w' (fun k => O k ∨ k = g ∨ k = b) (.slice (some ⟨g, 0, none⟩) (vs.length + 1) cap) (rows ++ [row]) ∧ Kept O w w' := by
  have hk : Kept O w w' := ⟨hg.os, hg.tape, hg.output, hg.size, fun k hk he => hg.block k hk (fun e => he (h.ob k e.symm))⟩
  have hbl : b < w.heap.size := ownsRow_lt hr b rfl
  have hnb : nv.ownBlock ≠ some b := fun e => hb (h.ob b e)
  have hgb : g ≠ b := by
    intro e
    subst e
    rcases hat with e | e
    · exact hb (h.ob _ e)
    · omega
  refine ⟨⟨⟨vs ++ [.slice (some ⟨b, 0, none⟩) n n], ?_, by simp [hvl], ?_⟩, ?_, ?_⟩, hk⟩
  · show World.ownsRow _ 0 40 1 _ (vs ++ [_]).length _
    rw [List.length_append]
    exact hown
  · intro i v hv
    by_cases hi : i < vs.length
    · rw [List.getElem?_append_left hi] at hv
      obtain ⟨q1, q2⟩ := hvs i v hv
      have e1 : (rows ++ [row]).getD i [] = rows.getD i [] := by simp [List.getElem?_append_left (show i < rows.length by omega)]
      rw [e1]
      refine ⟨World.ownsRow.kept q1 hg (by
        cases e : v.ownBlock with
        | none => exact .inl rfl
        | some k => exact .inr (fun e' => (q2 k e).2 e'.symm)), fun k hk' => ⟨.inl (q2 k hk').1, fun e => ?_⟩⟩
      cases (Option.some.inj e : g = k)
      rcases hat with e' | e'
      · exact (q2 _ hk').2 e'
      · have := h.olt _ (q2 _ hk').1; omega
    · have hi' : i = vs.length := by
        have := (List.getElem?_eq_some_iff.1 hv).1
        simp at this; omega
      subst hi'
      rw [List.getElem?_append_right (Nat.le_refl _), Nat.sub_self] at hv
      cases hv
      have e1 : (rows ++ [row]).getD vs.length [] = row := by simp [hvl]
      rw [e1]
      refine ⟨World.ownsRow.kept hr hg (.inr (fun e => hnb e.symm)), fun k hk' => ?_⟩
      cases (Option.some.inj hk' : b = k)
      exact ⟨.inr (.inr rfl), fun e => hgb (Option.some.inj e)⟩
  · intro k e
    cases (Option.some.inj e : g = k)
    exact .inr (.inl rfl)
  · intro k e
    rcases e with e | e | e
    · exact Nat.lt_of_lt_of_le (h.olt k e) hg.size
    · omega
    · have := hg.size; omega
theorem Rows2.graph {w : World} {O : Nat → Prop} {rv nv : Value} {g : Graph} (h : Rows2 w O nv g.next) (hr : IRow w rv g.rule) : GraphAt w rv nv g := by
  obtain ⟨vs, h1, h2, h3⟩ := h.ex
  exact ⟨hr, vs, h1, h2, fun i v hv => (h3 i v hv).1⟩

theorem Try.infoG : (Try.prog.info? 101).map (·.size) = some 2 := by kernel_rfl
theorem resultsGraph {fn : Func} {p : Tmp} (h : fn.results = #[.cell p 101]) {c : Array Value} (tmps : Array Value) {w : World} {g : Nat} (hc : c.size = 2)
    (hp : tmps.getD p undef = .pointer (some ⟨g, 0, none⟩)) (hg : Blk w g c 101) : (results fn tmps).run Try.prog w = .ok (.agg c) w :=
  results_cell_row h tmps w g 101 _ (0, 0) _ hp hg Try.underlying101 rfl (by rw [hc]; exact Try.infoG)
end Go.Proofs.Ytcckhngbdoiikaa
