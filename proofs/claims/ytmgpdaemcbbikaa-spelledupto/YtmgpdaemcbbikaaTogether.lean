import Derived.Test.YtmgpdaemcbbikaaLeads
import Derived.Deep.QuietTactic
import Derived.BigQuiet
namespace Go.Proofs.Ytmgpdaemcbbikaa
open Go.RowKit Go.Deep
set_option linter.unusedVariables false

/-- A graph whose rows fit. -/
structure GOk (g : Graph) (K : Nat) : Prop where
  len : g.next.length = g.rule.length
  row : ∀ i, i < g.next.length → (g.next.getD i []).length = K ∧ RowOk g.rule.length (g.next.getD i [])

theorem rowsSame_drop (cls : List Int) (ra rb : List Int) (k : Nat) (h1 : k < ra.length) (h2 : k < rb.length) :
    rowsSame cls (ra.drop k) (rb.drop k) = (stepSame cls ra[k] rb[k] && rowsSame cls (ra.drop (k + 1)) (rb.drop (k + 1))) := by
  have e1 : ra.drop k = ra[k] :: ra.drop (k + 1) := List.drop_eq_getElem_cons h1
  have e2 : rb.drop k = rb[k] :: rb.drop (k + 1) := List.drop_eq_getElem_cons h2
  rw [e1, e2]
  rfl
theorem Below_drewN {B : Nat} {a w : World} (h : Below B a w) (n : Nat) : Below B a (w.drewN n) := ⟨h.os, h.tape, h.output, h.size, h.block⟩

set_option maxHeartbeats 3200000 in
theorem together_any (rv nv cv : Value) (g : Graph) (K : Nat) (cls : List Int) (a b : Nat) (w : World) (hg : GraphAt w rv nv g) (ho : GOk g K) (hc : IRow w cv cls) (hcl : cls.length = g.rule.length) (ha : a < g.rule.length) (hb : b < g.rule.length) (hn : g.rule.length ≤ 1000) (hK : K ≤ 1000) :
    Calls Try.prog 135 #[.agg #[rv, nv], cv, .int .i64 (a : Int), .int .i64 (b : Int)] w fun e w' => e = .returned (.bool (togetherF g cls a b)) ∧ Below w.heap.size w w' := by
  obtain ⟨vs, hN, hvl, hvs⟩ := hg.next
  have hlen := ho.len
  obtain ⟨cd, ccap, rfl, hcrow⟩ := hc.form
  obtain ⟨rd, rcap, rfl, hrrow⟩ := hg.rule.form
  obtain ⟨nd, ncap, rfl, hnrow⟩ := hN.form
  rcases hcrow with h0 | ⟨cg, rfl⟩
  · omega
  rcases hrrow with h0 | ⟨rg, rfl⟩
  · omega
  rcases hnrow with h0 | ⟨ng, rfl⟩
  · omega
  have cla := hc.cell a (by omega)
  have clb := hc.cell b (by omega)
  have rla := hg.rule.cell a ha
  have rlb := hg.rule.cell b hb
  have nla := hN.cell a (by omega)
  have nlb := hN.cell b (by omega)
  have hIa := hvs a vs[a] (List.getElem?_eq_getElem _)
  have hIb := hvs b vs[b] (List.getElem?_eq_getElem _)
  generalize vs[a] = va at nla hIa
  generalize vs[b] = vb at nlb hIb
  have hra := ho.row a (by omega)
  have hrb := ho.row b (by omega)
  generalize hgna : g.next.getD a [] = ra at hIa hra
  generalize hgnb : g.next.getD b [] = rb at hIb hrb
  obtain ⟨ad, acap, rfl, harow⟩ := hIa.form
  obtain ⟨bd, bcap, rfl, hbrow⟩ := hIb.form
  obtain ⟨hral, hraok⟩ := hra
  obtain ⟨hrbl, hrbok⟩ := hrb
  have zc := ownsRow_lt hc cg rfl
  have zr := ownsRow_lt hg.rule rg rfl
  have zn := ownsRow_lt hN ng rfl
  have a0 : (0 : Int) ≤ (a : Int) := by omega
  have a1 : (a : Int) < (cls.length : Int) := by omega
  have a2 : (a : Int) < (g.rule.length : Int) := by omega
  have a3 : (a : Int) < (vs.length : Int) := by omega
  have b0 : (0 : Int) ≤ (b : Int) := by omega
  have b1 : (b : Int) < (cls.length : Int) := by omega
  have b2 : (b : Int) < (g.rule.length : Int) := by omega
  have b3 : (b : Int) < (vs.length : Int) := by omega
  generalize hF : togetherF g cls a b = F
  unfold togetherF at hF
  have g1 : cls.getD a 0 = cls[a]'(by omega) := by simp [show a < cls.length by omega]
  have g2 : cls.getD b 0 = cls[b]'(by omega) := by simp [show b < cls.length by omega]
  have g3 : g.rule.getD a 0 = g.rule[a] := by simp [ha]
  have g4 : g.rule.getD b 0 = g.rule[b] := by simp [hb]
  rw [g1, g2, g3, g4, hgna, hgnb] at hF
  clear g1 g2 g3 g4 hgna hgnb hvs hN hg ho
  generalize cls[a]'(by omega) = ca at cla hF
  generalize cls[b]'(by omega) = cb at clb hF
  generalize g.rule[a] = ua at rla hF
  generalize g.rule[b] = ub at rlb hF
  have hab : ra.length = rb.length := by omega
  have hraK : ra.length ≤ 1000 := by omega
  have HAB := hide hab
  have HRA := hide hraok
  have HRB := hide hrbok
  have HCL := hide hcl
  have HC := hide hc
  have HIA := hide hIa
  have HIB := hide hIb
  clear hab hlen hvl hcl hral hrbl hraok hrbok hc hIa hIb
  by_cases hne : ca = cb
  · subst hne
    have e1 : (ca != ca) = false := by simp
    by_cases hne2 : ua = ub
    · subst hne2
      have e2 : (ua != ua) = false := by simp
      rw [if_neg (by simp)] at hF
      have HF := hide hF
      clear hF
      go_enter Try.func135, Try.ntmps135
      go_wp2_with fail
      go_quiet (fail)
      go_wp2_with fail
      go_loopg [45] ra.length (fun G i wr => ∃ k m : Nat, k ≤ ra.length ∧ G = ra.length - k ∧ i = .int .i64 (k : Int) ∧ wr = (w.alloc (.cells #[.slice (some ⟨rg, 0, none⟩) g.rule.length rcap, .slice (some ⟨ng, 0, none⟩) vs.length ncap] 91)).drewN m ∧ rowsSame cls (ra.drop k) (rb.drop k) = F)
      case atStart => exact ⟨0, _, by omega, rfl, rfl, rfl, by simpa using HF.out⟩
      case round =>
        obtain ⟨k, m, hk, rfl, rfl, rfl, hfr⟩ := hrel
        clear HF
        by_cases hlt : k < ra.length
        · have e0 : decide ((k : Int) < (ra.length : Int)) = true := by simp; omega
          have hltb : k < rb.length := by have := HAB.out; omega
          rcases harow with h0 | ⟨ag, rfl⟩
          · omega
          rcases hbrow with h0 | ⟨bg, rfl⟩
          · omega
          have r0 := HIA.out.cell k hlt
          have r1 := HIB.out.cell k hltb
          have za := ownsRow_lt HIA.out ag rfl
          have zb := ownsRow_lt HIB.out bg rfl
          have i0 : (0 : Int) ≤ (k : Int) := by omega
          have i1 : (k : Int) < (ra.length : Int) := by omega
          have i2 : (k : Int) < (rb.length : Int) := by omega
          rw [rowsSame_drop cls ra rb k hlt hltb] at hfr
          have hx := HRA.out ra[k] (List.getElem_mem hlt)
          have hy := HRB.out rb[k] (List.getElem_mem hltb)
          generalize ra[k] = x at r0 hfr hx
          generalize rb[k] = y at r1 hfr hy
          by_cases hx1 : x = -1
          · subst hx1
            by_cases hy1 : y = -1
            · subst hy1
              have HFR := hide hfr
              clear hfr hx hy
              go_wp2_with fail
              go_roundg (ra.length - (k + 1))
              case measure => omega
              case rel => exact ⟨k + 1, m, by omega, rfl, by go_num, rfl, by simpa [stepSame] using HFR.out⟩
            · have e3 : ((-1 : Int) != y) = true := by simp; omega
              have hfe : F = false := by rw [← hfr]; have : stepSame cls (-1) y = false := by simp [stepSame]; omega
                                         rw [this]; rfl
              subst hfe
              clear hfr hx hy hy1
              go_wp2_with fail
              go_ret
              exact ⟨rfl, Below_drewN (Below1 w _) _⟩
          · have e3 : (x == -1) = false := by simp [hx1]
            by_cases hy1 : y = -1
            · subst hy1
              have e4 : (x != -1) = true := by simp [hx1]
              have hfe : F = false := by rw [← hfr]; have : stepSame cls x (-1) = false := by simp [stepSame, hx1]
                                         rw [this]; rfl
              subst hfe
              clear hfr hx hy hx1
              go_wp2_with fail
              go_ret
              exact ⟨rfl, Below_drewN (Below1 w _) _⟩
            · have e4 : (y == -1) = false := by simp [hy1]
              have hcl := HCL.out
              obtain ⟨x, rfl⟩ : ∃ j : Nat, x = (j : Int) := ⟨x.toNat, by omega⟩
              obtain ⟨y, rfl⟩ : ∃ j : Nat, y = (j : Int) := ⟨y.toNat, by omega⟩
              have hxl : x < cls.length := by omega
              have hyl : y < cls.length := by omega
              have cx := HC.out.cell x hxl
              have cy := HC.out.cell y hyl
              have x0 : (0 : Int) ≤ (x : Int) := by omega
              have x1 : (x : Int) < (cls.length : Int) := by omega
              have y0 : (0 : Int) ≤ (y : Int) := by omega
              have y1 : (y : Int) < (cls.length : Int) := by omega
              have hst : stepSame cls x y = (cls[x] == cls[y]) := by simp [stepSame, hxl, hyl, hx1, hy1]
              rw [hst] at hfr
              generalize cls[x] = px at cx hfr
              generalize cls[y] = py at cy hfr
              clear hcl hx hy hx1 hy1 hst
              by_cases hp : px = py
              · subst hp
                have e5 : (px != px) = false := by simp
                have HFR := hide hfr
                clear hfr
                go_wp2_with fail
                go_quiet (fail)
                go_wp2_with fail
                go_roundg (ra.length - (k + 1))
                case measure => omega
                case rel => exact ⟨k + 1, m + nq, by omega, rfl, by go_num, by simp, by simpa using HFR.out⟩
              · have e5 : (px != py) = true := by simp [hp]
                have hfe : F = false := by rw [← hfr]; simp [hp]
                subst hfe
                clear hfr hp
                go_wp2_with fail
                go_quiet (fail)
                go_wp2_with fail
                go_ret
                exact ⟨rfl, by rw [World.drewN_drewN]; exact Below_drewN (Below1 w _) _⟩
        · have e0 : decide ((k : Int) < (ra.length : Int)) = false := by simp; omega
          rw [List.drop_of_length_le (by omega)] at hfr
          have hfe : F = true := by rw [← hfr]; rfl
          subst hfe
          clear hfr
          go_wp2_with fail
          go_ret
          exact ⟨rfl, Below_drewN (Below1 w _) _⟩
    · have e2 : (ua != ub) = true := by simp [hne2]
      rw [if_pos (.inr hne2)] at hF
      subst hF
      go_enter Try.func135, Try.ntmps135
      go_wp2_with fail
      go_quiet (fail)
      go_wp2_with fail
      go_ret
      exact ⟨rfl, Below_drewN (Below1 w _) _⟩
  · have e1 : (ca != cb) = true := by simp [hne]
    rw [if_pos (.inl hne)] at hF
    subst hF
    go_enter Try.func135, Try.ntmps135
    go_wp2_with fail
    go_quiet (fail)
    go_wp2_with fail
    go_ret
    exact ⟨rfl, Below_drewN (Below1 w _) _⟩
end Go.Proofs.Ytmgpdaemcbbikaa
