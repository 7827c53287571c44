import Derived.Test.YtmgpdaemcbbikaaAtom
import Derived.Test.YtmgpdaemcbbikaaPiece
import Derived.Test.YtmgpdaemcbbikaaAlt
import Derived.Test.YtmgpdaemcbbikaaExpr
namespace Go.Proofs.Ytmgpdaemcbbikaa
open Go.RowKit Go.Deep
set_option linter.unusedVariables false

theorem expr_all (s : ByteArray) (rb gb : Nat) (hs : s.size ≤ 120) : ∀ f, ExprC s rb gb f
  | 0 => fun w p R O h hp hR hf => absurd hf (by omega)
  | f + 1 => fun w p R O h hp hR hf =>
    expression_any s rb gb f (alternative_any s rb gb f (piece_any s rb gb f (atom_is s rb gb f (expr_all s rb gb hs f) hs) hs) hs) hs w p R O h hp hR (by omega)

structure GoodR (s : ByteArray) (p : Nat) (r : Bool × Nat × RulesT) : Prop where
  le : p ≤ r.2.1
  top : r.2.1 ≤ s.size
  ok : r.1 = true → p < r.2.1
  few : r.2.2.follow.length ≤ r.2.1
  last : r.2.2.last.length ≤ r.2.1
theorem ruleF_good (s : ByteArray) (p : Nat) (R : RulesT) (hp : p ≤ s.size) (hR : R.follow.length ≤ p) (hL : R.last.length ≤ p) : GoodR s p (ruleF s p R) := by
  have g := exprF_good s (s.size + 1) p R hp hR
  unfold ruleF
  split
  · rename_i hok
    have := g.ok hok
    exact ⟨g.le, g.top, fun _ => this, g.few, by simp [RulesT.endRule, g.last]; omega⟩
  · exact ⟨g.le, g.top, by simp, g.few, by simp [g.last]; have := g.le; omega⟩

set_option maxHeartbeats 1600000 in
theorem rulem_any (s : ByteArray) (rb gb : Nat) (hs : s.size ≤ 120) (w : World) (p : Nat) (R : RulesT) (O : Nat → Prop) (h : RS w rb gb s p R O) (hp : p ≤ s.size) (hR : R.follow.length ≤ p) (hL : R.last.length ≤ p) :
    Calls Try.prog 99 #[.pointer (some ⟨rb, 0, none⟩)] w fun e w' =>
      e = .returned (.bool (ruleF s p R).1) ∧ RPost w w' rb gb s O (ruleF s p R).2.1 (ruleF s p R).2.2 := by
  have hrb := h.lt
  have nO : ∀ k, O k → k < w.heap.size := h.olt
  have hE := expr_all s rb gb hs (s.size + 1) w p R O h hp hR (by omega)
  have hg := exprF_good s (s.size + 1) p R hp hR
  unfold ruleF
  generalize exprF s (s.size + 1) p R = r at hE hg ⊢
  obtain ⟨q, ok, p1, R1⟩ := r
  simp only at hE ⊢
  have hlast : R1.last.length ≤ 1000 := by have := hg.last; simp only at this; rw [this]; omega
  have HE := hide hE
  clear hE hg
  cases ok with
  | false =>
    rw [if_neg (by simp)]
    go_enter Try.func99, Try.ntmps99
    go_wp2_with fail
    refine HE.out.mono ?_
    rintro e w1 ⟨rfl, O1, hS1, hk1, ho1⟩
    have hN1 := Blk.new w1 part0 213
    have hn1 : ¬ O1 w1.heap.size := fun e => by have := hS1.olt _ e; omega
    have hl1 := hS1.lt
    have hz := hk1.size
    go_wp2_with (first | refine storeP rfl (.tmp 3) (.tmp 8) rfl w1.heap.size rfl rfl hN1 rfl ?_)
    go_ret
    exact ⟨rfl, O1, (hS1.alloc _).setRow (by omega) hn1 _, (hk1.alloc _).setRow (by omega) _, ho1⟩
  | true =>
    rw [if_pos rfl]
    go_enter Try.func99, Try.ntmps99
    go_wp2_with fail
    refine HE.out.mono ?_
    rintro e w1 ⟨rfl, O1, hS1, hk1, ho1⟩
    have hN1 := Blk.new w1 part0 213
    have hn1 : ¬ O1 w1.heap.size := fun e => by have := hS1.olt _ e; omega
    have hl1 := hS1.lt
    have hz := hk1.size
    have hS2 := (hS1.alloc (.cells part0 213)).setRow (g := w1.heap.size) (by omega) hn1 (partC q)
    have hk2 := (hk1.alloc (.cells part0 213)).setRow (g := w1.heap.size) (by omega) (partC q)
    have hI2 := hN1.setRow (partC q)
    have HO := hide ho1
    clear hS1 hk1 ho1 HE
    go_wp2_with (first | refine storeP rfl (.tmp 3) (.tmp 8) rfl w1.heap.size rfl rfl hN1 rfl ?_)
    clear hN1
    generalize ((w1.alloc (.cells part0 213)).setRow w1.heap.size (partC q)) = w2 at hS2 hk2 hI2 ⊢
    generalize w1.heap.size = m at hI2 hl1 hz hn1 ⊢
    obtain ⟨fv, lv, hRu⟩ := hS2.ru
    have c2 := hS2.rd.c2
    have i0 : w2.cell? ⟨m, 0, none⟩ = some (.int .u64 (q.first.lo.toNat : Int)) := hI2.cell 0
    have i1 : w2.cell? ⟨m, 1, none⟩ = some (.int .u64 (q.first.hi.toNat : Int)) := hI2.cell 1
    have i2 : w2.cell? ⟨m, 2, none⟩ = some (.int .u64 (q.last.lo.toNat : Int)) := hI2.cell 2
    have i3 : w2.cell? ⟨m, 3, none⟩ = some (.int .u64 (q.last.hi.toNat : Int)) := hI2.cell 3
    have i4 : w2.cell? ⟨m, 4, none⟩ = some (.bool q.empty) := hI2.cell 4
    have zr := hS2.lt
    have zm := hI2.lt
    have hno := hS2.no
    have HH : Hid (RS w2 rb gb s p1 R1 O1 ∧ Kept (fun k => k = rb ∨ O k) w w2 ∧ Blk w2 m (partC q) 213 ∧ RulesAt w2 gb O1 R1 fv lv) := ⟨hS2, hk2, hI2, hRu⟩
    clear hS2 hk2 hI2 hRu
    go_wp2_with fail
    go_region_held3 (fun w' => w'.cell? ⟨rb, 2, none⟩ = some (.pointer (some ⟨gb, 0, none⟩)) ∧ w'.cell? ⟨m, 0, none⟩ = some (.int .u64 (q.first.lo.toNat : Int)) ∧ w'.cell? ⟨m, 1, none⟩ = some (.int .u64 (q.first.hi.toNat : Int)) ∧ w'.cell? ⟨m, 2, none⟩ = some (.int .u64 (q.last.lo.toNat : Int)) ∧ w'.cell? ⟨m, 3, none⟩ = some (.int .u64 (q.last.hi.toNat : Int)) ∧ w'.cell? ⟨m, 4, none⟩ = some (.bool q.empty))
      (first | exact ⟨j0, j1, j2, j3, j4, j5⟩ | exact ⟨c2, i0, i1, i2, i3, i4⟩)
      (first | (go_at_call 129; refine (endRule_any R1 gb O1 fv lv q _ HH.out.2.2.2.drew hlast).mono ?_; rintro e w4 ⟨rfl, O4, lv4, hR4, hk4, ho4⟩; have j0 := (hk4.cell (p := ⟨rb, 2, none⟩) zr hno).trans c2; have j1 := (hk4.cell (p := ⟨m, 0, none⟩) zm hn1).trans i0; have j2 := (hk4.cell (p := ⟨m, 1, none⟩) zm hn1).trans i1; have j3 := (hk4.cell (p := ⟨m, 2, none⟩) zm hn1).trans i2; have j4 := (hk4.cell (p := ⟨m, 3, none⟩) zm hn1).trans i3; have j5 := (hk4.cell (p := ⟨m, 4, none⟩) zm hn1).trans i4))
    go_wp2_with fail
    go_ret
    obtain ⟨hS2, hk2, hI2, hRu⟩ := HH.out
    have hz2 : w.heap.size ≤ w2.heap.size := hk2.size
    refine ⟨rfl, O4, hS2.drew.turned' hR4 hk4 ho4, hk2.drew.trans hk4 (fun i hi e => .inr (by rcases HO.out i e with e | e; exact e; omega)), ?_⟩
    intro k hk
    rcases ho4 k hk with e | e
    · exact HO.out k e
    · exact .inr (by simp at e; omega)
end Go.Proofs.Ytmgpdaemcbbikaa
