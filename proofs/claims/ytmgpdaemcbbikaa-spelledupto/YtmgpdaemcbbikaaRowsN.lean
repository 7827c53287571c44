import Derived.Test.YtmgpdaemcbbikaaMade
namespace Go.Proofs.Ytmgpdaemcbbikaa
open Go.RowKit Go.Deep
set_option linter.unusedVariables false

/-- Rows of rows of ints that the program is making; O: the blocks that they take. -/
structure Rows2 (w : World) (O : Nat → Prop) (nv : Value) (rows : List (List Int)) : Prop where
  ex : ∃ vs : List Value, NRow w nv vs ∧ vs.length = rows.length ∧ (∀ i v, vs[i]? = some v → IRow w v (rows.getD i []) ∧ ∀ b, v.ownBlock = some b → O b ∧ nv.ownBlock ≠ some b)
  ob : ∀ b, nv.ownBlock = some b → O b
  olt : ∀ k, O k → k < w.heap.size

theorem Rows2.kept {w w' : World} {O ex : Nat → Prop} {nv : Value} {rows : List (List Int)} (h : Rows2 w O nv rows) (k : Kept ex w w') (he : ∀ b, O b → ¬ ex b) : Rows2 w' O nv rows := by
  obtain ⟨vs, h1, h2, h3⟩ := h.ex
  exact ⟨⟨vs, h1.kept k (fun b hb => he b (h.ob b hb)), h2, fun i v hv => ⟨(h3 i v hv).1.kept k (fun b hb => he b ((h3 i v hv).2 b hb).1), (h3 i v hv).2⟩⟩, h.ob, fun b hb => Nat.lt_of_lt_of_le (h.olt b hb) k.size⟩
theorem Rows2.below {w w' : World} {O : Nat → Prop} {nv : Value} {rows : List (List Int)} (h : Rows2 w O nv rows) (k : Below w.heap.size w w') : Rows2 w' O nv rows := h.kept (ex := fun _ => False) (Kept.ofBelow k) (fun _ _ e => e)
theorem Rows2.setCell {w : World} {O : Nat → Prop} {nv : Value} {rows : List (List Int)} (h : Rows2 w O nv rows) {a : Addr} (ha : ¬ O a.block) (v : Value) : Rows2 (w.setCell a v) O nv rows :=
  h.kept (ex := fun k => k = a.block) (Kept.setCell (ex := fun k => k = a.block) (Kept.refl _ _) (fun _ => rfl) _) (fun b hb e => ha (e ▸ hb))
theorem Rows2.alloc {w : World} {O : Nat → Prop} {nv : Value} {rows : List (List Int)} (h : Rows2 w O nv rows) (o : Obj) : Rows2 (w.alloc o) O nv rows := h.below (Below1 _ _)
theorem Rows2.drew {w : World} {O : Nat → Prop} {nv : Value} {rows : List (List Int)} (h : Rows2 w O nv rows) : Rows2 w.drew O nv rows := h.kept (ex := fun _ => False) (Kept.refl _ _).drew (fun _ _ e => e)
theorem Rows2.drewN {w : World} {O : Nat → Prop} {nv : Value} {rows : List (List Int)} (h : Rows2 w O nv rows) (n : Nat) : Rows2 (w.drewN n) O nv rows := h.kept (ex := fun _ => False) ((Kept.refl _ _).drewN n) (fun _ _ e => e)
theorem Rows2.nil (w : World) : Rows2 w (fun _ => False) (.slice none 0 0) [] :=
  ⟨⟨[], World.ownsRow_nil _ _ _ _, rfl, fun i v h => by simp at h⟩, fun b h => by simp [Value.ownBlock] at h, fun k h => h.elim⟩
theorem Rows2.push {w w' : World} {O : Nat → Prop} {nv : Value} {rows : List (List Int)} {vs : List Value} (h : Rows2 w O nv rows) (hN : NRow w nv vs) (hvl : vs.length = rows.length)
    (hvs : ∀ i v, vs[i]? = some v → IRow w v (rows.getD i []) ∧ ∀ b, v.ownBlock = some b → O b ∧ nv.ownBlock ≠ some b) {b g cap n : Nat} {row : List Int}
    (hr : IRow w (.slice (some ⟨b, 0, none⟩) n n) row) (hb : ¬ O b) (hown : w'.ownsRow 0 40 1 (.slice (some ⟨g, 0, none⟩) (vs.length + 1) cap) (vs.length + 1) (vs ++ [.slice (some ⟨b, 0, none⟩) n n]))
    (hg : w.grownBy w' nv.ownBlock) (hat : nv.ownBlock = some g ∨ g = w.heap.size) (hlt : g < w'.heap.size) :
    Rows2 w' (fun k => O k ∨ k = g ∨ k = b) (.slice (some ⟨g, 0, none⟩) (vs.length + 1) cap) (rows ++ [row]) ∧ Kept O w w' := by
  have hk : Kept O w w' := ⟨hg.os, hg.tape, hg.output, hg.size, fun k hk he => hg.block k hk (fun e => he (h.ob k e.symm))⟩
  have hbl : b < w.heap.size := ownsRow_lt hr b rfl
  have hnb : nv.ownBlock ≠ some b := fun e => hb (h.ob b e)
  have hgb : g ≠ b := by
    intro e
    subst e
    rcases hat with e | e
    · exact hb (h.ob _ e)
    · omega
  refine ⟨⟨⟨vs ++ [.slice (some ⟨b, 0, none⟩) n n], ?_, by simp [hvl], ?_⟩, ?_, ?_⟩, hk⟩
  · show World.ownsRow _ 0 40 1 _ (vs ++ [_]).length _
    rw [List.length_append]
    exact hown
  · intro i v hv
    by_cases hi : i < vs.length
    · rw [List.getElem?_append_left hi] at hv
      obtain ⟨q1, q2⟩ := hvs i v hv
      have e1 : (rows ++ [row]).getD i [] = rows.getD i [] := by simp [List.getElem?_append_left (show i < rows.length by omega)]
      rw [e1]
      refine ⟨World.ownsRow.kept q1 hg (by
        cases e : v.ownBlock with
        | none => exact .inl rfl
        | some k => exact .inr (fun e' => (q2 k e).2 e'.symm)), fun k hk' => ⟨.inl (q2 k hk').1, fun e => ?_⟩⟩
      cases (Option.some.inj e : g = k)
      rcases hat with e' | e'
      · exact (q2 _ hk').2 e'
      · have := h.olt _ (q2 _ hk').1; omega
    · have hi' : i = vs.length := by
        have := (List.getElem?_eq_some_iff.1 hv).1
        simp at this; omega
      subst hi'
      rw [List.getElem?_append_right (Nat.le_refl _), Nat.sub_self] at hv
      cases hv
      have e1 : (rows ++ [row]).getD vs.length [] = row := by simp [hvl]
      rw [e1]
      refine ⟨World.ownsRow.kept hr hg (.inr (fun e => hnb e.symm)), fun k hk' => ?_⟩
      cases (Option.some.inj hk' : b = k)
      exact ⟨.inr (.inr rfl), fun e => hgb (Option.some.inj e)⟩
  · intro k e
    cases (Option.some.inj e : g = k)
    exact .inr (.inl rfl)
  · intro k e
    rcases e with e | e | e
    · exact Nat.lt_of_lt_of_le (h.olt k e) hg.size
    · omega
    · have := hg.size; omega
theorem Rows2.graph {w : World} {O : Nat → Prop} {rv nv : Value} {g : Graph} (h : Rows2 w O nv g.next) (hr : IRow w rv g.rule) : GraphAt w rv nv g := by
  obtain ⟨vs, h1, h2, h3⟩ := h.ex
  exact ⟨hr, vs, h1, h2, fun i v hv => (h3 i v hv).1⟩

theorem Try.infoG : (Try.prog.info? 91).map (·.size) = some 2 := by kernel_rfl
theorem resultsGraph {fn : Func} {p : Tmp} (h : fn.results = #[.cell p 91]) {c : Array Value} (tmps : Array Value) {w : World} {g : Nat} (hc : c.size = 2)
    (hp : tmps.getD p undef = .pointer (some ⟨g, 0, none⟩)) (hg : Blk w g c 91) : (results fn tmps).run Try.prog w = .ok (.agg c) w :=
  results_cell_row h tmps w g 91 _ (0, 0) _ hp hg Try.underlying91 rfl (by rw [hc]; exact Try.infoG)
end Go.Proofs.Ytmgpdaemcbbikaa
