import Derived.Test.YtmgpdaemcbbikaaRules
import Derived.Test.YtmgpdaemcbbikaaKept2
import Derived.Test.YtmgpdaemcbbikaaPlainStates
namespace Go.Proofs.Ytmgpdaemcbbikaa
open Go.RowKit Go.Deep
set_option linter.unusedVariables false

/-- Rows of ints, of bools, of slices of ints. -/
def IRow (w : World) (v : Value) (l : List Int) : Prop := w.ownsRow 0 3 1 v l.length (l.map (Value.int .i64))
def BRow (w : World) (v : Value) (l : List Bool) : Prop := w.ownsRow 0 4 1 v l.length (l.map Value.bool)
def NRow (w : World) (v : Value) (l : List Value) : Prop := w.ownsRow 0 40 1 v l.length l
/-- The graph: its rules, its rows. -/
structure GraphAt (w : World) (rv nv : Value) (g : Graph) : Prop where
  rule : IRow w rv g.rule
  next : ∃ vs : List Value, NRow w nv vs ∧ vs.length = g.next.length ∧ ∀ i v, vs[i]? = some v → IRow w v (g.next.getD i [])

section
variable {w w' : World} {v : Value}
theorem IRow.kept {l : List Int} {ex : Nat → Prop} (h : IRow w v l) (k : Kept ex w w') (he : ∀ b, v.ownBlock = some b → ¬ ex b) : IRow w' v l := ownsRow_kept h k he
theorem BRow.kept {l : List Bool} {ex : Nat → Prop} (h : BRow w v l) (k : Kept ex w w') (he : ∀ b, v.ownBlock = some b → ¬ ex b) : BRow w' v l := ownsRow_kept h k he
theorem NRow.kept {l : List Value} {ex : Nat → Prop} (h : NRow w v l) (k : Kept ex w w') (he : ∀ b, v.ownBlock = some b → ¬ ex b) : NRow w' v l := ownsRow_kept h k he
theorem IRow.below {l : List Int} (h : IRow w v l) (k : Below w.heap.size w w') : IRow w' v l := h.kept (ex := fun _ => False) (Kept.ofBelow k) (fun _ _ e => e)
theorem BRow.below {l : List Bool} (h : BRow w v l) (k : Below w.heap.size w w') : BRow w' v l := h.kept (ex := fun _ => False) (Kept.ofBelow k) (fun _ _ e => e)
theorem NRow.below {l : List Value} (h : NRow w v l) (k : Below w.heap.size w w') : NRow w' v l := h.kept (ex := fun _ => False) (Kept.ofBelow k) (fun _ _ e => e)
theorem ownsRow_lt {e : TypeId} {size n : Nat} {xs : List Value} (h : w.ownsRow 0 e size v n xs) : ∀ b, v.ownBlock = some b → b < w.heap.size := by
  intro b hb
  obtain ⟨_, ⟨rfl, _⟩ | ⟨g, cap, cur, rfl, _, h3, _⟩⟩ := h
  · simp [Value.ownBlock] at hb
  · cases (Option.some.inj hb : g = b)
    exact Blk.lt (h3 : Blk w _ cur e)
theorem GraphAt.below {rv nv : Value} {g : Graph} (h : GraphAt w rv nv g) (k : Below w.heap.size w w') : GraphAt w' rv nv g := by
  obtain ⟨vs, h1, h2, h3⟩ := h.next
  exact ⟨h.rule.below k, vs, h1.below k, h2, fun i v hv => (h3 i v hv).below k⟩

/-- What a slice of ints looks like, and its cells. -/
theorem IRow.form {l : List Int} (h : IRow w v l) : ∃ (ad : Option Addr) (cap : Nat), v = .slice ad l.length cap ∧ (l.length = 0 ∨ ∃ g, ad = some ⟨g, 0, none⟩) := by
  obtain ⟨_, ad, cap, rfl, hr⟩ := ownsRow_form h
  refine ⟨ad, cap, rfl, ?_⟩
  rcases hr with ⟨_, e⟩ | ⟨g, _, e, _⟩
  · exact .inl e
  · exact .inr ⟨g, e⟩
theorem IRow.cell {l : List Int} {g cap : Nat} (h : IRow w (.slice (some ⟨g, 0, none⟩) l.length cap) l) (j : Nat) (hj : j < l.length) : w.cell? ⟨g, j, none⟩ = some (.int .i64 l[j]) := by
  rw [ownsRow_cell h j (by omega)]; simp [hj]
theorem BRow.form {l : List Bool} (h : BRow w v l) : ∃ (ad : Option Addr) (cap : Nat), v = .slice ad l.length cap ∧ (l.length = 0 ∨ ∃ g, ad = some ⟨g, 0, none⟩) := by
  obtain ⟨_, ad, cap, rfl, hr⟩ := ownsRow_form h
  refine ⟨ad, cap, rfl, ?_⟩
  rcases hr with ⟨_, e⟩ | ⟨g, _, e, _⟩
  · exact .inl e
  · exact .inr ⟨g, e⟩
theorem BRow.cell {l : List Bool} {g cap : Nat} (h : BRow w (.slice (some ⟨g, 0, none⟩) l.length cap) l) (j : Nat) (hj : j < l.length) : w.cell? ⟨g, j, none⟩ = some (.bool l[j]) := by
  rw [ownsRow_cell h j (by omega)]; simp [hj]
theorem NRow.form {l : List Value} (h : NRow w v l) : ∃ (ad : Option Addr) (cap : Nat), v = .slice ad l.length cap ∧ (l.length = 0 ∨ ∃ g, ad = some ⟨g, 0, none⟩) := by
  obtain ⟨_, ad, cap, rfl, hr⟩ := ownsRow_form h
  refine ⟨ad, cap, rfl, ?_⟩
  rcases hr with ⟨_, e⟩ | ⟨g, _, e, _⟩
  · exact .inl e
  · exact .inr ⟨g, e⟩
theorem NRow.cell {l : List Value} {g cap : Nat} (h : NRow w (.slice (some ⟨g, 0, none⟩) l.length cap) l) (j : Nat) (hj : j < l.length) : w.cell? ⟨g, j, none⟩ = some l[j] := by
  rw [ownsRow_cell h j (by omega)]; simp [hj]
end
end Go.Proofs.Ytmgpdaemcbbikaa
