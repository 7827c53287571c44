import Derived.Test.YtmgpdaemcbbikaaC29
import Derived.Test.YtmgpdaemcbbikaaC09
import Derived.Test.YtmgpdaemcbbikaaC33
import Derived.Test.YtmgpdaemcbbikaaC05
import Derived.Test.YtmgpdaemcbbikaaC28
import Derived.Deep.DeepCutAuto

namespace Go.Proofs.Ytmgpdaemcbbikaa
open Go.RowKit Go.Deep
set_option linter.unusedVariables false

/-- A step: its byte, and where it leads. -/
structure StepT where
  b : Nat
  q : Nat
  deriving DecidableEq, Inhabited
def stepD : StepT := ⟨0, 0⟩
def stepsC : List StepT → List Value
  | [] => []
  | x :: r => .string (bytesOf [x.b]) :: .int .i64 (x.q : Int) :: stepsC r
theorem stepsC_length : ∀ l : List StepT, (stepsC l).length = l.length * 2
  | [] => rfl
  | s :: r => by simp [stepsC, stepsC_length r]; omega
theorem stepsC_append : ∀ l m : List StepT, stepsC (l ++ m) = stepsC l ++ stepsC m
  | [], m => rfl
  | s :: r, m => by simp [stepsC, stepsC_append r m]
theorem stepsC_get : ∀ (l : List StepT) (k : Nat) (h : k < l.length), (stepsC l)[k * 2]? = some (.string (bytesOf [l[k].b])) ∧ (stepsC l)[k * 2 + 1]? = some (.int .i64 (l[k].q : Int))
  | s :: r, 0, _ => ⟨rfl, rfl⟩
  | s :: r, k + 1, h => by
    rw [show (k + 1) * 2 = k * 2 + 1 + 1 by omega]
    simp only [stepsC, List.getElem?_cons_succ, List.getElem_cons_succ]
    exact stepsC_get r k (by simpa using h)
def StepRow (w : World) (v : Value) (l : List StepT) : Prop := w.ownsRow 0 195 2 v l.length (stepsC l)
theorem StepRow.kept {w w' : World} {v : Value} {l : List StepT} {ex : Nat → Prop} (h : StepRow w v l) (k : Kept ex w w') (he : ∀ b, v.ownBlock = some b → ¬ ex b) : StepRow w' v l := ownsRow_kept h k he
theorem StepRow.below {w w' : World} {v : Value} {l : List StepT} (h : StepRow w v l) (k : Below w.heap.size w w') : StepRow w' v l := h.kept (ex := fun _ => False) (Kept.ofBelow k) (fun _ _ e => e)
theorem StepRow.form {w : World} {v : Value} {l : List StepT} (h : StepRow w v l) : ∃ (ad : Option Addr) (cap : Nat), v = .slice ad l.length cap ∧ (l.length = 0 ∨ ∃ g, ad = some ⟨g, 0, none⟩) := by
  obtain ⟨_, ad, cap, rfl, ⟨_, h⟩ | ⟨g, _, rfl, _⟩⟩ := ownsRow_form h
  · exact ⟨ad, cap, rfl, .inl h⟩
  · exact ⟨_, cap, rfl, .inr ⟨g, rfl⟩⟩
theorem StepRow.cell {w : World} {l : List StepT} {g cap : Nat} (h : StepRow w (.slice (some ⟨g, 0, none⟩) l.length cap) l) (k : Nat) (hk : k < l.length) : w.cell? ⟨g, k * 2, none⟩ = some (.string (bytesOf [l[k].b])) ∧ w.cell? ⟨g, k * 2 + 1, none⟩ = some (.int .i64 (l[k].q : Int)) := by
  obtain ⟨h1, h2⟩ := stepsC_get l k hk
  exact ⟨(ownsRow_cell h (k * 2) (by omega)).trans h1, (ownsRow_cell h (k * 2 + 1) (by omega)).trans h2⟩
/-- A list of rows. -/
def RowsOf (w : World) (ty : TypeId) (P : World → Value → Nat → Prop) (v : Value) (n : Nat) : Prop := ∃ vs : List Value, w.ownsRow 0 ty 1 v n vs ∧ vs.length = n ∧ ∀ i x, vs[i]? = some x → P w x i
theorem RowsOf.form {w : World} {ty : TypeId} {P : World → Value → Nat → Prop} {v : Value} {n : Nat} (h : RowsOf w ty P v n) : ∃ (ad : Option Addr) (cap : Nat), v = .slice ad n cap ∧ (n = 0 ∨ ∃ g, ad = some ⟨g, 0, none⟩) := by
  obtain ⟨vs, h, _⟩ := h
  obtain ⟨_, ad, cap, rfl, ⟨_, h⟩ | ⟨g, _, rfl, _⟩⟩ := ownsRow_form h
  · exact ⟨ad, cap, rfl, .inl h⟩
  · exact ⟨_, cap, rfl, .inr ⟨g, rfl⟩⟩
theorem RowsOf.cell {w : World} {ty : TypeId} {P : World → Value → Nat → Prop} {g cap n : Nat} (h : RowsOf w ty P (.slice (some ⟨g, 0, none⟩) n cap) n) (i : Nat) (hi : i < n) : ∃ x, w.cell? ⟨g, i, none⟩ = some x ∧ P w x i := by
  obtain ⟨vs, h1, h2, h3⟩ := h
  have h4 : vs[i]? = some vs[i] := List.getElem?_eq_getElem (by omega)
  exact ⟨vs[i], by rw [ownsRow_cell h1 i (by omega)]; exact h4, h3 i _ h4⟩
theorem RowsOf.kept {w w' : World} {ty : TypeId} {P : World → Value → Nat → Prop} {v : Value} {n : Nat} {ex : Nat → Prop} (h : RowsOf w ty P v n) (k : Kept ex w w') (he : ∀ b, v.ownBlock = some b → ¬ ex b) (hP : ∀ x i, P w x i → P w' x i) : RowsOf w' ty P v n := by
  obtain ⟨vs, h1, h2, h3⟩ := h
  exact ⟨vs, ownsRow_kept h1 k he, h2, fun i x hx => hP x i (h3 i x hx)⟩
theorem RowsOf.below {w w' : World} {ty : TypeId} {P : World → Value → Nat → Prop} {v : Value} {n : Nat} (h : RowsOf w ty P v n) (k : Below w.heap.size w w') (hP : ∀ x i, P w x i → P w' x i) : RowsOf w' ty P v n :=
  h.kept (ex := fun _ => False) (Kept.ofBelow k) (fun _ _ e => e) hP
def StepRows (w : World) (v : Value) (ll : List (List StepT)) : Prop := RowsOf w 192 (fun w x i => StepRow w x (ll.getD i [])) v ll.length
def BoolRows (w : World) (v : Value) (ll : List (List Bool)) : Prop := RowsOf w 109 (fun w x i => BRow w x (ll.getD i [])) v ll.length
theorem StepRows.below {w w' : World} {v : Value} {ll : List (List StepT)} (h : StepRows w v ll) (k : Below w.heap.size w w') : StepRows w' v ll := RowsOf.below h k (fun x i hx => StepRow.below hx k)
theorem BoolRows.below {w w' : World} {v : Value} {ll : List (List Bool)} (h : BoolRows w v ll) (k : Below w.heap.size w w') : BoolRows w' v ll := RowsOf.below h k (fun x i hx => BRow.below hx k)
/-- The web: of each state whether it is a token's, and its steps. -/
structure WebT where
  token : List Bool
  steps : List (List StepT)
structure WebAt (w : World) (wb : Nat) (x : WebT) : Prop where
  ex : ∃ tv sv, Blk w wb #[tv, sv] 162 ∧ BRow w tv x.token ∧ StepRows w sv x.steps
theorem WebAt.below {w w' : World} {wb : Nat} {x : WebT} (h : WebAt w wb x) (k : Below w.heap.size w w') : WebAt w' wb x := by
  obtain ⟨tv, sv, h1, h2, h3⟩ := h.ex
  exact ⟨tv, sv, h1.below k, h2.below k, h3.below k⟩
/-- What holds of a web: as many rows of steps as states; each step leads to a state; not too many. -/
structure WebOk (x : WebT) : Prop where
  len : x.steps.length = x.token.length
  into : ∀ l ∈ x.steps, ∀ s ∈ l, s.q < x.token.length ∧ s.b < 256
  few : ∀ l ∈ x.steps, l.length ≤ 256
  states : x.token.length ≤ 100000
/-- The first step into a marked state. -/
def intoF (l : List StepT) (marked : List Bool) : Option StepT := l.find? (fun s => marked.getD s.q false)
end Go.Proofs.Ytmgpdaemcbbikaa

namespace Go.Proofs.Ytmgpdaemcbbikaa
open Go.RowKit Go.Deep
set_option linter.unusedVariables false

/-- The bytes of a string, as numbers. -/
def bytesN (s : ByteArray) : List Nat := s.data.toList.map UInt8.toNat
theorem bytesN_len (s : ByteArray) : (bytesN s).length = s.size := by rw [bytesN, List.length_map, Array.length_toList]; rfl
/-- What does not change while the rules go along a text. -/
structure MemoC where
  wb : Nat
  kg : Nat
  kcap : Nat
  R : Nat → Nat
  av : Value
  tv : Value
  s : ByteArray
  all : List NodeT
  tr : Nat → Tree
/-- How many ends there may be. -/
def MemoC.N (c : MemoC) : Nat := c.s.size + 1
theorem MemoC.ltN {c : MemoC} {p : Nat} : p < c.N ↔ p ≤ c.s.size := by unfold MemoC.N; omega
theorem rowT_len (c : MemoC) (t : Tree) (p : Nat) : (rowT (bytesN c.s) t p).length = c.N := by rw [rowW_len, bytesN_len]; rfl
def MemoC.M (c : MemoC) (b : Nat) : Prop := ∃ n, n < c.all.length ∧ b = c.R n
/-- A row of what was found: each cell holds nothing yet, or the row of ends from there on, in no block of A. -/
def FoundRow (c : MemoC) (A : Nat → Prop) (w : World) (n : Nat) : Prop := ∃ cs : Array Value, Blk w (c.R n) cs 109 ∧ cs.size = c.N ∧ ∀ p, p ≤ c.s.size → cs[p]? = some (.slice none 0 0) ∨ ∃ b, cs[p]? = some (.slice (some ⟨b, 0, none⟩) c.N c.N) ∧ ¬ A b ∧ BRow w (.slice (some ⟨b, 0, none⟩) c.N c.N) (rowT (bytesN c.s) (c.tr n) p)
structure Memo (c : MemoC) (A : Nat → Prop) (w : World) : Prop where
  blk : Blk w c.wb #[c.av, c.tv, .string c.s, .slice (some ⟨c.kg, 0, none⟩) c.all.length c.kcap] 120
  nodes : NodeRow w c.av c.all
  known : ∃ cs : Array Value, Blk w c.kg cs 61 ∧ ∀ n, n < c.all.length → cs[n]? = some (.slice (some ⟨c.R n, 0, none⟩) c.N c.N)
  rows : ∀ n, n < c.all.length → FoundRow c A w n
  inj : ∀ m n, m < c.all.length → n < c.all.length → c.R m = c.R n → m = n
theorem Memo.weak {c : MemoC} {A B : Nat → Prop} {w : World} (h : Memo c A w) (hb : ∀ b, B b → A b) : Memo c B w := by
  refine ⟨h.blk, h.nodes, h.known, fun n hn => ?_, h.inj⟩
  obtain ⟨cs, h1, h2, h3⟩ := h.rows n hn
  refine ⟨cs, h1, h2, fun p hp => ?_⟩
  rcases h3 p hp with e | ⟨b, e1, e2, e3⟩
  · exact .inl e
  · exact .inr ⟨b, e1, fun e => e2 (hb b e), e3⟩
theorem Memo.type {c : MemoC} {A : Nat → Prop} {w : World} (h : Memo c A w) {b : Nat} (hb : c.M b) : ∃ cs, Blk w b cs 109 := by
  obtain ⟨n, hn, rfl⟩ := hb
  obtain ⟨cs, h1, _⟩ := h.rows n hn
  exact ⟨cs, h1⟩
theorem Blk.one {w : World} {b : Nat} {c c' : Array Value} {t t' : TypeId} (h : Blk w b c t) (h' : Blk w b c' t') : c = c' ∧ t = t' := by
  unfold Blk at h h'
  rw [h] at h'
  injection h' with h'
  injection h' with h1 h2
  exact ⟨h1, h2⟩
theorem Memo.not {c : MemoC} {A : Nat → Prop} {w : World} (h : Memo c A w) {b : Nat} {cs : Array Value} {t : TypeId} (hb : Blk w b cs t) (ht : t ≠ 109) : ¬ c.M b := fun e => by
  obtain ⟨cs', h'⟩ := h.type e
  exact ht (hb.one h').2
theorem Memo.brow {c : MemoC} {A : Nat → Prop} {w w' : World} (h : Memo c A w) (k : Kept c.M w w') {v : Value} {l : List Bool} (hr : BRow w v l) : BRow w' v l :=
  hr.kept k (fun b hb e => by
    obtain ⟨cs, h1⟩ := h.type e
    exact ownsRow_ne hr h1 (by decide) hb)
theorem Memo.lt {c : MemoC} {A : Nat → Prop} {w : World} (h : Memo c A w) {b : Nat} (hb : c.M b) : b < w.heap.size := by
  obtain ⟨cs, h1⟩ := h.type hb
  exact h1.lt
/-- New memory leaves it as it is. -/
theorem Memo.below {c : MemoC} {A : Nat → Prop} {w w' : World} (h : Memo c A w) (hb : Below w.heap.size w w') : Memo c A w' := by
  refine ⟨h.blk.below hb, h.nodes.below hb, ?_, fun n hn => ?_, h.inj⟩
  · obtain ⟨cs, h1, h2⟩ := h.known
    exact ⟨cs, h1.below hb, h2⟩
  · obtain ⟨cs, h1, h2, h3⟩ := h.rows n hn
    refine ⟨cs, h1.below hb, h2, fun p hp => ?_⟩
    rcases h3 p hp with e | ⟨b, e1, e2, e3⟩
    · exact .inl e
    · exact .inr ⟨b, e1, e2, e3.below hb⟩
/-- Writes into a row of bools that is none of its own leave it as it is. -/
theorem Memo.keptA {c : MemoC} {A : Nat → Prop} {w w' : World} {g : Nat} {cs0 : Array Value} (h : Memo c A w) (k : Kept (fun b => b = g) w w') (hg : A g) (hb : Blk w g cs0 4) : Memo c A w' := by
  refine ⟨h.blk.kept k (fun e => ?_), h.nodes.kept k (fun b hb' e => ?_), ?_, fun n hn => ?_, h.inj⟩
  · have := (h.blk.one (e ▸ hb)).2; revert this; decide
  · exact ownsRow_ne h.nodes (e ▸ hb) (by decide) hb'
  · obtain ⟨cs, h1, h2⟩ := h.known
    exact ⟨cs, h1.kept k (fun e => by have := (h1.one (e ▸ hb)).2; revert this; decide), h2⟩
  · obtain ⟨cs, h1, h2, h3⟩ := h.rows n hn
    refine ⟨cs, h1.kept k (fun e => by have := (h1.one (e ▸ hb)).2; revert this; decide), h2, fun p hp => ?_⟩
    rcases h3 p hp with e | ⟨b, e1, e2, e3⟩
    · exact .inl e
    · exact .inr ⟨b, e1, e2, e3.kept k (fun b' hb' e => by cases (Option.some.inj hb' : b = b'); exact e2 (e ▸ hg))⟩
/-- One cell found. -/
theorem Memo.found {c : MemoC} {A : Nat → Prop} {w : World} (h : Memo c A w) {n p b : Nat} (hn : n < c.all.length) (hp : p ≤ c.s.size) (hA : ¬ A b) (hr : BRow w (.slice (some ⟨b, 0, none⟩) c.N c.N) (rowT (bytesN c.s) (c.tr n) p)) :
    Memo c A (w.setCell ⟨c.R n, p, none⟩ (.slice (some ⟨b, 0, none⟩) c.N c.N)) ∧ Kept c.M w (w.setCell ⟨c.R n, p, none⟩ (.slice (some ⟨b, 0, none⟩) c.N c.N)) := by
  have hk : Kept c.M w (w.setCell ⟨c.R n, p, none⟩ (.slice (some ⟨b, 0, none⟩) c.N c.N)) := (Kept.refl _ _).setCell (p := ⟨c.R n, p, none⟩) (fun _ => ⟨n, hn, rfl⟩) _
  refine ⟨⟨h.blk.kept hk (h.not h.blk (by decide)), h.nodes.kept hk (fun b hb e => ?_), ?_, fun m hm => ?_, h.inj⟩, hk⟩
  · obtain ⟨cs, h1⟩ := h.type e
    exact ownsRow_ne h.nodes h1 (by decide) hb
  · obtain ⟨cs, h1, h2⟩ := h.known
    exact ⟨cs, h1.kept hk (h.not h1 (by decide)), h2⟩
  · obtain ⟨cs, h1, h2, h3⟩ := h.rows m hm
    by_cases e : m = n
    · subst e
      refine ⟨_, h1.set p _, by simp [h2], fun q hq => ?_⟩
      by_cases e : p = q
      · subst e
        exact .inr ⟨b, by rw [Array.getElem?_setIfInBounds, if_pos rfl, if_pos (by rw [h2]; exact MemoC.ltN.2 hp)], hA, h.brow hk hr⟩
      · rcases h3 q hq with e1 | ⟨b', e1, e2, e3⟩
        · exact .inl (by rw [Array.getElem?_setIfInBounds, if_neg e]; exact e1)
        · exact .inr ⟨b', by rw [Array.getElem?_setIfInBounds, if_neg e]; exact e1, e2, h.brow hk e3⟩
    · have hne : c.R m ≠ c.R n := fun e' => e (h.inj m n hm hn e')
      refine ⟨cs, h1.setOther (p := ⟨c.R n, p, none⟩) (fun e' => hne e') _, h2, fun q hq => ?_⟩
      rcases h3 q hq with e1 | ⟨b', e1, e2, e3⟩
      · exact .inl e1
      · exact .inr ⟨b', e1, e2, h.brow hk e3⟩

/-- What comes out of 'over', 'all', 'often', 'find': a row of ends; all else as it was, but for what was found. -/
def RowOut (c : MemoC) (A : Nat → Prop) (w : World) (l : List Bool) (e : Ending) (w' : World) : Prop :=
  ∃ b, e = .returned (.slice (some ⟨b, 0, none⟩) c.N c.N) ∧ ¬ A b ∧ BRow w' (.slice (some ⟨b, 0, none⟩) c.N c.N) l ∧ Memo c A w' ∧ Kept c.M w w'
/-- The contract of 'over' at a node. -/
def OverC (c : MemoC) (n : Nat) : Prop := ∀ (A : Nat → Prop) (w : World) (p : Nat), (∀ b, A b → b < w.heap.size) → Memo c A w → p ≤ c.s.size →
  Calls Try.prog 62 #[.pointer (some ⟨c.wb, 0, none⟩), .int .i64 (n : Int), .int .i64 (p : Int)] w (RowOut c A w (rowT (bytesN c.s) (c.tr n) p))
end Go.Proofs.Ytmgpdaemcbbikaa

namespace Go.Proofs.Ytmgpdaemcbbikaa
open Go.RowKit Go.Deep
set_option linter.unusedVariables false

/-- What 'all' has gathered from the first k places. -/
def AllP (c : MemoC) (n : Nat) (now : List Bool) (k q : Nat) : Prop := ∃ m, m < k ∧ now.getD m false = true ∧ EndsW (bytesN c.s) (c.tr n).Word m q
theorem AllP_skip {c : MemoC} {n : Nat} {now : List Bool} {k q : Nat} (h : now.getD k false = false) : AllP c n now (k + 1) q ↔ AllP c n now k q := by
  constructor
  · rintro ⟨m, h1, h2, h3⟩
    refine ⟨m, ?_, h2, h3⟩
    rcases Nat.lt_or_ge m k with e | e
    · exact e
    · have : m = k := by omega
      rw [this, h] at h2; cases h2
  · rintro ⟨m, h1, h2, h3⟩; exact ⟨m, by omega, h2, h3⟩
theorem AllP_take {c : MemoC} {n : Nat} {now : List Bool} {k q : Nat} (h : now.getD k false = true) : AllP c n now (k + 1) q ↔ (AllP c n now k q ∨ EndsW (bytesN c.s) (c.tr n).Word k q) := by
  constructor
  · rintro ⟨m, h1, h2, h3⟩
    rcases Nat.lt_or_ge m k with e | e
    · exact .inl ⟨m, e, h2, h3⟩
    · have : m = k := by omega
      rw [this] at h3; exact .inr h3
  · rintro (⟨m, h1, h2, h3⟩ | h3)
    · exact ⟨m, by omega, h2, h3⟩
    · exact ⟨k, by omega, h, h3⟩
theorem getD_setB (l : List Bool) (k i : Nat) (x : Bool) (hk : k < l.length) : (l.set k x).getD i false = if i = k then x else l.getD i false := by
  rw [List.getD_eq_getElem?_getD, List.getElem?_set]
  by_cases h : k = i
  · subst h; simp [hk]
  · rw [if_neg h, if_neg (fun e => h e.symm), List.getD_eq_getElem?_getD]
theorem boolsA_cellD {w : World} {b : Nat} {l : List Bool} (h : Blk w b (boolsA l) 4) (i : Nat) (hi : i < l.length) : w.cell? ⟨b, i, none⟩ = some (.bool (l.getD i false)) := by
  rw [boolsA_cell h i hi]; simp [hi]
theorem BRow.cellD {w : World} {l : List Bool} {g n cap : Nat} (h : BRow w (.slice (some ⟨g, 0, none⟩) n cap) l) (j : Nat) (hj : j < l.length) : w.cell? ⟨g, j, none⟩ = some (.bool (l.getD j false)) := by
  have h' := h
  obtain ⟨_, ad, cap', e, _⟩ := ownsRow_form h
  injection e with e1 e2 e3
  subst e2
  rw [h.cell j hj]; simp [hj]

set_option maxRecDepth 20000 in
set_option maxHeartbeats 3200000 in
theorem wall_any (c : MemoC) (n : Nat) (HO : OverC c n) (A : Nat → Prop) (w : World) (ng ncap : Nat) (now : List Bool) (hA : ∀ b, A b → b < w.heap.size) (hm : Memo c A w) (hnow : BRow w (.slice (some ⟨ng, 0, none⟩) c.N ncap) now) (hl : now.length = c.N) (hs : c.s.size ≤ 50000) :
    Calls Try.prog 110 #[.pointer (some ⟨c.wb, 0, none⟩), .int .i64 (n : Int), .slice (some ⟨ng, 0, none⟩) c.N ncap] w fun e w' => ∃ l, l.length = c.N ∧ (∀ q, q ≤ c.s.size → (l.getD q false = true ↔ ∃ m, now.getD m false = true ∧ EndsW (bytesN c.s) (c.tr n).Word m q)) ∧ RowOut c A w l e w' := by
  have hN2 : c.N ≤ 50001 := by unfold MemoC.N; omega
  have hmk := makeBools c.N (by omega)
  have HNOW := hide hnow
  have HM := hide hm
  have HOV := hide HO
  have HL := hide hl
  have HAA := hide hA
  have hng : ng < w.heap.size := ownsRow_lt hnow ng rfl
  clear hnow hm HO hl hA
  go_enter Try.func110, Try.ntmps110
  go_wp2_with fail
  go_loopg [8] c.N (fun G pv wr => ∃ (p : Nat) (l : List Bool), pv = .int .i64 (p : Int) ∧ p ≤ c.N ∧ G = c.N - p ∧ l.length = c.N ∧ (∀ q, q ≤ c.s.size → (l.getD q false = true ↔ AllP c n now p q)) ∧
    Memo c (fun b => A b ∨ b = w.heap.size) wr ∧ Kept c.M w wr ∧ Blk wr w.heap.size (boolsA l) 4)
  case atStart =>
    refine ⟨0, List.replicate c.N false, rfl, by omega, rfl, by simp, fun q hq => ?_, ?_, (Kept.refl _ _).alloc _, Blk.new _ _ _⟩
    · constructor
      · intro h; simp [MemoC.ltN.2 hq] at h
      · rintro ⟨m, hm, _⟩; omega
    · refine ⟨(HM.out.below (Below1 _ _)).blk, (HM.out.below (Below1 _ _)).nodes, (HM.out.below (Below1 _ _)).known, fun n hn => ?_, HM.out.inj⟩
      obtain ⟨cs, h1, h2, h3⟩ := HM.out.rows n hn
      refine ⟨cs, h1.below (Below1 _ _), h2, fun p hp => ?_⟩
      rcases h3 p hp with e | ⟨b, e1, e2, e3⟩
      · exact .inl e
      · refine .inr ⟨b, e1, fun e => ?_, e3.below (Below1 _ _)⟩
        rcases e with e | e
        · exact e2 e
        · have := ownsRow_lt e3 b rfl; omega
  case round =>
    obtain ⟨p, l, rfl, hp, rfl, hll, hspec, hmm, hk, hI⟩ := hrel
    have zI := hI.lt
    by_cases hlt : p < c.N
    · have e0 : decide ((p : Int) < (c.N : Int)) = true := by simp; omega
      have cN := (HM.out.brow hk HNOW.out).cellD p (by rw [HL.out]; exact hlt)
      have p0 : (0 : Int) ≤ (p : Int) := by omega
      have p1 : (p : Int) < (c.N : Int) := by omega
      have HLL := hide hll
      have HSP := hide hspec
      have HH : Hid (Memo c (fun b => A b ∨ b = w.heap.size) wr ∧ Kept c.M w wr ∧ Blk wr w.heap.size (boolsA l) 4) := ⟨hmm, hk, hI⟩
      clear hmm hk hI hll hspec
      cases hnp : now.getD p false with
      | false =>
        rw [hnp] at cN
        have HNP := hide hnp
        clear hnp
        go_wp2_with fail
        go_roundg (c.N - (p + 1))
        case measure => omega
        case rel => exact ⟨p + 1, l, by go_num, by omega, rfl, HLL.out, fun q hq => by rw [AllP_skip HNP.out]; exact HSP.out q hq, HH.out.1, HH.out.2.1, HH.out.2.2⟩
      | true =>
        rw [hnp] at cN
        have HNP := hide hnp
        clear hnp
        go_wp2_with fail
        refine (HOV.out (fun b => A b ∨ b = w.heap.size) wr p (fun b hb => by rcases hb with e | e; have := HAA.out b e; omega; omega) HH.out.1 (MemoC.ltN.1 hlt)).mono ?_
        rintro e w1 ⟨b, rfl, hnb, hBR, hm1, hk1⟩
        have zz : w1.heap.size ≥ wr.heap.size := hk1.size
        have hI1 : Blk w1 w.heap.size (boolsA l) 4 := HH.out.2.2.kept hk1 (HH.out.1.not HH.out.2.2 (by decide))
        have hbg : b ≠ w.heap.size := fun e => hnb (.inr e)
        have HH1 : Hid (Memo c (fun b => A b ∨ b = w.heap.size) w1 ∧ Kept c.M w w1 ∧ Blk w1 w.heap.size (boolsA l) 4 ∧ BRow w1 (.slice (some ⟨b, 0, none⟩) c.N c.N) (rowT (bytesN c.s) (c.tr n) p)) := ⟨hm1, HH.out.2.1.trans hk1 (fun i _ e => e), hI1, hBR⟩
        clear hm1 hk1 hI1 hBR hnb HH cN
        obtain ⟨wo, rfl⟩ : ∃ wo : World, wo = w1 := ⟨_, rfl⟩
        go_wp2_with fail
        go_loopg [10] c.N (fun G iv wi => ∃ (i : Nat) (l' : List Bool), iv = .int .i64 (i : Int) ∧ i ≤ c.N ∧ G = c.N - i ∧ l'.length = c.N ∧ (∀ q, q < i → (l'.getD q false = true ↔ AllP c n now (p + 1) q)) ∧ (∀ q, i ≤ q → q ≤ c.s.size → (l'.getD q false = true ↔ AllP c n now p q)) ∧
          Blk wi w.heap.size (boolsA l') 4 ∧ Kept (fun x => x = w.heap.size) wo wi)
        case atStart => exact ⟨0, l, rfl, by omega, rfl, HLL.out, fun q hq => by omega, fun q _ hq => HSP.out q hq, HH1.out.2.2.1, Kept.refl _ _⟩
        case round =>
          obtain ⟨i, l', rfl, hi, rfl, hll', hsp1, hsp2, hIi, hki⟩ := hrel
          have zIi := hIi.lt
          by_cases hli : i < c.N
          · have e1 : decide ((i : Int) < (c.N : Int)) = true := by simp; omega
            have cO := boolsA_cellD hIi i (by rw [hll']; exact hli)
            have fO := hIi.frozen i
            have hBi : BRow wr (.slice (some ⟨b, 0, none⟩) c.N c.N) (rowT (bytesN c.s) (c.tr n) p) := HH1.out.2.2.2.kept hki (fun b' hb' e => by cases (Option.some.inj hb' : b = b'); exact hbg e)
            have cE := hBi.cellD i (by rw [rowT_len]; exact hli)
            have hE : (rowT (bytesN c.s) (c.tr n) p).getD i false = true ↔ EndsW (bytesN c.s) (c.tr n).Word p i := rowW_getD
            generalize (rowT (bytesN c.s) (c.tr n) p).getD i false = ei at cE hE
            have hO := hsp2 i (Nat.le_refl _) (MemoC.ltN.1 hli)
            generalize hoi : l'.getD i false = oi at cO hO
            have i0 : (0 : Int) ≤ (i : Int) := by omega
            have i1 : (i : Int) < (c.N : Int) := by omega
            have HI : Hid (Blk wr w.heap.size (boolsA l') 4 ∧ Kept (fun x => x = w.heap.size) wo wr ∧ l'.length = c.N ∧ (∀ q, q < i → (l'.getD q false = true ↔ AllP c n now (p + 1) q)) ∧ (∀ q, i ≤ q → q ≤ c.s.size → (l'.getD q false = true ↔ AllP c n now p q)) ∧ (ei = true ↔ EndsW (bytesN c.s) (c.tr n).Word p i) ∧ (oi = true ↔ AllP c n now p i)) := ⟨hIi, hki, hll', hsp1, hsp2, hE, hO⟩
            clear hIi hki hll' hsp1 hsp2 hE hO hoi hBi
            cases oi with
            | true =>
              go_wp2_with fail
              go_roundg (c.N - (i + 1))
              case measure => omega
              case rel =>
                obtain ⟨r1, r2, r3, r4, r5, r6, r7⟩ := HI.out
                refine ⟨i + 1, l'.set i true, by go_num, by omega, rfl, by simp [r3], fun q hq => ?_, fun q hq hq2 => ?_, ?_, ?_⟩
                · rw [getD_setB _ _ _ _ (by omega)]
                  split
                  · rename_i e; rw [e, AllP_take HNP.out]; exact ⟨fun _ => .inl (r7.1 (by simp)), fun _ => rfl⟩
                  · exact r4 q (by omega)
                · rw [getD_setB _ _ _ _ (by omega), if_neg (by omega)]; exact r5 q (by omega) hq2
                · rw [← boolsA_set]; exact r1.set i _
                · exact r2.setCell (p := ⟨w.heap.size, i, none⟩) (fun _ => rfl) _
            | false =>
              go_wp2_with fail
              go_roundg (c.N - (i + 1))
              case measure => omega
              case rel =>
                obtain ⟨r1, r2, r3, r4, r5, r6, r7⟩ := HI.out
                refine ⟨i + 1, l'.set i ei, by go_num, by omega, rfl, by simp [r3], fun q hq => ?_, fun q hq hq2 => ?_, ?_, ?_⟩
                · rw [getD_setB _ _ _ _ (by omega)]
                  split
                  · rename_i e; rw [e, AllP_take HNP.out]
                    exact ⟨fun h => .inr (r6.1 h), fun h => by rcases h with h | h; exact absurd (r7.2 h) (by simp); exact r6.2 h⟩
                  · exact r4 q (by omega)
                · rw [getD_setB _ _ _ _ (by omega), if_neg (by omega)]; exact r5 q (by omega) hq2
                · rw [← boolsA_set]; exact r1.set i _
                · exact r2.setCell (p := ⟨w.heap.size, i, none⟩) (fun _ => rfl) _
          · have e1 : decide ((i : Int) < (c.N : Int)) = false := by simp; omega
            obtain rfl : i = c.N := by omega
            have HI : Hid (Blk wr w.heap.size (boolsA l') 4 ∧ Kept (fun x => x = w.heap.size) wo wr ∧ l'.length = c.N ∧ (∀ q, q < c.N → (l'.getD q false = true ↔ AllP c n now (p + 1) q))) := ⟨hIi, hki, hll', hsp1⟩
            clear hIi hki hll' hsp1 hsp2
            go_wp2_with fail
            go_roundg (c.N - (p + 1))
            case measure => omega
            case rel =>
              obtain ⟨r1, r2, r3, r4⟩ := HI.out
              refine ⟨p + 1, l', by go_num, by omega, rfl, r3, fun q hq => r4 q (MemoC.ltN.2 hq), HH1.out.1.keptA r2 (.inr rfl) HH1.out.2.2.1, ?_, r1⟩
              exact ⟨r2.os.trans HH1.out.2.1.os, r2.tape.trans HH1.out.2.1.tape, r2.output.trans HH1.out.2.1.output, by have := HH1.out.2.1.size; have := r2.size; omega, fun k hk he => (r2.block k (by have := HH1.out.2.1.size; omega) (by omega)).trans (HH1.out.2.1.block k hk he)⟩
    · have e0 : decide ((p : Int) < (c.N : Int)) = false := by simp; omega
      obtain rfl : p = c.N := by omega
      have HH : Hid (Memo c (fun b => A b ∨ b = w.heap.size) wr ∧ Kept c.M w wr ∧ Blk wr w.heap.size (boolsA l) 4 ∧ l.length = c.N ∧ (∀ q, q ≤ c.s.size → (l.getD q false = true ↔ AllP c n now c.N q))) := ⟨hmm, hk, hI, hll, hspec⟩
      clear hmm hk hI hll hspec
      go_wp2_with fail
      go_ret
      obtain ⟨r1, r2, r3, r4, r5⟩ := HH.out
      refine ⟨l, r4, fun q hq => ?_, w.heap.size, rfl, fun e => by have := HAA.out _ e; omega, ?_, r1.weak (fun b e => .inl e), r2⟩
      · rw [r5 q hq]
        constructor
        · rintro ⟨m, _, h2, h3⟩; exact ⟨m, h2, h3⟩
        · rintro ⟨m, h2, h3⟩
          refine ⟨m, ?_, h2, h3⟩
          have := h3.1
          rw [MemoC.ltN]; omega
      · have := BRow.ofBlk r3 (by omega)
        rw [r4] at this
        exact this
end Go.Proofs.Ytmgpdaemcbbikaa

namespace Go.Proofs.Ytmgpdaemcbbikaa
open Go.RowKit Go.Deep
set_option linter.unusedVariables false

def stepV (s : StepT) : Value := .agg #[.string (bytesOf [s.b]), .int .i64 (s.q : Int)]
def noStepV : Value := .agg #[.string ⟨#[]⟩, .int .i64 0]
def intoV : Option StepT → Value
  | none => .tuple #[noStepV, .bool false]
  | some s => .tuple #[stepV s, .bool true]
theorem Try.infoStep : (Try.prog.info? 195).map (·.size) = some 2 := by kernel_rfl
theorem storeStep {s : StepT} {ops : Array Oper} {rest : List Oper} {o : Oper} {a : Act} {w : World} {Q : Exit → Act → World → Prop} (hgd : o.guard = none) (p q : Operand) (ho : o.op = .store 195 p q)
    (g : Nat) (hx : a.eval p = .pointer (some ⟨g, 0, none⟩)) (hy : a.eval q = stepV s) {old : Array Value} (hb : Blk w g old 195) (hold : old.size = 2)
    (h : wpList Try.prog ops Q rest (a.put o.dst undef) (w.setRow g #[.string (bytesOf [s.b]), .int .i64 (s.q : Int)])) : wpList Try.prog ops Q (o :: rest) a w :=
  wpList_store_row hgd 195 p q ho g _ hx hy 195 _ hb Try.infoStep hold (by simp [Value.oneCell']) h
theorem storeNoStep {ops : Array Oper} {rest : List Oper} {o : Oper} {a : Act} {w : World} {Q : Exit → Act → World → Prop} (hgd : o.guard = none) (p q : Operand) (ho : o.op = .store 195 p q)
    (g : Nat) (hx : a.eval p = .pointer (some ⟨g, 0, none⟩)) (hy : a.eval q = noStepV) {old : Array Value} (hb : Blk w g old 195) (hold : old.size = 2)
    (h : wpList Try.prog ops Q rest (a.put o.dst undef) (w.setRow g #[.string ⟨#[]⟩, .int .i64 0])) : wpList Try.prog ops Q (o :: rest) a w :=
  wpList_store_row hgd 195 p q ho g _ hx hy 195 _ hb Try.infoStep hold (by simp [Value.oneCell']) h
set_option maxRecDepth 20000 in
set_option maxHeartbeats 1600000 in
theorem into_any (wb : Nat) (x : WebT) (k : Nat) (mv : Value) (marked : List Bool) (w : World) (h : WebAt w wb x) (ho : WebOk x) (hk : k < x.steps.length) (hm : BRow w mv marked) (hml : marked.length = x.token.length) :
    Calls Try.prog 114 #[.pointer (some ⟨wb, 0, none⟩), .int .i64 (k : Int), mv] w fun e w' => e = .returned (intoV (intoF (x.steps.getD k []) marked)) ∧ Below w.heap.size w w' := by
  obtain ⟨tv, sv, hb, ht, hs⟩ := h.ex
  obtain ⟨sd, scap, rfl, hsrow⟩ := hs.form
  rcases hsrow with h0 | ⟨sg, rfl⟩
  · omega
  obtain ⟨rv, c1, hr⟩ := hs.cell k hk
  have c0 : w.cell? ⟨wb, 1, none⟩ = some (.slice (some ⟨sg, 0, none⟩) x.steps.length scap) := hb.cell 1
  obtain ⟨rd, rcap, rfl, hrow⟩ := hr.form
  obtain ⟨md, mcap, rfl, hmrow⟩ := hm.form
  have hmem : x.steps.getD k [] ∈ x.steps := by rw [List.getD_eq_getElem?_getD, List.getElem?_eq_getElem hk]; exact List.getElem_mem hk
  have hin := ho.into _ hmem
  have hfw := ho.few _ hmem
  have hst := ho.states
  generalize x.steps.getD k [] = row at hr hin hfw c1 hrow
  have k0 : (0 : Int) ≤ (k : Int) := by omega
  have k1 : (k : Int) < (x.steps.length : Int) := by omega
  have zb := hb.lt
  have zs : sg < w.heap.size := by obtain ⟨vs, h9, _⟩ := hs; exact ownsRow_lt h9 sg rfl
  generalize hF : intoF row marked = F
  unfold intoF at hF
  have HF := hide hF
  have HR := hide hr
  have HM := hide hm
  have HIN := hide hin
  have HML := hide hml
  clear hb ht hs h ho hmem hF hr hm hin hml
  go_enter Try.func114, Try.ntmps114
  go_wp2_with fail
  go_loopg [18] row.length (fun G iv wr => ∃ i : Nat, iv = .int .i64 (i : Int) ∧ i ≤ row.length ∧ G = row.length - i ∧ (row.drop i).find? (fun s => marked.getD s.q false) = F ∧ Below w.heap.size w wr ∧ Blk wr w.heap.size #[.string ⟨#[]⟩, .int .i64 0] 195)
  case atStart => exact ⟨0, rfl, by omega, rfl, HF.out, Below1 _ _, Blk.new _ _ _⟩
  case round =>
    obtain ⟨i, rfl, hi, rfl, hf, hbw, hres⟩ := hrel
    clear HF
    by_cases hlt : i < row.length
    · have e0 : decide ((i : Int) < (row.length : Int)) = true := by simp; omega
      rcases hrow with h0 | ⟨rg, rfl⟩
      · omega
      obtain ⟨d0, d1⟩ := (HR.out.below hbw).cell i hlt
      obtain ⟨hq, hbb⟩ := HIN.out row[i] (List.getElem_mem hlt)
      rw [List.drop_eq_getElem_cons hlt, List.find?_cons] at hf
      generalize row[i] = st at d0 d1 hq hbb hf
      obtain ⟨sb, sq⟩ := st
      simp only at d0 d1 hq hbb hf
      rcases hmrow with h0 | ⟨mg, rfl⟩
      · have := HML.out; omega
      have m0 := (HM.out.below hbw).cellD sq (by rw [HML.out]; exact hq)
      have i0 : (0 : Int) ≤ (i : Int) := by omega
      have i1 : (i : Int) < (row.length : Int) := by omega
      have q0 : (0 : Int) ≤ (sq : Int) := by omega
      have q1 : (sq : Int) < (marked.length : Int) := by have := HML.out; omega
      have zr : rg < wr.heap.size := ownsRow_lt (HR.out.below hbw) rg rfl
      have zm : mg < wr.heap.size := ownsRow_lt (HM.out.below hbw) mg rfl
      have zres := hres.lt
      have HH : Hid (Below w.heap.size w wr ∧ Blk wr w.heap.size #[.string ⟨#[]⟩, .int .i64 0] 195) := ⟨hbw, hres⟩
      clear hbw hres
      cases hmk : marked.getD sq false with
      | true =>
        rw [hmk] at m0 hf
        have hfe : F = some ⟨sb, sq⟩ := hf.symm
        subst hfe
        clear hf hmk
        go_wp2_with (first | refine storeStep (s := ⟨sb, sq⟩) rfl (.tmp 6) (.tmp 27) rfl w.heap.size rfl rfl (HH.out.2.alloc _) rfl ?_)
        exact bodyPost_ret (results_cell_tmp Try.results114 _ _ w.heap.size 195 #[.string (bytesOf [sb]), .int .i64 (sq : Int)] (0, 0) _ rfl ((HH.out.2.alloc _).setRow _) Try.underlying195 rfl Try.infoStep) rfl ⟨rfl, Below_setRow (HH.out.1.alloc HH.out.1.size _) (Nat.le_refl _) _⟩
      | false =>
        rw [hmk] at m0 hf
        have HF := hide hf
        clear hf hmk
        go_wp2_with fail
        go_roundg (row.length - (i + 1))
        case measure => omega
        case rel => exact ⟨i + 1, by go_num, by omega, rfl, HF.out, HH.out.1.alloc HH.out.1.size _, HH.out.2.alloc _⟩
    · have e0 : decide ((i : Int) < (row.length : Int)) = false := by simp; omega
      rw [List.drop_of_length_le (by omega)] at hf
      have hfe : F = none := hf.symm
      subst hfe
      have HH : Hid (Below w.heap.size w wr ∧ Blk wr w.heap.size #[.string ⟨#[]⟩, .int .i64 0] 195) := ⟨hbw, hres⟩
      clear hf hbw hres
      go_wp2_with (first | refine storeNoStep rfl (.tmp 6) (.tmp 29) rfl w.heap.size rfl rfl HH.out.2 rfl ?_)
      exact bodyPost_ret (results_cell_tmp Try.results114 _ _ w.heap.size 195 #[.string ⟨#[]⟩, .int .i64 0] (0, 0) _ rfl (HH.out.2.setRow _) Try.underlying195 rfl Try.infoStep) rfl ⟨rfl, Below_setRow HH.out.1 (Nat.le_refl _) _⟩
end Go.Proofs.Ytmgpdaemcbbikaa
