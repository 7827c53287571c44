import Derived.Test.YtcckhngbdoiikaaM01

namespace Go.Proofs.Ytcckhngbdoiikaa
set_option linter.unusedVariables false

inductive Tree where
  | leaf (k a b : Nat)
  | row (l r : Tree)
  | or (l r : Tree)
  | star (l : Tree)
  | plus (l : Tree)
  | maybe (l : Tree)
  deriving Inhabited

def plainB (b : Nat) : Bool := (decide (48 ≤ b) && decide (b ≤ 57)) || (decide (97 ≤ b) && decide (b ≤ 122)) || (decide (65 ≤ b) && decide (b ≤ 90))
/-- How a byte is spelled. -/
def byteT (b : Nat) : List Nat := if b = 10 then [92, 110] else if plainB b then [b] else [92, b]
/-- A place: k: its kind; the bytes a and b. -/
def leafT (k a b : Nat) : List Nat :=
  if k = 1 then [46] else if k = 2 then [91] ++ byteT a ++ [45] ++ byteT b ++ [93] else if k = 3 then [91, 94] ++ byteT a ++ [45] ++ byteT b ++ [93] else byteT a
def leafA (k a b : Nat) : Nat → Bool := fun x => if k = 1 then true else if k = 2 then decide (a ≤ x ∧ x ≤ b) else if k = 3 then decide (x < a ∨ b < x) else decide (x = a)
/-- What a place of a tree must be. -/
def leafOk (k a b : Nat) : Prop := a < 256 ∧ b < 256 ∧ (k = 2 ∨ k = 3 → a ≤ b)

namespace Tree
def spell : Tree → List Nat
  | leaf k a b => leafT k a b
  | row l r => [40] ++ l.spell ++ r.spell ++ [41]
  | or l r => [40] ++ l.spell ++ [124] ++ r.spell ++ [41]
  | star l => [40] ++ l.spell ++ [42] ++ [41]
  | plus l => [40] ++ l.spell ++ [43] ++ [41]
  | maybe l => [40] ++ l.spell ++ [63] ++ [41]
def ok : Tree → Prop
  | leaf k a b => leafOk k a b
  | row l r => l.ok ∧ r.ok
  | or l r => l.ok ∧ r.ok
  | star l => l.ok
  | plus l => l.ok
  | maybe l => l.ok
def depth : Tree → Nat
  | leaf _ _ _ => 0
  | row l r => max l.depth r.depth + 1
  | or l r => max l.depth r.depth + 1
  | star l => l.depth + 1
  | plus l => l.depth + 1
  | maybe l => l.depth + 1
def places : Tree → Nat
  | leaf _ _ _ => 1
  | row l r => l.places + r.places
  | or l r => l.places + r.places
  | star l => l.places
  | plus l => l.places
  | maybe l => l.places
/-- What the reader makes of it. -/
def glush : Tree → RulesT → PartT × RulesT
  | leaf k a b, R => (R.addPart, R.add (leafA k a b))
  | row l r, R => (chainPart (l.glush R).1 (r.glush (l.glush R).2).1, (r.glush (l.glush R).2).2.chain (l.glush R).1 (r.glush (l.glush R).2).1)
  | or l r, R => (eitherPart (l.glush R).1 (r.glush (l.glush R).2).1, (r.glush (l.glush R).2).2)
  | star l, R => ({ (l.glush R).1 with empty := true }, (l.glush R).2.link (l.glush R).1.last (l.glush R).1.first)
  | plus l, R => ((l.glush R).1, (l.glush R).2.link (l.glush R).1.last (l.glush R).1.first)
  | maybe l, R => ({ (l.glush R).1 with empty := true }, (l.glush R).2)
end Tree

/-- The bytes l stand in s from p on. -/
def Lies (s : ByteArray) (p : Nat) (l : List Nat) : Prop := ∀ i, (h : i < l.length) → peekI s (p + i) = (l[i] : Int)
theorem lies_cons {s : ByteArray} {p x : Nat} {l : List Nat} : Lies s p (x :: l) ↔ peekI s p = (x : Int) ∧ Lies s (p + 1) l := by
  constructor
  · intro h
    refine ⟨h 0 (by simp), fun i hi => ?_⟩
    have := h (i + 1) (by simpa using hi)
    rw [show p + (i + 1) = p + 1 + i by omega] at this
    simpa using this
  · rintro ⟨h1, h2⟩ i hi
    cases i with
    | zero => simpa using h1
    | succ i =>
      have := h2 i (by simpa using hi)
      rw [show p + (i + 1) = p + 1 + i by omega]
      simpa using this
theorem lies_nil {s : ByteArray} {p : Nat} : Lies s p [] := fun i hi => by simp at hi
theorem lies_append {s : ByteArray} {m : List Nat} : ∀ {l : List Nat} {p : Nat}, Lies s p (l ++ m) ↔ Lies s p l ∧ Lies s (p + l.length) m
  | [], p => by simp [lies_nil]
  | x :: l, p => by
    rw [List.cons_append, lies_cons, lies_cons, lies_append (l := l), List.length_cons, show p + 1 + l.length = p + (l.length + 1) by omega]
    exact ⟨fun ⟨a, b, c⟩ => ⟨⟨a, b⟩, c⟩, fun ⟨⟨a, b⟩, c⟩ => ⟨a, b, c⟩⟩
theorem lies_top {s : ByteArray} {p : Nat} {l : List Nat} (h : Lies s p l) (hl : l ≠ []) : p + l.length ≤ s.size := by
  have h0 : 0 < l.length := List.length_pos_iff.2 hl
  have := h (l.length - 1) (by omega)
  have := peekI_in (s := s) (p := p + (l.length - 1)) (by rw [this]; omega)
  omega

/-- What a byte's spelling begins with. -/
def atomB (x : Int) : Prop := x = 92 ∨ (48 ≤ x ∧ x ≤ 57) ∨ (97 ≤ x ∧ x ≤ 122) ∨ (65 ≤ x ∧ x ≤ 90)
theorem plainB_iff (b : Nat) : plainB b = true ↔ ((48 ≤ b ∧ b ≤ 57) ∨ (97 ≤ b ∧ b ≤ 122)) ∨ (65 ≤ b ∧ b ≤ 90) := by simp [plainB]
theorem byteT_first {s : ByteArray} {p b : Nat} (h : Lies s p (byteT b)) : atomB (peekI s p) := by
  unfold byteT at h
  split at h
  · have := (lies_cons.1 h).1
    exact .inl this
  · split at h
    · rename_i hb
      have := (lies_cons.1 h).1
      rw [this]
      have := (plainB_iff b).1 hb
      right; omega
    · have := (lies_cons.1 h).1
      exact .inl this
theorem byteT_single {s : ByteArray} {p b : Nat} (hb : b < 256) (h : Lies s p (byteT b)) : singleF s p = ((b : Int), true, p + (byteT b).length) := by
  unfold byteT at h ⊢
  split at h
  · rename_i h10
    rw [if_pos h10]
    obtain ⟨h1, h2⟩ := lies_cons.1 h
    obtain ⟨h2, _⟩ := lies_cons.1 h2
    unfold singleF
    rw [if_neg (by rw [h1]; decide), if_neg (by rw [h2]; decide), if_pos (by rw [h2]; rfl), h10]
    rfl
  · rename_i h10
    rw [if_neg h10]
    split at h
    · rename_i hp
      rw [if_pos hp]
      have hp' := (plainB_iff b).1 hp
      obtain ⟨h1, h2⟩ := lies_cons.1 h
      unfold singleF
      rw [if_pos (by rw [h1]; omega), h1]
      rfl
    · rename_i hp
      rw [if_neg hp]
      have hp' : ¬ _ := fun e => hp ((plainB_iff b).2 e)
      obtain ⟨h1, h2⟩ := lies_cons.1 h
      obtain ⟨h2, _⟩ := lies_cons.1 h2
      unfold singleF
      rw [if_neg (by rw [h1]; decide), if_neg (by rw [h2]; omega), if_neg (by rw [h2]; omega), h2]
      rfl
theorem byteT_item {s : ByteArray} {p b : Nat} (hb : b < 256) (h : Lies s p (byteT b)) : itemF s p = ((b : Int), true, p + (byteT b).length) := by
  unfold itemF
  have h1 := byteT_first h
  rw [if_neg (by unfold itemBar atomB at *; omega)]
  exact byteT_single hb h
theorem byteT_pos (b : Nat) : 0 < (byteT b).length := by
  unfold byteT; split
  · simp
  · split <;> simp
theorem span_member {s : ByteArray} {p a b : Nat} (ha : a < 256) (hb : b < 256) (hab : a ≤ b) (h : Lies s p (byteT a ++ [45] ++ byteT b ++ [93])) :
    memberF s p = ((a : Int), (b : Int), true, p + (byteT a ++ [45] ++ byteT b).length) ∧ peekI s (p + (byteT a ++ [45] ++ byteT b).length) = 93 := by
  obtain ⟨h1, h4⟩ := lies_append.1 h
  obtain ⟨h1, h3⟩ := lies_append.1 h1
  obtain ⟨h1, h2⟩ := lies_append.1 h1
  have e1 := byteT_item ha h1
  have e2 := (lies_cons.1 h2).1
  have ee : p + (byteT a ++ [45]).length = p + (byteT a).length + 1 := by simp; omega
  rw [ee] at h3
  clear ee
  have e3 := byteT_item hb h3
  refine ⟨?_, (lies_cons.1 h4).1⟩
  unfold memberF
  rw [if_neg (by rw [e1]; simp [e2]), e1]
  simp only
  rw [e3]
  simp only
  rw [if_neg (by omega)]
  simp; omega
theorem leafT_place {s : ByteArray} {p k a b : Nat} (hk : leafOk k a b) (h : Lies s p (leafT k a b)) : placeF s p = (leafA k a b, true, p + (leafT k a b).length) := by
  obtain ⟨ha, hb, hab⟩ := hk
  unfold leafT at h ⊢
  split at h
  · rename_i hk
    rw [if_pos hk]
    have h1 := (lies_cons.1 h).1
    unfold placeF
    rw [if_neg (by unfold placeBar; rw [h1]; decide), if_pos (by rw [h1]; rfl)]
    congr 1
    funext x; simp [butF, noneF, leafA, hk]
  · rename_i hk1
    rw [if_neg hk1]
    split at h
    · rename_i hk
      rw [if_pos hk]
      have hab' := hab (.inl hk)
      simp only [List.append_assoc] at h
      rw [List.singleton_append, lies_cons] at h
      obtain ⟨h1, h2⟩ := h
      have h2' : Lies s (p + 1) (byteT a ++ [45] ++ byteT b ++ [93]) := by simpa using h2
      obtain ⟨hm, h93⟩ := span_member ha hb hab' h2'
      have hf := byteT_first (lies_append.1 h2).1
      unfold placeF
      rw [if_neg (by unfold placeBar; rw [h1]; decide), if_neg (by rw [h1]; decide), if_pos (by rw [h1]; rfl)]
      have hinv : decide (peekI s (p + 1) = 94) = false := by
        unfold atomB at hf; simp; omega
      rw [bracketsF_eq hinv (u := p + 1) rfl hm (membersF_stop _ _ _ _ _ (by rw [h93]; simp))]
      simp only [if_true, Bool.false_eq_true, if_false]
      congr 1
      · funext x; simp [rangeF, noneF, leafA, hk]
      · simp; omega
    · rename_i hk2
      rw [if_neg hk2]
      split at h
      · rename_i hk
        rw [if_pos hk]
        have hab' := hab (.inr hk)
        simp only [List.append_assoc] at h
        rw [List.cons_append, lies_cons, List.singleton_append, lies_cons] at h
        obtain ⟨h1, h94, h2⟩ := h
        have h2' : Lies s (p + 1 + 1) (byteT a ++ [45] ++ byteT b ++ [93]) := by simpa using h2
        obtain ⟨hm, h93⟩ := span_member ha hb hab' h2'
        unfold placeF
        rw [if_neg (by unfold placeBar; rw [h1]; decide), if_neg (by rw [h1]; decide), if_pos (by rw [h1]; rfl)]
        have hinv : decide (peekI s (p + 1) = 94) = true := by simp [h94]
        rw [bracketsF_eq hinv (u := p + 1 + 1) rfl hm (membersF_stop _ _ _ _ _ (by rw [h93]; simp))]
        simp only [if_true]
        congr 1
        · funext x
          simp [rangeF, noneF, butF, leafA, hk]
          rw [Bool.eq_iff_iff]; simp
        · simp; omega
      · rename_i hk3
        rw [if_neg hk3]
        have hf := byteT_first h
        have e := byteT_single ha h
        unfold placeF
        unfold atomB at hf
        rw [if_neg (by unfold placeBar; omega), if_neg (by omega), if_neg (by omega), e]
        simp only
        congr 1
        funext x
        simp [rangeF, noneF, leafA, hk1, hk2, hk3]
        rw [Bool.eq_iff_iff]; simp; omega

/-- What a tree's spelling begins with. -/
def headB (x : Int) : Prop := atomB x ∨ x = 46 ∨ x = 91 ∨ x = 40
theorem spell_head {s : ByteArray} {p : Nat} : ∀ (t : Tree), Lies s p t.spell → headB (peekI s p)
  | .leaf k a b, h => by
    unfold Tree.spell leafT at h
    split at h
    · exact .inr (.inl (lies_cons.1 h).1)
    · split at h
      · simp only [List.append_assoc] at h
        exact .inr (.inr (.inl (lies_cons.1 h).1))
      · split at h
        · simp only [List.append_assoc] at h
          exact .inr (.inr (.inl (lies_cons.1 h).1))
        · exact .inl (byteT_first h)
  | .row l r, h => .inr (.inr (.inr (by unfold Tree.spell at h; simp only [List.append_assoc] at h; exact (lies_cons.1 h).1)))
  | .or l r, h => .inr (.inr (.inr (by unfold Tree.spell at h; simp only [List.append_assoc] at h; exact (lies_cons.1 h).1)))
  | .star l, h => .inr (.inr (.inr (by unfold Tree.spell at h; simp only [List.append_assoc] at h; exact (lies_cons.1 h).1)))
  | .plus l, h => .inr (.inr (.inr (by unfold Tree.spell at h; simp only [List.append_assoc] at h; exact (lies_cons.1 h).1)))
  | .maybe l, h => .inr (.inr (.inr (by unfold Tree.spell at h; simp only [List.append_assoc] at h; exact (lies_cons.1 h).1)))

theorem piece_plain {s : ByteArray} {ex : PFn} {p q : Nat} {R R' : RulesT} {P : PartT} (h : atomF s ex p R = ⟨P, true, q, R'⟩) (hn : peekI s q ≠ 42 ∧ peekI s q ≠ 43 ∧ peekI s q ≠ 63) : pieceF s ex p R = ⟨P, true, q, R'⟩ := by
  unfold pieceF markF
  rw [h]
  simp [hn.1, hn.2.1, hn.2.2]
theorem alt_one {s : ByteArray} {ex : PFn} {p q : Nat} {R R' : RulesT} {P : PartT} (h : pieceF s ex p R = ⟨P, true, q, R'⟩) (he : endsB (peekI s q) = true) : alternativeF s ex p R = ⟨P, true, q, R'⟩ := by
  unfold alternativeF
  rw [h, altLoopF_stop _ _ _ _ (by simp [he])]
theorem alt_two {s : ByteArray} {ex : PFn} {p q u : Nat} {R R1 R2 : RulesT} {P Q : PartT} (hs : 0 < s.size) (h : pieceF s ex p R = ⟨P, true, q, R1⟩) (hq : endsB (peekI s q) = false) (h2 : pieceF s ex q R1 = ⟨Q, true, u, R2⟩) (he : endsB (peekI s u) = true) :
    alternativeF s ex p R = ⟨chainPart P Q, true, u, R2.chain P Q⟩ := by
  unfold alternativeF
  rw [h]
  obtain ⟨n, hn⟩ : ∃ n, s.size + 1 = n + 1 + 1 := ⟨s.size - 1, by omega⟩
  rw [hn, altLoopF, if_pos ⟨rfl, hq⟩]
  simp only
  rw [h2, altLoopF_stop _ _ _ _ (by simp [he])]
theorem expr_one {s : ByteArray} {ex : PFn} {p q : Nat} {R R' : RulesT} {P : PartT} (h : alternativeF s ex p R = ⟨P, true, q, R'⟩) (he : peekI s q ≠ 124) : expressionF s ex p R = ⟨P, true, q, R'⟩ := by
  unfold expressionF
  rw [h, exprLoopF_stop _ _ _ _ (by simp [he])]
theorem expr_two {s : ByteArray} {ex : PFn} {p q u : Nat} {R R1 R2 : RulesT} {P Q : PartT} (hs : 0 < s.size) (h : alternativeF s ex p R = ⟨P, true, q, R1⟩) (hq : peekI s q = 124) (h2 : alternativeF s ex (q + 1) R1 = ⟨Q, true, u, R2⟩) (he : peekI s u ≠ 124) :
    expressionF s ex p R = ⟨eitherPart P Q, true, u, R2⟩ := by
  unfold expressionF
  rw [h]
  obtain ⟨n, hn⟩ : ∃ n, s.size + 1 = n + 1 + 1 := ⟨s.size - 1, by omega⟩
  rw [hn, exprLoopF, if_pos ⟨rfl, hq⟩]
  simp only
  rw [h2, exprLoopF_stop _ _ _ _ (by simp [he])]
theorem group_of {s : ByteArray} {f p q : Nat} {R R' : RulesT} {P : PartT} (h40 : peekI s p = 40) (h : expressionF s (exprF s f) (p + 1) R = ⟨P, true, q, R'⟩) (h41 : peekI s q = 41) : atomF s (exprF s (f + 1)) p R = ⟨P, true, q + 1, R'⟩ := by
  unfold atomF groupF
  rw [if_pos h40]
  have e : exprF s (f + 1) (p + 1) R = ⟨P, true, q, R'⟩ := h
  rw [e]
  simp [h41]
theorem ends41 {s : ByteArray} {q : Nat} (h : peekI s q = 41) : endsB (peekI s q) = true := by rw [h]; decide

theorem piece_mark {s : ByteArray} {ex : PFn} {p q : Nat} {R R' : RulesT} {P : PartT} (h : atomF s ex p R = ⟨P, true, q, R'⟩) :
    (peekI s q = 42 → pieceF s ex p R = ⟨{ P with empty := true }, true, q + 1, R'.link P.last P.first⟩) ∧ (peekI s q = 43 → pieceF s ex p R = ⟨P, true, q + 1, R'.link P.last P.first⟩) ∧ (peekI s q = 63 → pieceF s ex p R = ⟨{ P with empty := true }, true, q + 1, R'⟩) := by
  unfold pieceF markF
  rw [h]
  refine ⟨fun e => ?_, fun e => ?_, fun e => ?_⟩ <;> simp [e]
theorem headB_not {x : Int} (h : headB x) : (x ≠ 42 ∧ x ≠ 43 ∧ x ≠ 63) ∧ endsB x = false := by
  unfold headB atomB at h
  refine ⟨by omega, ?_⟩
  unfold endsB
  simp; omega

/-- The reader reads a tree's spelling as the tree. -/
theorem atom_spell {s : ByteArray} : ∀ (t : Tree) (f p : Nat) (R : RulesT), t.ok → Lies s p t.spell → t.depth ≤ f → atomF s (exprF s f) p R = ⟨(t.glush R).1, true, p + t.spell.length, (t.glush R).2⟩
  | .leaf k a b, f, p, R, hk, h, hf => by
    have hh := spell_head _ h
    have e := leafT_place hk h
    unfold atomF
    by_cases h40 : peekI s p = 40
    · exfalso
      unfold Tree.spell leafT at h
      split at h
      · have := (lies_cons.1 h).1; omega
      · split at h
        · simp only [List.append_assoc] at h; have := (lies_cons.1 h).1; omega
        · split at h
          · simp only [List.append_assoc] at h; have := (lies_cons.1 h).1; omega
          · have := byteT_first h; unfold atomB at this; omega
    · rw [if_neg h40, e]
      simp [Tree.glush, Tree.spell]
  | .row l r, f, p, R, hk, h, hf => by
    unfold Tree.depth at hf
    obtain ⟨f, rfl⟩ : ∃ f', f = f' + 1 := ⟨f - 1, by omega⟩
    have hs : 0 < s.size := by have := lies_top h (by simp [Tree.spell]); simp [Tree.spell] at this; omega
    unfold Tree.spell at h
    obtain ⟨h, h4⟩ := lies_append.1 h
    obtain ⟨h, h3⟩ := lies_append.1 h
    obtain ⟨h1, h2⟩ := lies_append.1 h
    have h40 := (lies_cons.1 h1).1
    have h41 := (lies_cons.1 h4).1
    rw [show p + [40].length = p + 1 from rfl] at h2
    have ee : p + ([40] ++ l.spell).length = p + 1 + l.spell.length := by simp; omega
    rw [ee] at h3
    clear ee
    have ee : p + ([40] ++ l.spell ++ r.spell).length = p + 1 + l.spell.length + r.spell.length := by simp; omega
    rw [ee] at h41
    clear ee
    have e1 := atom_spell l f (p + 1) R hk.1 h2 (by omega)
    have e2 := atom_spell r f (p + 1 + l.spell.length) (l.glush R).2 hk.2 h3 (by omega)
    have hh := headB_not (spell_head _ h3)
    have g := group_of h40 (expr_one (alt_two hs (piece_plain e1 hh.1) hh.2 (piece_plain e2 (by rw [h41]; decide)) (ends41 h41)) (by rw [h41]; decide)) h41
    rw [g]
    simp only [Tree.glush, Tree.spell]
    congr 1
    simp; omega
  | .or l r, f, p, R, hk, h, hf => by
    unfold Tree.depth at hf
    obtain ⟨f, rfl⟩ : ∃ f', f = f' + 1 := ⟨f - 1, by omega⟩
    have hs : 0 < s.size := by have := lies_top h (by simp [Tree.spell]); simp [Tree.spell] at this; omega
    unfold Tree.spell at h
    obtain ⟨h, h5⟩ := lies_append.1 h
    obtain ⟨h, h4⟩ := lies_append.1 h
    obtain ⟨h, h3⟩ := lies_append.1 h
    obtain ⟨h1, h2⟩ := lies_append.1 h
    have h40 := (lies_cons.1 h1).1
    have h124 := (lies_cons.1 h3).1
    have h41 := (lies_cons.1 h5).1
    rw [show p + [40].length = p + 1 from rfl] at h2
    have ee : p + ([40] ++ l.spell).length = p + 1 + l.spell.length := by simp; omega
    rw [ee] at h124
    clear ee
    have ee : p + ([40] ++ l.spell ++ [124]).length = p + 1 + l.spell.length + 1 := by simp; omega
    rw [ee] at h4
    clear ee
    have ee : p + ([40] ++ l.spell ++ [124] ++ r.spell).length = p + 1 + l.spell.length + 1 + r.spell.length := by simp; omega
    rw [ee] at h41
    clear ee
    have e1 := atom_spell l f (p + 1) R hk.1 h2 (by omega)
    have e2 := atom_spell r f (p + 1 + l.spell.length + 1) (l.glush R).2 hk.2 h4 (by omega)
    have g := group_of h40 (expr_two hs (alt_one (piece_plain e1 (by rw [h124]; decide)) (by rw [h124]; decide)) h124 (alt_one (piece_plain e2 (by rw [h41]; decide)) (ends41 h41)) (by rw [h41]; decide)) h41
    rw [g]
    simp only [Tree.glush, Tree.spell]
    congr 1
    simp; omega
  | .star l, f, p, R, hk, h, hf => by
    unfold Tree.depth at hf
    obtain ⟨f, rfl⟩ : ∃ f', f = f' + 1 := ⟨f - 1, by omega⟩
    unfold Tree.spell at h
    obtain ⟨h, h4⟩ := lies_append.1 h
    obtain ⟨h, h3⟩ := lies_append.1 h
    obtain ⟨h1, h2⟩ := lies_append.1 h
    have h40 := (lies_cons.1 h1).1
    have h42 := (lies_cons.1 h3).1
    have h41 := (lies_cons.1 h4).1
    rw [show p + [40].length = p + 1 from rfl] at h2
    have ee : p + ([40] ++ l.spell).length = p + 1 + l.spell.length := by simp; omega
    rw [ee] at h42
    clear ee
    have ee : p + ([40] ++ l.spell ++ [42]).length = p + 1 + l.spell.length + 1 := by simp; omega
    rw [ee] at h41
    clear ee
    have e1 := atom_spell l f (p + 1) R hk h2 (by omega)
    have g := group_of h40 (expr_one (alt_one ((piece_mark e1).1 h42) (ends41 h41)) (by rw [h41]; decide)) h41
    rw [g]
    simp only [Tree.glush, Tree.spell]
    congr 1
    simp; omega
  | .plus l, f, p, R, hk, h, hf => by
    unfold Tree.depth at hf
    obtain ⟨f, rfl⟩ : ∃ f', f = f' + 1 := ⟨f - 1, by omega⟩
    unfold Tree.spell at h
    obtain ⟨h, h4⟩ := lies_append.1 h
    obtain ⟨h, h3⟩ := lies_append.1 h
    obtain ⟨h1, h2⟩ := lies_append.1 h
    have h40 := (lies_cons.1 h1).1
    have h42 := (lies_cons.1 h3).1
    have h41 := (lies_cons.1 h4).1
    rw [show p + [40].length = p + 1 from rfl] at h2
    have ee : p + ([40] ++ l.spell).length = p + 1 + l.spell.length := by simp; omega
    rw [ee] at h42
    clear ee
    have ee : p + ([40] ++ l.spell ++ [43]).length = p + 1 + l.spell.length + 1 := by simp; omega
    rw [ee] at h41
    clear ee
    have e1 := atom_spell l f (p + 1) R hk h2 (by omega)
    have g := group_of h40 (expr_one (alt_one ((piece_mark e1).2.1 h42) (ends41 h41)) (by rw [h41]; decide)) h41
    rw [g]
    simp only [Tree.glush, Tree.spell]
    congr 1
    simp; omega
  | .maybe l, f, p, R, hk, h, hf => by
    unfold Tree.depth at hf
    obtain ⟨f, rfl⟩ : ∃ f', f = f' + 1 := ⟨f - 1, by omega⟩
    unfold Tree.spell at h
    obtain ⟨h, h4⟩ := lies_append.1 h
    obtain ⟨h, h3⟩ := lies_append.1 h
    obtain ⟨h1, h2⟩ := lies_append.1 h
    have h40 := (lies_cons.1 h1).1
    have h42 := (lies_cons.1 h3).1
    have h41 := (lies_cons.1 h4).1
    rw [show p + [40].length = p + 1 from rfl] at h2
    have ee : p + ([40] ++ l.spell).length = p + 1 + l.spell.length := by simp; omega
    rw [ee] at h42
    clear ee
    have ee : p + ([40] ++ l.spell ++ [63]).length = p + 1 + l.spell.length + 1 := by simp; omega
    rw [ee] at h41
    clear ee
    have e1 := atom_spell l f (p + 1) R hk h2 (by omega)
    have g := group_of h40 (expr_one (alt_one ((piece_mark e1).2.2 h42) (ends41 h41)) (by rw [h41]; decide)) h41
    rw [g]
    simp only [Tree.glush, Tree.spell]
    congr 1
    simp; omega

theorem depth_spell : ∀ t : Tree, t.depth < t.spell.length
  | .leaf k a b => by
    unfold Tree.depth Tree.spell leafT
    split
    · simp
    · split
      · simp
      · split
        · simp
        · exact byteT_pos a
  | .row l r => by have := depth_spell l; have := depth_spell r; simp [Tree.depth, Tree.spell]; omega
  | .or l r => by have := depth_spell l; have := depth_spell r; simp [Tree.depth, Tree.spell]; omega
  | .star l => by have := depth_spell l; simp [Tree.depth, Tree.spell]; omega
  | .plus l => by have := depth_spell l; simp [Tree.depth, Tree.spell]; omega
  | .maybe l => by have := depth_spell l; simp [Tree.depth, Tree.spell]; omega

/-- All rules: with a newline between each two. -/
def joinT : List (List Nat) → List Nat
  | [] => []
  | [x] => x
  | x :: y :: r => x ++ [10] ++ joinT (y :: r)
def glushAll : List Tree → RulesT → RulesT
  | [], R => R
  | t :: ts, R => glushAll ts ((t.glush R).2.endRule (t.glush R).1)
theorem rule_spell {s : ByteArray} {p : Nat} {R : RulesT} (t : Tree) (hk : t.ok) (h : Lies s p t.spell) (hn : peekI s (p + t.spell.length) = 10 ∨ peekI s (p + t.spell.length) = -1) :
    ruleF s p R = (true, p + t.spell.length, (t.glush R).2.endRule (t.glush R).1) := by
  have hd := depth_spell t
  have ht := lies_top h (by intro e; rw [e] at hd; simp at hd)
  have e1 := atom_spell t s.size p R hk h (by omega)
  have e : exprF s (s.size + 1) p R = ⟨(t.glush R).1, true, p + t.spell.length, (t.glush R).2⟩ := by
    refine expr_one (alt_one (piece_plain e1 (by rcases hn with e | e <;> rw [e] <;> decide)) (by rcases hn with e | e <;> rw [e] <;> decide)) (by rcases hn with e | e <;> rw [e] <;> decide)
  unfold ruleF
  rw [e]
  simp
theorem allLoop_spell {s : ByteArray} : ∀ (ts : List Tree) (t : Tree) (n p : Nat) (R : RulesT), (∀ x ∈ t :: ts, x.ok) → Lies s p (joinT ((t :: ts).map Tree.spell)) → p + (joinT ((t :: ts).map Tree.spell)).length = s.size → s.size < n + p →
    allLoopF s n (ruleF s p R) = (true, s.size, glushAll (t :: ts) R)
  | [], t, n, p, R, hk, h, hl, hn => by
    have h' : Lies s p t.spell := h
    have hl' : p + t.spell.length = s.size := hl
    have he : peekI s (p + t.spell.length) = -1 := peekI_out (by omega)
    rw [rule_spell t (hk t (by simp)) h' (.inr he), allLoopF_stop _ _ _ (by simp [he]), hl']
    rfl
  | u :: ts, t, n, p, R, hk, h, hl, hn => by
    have h' : Lies s p (t.spell ++ [10] ++ joinT ((u :: ts).map Tree.spell)) := h
    have hl' : p + (t.spell ++ [10] ++ joinT ((u :: ts).map Tree.spell)).length = s.size := hl
    obtain ⟨h1, h3⟩ := lies_append.1 h'
    obtain ⟨h1, h2⟩ := lies_append.1 h1
    have h10 := (lies_cons.1 h2).1
    have ee : p + (t.spell ++ [10]).length = p + t.spell.length + 1 := by simp; omega
    rw [ee] at h3
    clear ee
    simp only [List.length_append, List.length_cons, List.length_nil] at hl'
    have hd := depth_spell t
    rw [rule_spell t (hk t (by simp)) h1 (.inl h10)]
    obtain ⟨n, rfl⟩ : ∃ m, n = m + 1 := ⟨n - 1, by omega⟩
    rw [allLoopF, if_pos ⟨rfl, h10⟩]
    simp only
    rw [allLoop_spell ts u n _ _ (fun x hx => hk x (by simp at hx ⊢; right; exact hx)) h3 (by omega) (by omega)]
    rfl
theorem all_spell {s : ByteArray} (ts : List Tree) (hts : ts ≠ []) (hk : ∀ x ∈ ts, x.ok) (h : Lies s 0 (joinT (ts.map Tree.spell))) (hl : (joinT (ts.map Tree.spell)).length = s.size) :
    allF s = (true, s.size, glushAll ts RulesT.new) := by
  cases ts with
  | nil => exact absurd rfl hts
  | cons t ts =>
    have e := allLoop_spell ts t (s.size + 1) 0 RulesT.new hk h (by omega) (by omega)
    unfold allF
    simp only
    rw [e]
    simp only
    rw [peekI_out (Nat.le_refl _)]
    rfl
end Go.Proofs.Ytcckhngbdoiikaa

namespace Go.Proofs.Ytcckhngbdoiikaa
set_option linter.unusedVariables false

def PSet.bit (s : PSet) (p : Nat) : Bool := if p < 64 then s.lo.getLsbD p else s.hi.getLsbD (p - 64)

theorem and_shl (a : BitVec 64) (p : Nat) : (a &&& (1#64 <<< p) == 0) = !(a.getLsbD p) := by
  have e : 1#64 <<< p = BitVec.twoPow 64 p := by rw [BitVec.twoPow_eq]
  rw [e, BitVec.and_twoPow]
  by_cases h : a.getLsbD p = true
  · have hp : p < 64 := BitVec.lt_of_getLsbD h
    rw [if_pos h, h]
    have : BitVec.twoPow 64 p ≠ 0#64 := by
      intro e
      have := congrArg (fun x => x.getLsbD p) e
      simp [hp] at this
    simp [this]
  · rw [if_neg h]
    simp at h
    simp [h]
theorem has_bit (s : PSet) (p : Nat) : s.has p = s.bit p := by
  unfold PSet.has PSet.meets PSet.only PSet.bit
  by_cases h1 : p < 64
  · rw [if_pos h1, if_pos h1]
    simp only
    rw [and_shl]
    simp
  · rw [if_neg h1, if_neg h1]
    by_cases h2 : p < 128
    · rw [if_pos h2]
      simp only
      rw [and_shl]
      simp
    · rw [if_neg h2]
      simp [PSet.none]
      exact BitVec.getLsbD_of_ge s.hi (p - 64) (by omega)
theorem has_lt {s : PSet} {p : Nat} (h : s.has p = true) : p < 128 := by
  rw [has_bit] at h
  unfold PSet.bit at h
  split at h
  · omega
  · have := BitVec.lt_of_getLsbD h; omega
theorem has_or (s t : PSet) (p : Nat) : (s.or t).has p = (s.has p || t.has p) := by
  simp only [has_bit]; unfold PSet.bit PSet.or; split <;> simp
theorem has_and (s t : PSet) (p : Nat) : (s.and t).has p = (s.has p && t.has p) := by
  simp only [has_bit]; unfold PSet.bit PSet.and; split <;> simp
theorem has_none (p : Nat) : PSet.none.has p = false := by
  simp only [has_bit]; unfold PSet.bit PSet.none; split <;> simp
theorem has_only (p q : Nat) (hp : p < 128) : (PSet.only p).has q = decide (p = q) := by
  rw [has_bit]
  unfold PSet.bit PSet.only
  by_cases h1 : p < 64
  · rw [if_pos h1]
    by_cases h2 : q < 64
    · rw [if_pos h2]
      simp [h2]
      by_cases h3 : p = q
      · subst h3; simp
      · simp [h3]; omega
    · rw [if_neg h2]
      simp
      omega
  · rw [if_neg h1, if_pos hp]
    by_cases h2 : q < 64
    · rw [if_pos h2]
      simp
      omega
    · rw [if_neg h2]
      by_cases h3 : p = q
      · subst h3; simp [BitVec.getLsbD_shiftLeft]; omega
      · simp [BitVec.getLsbD_shiftLeft, h3]; omega
theorem pset_ext {s t : PSet} (h : ∀ p, s.has p = t.has p) : s = t := by
  obtain ⟨sl, sh⟩ := s
  obtain ⟨tl, th⟩ := t
  congr 1
  · refine BitVec.eq_of_getLsbD_eq fun i hi => ?_
    have := h i
    simp only [has_bit] at this
    unfold PSet.bit at this
    rw [if_pos hi, if_pos hi] at this
    exact this
  · refine BitVec.eq_of_getLsbD_eq fun i hi => ?_
    have := h (i + 64)
    simp only [has_bit] at this
    unfold PSet.bit at this
    rw [if_neg (by omega), if_neg (by omega)] at this
    simpa using this
theorem isEmpty_iff (s : PSet) : s.isEmpty = true ↔ ∀ p, s.has p = false := by
  constructor
  · intro h p
    unfold PSet.isEmpty at h
    simp at h
    rw [has_bit]
    unfold PSet.bit
    split
    · rw [h.1]; simp
    · rw [h.2]; simp
  · intro h
    have : s = PSet.none := pset_ext fun p => by rw [h p, has_none]
    rw [this]; rfl
theorem isEmpty_not {s : PSet} (h : s.isEmpty = false) : ∃ p, s.has p = true := by
  refine Classical.byContradiction fun hn => ?_
  have : s.isEmpty = true := (isEmpty_iff s).2 fun p => by
    cases e : s.has p
    · rfl
    · exact absurd ⟨p, e⟩ hn
  rw [h] at this; cases this
theorem meets_iff (s t : PSet) : s.meets t = true ↔ ∃ p, s.has p = true ∧ t.has p = true := by
  have e : s.meets t = !(s.and t).isEmpty := by
    unfold PSet.meets PSet.isEmpty PSet.and
    simp only [Bool.not_and]
  rw [e]
  constructor
  · intro h
    simp at h
    obtain ⟨p, hp⟩ := isEmpty_not h
    rw [has_and, Bool.and_eq_true] at hp
    exact ⟨p, hp⟩
  · rintro ⟨p, h1, h2⟩
    cases e : (s.and t).isEmpty
    · rfl
    · have := (isEmpty_iff _).1 e p
      rw [has_and, h1, h2] at this
      cases this
theorem has_of_mem {l : List PSet} : ∀ {k : Nat} {p : Nat} , ((l.getD k PSet.none).has p = true) → k < l.length := fun {k p} h => by
  refine Classical.byContradiction fun hk => ?_
  have e : l.getD k PSet.none = PSet.none := by
    rw [List.getD_eq_getElem?_getD, List.getElem?_eq_none (by omega)]; rfl
  rw [e, has_none] at h
  cases h

theorem afterFrom_has (s : PSet) (q : Nat) : ∀ (l : List PSet) (k : Nat) (acc : PSet), (afterFrom s k l acc).has q = true ↔ (acc.has q = true ∨ ∃ i, s.has (k + i) = true ∧ (l.getD i PSet.none).has q = true)
  | [], k, acc => by
    simp only [afterFrom]
    refine ⟨fun h => .inl h, fun h => ?_⟩
    rcases h with h | ⟨i, _, h2⟩
    · exact h
    · have := has_of_mem h2; simp at this
  | f :: r, k, acc => by
    unfold afterFrom
    rw [afterFrom_has s q r (k + 1)]
    constructor
    · rintro (h | ⟨i, h1, h2⟩)
      · split at h
        · rename_i hk
          rw [has_or, Bool.or_eq_true] at h
          rcases h with h | h
          · exact .inl h
          · exact .inr ⟨0, hk, by simpa using h⟩
        · exact .inl h
      · exact .inr ⟨i + 1, by rw [show k + (i + 1) = k + 1 + i by omega]; exact h1, by simpa using h2⟩
    · rintro (h | ⟨i, h1, h2⟩)
      · left; split
        · rw [has_or, h]; rfl
        · exact h
      · cases i with
        | zero =>
          left
          rw [if_pos (by simpa using h1), has_or]
          simp at h2
          rw [h2]; simp
        | succ i => exact .inr ⟨i, by rw [show k + 1 + i = k + (i + 1) by omega]; exact h1, by simpa using h2⟩
theorem after_has (R : RulesT) (s : PSet) (q : Nat) : (R.after s).has q = true ↔ ∃ i, s.has i = true ∧ (R.follow.getD i PSet.none).has q = true := by
  unfold RulesT.after
  rw [afterFrom_has]
  simp [has_none]
theorem linkFrom_has (a b : PSet) (p q : Nat) : ∀ (l : List PSet) (k : Nat), ((linkFrom a b k l).getD p PSet.none).has q = true ↔ ((l.getD p PSet.none).has q = true ∨ (p < l.length ∧ a.has (k + p) = true ∧ b.has q = true))
  | [], k => by simp [linkFrom]
  | s :: r, k => by
    unfold linkFrom
    cases p with
    | zero =>
      simp
      split
      · rename_i h
        rw [has_or, Bool.or_eq_true]
        simp [h]
      · rename_i h
        simp [h]
    | succ p =>
      simp only [List.getD_cons_succ, List.length_cons]
      rw [linkFrom_has a b p q r (k + 1), show k + 1 + p = k + (p + 1) by omega]
      simp
theorem link_has (R : RulesT) (a b : PSet) (p q : Nat) : (((R.link a b).follow.getD p PSet.none).has q = true) ↔ ((R.follow.getD p PSet.none).has q = true ∨ (p < R.follow.length ∧ a.has p = true ∧ b.has q = true)) := by
  unfold RulesT.link
  simp only
  rw [linkFrom_has]
  simp
theorem ruleFrom_spec (s : PSet) : ∀ (l : List PSet) (k : Nat), (ruleFrom s k l = -1 ∧ ∀ i, i < l.length → s.meets (l.getD i PSet.none) = false) ∨ (∃ i, i < l.length ∧ ruleFrom s k l = ((k + i : Nat) : Int) ∧ s.meets (l.getD i PSet.none) = true ∧ ∀ j, j < i → s.meets (l.getD j PSet.none) = false)
  | [], k => .inl ⟨rfl, fun i hi => by simp at hi⟩
  | x :: r, k => by
    unfold ruleFrom
    cases h : s.meets x with
    | true => exact .inr ⟨0, by simp, by simp, by simpa using h, fun j hj => by omega⟩
    | false =>
      simp only [Bool.false_eq_true, if_false]
      rcases ruleFrom_spec s r (k + 1) with ⟨h1, h2⟩ | ⟨i, h1, h2, h3, h4⟩
      · refine .inl ⟨h1, fun i hi => ?_⟩
        cases i with
        | zero => simpa using h
        | succ i => simpa using h2 i (by simpa using hi)
      · refine .inr ⟨i + 1, by simpa using h1, by rw [h2]; omega, by simpa using h3, fun j hj => ?_⟩
        cases j with
        | zero => simpa using h
        | succ j => simpa using h4 j (by omega)
end Go.Proofs.Ytcckhngbdoiikaa
