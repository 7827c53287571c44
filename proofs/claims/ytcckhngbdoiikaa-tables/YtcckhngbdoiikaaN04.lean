import Derived.Test.YtcckhngbdoiikaaN03
import Derived.Test.YtcckhngbdoiikaaN02

namespace Go.Proofs.Ytcckhngbdoiikaa
set_option linter.unusedVariables false

inductive Star (P : List Nat → Prop) : List Nat → Prop where
  | nil : Star P []
  | cons {u v : List Nat} : P u → Star P v → Star P (u ++ v)
/-- The words of a tree. -/
def Tree.Word : Tree → List Nat → Prop
  | .leaf k a b, w => ∃ x, w = [x] ∧ leafA k a b x = true
  | .row l r, w => ∃ u v, w = u ++ v ∧ l.Word u ∧ r.Word v
  | .or l r, w => l.Word w ∨ r.Word w
  | .star l, w => Star l.Word w
  | .plus l, w => ∃ u v, w = u ++ v ∧ Star l.Word u ∧ l.Word v
  | .maybe l, w => w = [] ∨ l.Word w

/-- From the place p on, along the bytes w, to the place q. -/
def Reads (F A : Nat → Nat → Prop) : Nat → List Nat → Nat → Prop
  | _, [], _ => False
  | p, [x], q => A p x ∧ p = q
  | p, x :: y :: w, q => A p x ∧ ∃ p', F p p' ∧ Reads F A p' (y :: w) q
theorem Reads.one {F A : Nat → Nat → Prop} {p x : Nat} (h : A p x) : Reads F A p [x] p := ⟨h, rfl⟩
theorem Reads.ne {F A : Nat → Nat → Prop} {p q : Nat} {w : List Nat} (h : Reads F A p w q) : w ≠ [] := by rintro rfl; exact h
theorem Reads.join {F A : Nat → Nat → Prop} {q' q : Nat} {v : List Nat} : ∀ {u : List Nat} {p p' : Nat}, Reads F A p u p' → F p' q' → Reads F A q' v q → Reads F A p (u ++ v) q
  | [], p, p', h, _, _ => h.elim
  | [x], p, p', h, hf, hr => by
    obtain ⟨h1, rfl⟩ := h
    cases v with
    | nil => exact hr.elim
    | cons y v => exact ⟨h1, q', hf, hr⟩
  | x :: y :: u, p, p', h, hf, hr => by
    obtain ⟨h1, p2, h2, h3⟩ := h
    exact ⟨h1, p2, h2, Reads.join (u := y :: u) h3 hf hr⟩
theorem Reads.snoc {F A : Nat → Nat → Prop} {x q : Nat} : ∀ {u : List Nat} {p : Nat}, u ≠ [] → (Reads F A p (u ++ [x]) q ↔ (∃ p', Reads F A p u p' ∧ F p' q) ∧ A q x)
  | [], p, h => absurd rfl h
  | [y], p, _ => by
    constructor
    · rintro ⟨h1, p', h2, h3, rfl⟩
      exact ⟨⟨p, ⟨h1, rfl⟩, h2⟩, h3⟩
    · rintro ⟨⟨p', ⟨h1, rfl⟩, h2⟩, h3⟩
      exact ⟨h1, q, h2, h3, rfl⟩
  | y :: z :: u, p, _ => by
    have ih := fun p => Reads.snoc (F := F) (A := A) (x := x) (q := q) (u := z :: u) (p := p) (by simp)
    constructor
    · rintro ⟨h1, p', h2, h3⟩
      obtain ⟨⟨p2, h4, h5⟩, h6⟩ := (ih p').1 h3
      exact ⟨⟨p2, ⟨h1, p', h2, h4⟩, h5⟩, h6⟩
    · rintro ⟨⟨p2, ⟨h1, p', h2, h4⟩, h5⟩, h6⟩
      exact ⟨h1, p', h2, (ih p').2 ⟨⟨p2, h4, h5⟩, h6⟩⟩
theorem Reads.mono {F G A B : Nat → Nat → Prop} {q : Nat} {I : Nat → Prop} (hA : ∀ p x, I p → A p x → B p x) (hF : ∀ p p', I p → F p p' → G p p' ∧ I p') : ∀ {w : List Nat} {p : Nat}, I p → Reads F A p w q → Reads G B p w q
  | [], p, _, h => h.elim
  | [x], p, hi, h => ⟨hA _ _ hi h.1, h.2⟩
  | x :: y :: w, p, hi, h => by
    obtain ⟨h1, p', h2, h3⟩ := h
    obtain ⟨h4, h5⟩ := hF _ _ hi h2
    exact ⟨hA _ _ hi h1, p', h4, Reads.mono hA hF (w := y :: w) h5 h3⟩
theorem Reads.inv {F A : Nat → Nat → Prop} {q : Nat} {I : Nat → Prop} (hF : ∀ p p', I p → F p p' → I p') : ∀ {w : List Nat} {p : Nat}, I p → Reads F A p w q → I q
  | [], p, _, h => h.elim
  | [x], p, hi, h => h.2 ▸ hi
  | x :: y :: w, p, hi, h => by
    obtain ⟨h1, p', h2, h3⟩ := h
    exact Reads.inv hF (w := y :: w) (hF _ _ hi h2) h3
/-- Parted at the first step that the smaller relation does not have. -/
theorem Reads.part {F G A : Nat → Nat → Prop} {q : Nat} {a b : Nat → Prop} (hG : ∀ p p', G p p' → F p p' ∨ (a p ∧ b p')) : ∀ {w : List Nat} {p : Nat}, Reads G A p w q → Reads F A p w q ∨ ∃ u v p' p'', w = u ++ v ∧ Reads F A p u p' ∧ a p' ∧ b p'' ∧ Reads G A p'' v q
  | [], p, h => h.elim
  | [x], p, h => .inl h
  | x :: y :: w, p, h => by
    obtain ⟨h1, p', h2, h3⟩ := h
    rcases hG _ _ h2 with h4 | ⟨h4, h5⟩
    · rcases Reads.part hG (w := y :: w) h3 with h6 | ⟨u, v, r, r', h6, h7, h8, h9, h10⟩
      · exact .inl ⟨h1, p', h4, h6⟩
      · refine .inr ⟨x :: u, v, r, r', by rw [h6]; rfl, ?_, h8, h9, h10⟩
        cases u with
        | nil => exact h7.elim
        | cons z u => exact ⟨h1, p', h4, h7⟩
    · exact .inr ⟨[x], y :: w, p, p', rfl, ⟨h1, rfl⟩, h4, h5, h3⟩

def RulesT.F (R : RulesT) (p q : Nat) : Prop := (R.follow.getD p PSet.none).has q = true
def RulesT.A (R : RulesT) (p x : Nat) : Prop := (R.allow x).has p = true

/-- What the reader adds, when it reads a part: places from R's length on. -/
structure Fits (R R' : RulesT) (P : PartT) : Prop where
  le : R.follow.length ≤ R'.follow.length
  oldF : ∀ p q, p < R.follow.length → (R'.F p q ↔ R.F p q)
  newF : ∀ p q, R.follow.length ≤ p → R'.F p q → R.follow.length ≤ q ∧ q < R'.follow.length
  oldA : ∀ p x, p < R.follow.length → (R'.A p x ↔ R.A p x)
  farA : ∀ p x, R'.follow.length ≤ p → (R'.A p x ↔ R.A p x)
  first : ∀ p, P.first.has p = true → R.follow.length ≤ p ∧ p < R'.follow.length
  last : ∀ p, P.last.has p = true → R.follow.length ≤ p ∧ p < R'.follow.length
  firstR : R'.first = R.first
  lastR : R'.last = R.last

theorem F_lt {R : RulesT} {p q : Nat} (h : R.F p q) : p < R.follow.length := has_of_mem h
theorem link_F (R : RulesT) (a b : PSet) (p q : Nat) : (R.link a b).F p q ↔ (R.F p q ∨ (p < R.follow.length ∧ a.has p = true ∧ b.has q = true)) := link_has R a b p q
theorem glush_len : ∀ (t : Tree) (R : RulesT), (t.glush R).2.follow.length = R.follow.length + t.places
  | .leaf k a b, R => by simp [Tree.glush, Tree.places, RulesT.add]
  | .row l r, R => by simp [Tree.glush, Tree.places, RulesT.chain, link_follow_length, glush_len l, glush_len r]; omega
  | .or l r, R => by simp [Tree.glush, Tree.places, glush_len l, glush_len r]; omega
  | .star l, R => by simp [Tree.glush, Tree.places, link_follow_length, glush_len l]
  | .plus l, R => by simp [Tree.glush, Tree.places, link_follow_length, glush_len l]
  | .maybe l, R => by simp [Tree.glush, Tree.places, glush_len l]

theorem link_fits {R R' : RulesT} {P Q : PartT} {a b : PSet} (h : Fits R R' P) (ha : ∀ p, a.has p = true → R.follow.length ≤ p) (hb : ∀ p, b.has p = true → R.follow.length ≤ p ∧ p < R'.follow.length)
    (hf : ∀ p, Q.first.has p = true → R.follow.length ≤ p ∧ p < R'.follow.length) (hl : ∀ p, Q.last.has p = true → R.follow.length ≤ p ∧ p < R'.follow.length) : Fits R (R'.link a b) Q := by
  have hlen := link_follow_length R' a b
  refine ⟨by rw [hlen]; exact h.le, fun p q hp => ?_, fun p q hp hq => ?_, h.oldA, fun p x hp => h.farA p x (by rw [hlen] at hp; exact hp), by rw [hlen]; exact hf, by rw [hlen]; exact hl, h.firstR, h.lastR⟩
  · rw [link_F]
    constructor
    · rintro (e | ⟨_, e, _⟩)
      · exact (h.oldF p q hp).1 e
      · have := ha p e; omega
    · intro e; exact .inl ((h.oldF p q hp).2 e)
  · rw [link_F] at hq
    rw [hlen]
    rcases hq with e | ⟨_, _, e⟩
    · exact h.newF p q hp e
    · exact hb q e
theorem Fits.trans {R R' R'' : RulesT} {P Q S : PartT} (h : Fits R R' P) (g : Fits R' R'' Q) (hf : ∀ p, S.first.has p = true → R.follow.length ≤ p ∧ p < R''.follow.length) (hl : ∀ p, S.last.has p = true → R.follow.length ≤ p ∧ p < R''.follow.length) : Fits R R'' S := by
  have l1 := h.le
  have l2 := g.le
  refine ⟨by omega, fun p q hp => ?_, fun p q hp hq => ?_, fun p x hp => ?_, fun p x hp => ?_, hf, hl, g.firstR.trans h.firstR, g.lastR.trans h.lastR⟩
  · rw [g.oldF p q (by omega), h.oldF p q hp]
  · by_cases hp' : p < R'.follow.length
    · have := h.newF p q hp ((g.oldF p q hp').1 hq)
      omega
    · have := g.newF p q (by omega) hq
      omega
  · rw [g.oldA p x (by omega), h.oldA p x hp]
  · rw [g.farA p x hp, h.farA p x (by omega)]
theorem glush_fits : ∀ (t : Tree) (R : RulesT), R.follow.length + t.places ≤ 128 → Fits R (t.glush R).2 (t.glush R).1
  | .leaf k a b, R, hn => by
    simp only [Tree.places] at hn
    have hF : ∀ p q, (R.add (leafA k a b)).F p q ↔ R.F p q := by
      intro p q
      unfold RulesT.F RulesT.add
      simp only
      by_cases hp : p < R.follow.length
      · rw [List.getD_eq_getElem?_getD, List.getElem?_append_left hp, ← List.getD_eq_getElem?_getD]
      · constructor
        · intro h
          have h2 := has_of_mem h
          simp at h2
          have : p = R.follow.length := by omega
          subst this
          simp [has_none] at h
        · intro h; exact absurd (has_of_mem h) hp
    have hA : ∀ p x, p ≠ R.follow.length → ((R.add (leafA k a b)).A p x ↔ R.A p x) := by
      intro p x hp
      unfold RulesT.A RulesT.add addAllow
      simp only
      split
      · rw [has_or, has_only _ _ (by omega)]
        simp [Ne.symm hp]
      · rfl
    have ho : ∀ p, (PSet.only R.follow.length).has p = true → R.follow.length ≤ p ∧ p < (R.add (leafA k a b)).follow.length := by
      intro p hp
      rw [has_only _ _ (by omega)] at hp
      simp at hp
      subst hp
      simp [RulesT.add]
    refine ⟨by simp [Tree.glush, RulesT.add], fun p q hp => hF p q, fun p q hp hq => ?_, fun p x hp => hA p x (by omega), fun p x hp => hA p x (by simp [Tree.glush, RulesT.add] at hp; omega), ho, ho, rfl, rfl⟩
    have := F_lt ((hF p q).1 hq)
    omega
  | .row l r, R, hn => by
    simp only [Tree.places] at hn
    have g1 := glush_fits l R (by omega)
    have e1 := glush_len l R
    have g2 := glush_fits r (l.glush R).2 (by omega)
    have e2 := glush_len r (l.glush R).2
    have l1 := g1.le
    have l2 := g2.le
    have hf : ∀ p, (chainPart (l.glush R).1 (r.glush (l.glush R).2).1).first.has p = true → R.follow.length ≤ p ∧ p < (r.glush (l.glush R).2).2.follow.length := by
      intro p hp
      unfold chainPart at hp
      simp only at hp
      split at hp
      · rw [has_or, Bool.or_eq_true] at hp
        rcases hp with e | e
        · have := g1.first p e; omega
        · have := g2.first p e; omega
      · have := g1.first p hp; omega
    have hl : ∀ p, (chainPart (l.glush R).1 (r.glush (l.glush R).2).1).last.has p = true → R.follow.length ≤ p ∧ p < (r.glush (l.glush R).2).2.follow.length := by
      intro p hp
      unfold chainPart at hp
      simp only at hp
      split at hp
      · rw [has_or, Bool.or_eq_true] at hp
        rcases hp with e | e
        · have := g2.last p e; omega
        · have := g1.last p e; omega
      · have := g2.last p hp; omega
    exact link_fits (g1.trans g2 hf hl) (fun p hp => (g1.last p hp).1) (fun p hp => by have := g2.first p hp; omega) hf hl
  | .or l r, R, hn => by
    simp only [Tree.places] at hn
    have g1 := glush_fits l R (by omega)
    have e1 := glush_len l R
    have g2 := glush_fits r (l.glush R).2 (by omega)
    have l1 := g1.le
    have l2 := g2.le
    have l3 : (Tree.glush (.or l r) R).2.follow.length = (r.glush (l.glush R).2).2.follow.length := rfl
    refine g1.trans g2 (fun p hp => ?_) (fun p hp => ?_)
    · rw [show (Tree.glush (.or l r) R).1.first = (l.glush R).1.first.or (r.glush (l.glush R).2).1.first from rfl, has_or, Bool.or_eq_true] at hp
      rcases hp with e | e
      · have := g1.first p e; omega
      · have := g2.first p e; omega
    · rw [show (Tree.glush (.or l r) R).1.last = (l.glush R).1.last.or (r.glush (l.glush R).2).1.last from rfl, has_or, Bool.or_eq_true] at hp
      rcases hp with e | e
      · have := g1.last p e; omega
      · have := g2.last p e; omega
  | .star l, R, hn => by
    have g1 := glush_fits l R hn
    exact link_fits g1 (fun p hp => (g1.last p hp).1) (fun p hp => g1.first p hp) g1.first g1.last
  | .plus l, R, hn => by
    have g1 := glush_fits l R hn
    exact link_fits g1 (fun p hp => (g1.last p hp).1) (fun p hp => g1.first p hp) g1.first g1.last
  | .maybe l, R, hn => by
    have g1 := glush_fits l R hn
    exact ⟨g1.le, g1.oldF, g1.newF, g1.oldA, g1.farA, g1.first, g1.last, g1.firstR, g1.lastR⟩

/-- The words that a part has. -/
def PWord (R : RulesT) (P : PartT) (w : List Nat) : Prop := (w = [] ∧ P.empty = true) ∨ ∃ p q, P.first.has p = true ∧ P.last.has q = true ∧ Reads R.F R.A p w q

theorem star_append {P : List Nat → Prop} {u v : List Nat} (h : Star P u) (g : Star P v) : Star P (u ++ v) := by
  induction h with
  | nil => exact g
  | @cons a b h1 h2 ih => rw [List.append_assoc]; exact .cons h1 ih
theorem star_one {P : List Nat → Prop} {u : List Nat} (h : P u) : Star P u := by
  have := Star.cons (P := P) h .nil
  simpa using this

/-- Under the links from last to first: the words one behind the other. -/
theorem loop_words {R : RulesT} {P : PartT} (hl : ∀ p, P.last.has p = true → p < R.follow.length) (w : List Nat) :
    (∃ p q, P.first.has p = true ∧ P.last.has q = true ∧ Reads (R.link P.last P.first).F (R.link P.last P.first).A p w q) ↔ (w ≠ [] ∧ Star (PWord R P) w) := by
  have hsub : ∀ {p q : Nat} {w : List Nat}, Reads R.F R.A p w q → Reads (R.link P.last P.first).F (R.link P.last P.first).A p w q := fun h =>
    Reads.mono (I := fun _ => True) (fun p x _ h => h) (fun p p' _ h => ⟨(link_F _ _ _ _ _).2 (.inl h), trivial⟩) trivial h
  have hG : ∀ p p', (R.link P.last P.first).F p p' → R.F p p' ∨ (P.last.has p = true ∧ P.first.has p' = true) := by
    intro p p' h
    rcases (link_F _ _ _ _ _).1 h with e | ⟨_, e1, e2⟩
    · exact .inl e
    · exact .inr ⟨e1, e2⟩
  constructor
  · rintro ⟨p, q, h1, h2, h3⟩
    refine ⟨h3.ne, ?_⟩
    generalize hn : w.length = n
    induction n using Nat.strongRecOn generalizing w p with
    | ind n ih =>
      rcases Reads.part (F := R.F) hG h3 with h4 | ⟨u, v, p', p'', rfl, h5, h6, h7, h8⟩
      · exact star_one (.inr ⟨p, q, h1, h2, h4⟩)
      · have hu := h5.ne
        have : 0 < u.length := List.length_pos_iff.2 hu
        simp at hn
        exact .cons (.inr ⟨p, p', h1, h6, h5⟩) (ih v.length (by omega) v p'' h7 h8 rfl)
  · rintro ⟨hw, h⟩
    induction h with
    | nil => exact absurd rfl hw
    | @cons u v h1 h2 ih =>
      rcases h1 with ⟨rfl, _⟩ | ⟨p, q, h3, h4, h5⟩
      · simpa using ih (by simpa using hw)
      · by_cases hv : v = []
        · subst hv
          rw [List.append_nil]
          exact ⟨p, q, h3, h4, hsub h5⟩
        · obtain ⟨p', q', h6, h7, h8⟩ := ih hv
          exact ⟨p, q', h3, h7, Reads.join (hsub h5) ((link_F _ _ _ _ _).2 (.inr ⟨hl _ h4, h4, h6⟩)) h8⟩

theorem star_congr {P Q : List Nat → Prop} (h : ∀ w, P w ↔ Q w) (w : List Nat) : Star P w ↔ Star Q w := by
  constructor
  · intro g
    induction g with
    | nil => exact .nil
    | cons h1 h2 ih => exact .cons ((h _).1 h1) ih
  · intro g
    induction g with
    | nil => exact .nil
    | cons h1 h2 ih => exact .cons ((h _).2 h1) ih

theorem reads_old {R R' : RulesT} {P : PartT} (h : Fits R R' P) (h0 : ∀ p q, R.F p q → q < R.follow.length) {p q : Nat} {w : List Nat} (hp : p < R.follow.length) : Reads R'.F R'.A p w q ↔ Reads R.F R.A p w q := by
  constructor
  · exact Reads.mono (I := fun p => p < R.follow.length) (fun p x hi h' => (h.oldA p x hi).1 h') (fun p p' hi h' => ⟨(h.oldF p p' hi).1 h', h0 _ _ ((h.oldF p p' hi).1 h')⟩) hp
  · exact Reads.mono (I := fun p => p < R.follow.length) (fun p x hi h' => (h.oldA p x hi).2 h') (fun p p' hi h' => ⟨(h.oldF p p' hi).2 h', h0 _ _ h'⟩) hp
/-- No place is linked to one that is not there yet. -/
def Closed (R : RulesT) : Prop := (∀ p q, R.F p q → q < R.follow.length) ∧ (∀ p x, R.A p x → p < R.follow.length)
theorem fits_closed {R R' : RulesT} {P : PartT} (h : Fits R R' P) (hc : Closed R) : Closed R' := by
  have := h.le
  refine ⟨fun p q hq => ?_, fun p x hx => ?_⟩
  · by_cases hp : p < R.follow.length
    · have := hc.1 p q ((h.oldF p q hp).1 hq); omega
    · exact (h.newF p q (by omega) hq).2
  · refine Classical.byContradiction fun hn => ?_
    have := hc.2 p x ((h.farA p x (by omega)).1 hx)
    omega

/-- The part that the reader makes of a tree has the tree's words. -/
theorem glush_word : ∀ (t : Tree) (R : RulesT), R.follow.length + t.places ≤ 128 → Closed R → ∀ w, PWord (t.glush R).2 (t.glush R).1 w ↔ t.Word w
  | .leaf k a b, R, hn, hc, w => by
    simp only [Tree.places] at hn
    have hA : ∀ x, (R.add (leafA k a b)).A R.follow.length x ↔ leafA k a b x = true := by
      intro x
      unfold RulesT.A RulesT.add addAllow
      simp only
      have hno : (R.allow x).has R.follow.length = false := by
        cases e : (R.allow x).has R.follow.length
        · rfl
        · have := hc.2 _ x e; omega
      split
      · rename_i h
        rw [has_or, has_only _ _ (by omega)]
        simp [h]
      · rename_i h
        rw [hno]
        simp at h
        simp [h]
    have hfits := glush_fits (.leaf k a b) R hn
    constructor
    · rintro (⟨_, h⟩ | ⟨p, q, h1, h2, h3⟩)
      · cases h
      · have h1' : (PSet.only R.follow.length).has p = true := h1
        rw [has_only _ _ (by omega)] at h1'
        simp at h1'
        subst h1'
        cases w with
        | nil => exact h3.elim
        | cons x w =>
          cases w with
          | nil => exact ⟨x, rfl, (hA x).1 h3.1⟩
          | cons y w =>
            obtain ⟨_, p', h4, _⟩ := h3
            exfalso
            have h5 : (R.add (leafA k a b)).F R.follow.length p' := h4
            unfold RulesT.F RulesT.add at h5
            simp [has_none] at h5
    · rintro ⟨x, rfl, h⟩
      have ho : (PSet.only R.follow.length).has R.follow.length = true := by rw [has_only _ _ (by omega)]; simp
      exact .inr ⟨R.follow.length, R.follow.length, ho, ho, (hA x).2 h, rfl⟩
  | .row l r, R, hn, hc, w => by
    simp only [Tree.places] at hn
    have g1 := glush_fits l R (by omega)
    have e1 := glush_len l R
    have c1 := fits_closed g1 hc
    have g2 := glush_fits r (l.glush R).2 (by omega)
    have c2 := fits_closed g2 c1
    have w1 := glush_word l R (by omega) hc
    have w2 := glush_word r (l.glush R).2 (by omega) c1
    have l1 := g1.le
    have l2 := g2.le
    simp only [Tree.Word, Tree.glush, RulesT.chain]
    generalize hP : (l.glush R).1 = P at *
    generalize hR1 : (l.glush R).2 = R1 at *
    generalize hQ : (r.glush R1).1 = Q at *
    generalize hR2 : (r.glush R1).2 = R2 at *
    -- within the first part: as ahead of the second
    have inP : ∀ {p q : Nat} {w : List Nat}, p < R1.follow.length → (Reads R2.F R2.A p w q ↔ Reads R1.F R1.A p w q) := fun hp => reads_old g2 c1.1 hp
    have hG : ∀ p p', (R2.link P.last Q.first).F p p' → R2.F p p' ∨ (P.last.has p = true ∧ Q.first.has p' = true) := by
      intro p p' h
      rcases (link_F _ _ _ _ _).1 h with e | ⟨_, e1, e2⟩
      · exact .inl e
      · exact .inr ⟨e1, e2⟩
    have hsub : ∀ {p q : Nat} {w : List Nat}, Reads R2.F R2.A p w q → Reads (R2.link P.last Q.first).F (R2.link P.last Q.first).A p w q := fun h =>
      Reads.mono (I := fun _ => True) (fun p x _ h => h) (fun p p' _ h => ⟨(link_F _ _ _ _ _).2 (.inl h), trivial⟩) trivial h
    -- within the second part: no link
    have inQ : ∀ {p q : Nat} {w : List Nat}, R1.follow.length ≤ p → Reads (R2.link P.last Q.first).F (R2.link P.last Q.first).A p w q → Reads R2.F R2.A p w q := fun hp h => by
      refine Reads.mono (I := fun p => R1.follow.length ≤ p) (fun p x _ h => h) (fun p p' hi h => ?_) hp h
      rcases hG _ _ h with e | ⟨e1, _⟩
      · exact ⟨e, (g2.newF p p' hi e).1⟩
      · have := g1.last p e1; omega
    have hf : ∀ p, (chainPart P Q).first.has p = true ↔ (P.first.has p = true ∨ (P.empty = true ∧ Q.first.has p = true)) := by
      intro p
      unfold chainPart
      simp only
      cases P.empty <;> simp [has_or]
    have hl : ∀ p, (chainPart P Q).last.has p = true ↔ (Q.last.has p = true ∨ (Q.empty = true ∧ P.last.has p = true)) := by
      intro p
      unfold chainPart
      simp only
      cases Q.empty <;> simp [has_or]
    constructor
    · rintro (⟨rfl, h⟩ | ⟨p, q, h1, h2, h3⟩)
      · have h' : (P.empty && Q.empty) = true := h
        rw [Bool.and_eq_true] at h'
        exact ⟨[], [], rfl, (w1 []).1 (.inl ⟨rfl, h'.1⟩), (w2 []).1 (.inl ⟨rfl, h'.2⟩)⟩
      · rcases (hf p).1 h1 with h4 | ⟨h4, h5⟩
        · have hp := g1.first p h4
          rcases Reads.part (F := R2.F) hG h3 with h6 | ⟨u, v, p', p'', rfl, h6, h7, h8, h9⟩
          · have h6' := (inP hp.2).1 h6
            have hq := Reads.inv (I := fun p => p < R1.follow.length) (fun p p' hi h => c1.1 _ _ h) hp.2 h6'
            rcases (hl q).1 h2 with h7 | ⟨h7, h8⟩
            · have := g2.last q h7; omega
            · exact ⟨w, [], by simp, (w1 w).1 (.inr ⟨p, q, h4, h8, h6'⟩), (w2 []).1 (.inl ⟨rfl, h7⟩)⟩
          · have hp'' := g2.first p'' h8
            have h9' := inQ hp''.1 h9
            have hq := Reads.inv (I := fun p => R1.follow.length ≤ p) (fun p p' hi h => (g2.newF p p' hi h).1) hp''.1 h9'
            rcases (hl q).1 h2 with h10 | ⟨_, h10⟩
            · exact ⟨u, v, rfl, (w1 u).1 (.inr ⟨p, p', h4, h7, (inP hp.2).1 h6⟩), (w2 v).1 (.inr ⟨p'', q, h8, h10, h9'⟩)⟩
            · have := g1.last q h10; omega
        · have hp := g2.first p h5
          have h3' := inQ hp.1 h3
          have hq := Reads.inv (I := fun p => R1.follow.length ≤ p) (fun p p' hi h => (g2.newF p p' hi h).1) hp.1 h3'
          rcases (hl q).1 h2 with h10 | ⟨_, h10⟩
          · exact ⟨[], w, rfl, (w1 []).1 (.inl ⟨rfl, h4⟩), (w2 w).1 (.inr ⟨p, q, h5, h10, h3'⟩)⟩
          · have := g1.last q h10; omega
    · rintro ⟨u, v, rfl, hu, hv⟩
      rcases (w1 u).2 hu with ⟨rfl, h1⟩ | ⟨p, q, h1, h2, h3⟩
      · rcases (w2 v).2 hv with ⟨rfl, h4⟩ | ⟨p', q', h4, h5, h6⟩
        · exact .inl ⟨rfl, by show (P.empty && Q.empty) = true; rw [h1, h4]; rfl⟩
        · exact .inr ⟨p', q', (hf p').2 (.inr ⟨h1, h4⟩), (hl q').2 (.inl h5), by simpa using hsub h6⟩
      · have h3' := (inP (g1.first p h1).2).2 h3
        rcases (w2 v).2 hv with ⟨rfl, h4⟩ | ⟨p', q', h4, h5, h6⟩
        · exact .inr ⟨p, q, (hf p).2 (.inl h1), (hl q).2 (.inr ⟨h4, h2⟩), by simpa using hsub h3'⟩
        · refine .inr ⟨p, q', (hf p).2 (.inl h1), (hl q').2 (.inl h5), Reads.join (hsub h3') ((link_F _ _ _ _ _).2 (.inr ⟨?_, h2, h4⟩)) (hsub h6)⟩
          have := g1.last q h2
          omega
  | .or l r, R, hn, hc, w => by
    simp only [Tree.places] at hn
    have g1 := glush_fits l R (by omega)
    have e1 := glush_len l R
    have c1 := fits_closed g1 hc
    have g2 := glush_fits r (l.glush R).2 (by omega)
    have w1 := glush_word l R (by omega) hc
    have w2 := glush_word r (l.glush R).2 (by omega) c1
    simp only [Tree.Word, Tree.glush]
    generalize hP : (l.glush R).1 = P at *
    generalize hR1 : (l.glush R).2 = R1 at *
    generalize hQ : (r.glush R1).1 = Q at *
    generalize hR2 : (r.glush R1).2 = R2 at *
    have inP : ∀ {p q : Nat} {w : List Nat}, p < R1.follow.length → (Reads R2.F R2.A p w q ↔ Reads R1.F R1.A p w q) := fun hp => reads_old g2 c1.1 hp
    have hf : ∀ p, (eitherPart P Q).first.has p = true ↔ (P.first.has p = true ∨ Q.first.has p = true) := by
      intro p; unfold eitherPart; simp [has_or]
    have hl : ∀ p, (eitherPart P Q).last.has p = true ↔ (P.last.has p = true ∨ Q.last.has p = true) := by
      intro p; unfold eitherPart; simp [has_or]
    constructor
    · rintro (⟨rfl, h⟩ | ⟨p, q, h1, h2, h3⟩)
      · have h' : (P.empty || Q.empty) = true := h
        rw [Bool.or_eq_true] at h'
        rcases h' with e | e
        · exact .inl ((w1 []).1 (.inl ⟨rfl, e⟩))
        · exact .inr ((w2 []).1 (.inl ⟨rfl, e⟩))
      · rcases (hf p).1 h1 with h4 | h4
        · have hp := g1.first p h4
          have h3' := (inP hp.2).1 h3
          have hq := Reads.inv (I := fun p => p < R1.follow.length) (fun p p' hi h => c1.1 _ _ h) hp.2 h3'
          rcases (hl q).1 h2 with h7 | h7
          · exact .inl ((w1 w).1 (.inr ⟨p, q, h4, h7, h3'⟩))
          · have := g2.last q h7; omega
        · have hp := g2.first p h4
          have hq := Reads.inv (I := fun p => R1.follow.length ≤ p) (fun p p' hi h => (g2.newF p p' hi h).1) hp.1 h3
          rcases (hl q).1 h2 with h7 | h7
          · have := g1.last q h7; omega
          · exact .inr ((w2 w).1 (.inr ⟨p, q, h4, h7, h3⟩))
    · rintro (h | h)
      · rcases (w1 w).2 h with ⟨rfl, h1⟩ | ⟨p, q, h1, h2, h3⟩
        · exact .inl ⟨rfl, by show (P.empty || Q.empty) = true; rw [h1]; rfl⟩
        · exact .inr ⟨p, q, (hf p).2 (.inl h1), (hl q).2 (.inl h2), (inP (g1.first p h1).2).2 h3⟩
      · rcases (w2 w).2 h with ⟨rfl, h1⟩ | ⟨p, q, h1, h2, h3⟩
        · exact .inl ⟨rfl, by show (P.empty || Q.empty) = true; rw [h1]; simp⟩
        · exact .inr ⟨p, q, (hf p).2 (.inr h1), (hl q).2 (.inr h2), h3⟩
  | .star l, R, hn, hc, w => by
    have g1 := glush_fits l R hn
    have w1 := glush_word l R hn hc
    simp only [Tree.Word, Tree.glush]
    have hw := loop_words (R := (l.glush R).2) (P := (l.glush R).1) (fun p hp => (g1.last p hp).2) w
    rw [star_congr w1] at hw
    constructor
    · rintro (⟨rfl, h⟩ | h)
      · exact .nil
      · exact (hw.1 h).2
    · intro h
      by_cases he : w = []
      · exact .inl ⟨he, rfl⟩
      · exact .inr (hw.2 ⟨he, h⟩)
  | .plus l, R, hn, hc, w => by
    have g1 := glush_fits l R hn
    have w1 := glush_word l R hn hc
    simp only [Tree.Word, Tree.glush]
    have hw := loop_words (R := (l.glush R).2) (P := (l.glush R).1) (fun p hp => (g1.last p hp).2) w
    rw [star_congr w1] at hw
    have hplus : (∃ u v, w = u ++ v ∧ Star l.Word u ∧ l.Word v) ↔ ((w = [] ∧ l.Word []) ∨ (w ≠ [] ∧ Star l.Word w)) := by
      constructor
      · rintro ⟨u, v, rfl, h1, h2⟩
        by_cases he : u ++ v = []
        · left
          rw [List.append_eq_nil_iff] at he
          rw [he.2] at h2
          exact ⟨by rw [he.1, he.2]; rfl, h2⟩
        · exact .inr ⟨he, star_append h1 (star_one h2)⟩
      · rintro (⟨rfl, h⟩ | ⟨hne, h⟩)
        · exact ⟨[], [], rfl, .nil, h⟩
        · clear hw
          induction h with
          | nil => exact absurd rfl hne
          | @cons u v h1 h2 ih =>
            by_cases hv : v = []
            · exact ⟨[], u, by rw [hv]; simp, .nil, h1⟩
            · obtain ⟨u', v', rfl, h3, h4⟩ := ih hv
              exact ⟨u ++ u', v', by simp, .cons h1 h3, h4⟩
    rw [hplus]
    constructor
    · rintro (⟨rfl, h⟩ | h)
      · exact .inl ⟨rfl, (w1 []).1 (.inl ⟨rfl, h⟩)⟩
      · exact .inr (hw.1 h)
    · rintro (⟨rfl, h⟩ | h)
      · rcases (w1 []).2 h with ⟨_, h1⟩ | ⟨p, q, h1, h2, h3⟩
        · exact .inl ⟨rfl, h1⟩
        · exact h3.elim
      · exact .inr (hw.2 h)
  | .maybe l, R, hn, hc, w => by
    have w1 := glush_word l R hn hc w
    simp only [Tree.Word, Tree.glush]
    constructor
    · rintro (⟨rfl, h⟩ | h)
      · exact .inl rfl
      · exact .inr (w1.1 (.inr h))
    · rintro (rfl | h)
      · exact .inl ⟨rfl, rfl⟩
      · rcases w1.2 h with ⟨h1, h2⟩ | h2
        · exact .inl ⟨h1, rfl⟩
        · exact .inr h2
end Go.Proofs.Ytcckhngbdoiikaa

namespace Go.Proofs.Ytcckhngbdoiikaa
set_option linter.unusedVariables false

def idxF : List PSet → PSet → Nat
  | [], _ => 0
  | x :: r, s => if x = s then 0 else idxF r s + 1
theorem idxF_le : ∀ (l : List PSet) (s : PSet), idxF l s ≤ l.length
  | [], _ => Nat.le_refl _
  | x :: r, s => by unfold idxF; split; simp; have := idxF_le r s; simp; omega
theorem idxF_drop (l : List PSet) (s : PSet) (k : Nat) (h : k < l.length) : idxF (l.drop k) s = if l[k] = s then 0 else idxF (l.drop (k + 1)) s + 1 := by
  rw [List.drop_eq_getElem_cons h]; rfl
theorem PSet.eq_of {a b : PSet} (h1 : ((a.lo.toNat : Int) == (b.lo.toNat : Int)) = true) (h2 : ((a.hi.toNat : Int) == (b.hi.toNat : Int)) = true) : a = b := by
  obtain ⟨al, ah⟩ := a
  obtain ⟨bl, bh⟩ := b
  simp at h1 h2
  have e1 : al = bl := BitVec.eq_of_toNat_eq (by omega)
  have e2 : ah = bh := BitVec.eq_of_toNat_eq (by omega)
  rw [e1, e2]
theorem PSet.ne_lo {a b : PSet} (h1 : ((a.lo.toNat : Int) == (b.lo.toNat : Int)) = false) : a ≠ b := fun e => by subst e; simp at h1
theorem PSet.ne_hi {a b : PSet} (h1 : ((a.hi.toNat : Int) == (b.hi.toNat : Int)) = false) : a ≠ b := fun e => by subst e; simp at h1
def findF (l : List PSet) (s : PSet) : Int := if s.isEmpty then -1 else (idxF l s : Int)

def kindsAt (al : Nat → PSet) : Nat → List PSet
  | 0 => []
  | b + 1 => if idxF (kindsAt al b) (al b) = (kindsAt al b).length then kindsAt al b ++ [al b] else kindsAt al b
def kindOf (al : Nat → PSet) (b : Nat) : Nat := idxF (kindsAt al b) (al b)
theorem kindsAt_le (al : Nat → PSet) : ∀ b, (kindsAt al b).length ≤ b
  | 0 => Nat.le_refl _
  | b + 1 => by have := kindsAt_le al b; unfold kindsAt; split; simp; omega; omega

/-- One row: where each kind of bytes leads; the sets then. -/
def rowF (aft : PSet) : List PSet → List PSet → List Int × List PSet
  | [], sets => ([], sets)
  | k :: ks, sets =>
    ((findF sets (aft.and k)) :: (rowF aft ks (if findF sets (aft.and k) = (sets.length : Int) then sets ++ [aft.and k] else sets)).1,
     (rowF aft ks (if findF sets (aft.and k) = (sets.length : Int) then sets ++ [aft.and k] else sets)).2)
structure Graph where
  rule : List Int
  next : List (List Int)
  deriving Inhabited
def Graph.new : Graph := ⟨[], []⟩

def exploreLoop (R : RulesT) (kinds : List PSet) : Nat → Nat → List PSet → Graph → Option Graph
  | 0, _, _, _ => none
  | n + 1, i, sets, g =>
    if i < sets.length then
      let r := rowF (if 0 < i then R.after (sets.getD i PSet.none) else R.first) kinds sets
      if 61 < r.2.length then none
      else exploreLoop R kinds n (i + 1) r.2 ⟨g.rule ++ [R.rule (r.2.getD i PSet.none)], g.next ++ [r.1]⟩
    else some g
def exploreF (R : RulesT) (kinds : List PSet) : Option Graph := exploreLoop R kinds 63 0 [PSet.none] Graph.new

def leadsF (row : List Int) (marked : List Bool) : Bool := row.any (fun to => to != -1 && marked.getD to.toNat false)
/-- One pass of findAlive over the first nodes: who is alive then; whether that changed. -/
def passF (g : Graph) (alive : List Bool) : Nat → List Bool × Bool
  | 0 => (alive, false)
  | k + 1 =>
    if (passF g alive k).1.getD k false = false ∧ leadsF (g.next.getD k []) (passF g alive k).1 = true then ((passF g alive k).1.set k true, true)
    else passF g alive k
def aliveLoop (g : Graph) : Nat → List Bool → List Bool
  | 0, alive => alive
  | n + 1, alive => if (passF g alive g.next.length).2 = true then aliveLoop g n (passF g alive g.next.length).1 else (passF g alive g.next.length).1
def aliveF (g : Graph) : List Bool := aliveLoop g (g.rule.length + 1) (g.rule.map (fun r => r != -1))
def pruneRow (alive : List Bool) (row : List Int) : List Int := row.map (fun to => if to != -1 && alive.getD to.toNat false then to else -1)
def pruneF (g : Graph) : Graph := ⟨g.rule, g.next.map (pruneRow (aliveF g))⟩

def stepSame (cls : List Int) (a b : Int) : Bool := if a == -1 || b == -1 then a == b else cls.getD a.toNat 0 == cls.getD b.toNat 0
def rowsSame (cls : List Int) : List Int → List Int → Bool
  | [], _ => true
  | a :: r, other => stepSame cls a (other.headD 0) && rowsSame cls r other.tail
def togetherF (g : Graph) (cls : List Int) (a b : Nat) : Bool :=
  if cls.getD a 0 ≠ cls.getD b 0 ∨ g.rule.getD a 0 ≠ g.rule.getD b 0 then false else rowsSame cls (g.next.getD a []) (g.next.getD b [])
/-- The first of the nodes from k on, ahead of n, with which node n is together. -/
def mateF (g : Graph) (cls : List Int) (n : Nat) : Nat → Nat → Option Nat
  | 0, _ => none
  | f + 1, k => if k < n then (if togetherF g cls k n then some k else mateF g cls n f (k + 1)) else none
/-- refine over the first nodes: the finer classes so far, and how many there are. -/
def refineAt (g : Graph) (cls : List Int) : Nat → List Int × Nat
  | 0 => ([], 0)
  | n + 1 => match mateF g cls n (n + 1) 0 with
    | some e => ((refineAt g cls n).1 ++ [(refineAt g cls n).1.getD e 0], (refineAt g cls n).2)
    | none => ((refineAt g cls n).1 ++ [((refineAt g cls n).2 : Int)], (refineAt g cls n).2 + 1)
def mergeLoop (g : Graph) : Nat → List Int → Nat → List Int
  | 0, cls, _ => cls
  | f + 1, cls, count => if (refineAt g cls g.rule.length).2 = count then (refineAt g cls g.rule.length).1 else mergeLoop g f (refineAt g cls g.rule.length).1 (refineAt g cls g.rule.length).2
def mergeF (g : Graph) : List Int := mergeLoop g (g.rule.length + 1) (List.replicate g.rule.length 0) 0

/-- visit: over one row. -/
def visitRow (cls : List Int) : List Int → List Int × List Int → List Int × List Int
  | [], st => st
  | to :: r, st => visitRow cls r (if to != -1 && st.2.getD (cls.getD to.toNat 0).toNat 0 == -1 then (st.1 ++ [to], st.2.set (cls.getD to.toNat 0).toNat (st.1.length : Int)) else st)
def visitLoop (g : Graph) (cls : List Int) : Nat → Nat → List Int × List Int → List Int × List Int
  | 0, _, st => st
  | f + 1, i, st => if i < st.1.length then visitLoop g cls f (i + 1) (visitRow cls (g.next.getD (st.1.getD i 0).toNat []) st) else st
def visitF (g : Graph) (cls : List Int) : List Int × List Int :=
  visitLoop g cls (cls.length + 1) 0 ([0], (List.replicate cls.length (-1 : Int)).set (cls.getD 0 0).toNat 0)
def numberRow (cls numbers : List Int) (row : List Int) : List Int := row.map (fun to => if to != -1 then numbers.getD (cls.getD to.toNat 0).toNat 0 else -1)
def numberF (g : Graph) (cls : List Int) : Graph :=
  ⟨(visitF g cls).1.map (fun n => g.rule.getD n.toNat 0), (visitF g cls).1.map (fun n => numberRow cls (visitF g cls).2 (g.next.getD n.toNat []))⟩

/-- The table: none: there are too many sets. -/
def buildF (R : RulesT) : Option ((Nat → Nat) × Graph) :=
  match exploreF R (kindsAt R.allow 256) with
  | none => none
  | some g => some (kindOf R.allow, numberF (pruneF g) (mergeF (pruneF g)))
end Go.Proofs.Ytcckhngbdoiikaa
