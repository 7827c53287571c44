/-
  THE PLAIN FUNCTIONS of the reader: expressions. No Go, no program in sight.
-/
import Derived.Test.YtmgpdaemcbbikaaPlainRead
import Derived.Test.YtmgpdaemcbbikaaPlainRules
namespace Go.Proofs.Ytmgpdaemcbbikaa
set_option linter.unusedVariables false

/-- What a method of the reader answers: the part, whether, where it stands then, the rules then. -/
structure PRes where
  part : PartT
  ok : Bool
  at' : Nat
  rules : RulesT

abbrev PFn := Nat → RulesT → PRes

def endsB (b : Int) : Bool := decide (b = -1 ∨ b = 10 ∨ b = 124 ∨ b = 41)

def groupF (s : ByteArray) (ex : PFn) : PFn := fun p R =>
  if (ex (p + 1) R).ok = true ∧ peekI s (ex (p + 1) R).at' = 41 then ⟨(ex (p + 1) R).part, true, (ex (p + 1) R).at' + 1, (ex (p + 1) R).rules⟩
  else ⟨PartT.new, false, (ex (p + 1) R).at', (ex (p + 1) R).rules⟩
def atomF (s : ByteArray) (ex : PFn) : PFn := fun p R =>
  if peekI s p = 40 then groupF s ex p R
  else if (placeF s p).2.1 = true then ⟨R.addPart, true, (placeF s p).2.2, R.add (placeF s p).1⟩
  else ⟨PartT.new, false, (placeF s p).2.2, R⟩
/-- Behind an atom: the mark. -/
def markF (s : ByteArray) (a : PRes) : PRes :=
  if a.ok = false then ⟨PartT.new, false, a.at', a.rules⟩
  else if peekI s a.at' = 42 then ⟨{ a.part with empty := true }, true, a.at' + 1, a.rules.link a.part.last a.part.first⟩
  else if peekI s a.at' = 43 then ⟨a.part, true, a.at' + 1, a.rules.link a.part.last a.part.first⟩
  else if peekI s a.at' = 63 then ⟨{ a.part with empty := true }, true, a.at' + 1, a.rules⟩
  else ⟨a.part, true, a.at', a.rules⟩
def pieceF (s : ByteArray) (ex : PFn) : PFn := fun p R => markF s (atomF s ex p R)
def altLoopF (s : ByteArray) (ex : PFn) : Nat → PRes → PRes
  | 0, r => r
  | n + 1, r => if r.ok = true ∧ endsB (peekI s r.at') = false then
      altLoopF s ex n ⟨chainPart r.part (pieceF s ex r.at' r.rules).part, (pieceF s ex r.at' r.rules).ok, (pieceF s ex r.at' r.rules).at', (pieceF s ex r.at' r.rules).rules.chain r.part (pieceF s ex r.at' r.rules).part⟩
    else r
def alternativeF (s : ByteArray) (ex : PFn) : PFn := fun p R => altLoopF s ex (s.size + 1) (pieceF s ex p R)
def exprLoopF (s : ByteArray) (ex : PFn) : Nat → PRes → PRes
  | 0, r => r
  | n + 1, r => if r.ok = true ∧ peekI s r.at' = 124 then
      exprLoopF s ex n ⟨eitherPart r.part (alternativeF s ex (r.at' + 1) r.rules).part, (alternativeF s ex (r.at' + 1) r.rules).ok, (alternativeF s ex (r.at' + 1) r.rules).at', (alternativeF s ex (r.at' + 1) r.rules).rules⟩
    else r
def expressionF (s : ByteArray) (ex : PFn) : PFn := fun p R => exprLoopF s ex (s.size + 1) (alternativeF s ex p R)
def exprF (s : ByteArray) : Nat → PFn
  | 0 => fun p R => ⟨PartT.new, false, p, R⟩
  | f + 1 => expressionF s (exprF s f)

/-- What holds of every such answer. -/
structure Good (s : ByteArray) (p : Nat) (R : RulesT) (r : PRes) : Prop where
  le : p ≤ r.at'
  top : r.at' ≤ s.size
  ok : r.ok = true → p < r.at'
  few : r.rules.follow.length ≤ r.at'
  last : r.rules.last = R.last
  first : r.rules.first = R.first
def GoodF (s : ByteArray) (f : PFn) : Prop := ∀ p R, p ≤ s.size → R.follow.length ≤ p → Good s p R (f p R)

theorem groupF_good {s : ByteArray} {ex : PFn} (h : GoodF s ex) (p : Nat) (R : RulesT) (hp : p < s.size) (hR : R.follow.length ≤ p) : Good s p R (groupF s ex p R) := by
  have g := h (p + 1) R (by omega) (by omega)
  unfold groupF
  split
  · rename_i hc
    have := peekI_in (s := s) (p := (ex (p + 1) R).at') (by rw [hc.2]; decide)
    exact ⟨by have := g.le; simp; omega, by simp; omega, fun _ => by have := g.le; simp; omega, by have := g.few; simp; omega, g.last, g.first⟩
  · exact ⟨by have := g.le; simp; omega, g.top, by simp, g.few, g.last, g.first⟩
theorem atomF_good {s : ByteArray} {ex : PFn} (h : GoodF s ex) : GoodF s (atomF s ex) := by
  intro p R hp hR
  unfold atomF
  split
  · rename_i hc
    exact groupF_good h p R (peekI_in (by rw [hc]; decide)) hR
  · have q := placeF_pos s p hp
    split
    · rename_i hok
      have := q.2.2 hok
      exact ⟨q.1, q.2.1, fun _ => this, by simp [RulesT.add]; omega, rfl, rfl⟩
    · exact ⟨q.1, q.2.1, by simp, by simp; omega, rfl, rfl⟩
theorem markF_good {s : ByteArray} {p : Nat} {R : RulesT} {a : PRes} (g : Good s p R a) : Good s p R (markF s a) := by
  unfold markF
  split
  · exact ⟨g.le, g.top, by simp, g.few, g.last, g.first⟩
  · rename_i hok
    have hok' : a.ok = true := by cases e : a.ok <;> simp_all
    have h1 := g.ok hok'
    split
    · rename_i hc
      have := peekI_in (s := s) (p := a.at') (by rw [hc]; decide)
      exact ⟨by simp; omega, by simp; omega, fun _ => by simp; omega, by have := g.few; simp [link_follow_length]; omega, g.last, g.first⟩
    · split
      · rename_i hc
        have := peekI_in (s := s) (p := a.at') (by rw [hc]; decide)
        exact ⟨by simp; omega, by simp; omega, fun _ => by simp; omega, by have := g.few; simp [link_follow_length]; omega, g.last, g.first⟩
      · split
        · rename_i hc
          have := peekI_in (s := s) (p := a.at') (by rw [hc]; decide)
          exact ⟨by simp; omega, by simp; omega, fun _ => by simp; omega, by have := g.few; simp; omega, g.last, g.first⟩
        · exact ⟨g.le, g.top, fun _ => h1, g.few, g.last, g.first⟩
theorem pieceF_good {s : ByteArray} {ex : PFn} (h : GoodF s ex) : GoodF s (pieceF s ex) := fun p R hp hR => markF_good (atomF_good h p R hp hR)
theorem altStep_good {s : ByteArray} {ex : PFn} (h : GoodF s ex) {p : Nat} {R : RulesT} {r : PRes} (g : Good s p R r) (hok : r.ok = true) :
    Good s p R ⟨chainPart r.part (pieceF s ex r.at' r.rules).part, (pieceF s ex r.at' r.rules).ok, (pieceF s ex r.at' r.rules).at', (pieceF s ex r.at' r.rules).rules.chain r.part (pieceF s ex r.at' r.rules).part⟩ := by
  have q := pieceF_good h r.at' r.rules g.top g.few
  have h1 := g.ok hok
  exact ⟨by have := q.le; simp; omega, q.top, fun _ => by have := q.le; simp; omega, by have := q.few; simp [RulesT.chain, link_follow_length]; omega, by simp [RulesT.chain, RulesT.link, q.last, g.last], by simp [RulesT.chain, RulesT.link, q.first, g.first]⟩
theorem altLoopF_good {s : ByteArray} {ex : PFn} (h : GoodF s ex) {p : Nat} {R : RulesT} : ∀ (n : Nat) (r : PRes), Good s p R r → Good s p R (altLoopF s ex n r)
  | 0, r, g => g
  | n + 1, r, g => by
    unfold altLoopF
    split
    · rename_i hc
      exact altLoopF_good h n _ (altStep_good h g hc.1)
    · exact g
theorem alternativeF_good {s : ByteArray} {ex : PFn} (h : GoodF s ex) : GoodF s (alternativeF s ex) := fun p R hp hR => altLoopF_good h _ _ (pieceF_good h p R hp hR)
theorem exprStep_good {s : ByteArray} {ex : PFn} (h : GoodF s ex) {p : Nat} {R : RulesT} {r : PRes} (g : Good s p R r) (hok : r.ok = true) (h124 : peekI s r.at' = 124) :
    Good s p R ⟨eitherPart r.part (alternativeF s ex (r.at' + 1) r.rules).part, (alternativeF s ex (r.at' + 1) r.rules).ok, (alternativeF s ex (r.at' + 1) r.rules).at', (alternativeF s ex (r.at' + 1) r.rules).rules⟩ := by
  have hlt := peekI_in (s := s) (p := r.at') (by rw [h124]; decide)
  have q := alternativeF_good h (r.at' + 1) r.rules (by omega) (by have := g.few; omega)
  have h1 := g.ok hok
  exact ⟨by have := q.le; simp; omega, q.top, fun _ => by have := q.le; simp; omega, q.few, q.last.trans g.last, q.first.trans g.first⟩
theorem exprLoopF_good {s : ByteArray} {ex : PFn} (h : GoodF s ex) {p : Nat} {R : RulesT} : ∀ (n : Nat) (r : PRes), Good s p R r → Good s p R (exprLoopF s ex n r)
  | 0, r, g => g
  | n + 1, r, g => by
    unfold exprLoopF
    split
    · rename_i hc
      exact exprLoopF_good h n _ (exprStep_good h g hc.1 hc.2)
    · exact g
theorem expressionF_good {s : ByteArray} {ex : PFn} (h : GoodF s ex) : GoodF s (expressionF s ex) := fun p R hp hR => exprLoopF_good h _ _ (alternativeF_good h p R hp hR)
theorem exprF_good (s : ByteArray) : ∀ f, GoodF s (exprF s f)
  | 0 => fun p R hp hR => ⟨Nat.le_refl _, hp, by simp [exprF], hR, rfl, rfl⟩
  | f + 1 => expressionF_good (exprF_good s f)

theorem altLoopF_stop (s : ByteArray) (ex : PFn) (n : Nat) (r : PRes) (h : ¬ (r.ok = true ∧ endsB (peekI s r.at') = false)) : altLoopF s ex n r = r := by
  cases n with
  | zero => rfl
  | succ n => unfold altLoopF; rw [if_neg h]
theorem exprLoopF_stop (s : ByteArray) (ex : PFn) (n : Nat) (r : PRes) (h : ¬ (r.ok = true ∧ peekI s r.at' = 124)) : exprLoopF s ex n r = r := by
  cases n with
  | zero => rfl
  | succ n => unfold exprLoopF; rw [if_neg h]

/-- A rule, and all rules: whether, where it stands then, the rules then. -/
def ruleF (s : ByteArray) (p : Nat) (R : RulesT) : Bool × Nat × RulesT :=
  if (exprF s (s.size + 1) p R).ok = true then (true, (exprF s (s.size + 1) p R).at', (exprF s (s.size + 1) p R).rules.endRule (exprF s (s.size + 1) p R).part)
  else (false, (exprF s (s.size + 1) p R).at', (exprF s (s.size + 1) p R).rules)
def allLoopF (s : ByteArray) : Nat → Bool × Nat × RulesT → Bool × Nat × RulesT
  | 0, r => r
  | n + 1, r => if r.1 = true ∧ peekI s r.2.1 = 10 then allLoopF s n (ruleF s (r.2.1 + 1) r.2.2) else r
def allF (s : ByteArray) : Bool × Nat × RulesT :=
  let r := allLoopF s (s.size + 1) (ruleF s 0 RulesT.new)
  (r.1 && decide (peekI s r.2.1 = -1), r.2.1, r.2.2)
theorem allLoopF_stop (s : ByteArray) (n : Nat) (r : Bool × Nat × RulesT) (h : ¬ (r.1 = true ∧ peekI s r.2.1 = 10)) : allLoopF s n r = r := by
  cases n with
  | zero => rfl
  | succ n => unfold allLoopF; rw [if_neg h]
end Go.Proofs.Ytmgpdaemcbbikaa
