/-
  THE PLAIN FUNCTIONS of package states. No Go, no program in sight.
-/
import Derived.Test.YtmgpdaemcbbikaaPlainRules
namespace Go.Proofs.Ytmgpdaemcbbikaa
set_option linter.unusedVariables false

def idxF : List PSet → PSet → Nat
  | [], _ => 0
  | x :: r, s => if x = s then 0 else idxF r s + 1
theorem idxF_le : ∀ (l : List PSet) (s : PSet), idxF l s ≤ l.length
  | [], _ => Nat.le_refl _
  | x :: r, s => by unfold idxF; split; simp; have := idxF_le r s; simp; omega
theorem idxF_drop (l : List PSet) (s : PSet) (k : Nat) (h : k < l.length) : idxF (l.drop k) s = if l[k] = s then 0 else idxF (l.drop (k + 1)) s + 1 := by
  rw [List.drop_eq_getElem_cons h]; rfl
theorem PSet.eq_of {a b : PSet} (h1 : ((a.lo.toNat : Int) == (b.lo.toNat : Int)) = true) (h2 : ((a.hi.toNat : Int) == (b.hi.toNat : Int)) = true) : a = b := by
  obtain ⟨al, ah⟩ := a
  obtain ⟨bl, bh⟩ := b
  simp at h1 h2
  have e1 : al = bl := BitVec.eq_of_toNat_eq (by omega)
  have e2 : ah = bh := BitVec.eq_of_toNat_eq (by omega)
  rw [e1, e2]
theorem PSet.ne_lo {a b : PSet} (h1 : ((a.lo.toNat : Int) == (b.lo.toNat : Int)) = false) : a ≠ b := fun e => by subst e; simp at h1
theorem PSet.ne_hi {a b : PSet} (h1 : ((a.hi.toNat : Int) == (b.hi.toNat : Int)) = false) : a ≠ b := fun e => by subst e; simp at h1
def findF (l : List PSet) (s : PSet) : Int := if s.isEmpty then -1 else (idxF l s : Int)

def kindsAt (al : Nat → PSet) : Nat → List PSet
  | 0 => []
  | b + 1 => if idxF (kindsAt al b) (al b) = (kindsAt al b).length then kindsAt al b ++ [al b] else kindsAt al b
def kindOf (al : Nat → PSet) (b : Nat) : Nat := idxF (kindsAt al b) (al b)
theorem kindsAt_le (al : Nat → PSet) : ∀ b, (kindsAt al b).length ≤ b
  | 0 => Nat.le_refl _
  | b + 1 => by have := kindsAt_le al b; unfold kindsAt; split; simp; omega; omega

/-- One row: where each kind of bytes leads; the sets then. -/
def rowF (aft : PSet) : List PSet → List PSet → List Int × List PSet
  | [], sets => ([], sets)
  | k :: ks, sets =>
    ((findF sets (aft.and k)) :: (rowF aft ks (if findF sets (aft.and k) = (sets.length : Int) then sets ++ [aft.and k] else sets)).1,
     (rowF aft ks (if findF sets (aft.and k) = (sets.length : Int) then sets ++ [aft.and k] else sets)).2)
structure Graph where
  rule : List Int
  next : List (List Int)
  deriving Inhabited
def Graph.new : Graph := ⟨[], []⟩

def exploreLoop (R : RulesT) (kinds : List PSet) : Nat → Nat → List PSet → Graph → Option Graph
  | 0, _, _, _ => none
  | n + 1, i, sets, g =>
    if i < sets.length then
      let r := rowF (if 0 < i then R.after (sets.getD i PSet.none) else R.first) kinds sets
      if 61 < r.2.length then none
      else exploreLoop R kinds n (i + 1) r.2 ⟨g.rule ++ [R.rule (r.2.getD i PSet.none)], g.next ++ [r.1]⟩
    else some g
def exploreF (R : RulesT) (kinds : List PSet) : Option Graph := exploreLoop R kinds 63 0 [PSet.none] Graph.new

def leadsF (row : List Int) (marked : List Bool) : Bool := row.any (fun to => to != -1 && marked.getD to.toNat false)
/-- One pass of findAlive over the first nodes: who is alive then; whether that changed. -/
def passF (g : Graph) (alive : List Bool) : Nat → List Bool × Bool
  | 0 => (alive, false)
  | k + 1 =>
    if (passF g alive k).1.getD k false = false ∧ leadsF (g.next.getD k []) (passF g alive k).1 = true then ((passF g alive k).1.set k true, true)
    else passF g alive k
def aliveLoop (g : Graph) : Nat → List Bool → List Bool
  | 0, alive => alive
  | n + 1, alive => if (passF g alive g.next.length).2 = true then aliveLoop g n (passF g alive g.next.length).1 else (passF g alive g.next.length).1
def aliveF (g : Graph) : List Bool := aliveLoop g (g.rule.length + 1) (g.rule.map (fun r => r != -1))
def pruneRow (alive : List Bool) (row : List Int) : List Int := row.map (fun to => if to != -1 && alive.getD to.toNat false then to else -1)
def pruneF (g : Graph) : Graph := ⟨g.rule, g.next.map (pruneRow (aliveF g))⟩

def stepSame (cls : List Int) (a b : Int) : Bool := if a == -1 || b == -1 then a == b else cls.getD a.toNat 0 == cls.getD b.toNat 0
def rowsSame (cls : List Int) : List Int → List Int → Bool
  | [], _ => true
  | a :: r, other => stepSame cls a (other.headD 0) && rowsSame cls r other.tail
def togetherF (g : Graph) (cls : List Int) (a b : Nat) : Bool :=
  if cls.getD a 0 ≠ cls.getD b 0 ∨ g.rule.getD a 0 ≠ g.rule.getD b 0 then false else rowsSame cls (g.next.getD a []) (g.next.getD b [])
/-- The first of the nodes from k on, ahead of n, with which node n is together. -/
def mateF (g : Graph) (cls : List Int) (n : Nat) : Nat → Nat → Option Nat
  | 0, _ => none
  | f + 1, k => if k < n then (if togetherF g cls k n then some k else mateF g cls n f (k + 1)) else none
/-- refine over the first nodes: the finer classes so far, and how many there are. -/
def refineAt (g : Graph) (cls : List Int) : Nat → List Int × Nat
  | 0 => ([], 0)
  | n + 1 => match mateF g cls n (n + 1) 0 with
    | some e => ((refineAt g cls n).1 ++ [(refineAt g cls n).1.getD e 0], (refineAt g cls n).2)
    | none => ((refineAt g cls n).1 ++ [((refineAt g cls n).2 : Int)], (refineAt g cls n).2 + 1)
def mergeLoop (g : Graph) : Nat → List Int → Nat → List Int
  | 0, cls, _ => cls
  | f + 1, cls, count => if (refineAt g cls g.rule.length).2 = count then (refineAt g cls g.rule.length).1 else mergeLoop g f (refineAt g cls g.rule.length).1 (refineAt g cls g.rule.length).2
def mergeF (g : Graph) : List Int := mergeLoop g (g.rule.length + 1) (List.replicate g.rule.length 0) 0

/-- visit: over one row. -/
def visitRow (cls : List Int) : List Int → List Int × List Int → List Int × List Int
  | [], st => st
  | to :: r, st => visitRow cls r (if to != -1 && st.2.getD (cls.getD to.toNat 0).toNat 0 == -1 then (st.1 ++ [to], st.2.set (cls.getD to.toNat 0).toNat (st.1.length : Int)) else st)
def visitLoop (g : Graph) (cls : List Int) : Nat → Nat → List Int × List Int → List Int × List Int
  | 0, _, st => st
  | f + 1, i, st => if i < st.1.length then visitLoop g cls f (i + 1) (visitRow cls (g.next.getD (st.1.getD i 0).toNat []) st) else st
def visitF (g : Graph) (cls : List Int) : List Int × List Int :=
  visitLoop g cls (cls.length + 1) 0 ([0], (List.replicate cls.length (-1 : Int)).set (cls.getD 0 0).toNat 0)
def numberRow (cls numbers : List Int) (row : List Int) : List Int := row.map (fun to => if to != -1 then numbers.getD (cls.getD to.toNat 0).toNat 0 else -1)
def numberF (g : Graph) (cls : List Int) : Graph :=
  ⟨(visitF g cls).1.map (fun n => g.rule.getD n.toNat 0), (visitF g cls).1.map (fun n => numberRow cls (visitF g cls).2 (g.next.getD n.toNat []))⟩

/-- The table: none: there are too many sets. -/
def buildF (R : RulesT) : Option ((Nat → Nat) × Graph) :=
  match exploreF R (kindsAt R.allow 256) with
  | none => none
  | some g => some (kindOf R.allow, numberF (pruneF g) (mergeF (pruneF g)))
end Go.Proofs.Ytmgpdaemcbbikaa
