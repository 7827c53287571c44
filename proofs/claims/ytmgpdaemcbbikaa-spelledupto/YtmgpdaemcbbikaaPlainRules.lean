/-
  THE PLAIN FUNCTIONS on what a rule text says. No Go, no program in sight.
-/
import Derived.Test.YtmgpdaemcbbikaaPlain
namespace Go.Proofs.Ytmgpdaemcbbikaa
set_option linter.unusedVariables false

structure RulesT where
  allow : Nat → PSet
  first : PSet
  follow : List PSet
  last : List PSet

structure PartT where
  first : PSet
  last : PSet
  empty : Bool
  deriving DecidableEq, Inhabited

def RulesT.new : RulesT := ⟨fun _ => PSet.none, PSet.none, [], []⟩
def PartT.new : PartT := ⟨PSet.none, PSet.none, false⟩

/-- The loop of 'link', from place k on. -/
def linkFrom (a b : PSet) : Nat → List PSet → List PSet
  | _, [] => []
  | k, s :: r => (if a.has k then s.or b else s) :: linkFrom a b (k + 1) r
def RulesT.link (R : RulesT) (a b : PSet) : RulesT := { R with follow := linkFrom a b 0 R.follow }
theorem linkFrom_length (a b : PSet) : ∀ (k : Nat) (l : List PSet), (linkFrom a b k l).length = l.length
  | _, [] => rfl
  | k, s :: r => by simp [linkFrom, linkFrom_length a b (k + 1) r]
theorem linkFrom_append (a b : PSet) : ∀ (k : Nat) (l m : List PSet), linkFrom a b k (l ++ m) = linkFrom a b k l ++ linkFrom a b (k + l.length) m
  | k, [], m => by simp [linkFrom]
  | k, s :: r, m => by simp [linkFrom, linkFrom_append a b (k + 1) r m]; congr 1; omega
theorem link_follow_length (R : RulesT) (a b : PSet) : (R.link a b).follow.length = R.follow.length := linkFrom_length a b 0 _

def addAllow (al : Nat → PSet) (A : Nat → Bool) (p : PSet) : Nat → PSet := fun b => if A b then (al b).or p else al b
def RulesT.add (R : RulesT) (A : Nat → Bool) : RulesT := { R with follow := R.follow ++ [PSet.none], allow := addAllow R.allow A (PSet.only R.follow.length) }
def RulesT.addPart (R : RulesT) : PartT := ⟨PSet.only R.follow.length, PSet.only R.follow.length, false⟩
def RulesT.chain (R : RulesT) (a b : PartT) : RulesT := R.link a.last b.first
def chainPart (a b : PartT) : PartT :=
  ⟨if a.empty then a.first.or b.first else a.first, if b.empty then b.last.or a.last else b.last, a.empty && b.empty⟩
def eitherPart (a b : PartT) : PartT := ⟨a.first.or b.first, a.last.or b.last, a.empty || b.empty⟩
def RulesT.endRule (R : RulesT) (p : PartT) : RulesT := { R with first := R.first.or p.first, last := R.last ++ [p.last] }

def afterFrom (s : PSet) : Nat → List PSet → PSet → PSet
  | _, [], acc => acc
  | k, f :: r, acc => afterFrom s (k + 1) r (if s.has k then acc.or f else acc)
def RulesT.after (R : RulesT) (s : PSet) : PSet := afterFrom s 0 R.follow PSet.none
def ruleFrom (s : PSet) : Nat → List PSet → Int
  | _, [] => -1
  | k, l :: r => if s.meets l then (k : Int) else ruleFrom s (k + 1) r
def RulesT.rule (R : RulesT) (s : PSet) : Int := ruleFrom s 0 R.last
end Go.Proofs.Ytmgpdaemcbbikaa
