/-
  THE PLAIN FUNCTIONS: what the Go functions of packages places and states compute, on plain data. No Go, no program in sight.
-/
import Derived.WalkKit
namespace Go.Proofs.Ytmgpdaemcbbikaa

/-- A set of places: two words. -/
structure PSet where
  lo : BitVec 64
  hi : BitVec 64
  deriving DecidableEq, Inhabited

namespace PSet
def none : PSet := ⟨0, 0⟩
def or (s t : PSet) : PSet := ⟨s.lo ||| t.lo, s.hi ||| t.hi⟩
def and (s t : PSet) : PSet := ⟨s.lo &&& t.lo, s.hi &&& t.hi⟩
def isEmpty (s : PSet) : Bool := s.lo == 0 && s.hi == 0
def meets (s t : PSet) : Bool := !(s.lo &&& t.lo == 0) || !(s.hi &&& t.hi == 0)
def only (p : Nat) : PSet := if p < 64 then ⟨1#64 <<< p, 0⟩ else if p < 128 then ⟨0, 1#64 <<< (p - 64)⟩ else none
def has (s : PSet) (p : Nat) : Bool := s.meets (only p)
end PSet

theorem bits_or64 (a b : BitVec 64) : bits .or .u64 (a.toNat : Int) (b.toNat : Int) = (((a ||| b).toNat : Nat) : Int) := by
  rw [u64_or_nat _ _ a.isLt b.isLt, BitVec.toNat_or]
theorem bits_and64 (a b : BitVec 64) : bits .and .u64 (a.toNat : Int) (b.toNat : Int) = (((a &&& b).toNat : Nat) : Int) := by
  rw [u64_and_nat _ _ a.isLt b.isLt, BitVec.toNat_and]
end Go.Proofs.Ytmgpdaemcbbikaa
