import Derived.Test.YtmgpdaemcbbikaaGroup
namespace Go.Proofs.Ytmgpdaemcbbikaa
open Go.RowKit Go.Deep
/-- A method of the reader that answers a part. -/
def PartC (fn : Nat) (s : ByteArray) (rb gb f : Nat) (F : PFn) : Prop := ∀ (w : World) (p : Nat) (R : RulesT) (O : Nat → Prop), RS w rb gb s p R O → p ≤ s.size → R.follow.length ≤ p → s.size - p ≤ f →
  Calls Try.prog fn #[.pointer (some ⟨rb, 0, none⟩)] w fun e w' =>
    e = .returned (.tuple #[partV (F p R).part, .bool (F p R).ok]) ∧ RPost w w' rb gb s O (F p R).at' (F p R).rules
end Go.Proofs.Ytmgpdaemcbbikaa
