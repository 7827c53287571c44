import Derived.Test.YtmgpdaemcbbikaaPlainGood
namespace Go.Proofs.Ytmgpdaemcbbikaa
open Go.RowKit Go.Deep
set_option linter.unusedVariables false

/-- The table's cells. -/
def tableC (f : Nat → Nat) (ru nx : Value) : Array Value := kindC f ++ #[ru, nx]
theorem tableC_size (f : Nat → Nat) (ru nx : Value) : (tableC f ru nx).size = 258 := by simp [tableC, kindC_size]
theorem zeroTable : Try.zeroCells93 = tableC (fun _ => 0) (.slice none 0 0) (.slice none 0 0) := by kernel_rfl
theorem Try.infoT : (Try.prog.info? 93).map (·.size) = some 258 := by kernel_rfl
theorem Try.infoL : (Try.prog.info? 97).map (·.size) = some 258 := by kernel_rfl
theorem buildTable (f : Nat → Nat) (ru nx : Value) (w : World) : (Instr.build 93 #[(0, .agg (kindC f)), (1, .agg #[ru, nx])]).run Try.prog w = .ok (.agg (tableC f ru nx)) w := by kernel_rfl
theorem buildLexer (f : Nat → Nat) (ru nx : Value) (w : World) : (Instr.build 97 #[(0, .agg (tableC f ru nx))]).run Try.prog w = .ok (.agg (tableC f ru nx)) w := by kernel_rfl
end Go.Proofs.Ytmgpdaemcbbikaa
