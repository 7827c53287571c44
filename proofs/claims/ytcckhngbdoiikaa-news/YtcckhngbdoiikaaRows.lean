/-
  No cell of these rows narrows 'for every input' (looked for: loops, veiled, ifaces, maps, wideKeys, modest, calm, conditions, laid).
  DERIVED. THE GIVEN ROWS OF THIS SEAT. 10 by the template 'for every input the law returns true; each argument reads behind the call as it read before'; 0 by the template 'total and deterministic' (their statements: YtcckhngbdoiikaaTotals.lean).
  GIVEN WITH THE SEED: the statements are not yours to turn. If you find one false, say at which input.
  Laid BY PROGRAM, IN A SANDBOX (cutbox-rows.mjs): the forced cells as the released guide's own fill.sh prints them over the translation 6792ddbd475936e1… (all of the seat's roots in one cut). By AI agents, Wed Nov 11 2026. No macro, syntax, notation, axiom, sorry.
-/
import Derived.Test.YtcckhngbdoiikaaChecked
import GoSem.Claim
import GoSem.ClaimJoined
import GoSem.ClaimMapViews
import Derived.JoinedTies
import Derived.KernelRfl
namespace Go.Proofs.Ytcckhngbdoiikaa
/- THE CELL 'sum', in the pinned program and in every row, IS THE sha256 OF THE DUMP (.gsa) THAT YtcckhngbdoiikaaProg.lean LOADS. Nothing in Lean hashes anything: it is a label: what it is worth is what the hold of that sum in a sandbox is worth. -/
noncomputable def Try.pinned : Pinned := { name := "ytcckhngbdoiikaa", sum := "6792ddbd475936e13ae3352429b866f978f67e8e54e7633796545039179efa10", checked := Try.checked }
namespace Rows
def none {H : Type} : Left H := { results := [], args := [] }

/-- 'munchlaw.News': WHATEVER THE INPUT: true; the input reads as it did. -/
def newsSpec : ChangeSpec := { name := "news", fn := fun _ => fun
  | [d] => { results := [.lit (.bool true)], args := [d] }
  | _ => none }
def newsRow : OpenClaim := { program := "ytcckhngbdoiikaa", sum := "6792ddbd475936e13ae3352429b866f978f67e8e54e7633796545039179efa10", func := "munch/munchlaw.News", spec := "news", recurses := true, apart := false }
def NewsSaid : Prop := newsRow.holds Try.pinned (OpenSpec.ofChange newsSpec)

/-- ITS FALSE NEIGHBOUR: 'it returns false'. Refute it at one input. -/
def newsWrong : ChangeSpec := { name := "news", fn := fun _ => fun
  | [d] => { results := [.lit (.bool false)], args := [d] }
  | _ => none }
def NewsWrongFalsely : Prop := newsRow.holds Try.pinned (OpenSpec.ofChange newsWrong)

/-- 'munchkeep.Spelled': WHATEVER THE INPUT: true; the input reads as it did. -/
def spelledSpec : ChangeSpec := { name := "spelled", fn := fun _ => fun
  | [d1, d2, d3] => { results := [.lit (.bool true)], args := [d1, d2, d3] }
  | _ => none }
def spelledRow : OpenClaim := { program := "ytcckhngbdoiikaa", sum := "6792ddbd475936e13ae3352429b866f978f67e8e54e7633796545039179efa10", func := "munch/munchkeep.Spelled", spec := "spelled", recurses := true, apart := false }
def SpelledSaid : Prop := spelledRow.holds Try.pinned (OpenSpec.ofChange spelledSpec)

/-- ITS FALSE NEIGHBOUR: 'it returns false'. Refute it at one input. -/
def spelledWrong : ChangeSpec := { name := "spelled", fn := fun _ => fun
  | [d1, d2, d3] => { results := [.lit (.bool false)], args := [d1, d2, d3] }
  | _ => none }
def SpelledWrongFalsely : Prop := spelledRow.holds Try.pinned (OpenSpec.ofChange spelledWrong)

/-- 'munchlaw.Tables': WHATEVER THE INPUT: true; the input reads as it did. -/
def tablesSpec : ChangeSpec := { name := "tables", fn := fun _ => fun
  | [d1, d2, d3] => { results := [.lit (.bool true)], args := [d1, d2, d3] }
  | _ => none }
def tablesRow : OpenClaim := { program := "ytcckhngbdoiikaa", sum := "6792ddbd475936e13ae3352429b866f978f67e8e54e7633796545039179efa10", func := "munch/munchlaw.Tables", spec := "tables", recurses := true, apart := false }
def TablesSaid : Prop := tablesRow.holds Try.pinned (OpenSpec.ofChange tablesSpec)

/-- ITS FALSE NEIGHBOUR: 'it returns false'. Refute it at one input. -/
def tablesWrong : ChangeSpec := { name := "tables", fn := fun _ => fun
  | [d1, d2, d3] => { results := [.lit (.bool false)], args := [d1, d2, d3] }
  | _ => none }
def TablesWrongFalsely : Prop := tablesRow.holds Try.pinned (OpenSpec.ofChange tablesWrong)

/-- 'munchkeep.Least': WHATEVER THE INPUT: true; the input reads as it did. -/
def leastSpec : ChangeSpec := { name := "least", fn := fun _ => fun
  | [d1, d2] => { results := [.lit (.bool true)], args := [d1, d2] }
  | _ => none }
def leastRow : OpenClaim := { program := "ytcckhngbdoiikaa", sum := "6792ddbd475936e13ae3352429b866f978f67e8e54e7633796545039179efa10", func := "munch/munchkeep.Least", spec := "least", recurses := true, apart := false }
def LeastSaid : Prop := leastRow.holds Try.pinned (OpenSpec.ofChange leastSpec)

/-- ITS FALSE NEIGHBOUR: 'it returns false'. Refute it at one input. -/
def leastWrong : ChangeSpec := { name := "least", fn := fun _ => fun
  | [d1, d2] => { results := [.lit (.bool false)], args := [d1, d2] }
  | _ => none }
def LeastWrongFalsely : Prop := leastRow.holds Try.pinned (OpenSpec.ofChange leastWrong)

/-- 'munchlaw.Splits': WHATEVER THE INPUT: true; the input reads as it did. -/
def splitsSpec : ChangeSpec := { name := "splits", fn := fun _ => fun
  | [d1, d2] => { results := [.lit (.bool true)], args := [d1, d2] }
  | _ => none }
def splitsRow : OpenClaim := { program := "ytcckhngbdoiikaa", sum := "6792ddbd475936e13ae3352429b866f978f67e8e54e7633796545039179efa10", func := "munch/munchlaw.Splits", spec := "splits", recurses := true, apart := false }
def SplitsSaid : Prop := splitsRow.holds Try.pinned (OpenSpec.ofChange splitsSpec)

/-- ITS FALSE NEIGHBOUR: 'it returns false'. Refute it at one input. -/
def splitsWrong : ChangeSpec := { name := "splits", fn := fun _ => fun
  | [d1, d2] => { results := [.lit (.bool false)], args := [d1, d2] }
  | _ => none }
def SplitsWrongFalsely : Prop := splitsRow.holds Try.pinned (OpenSpec.ofChange splitsWrong)

/-- 'munchkeep.Longest': WHATEVER THE INPUT: true; the input reads as it did. -/
def longestSpec : ChangeSpec := { name := "longest", fn := fun _ => fun
  | [d1, d2] => { results := [.lit (.bool true)], args := [d1, d2] }
  | _ => none }
def longestRow : OpenClaim := { program := "ytcckhngbdoiikaa", sum := "6792ddbd475936e13ae3352429b866f978f67e8e54e7633796545039179efa10", func := "munch/munchkeep.Longest", spec := "longest", recurses := true, apart := false }
def LongestSaid : Prop := longestRow.holds Try.pinned (OpenSpec.ofChange longestSpec)

/-- ITS FALSE NEIGHBOUR: 'it returns false'. Refute it at one input. -/
def longestWrong : ChangeSpec := { name := "longest", fn := fun _ => fun
  | [d1, d2] => { results := [.lit (.bool false)], args := [d1, d2] }
  | _ => none }
def LongestWrongFalsely : Prop := longestRow.holds Try.pinned (OpenSpec.ofChange longestWrong)

/-- 'munchkeep.Shown': WHATEVER THE INPUT: true; the input reads as it did. -/
def shownSpec : ChangeSpec := { name := "shown", fn := fun _ => fun
  | [d1, d2] => { results := [.lit (.bool true)], args := [d1, d2] }
  | _ => none }
def shownRow : OpenClaim := { program := "ytcckhngbdoiikaa", sum := "6792ddbd475936e13ae3352429b866f978f67e8e54e7633796545039179efa10", func := "munch/munchkeep.Shown", spec := "shown", recurses := true, apart := false }
def ShownSaid : Prop := shownRow.holds Try.pinned (OpenSpec.ofChange shownSpec)

/-- ITS FALSE NEIGHBOUR: 'it returns false'. Refute it at one input. -/
def shownWrong : ChangeSpec := { name := "shown", fn := fun _ => fun
  | [d1, d2] => { results := [.lit (.bool false)], args := [d1, d2] }
  | _ => none }
def ShownWrongFalsely : Prop := shownRow.holds Try.pinned (OpenSpec.ofChange shownWrong)

/-- 'munchkeep.Chunks': WHATEVER THE INPUT: true; the input reads as it did. -/
def chunksSpec : ChangeSpec := { name := "chunks", fn := fun _ => fun
  | [d1, d2] => { results := [.lit (.bool true)], args := [d1, d2] }
  | _ => none }
def chunksRow : OpenClaim := { program := "ytcckhngbdoiikaa", sum := "6792ddbd475936e13ae3352429b866f978f67e8e54e7633796545039179efa10", func := "munch/munchkeep.Chunks", spec := "chunks", recurses := true, apart := false }
def ChunksSaid : Prop := chunksRow.holds Try.pinned (OpenSpec.ofChange chunksSpec)

/-- ITS FALSE NEIGHBOUR: 'it returns false'. Refute it at one input. -/
def chunksWrong : ChangeSpec := { name := "chunks", fn := fun _ => fun
  | [d1, d2] => { results := [.lit (.bool false)], args := [d1, d2] }
  | _ => none }
def ChunksWrongFalsely : Prop := chunksRow.holds Try.pinned (OpenSpec.ofChange chunksWrong)

/-- 'munchkeep.Late': WHATEVER THE INPUT: true; the input reads as it did. -/
def lateSpec : ChangeSpec := { name := "late", fn := fun _ => fun
  | [d1, d2, d3] => { results := [.lit (.bool true)], args := [d1, d2, d3] }
  | _ => none }
def lateRow : OpenClaim := { program := "ytcckhngbdoiikaa", sum := "6792ddbd475936e13ae3352429b866f978f67e8e54e7633796545039179efa10", func := "munch/munchkeep.Late", spec := "late", recurses := true, apart := false }
def LateSaid : Prop := lateRow.holds Try.pinned (OpenSpec.ofChange lateSpec)

/-- ITS FALSE NEIGHBOUR: 'it returns false'. Refute it at one input. -/
def lateWrong : ChangeSpec := { name := "late", fn := fun _ => fun
  | [d1, d2, d3] => { results := [.lit (.bool false)], args := [d1, d2, d3] }
  | _ => none }
def LateWrongFalsely : Prop := lateRow.holds Try.pinned (OpenSpec.ofChange lateWrong)

/-- 'munchkeep.Small': WHATEVER THE INPUT: true; the input reads as it did. -/
def smallSpec : ChangeSpec := { name := "small", fn := fun _ => fun
  | [d1, d2, d3] => { results := [.lit (.bool true)], args := [d1, d2, d3] }
  | _ => none }
def smallRow : OpenClaim := { program := "ytcckhngbdoiikaa", sum := "6792ddbd475936e13ae3352429b866f978f67e8e54e7633796545039179efa10", func := "munch/munchkeep.Small", spec := "small", recurses := true, apart := false }
def SmallSaid : Prop := smallRow.holds Try.pinned (OpenSpec.ofChange smallSpec)

/-- ITS FALSE NEIGHBOUR: 'it returns false'. Refute it at one input. -/
def smallWrong : ChangeSpec := { name := "small", fn := fun _ => fun
  | [d1, d2, d3] => { results := [.lit (.bool false)], args := [d1, d2, d3] }
  | _ => none }
def SmallWrongFalsely : Prop := smallRow.holds Try.pinned (OpenSpec.ofChange smallWrong)

/- THE SECOND FORM. 'bulk': how many values and letters a reading holds, each counted each time it is reached (what is shared counts as often as it is met; a slice's spare places count too). A statement '..UptoSaid' is the law's where the arguments, and the package variables that the reading takes, are together of bulk at most 1048576: NARROWER than '..Said'. Prove '..Said' where nothing that the law and all that it calls make is longer than what came in: it says more and counts as full. Else prove '..UptoSaid'. A law counts once. -/
mutual
def uptoBulk {H : Type} : DataW H → Nat
  | .lit (.string bytes) => bytes.length + 1
  | .lit _ => 1
  | .nil => 1
  | .ptr d => uptoBulk d + 1
  | .slice elems spare => uptoBulkAll elems + uptoBulkAll spare + 1
  | .agg parts => uptoBulkAll parts + 1
  | .iface _ d => uptoBulk d + 1
  | .map entries => uptoBulkEntries entries + 1
  | .held _ => 1
def uptoBulkAll {H : Type} : List (DataW H) → Nat
  | [] => 0
  | d :: r => uptoBulk d + uptoBulkAll r
def uptoBulkEntries {H : Type} : List (Lit × DataW H) → Nat
  | [] => 0
  | x :: r => uptoBulkEntry x + uptoBulkEntries r
def uptoBulkEntry {H : Type} : Lit × DataW H → Nat
  | (.string bytes, d) => bytes.length + uptoBulk d + 1
  | (_, d) => uptoBulk d + 1
 end
def uptoSmall : (H : Type) → List (DataW H) → Bool := fun _ ds => decide (uptoBulkAll ds ≤ 1048576)
def OpenSpec.upto (s : _root_.Go.ChangeSpec) : _root_.Go.OpenSpec := { _root_.Go.OpenSpec.ofChange s with cond := some uptoSmall }

/-- 'munchlaw.News', WHERE WHAT IT READS IS OF BULK AT MOST 1048576: true; the input reads as it did. -/
def newsUptoRow : OpenClaim := { program := "ytcckhngbdoiikaa", sum := "6792ddbd475936e13ae3352429b866f978f67e8e54e7633796545039179efa10", func := "munch/munchlaw.News", spec := "news", recurses := true, apart := false, narrowed := true }
def NewsUptoSaid : Prop := newsUptoRow.holds Try.pinned (OpenSpec.upto newsSpec)

/-- 'munchkeep.Spelled', WHERE WHAT IT READS IS OF BULK AT MOST 1048576: true; the input reads as it did. -/
def spelledUptoRow : OpenClaim := { program := "ytcckhngbdoiikaa", sum := "6792ddbd475936e13ae3352429b866f978f67e8e54e7633796545039179efa10", func := "munch/munchkeep.Spelled", spec := "spelled", recurses := true, apart := false, narrowed := true }
def SpelledUptoSaid : Prop := spelledUptoRow.holds Try.pinned (OpenSpec.upto spelledSpec)

/-- 'munchlaw.Tables', WHERE WHAT IT READS IS OF BULK AT MOST 1048576: true; the input reads as it did. -/
def tablesUptoRow : OpenClaim := { program := "ytcckhngbdoiikaa", sum := "6792ddbd475936e13ae3352429b866f978f67e8e54e7633796545039179efa10", func := "munch/munchlaw.Tables", spec := "tables", recurses := true, apart := false, narrowed := true }
def TablesUptoSaid : Prop := tablesUptoRow.holds Try.pinned (OpenSpec.upto tablesSpec)

/-- 'munchkeep.Least', WHERE WHAT IT READS IS OF BULK AT MOST 1048576: true; the input reads as it did. -/
def leastUptoRow : OpenClaim := { program := "ytcckhngbdoiikaa", sum := "6792ddbd475936e13ae3352429b866f978f67e8e54e7633796545039179efa10", func := "munch/munchkeep.Least", spec := "least", recurses := true, apart := false, narrowed := true }
def LeastUptoSaid : Prop := leastUptoRow.holds Try.pinned (OpenSpec.upto leastSpec)

/-- 'munchlaw.Splits', WHERE WHAT IT READS IS OF BULK AT MOST 1048576: true; the input reads as it did. -/
def splitsUptoRow : OpenClaim := { program := "ytcckhngbdoiikaa", sum := "6792ddbd475936e13ae3352429b866f978f67e8e54e7633796545039179efa10", func := "munch/munchlaw.Splits", spec := "splits", recurses := true, apart := false, narrowed := true }
def SplitsUptoSaid : Prop := splitsUptoRow.holds Try.pinned (OpenSpec.upto splitsSpec)

/-- 'munchkeep.Longest', WHERE WHAT IT READS IS OF BULK AT MOST 1048576: true; the input reads as it did. -/
def longestUptoRow : OpenClaim := { program := "ytcckhngbdoiikaa", sum := "6792ddbd475936e13ae3352429b866f978f67e8e54e7633796545039179efa10", func := "munch/munchkeep.Longest", spec := "longest", recurses := true, apart := false, narrowed := true }
def LongestUptoSaid : Prop := longestUptoRow.holds Try.pinned (OpenSpec.upto longestSpec)

/-- 'munchkeep.Shown', WHERE WHAT IT READS IS OF BULK AT MOST 1048576: true; the input reads as it did. -/
def shownUptoRow : OpenClaim := { program := "ytcckhngbdoiikaa", sum := "6792ddbd475936e13ae3352429b866f978f67e8e54e7633796545039179efa10", func := "munch/munchkeep.Shown", spec := "shown", recurses := true, apart := false, narrowed := true }
def ShownUptoSaid : Prop := shownUptoRow.holds Try.pinned (OpenSpec.upto shownSpec)

/-- 'munchkeep.Chunks', WHERE WHAT IT READS IS OF BULK AT MOST 1048576: true; the input reads as it did. -/
def chunksUptoRow : OpenClaim := { program := "ytcckhngbdoiikaa", sum := "6792ddbd475936e13ae3352429b866f978f67e8e54e7633796545039179efa10", func := "munch/munchkeep.Chunks", spec := "chunks", recurses := true, apart := false, narrowed := true }
def ChunksUptoSaid : Prop := chunksUptoRow.holds Try.pinned (OpenSpec.upto chunksSpec)

/-- 'munchkeep.Late', WHERE WHAT IT READS IS OF BULK AT MOST 1048576: true; the input reads as it did. -/
def lateUptoRow : OpenClaim := { program := "ytcckhngbdoiikaa", sum := "6792ddbd475936e13ae3352429b866f978f67e8e54e7633796545039179efa10", func := "munch/munchkeep.Late", spec := "late", recurses := true, apart := false, narrowed := true }
def LateUptoSaid : Prop := lateUptoRow.holds Try.pinned (OpenSpec.upto lateSpec)

/-- 'munchkeep.Small', WHERE WHAT IT READS IS OF BULK AT MOST 1048576: true; the input reads as it did. -/
def smallUptoRow : OpenClaim := { program := "ytcckhngbdoiikaa", sum := "6792ddbd475936e13ae3352429b866f978f67e8e54e7633796545039179efa10", func := "munch/munchkeep.Small", spec := "small", recurses := true, apart := false, narrowed := true }
def SmallUptoSaid : Prop := smallUptoRow.holds Try.pinned (OpenSpec.upto smallSpec)

end Rows
end Go.Proofs.Ytcckhngbdoiikaa
