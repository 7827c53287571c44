import Derived.Test.YtmgpdaemcbbikaaC43
import Derived.Test.YtmgpdaemcbbikaaC32

namespace Go.Proofs.Ytmgpdaemcbbikaa
open Go.RowKit Go.Deep
set_option linter.unusedVariables false

abbrev ababText : ByteArray := ⟨#[97, 98, 97, 98]⟩
def cutOf (s : ByteArray) : NewT → List TokT
  | .bad _ _ => []
  | .lexer kd g => cutF kd g s
theorem sureCut : cutOf ababText (newF sureText) = [⟨0, 0, 1⟩, ⟨-1, 1, 2⟩, ⟨0, 2, 3⟩, ⟨-1, 3, 4⟩] := by kernel_rfl

set_option maxHeartbeats 1600000 in
theorem cuts_any (w : World) : Calls Try.prog 30 #[] w fun e w' => e = .returned (.bool true) ∧ Below w.heap.size w w' := by
  obtain ⟨kd, g, hn, hg⟩ := sureNew
  have hcut : cutF kd g ababText = [⟨0, 0, 1⟩, ⟨-1, 1, 2⟩, ⟨0, 2, 3⟩, ⟨-1, 3, 4⟩] := by have := sureCut; rw [hn] at this; exact this
  have hok := (newF_lexOk hn).1
  have HN := hide hn
  have HC := hide hcut
  have HOK := hide hok
  have HS := hide (fun W => sure_any W)
  have HNE := hide (fun W => new_any sureText (by decide) W)
  clear hn hg hcut hok
  go_enter Try.func30, Try.ntmps30
  go_wp2_with fail
  refine (HS.out _).mono ?_
  rintro e w1 ⟨rfl, hb1⟩
  have HB1 := hide hb1
  clear hb1
  go_wp2_with fail
  refine (HNE.out _).mono ?_
  rw [HN.out]
  rintro e w2 ⟨hb2, pb, rfl, hL⟩
  have hb : Below w.heap.size w w2 := HB1.out.trans (hb2.mono HB1.out.size)
  have HB2 := hide hb
  have HSP := hide (split_any pb kd g ababText w2 hL HOK.out (by decide))
  clear hb hb2 hL
  go_wp2_with fail
  refine HSP.out.mono ?_
  rintro e w3 ⟨hb3, hres⟩
  rcases hres with ⟨hbad, _⟩ | ⟨_, v, rfl, hT, hv⟩
  · exact absurd hbad (by decide)
  rw [HC.out] at hT
  obtain ⟨td, tcap, rfl, htrow⟩ := hT.form
  rcases htrow with h0 | ⟨tg, rfl⟩
  · simp at h0
  have c0 : w3.cell? ⟨tg, 0, none⟩ = some (.int .i64 0) := ownsRow_cell hT 0 (by decide)
  have c1 : w3.cell? ⟨tg, 1, none⟩ = some (.int .i64 0) := ownsRow_cell hT 1 (by decide)
  have c2 : w3.cell? ⟨tg, 2, none⟩ = some (.int .i64 1) := ownsRow_cell hT 2 (by decide)
  have c3 : w3.cell? ⟨tg, 3, none⟩ = some (.int .i64 (-1)) := ownsRow_cell hT 3 (by decide)
  have c4 : w3.cell? ⟨tg, 4, none⟩ = some (.int .i64 1) := ownsRow_cell hT 4 (by decide)
  have c5 : w3.cell? ⟨tg, 5, none⟩ = some (.int .i64 2) := ownsRow_cell hT 5 (by decide)
  have hb4 : Below w.heap.size w w3 := HB2.out.trans (hb3.mono HB2.out.size)
  have HB3 := hide hb4
  clear hb4 hb3 hT hv
  go_wp2_with fail
  go_ret
  exact ⟨rfl, HB3.out⟩
end Go.Proofs.Ytmgpdaemcbbikaa
