import Derived.Test.YtmgpdaemcbbikaaB48
import Derived.Deep.RegionWith
import Derived.BigRegion
import Derived.Test.YtmgpdaemcbbikaaB37

namespace Go.Proofs.Ytmgpdaemcbbikaa
open Go.RowKit Go.Deep
set_option linter.unusedVariables false

set_option maxRecDepth 20000 in
set_option maxHeartbeats 1600000 in
theorem split_any (pb : Nat) (kd : Nat → Nat) (g : Graph) (s : ByteArray) (w : World) (h : LexAt w pb kd g) (ho : LexOk kd g) (hs : s.size ≤ maxLen) :
    Calls Try.prog 31 #[.pointer (some ⟨pb, 0, none⟩), .string s] w fun e w' => Below w.heap.size w w' ∧
      ((4096 < s.size ∧ e = .returned (.tuple #[.slice none 0 0, .int .i64 5])) ∨ (s.size ≤ 4096 ∧ ∃ v, e = .returned (.tuple #[v, .int .i64 0]) ∧ TokRow w' v (cutF kd g s) ∧ ∀ b, v.ownBlock = some b → w.heap.size ≤ b)) := by
  by_cases hz : 4096 < s.size
  · have e1 : decide ((4096 : Int) < (s.size : Int)) = true := by simp; omega
    clear h ho
    go_enter Try.func31, Try.ntmps31
    go_wp2_with fail
    go_ret2
    exact ⟨Below.refl _ _, .inl ⟨hz, rfl⟩⟩
  · have e1 : decide ((4096 : Int) < (s.size : Int)) = false := by simp; omega
    have HC := hide (fun (W : World) (hb : Below w.heap.size w W) => on_any pb kd g (startS 0) s true W (h.below hb) ho (by show 0 + 0 + s.size ≤ 100000; omega) (Nat.le_refl _))
    have SA := hide (fun W => start_any 0 W)
    clear h ho hs
    go_enter Try.func31, Try.ntmps31
    go_wp2_with fail
    refine (SA.out _).mono ?_
    rintro e w1 ⟨rfl, hb1⟩
    have HB1 := hide hb1
    clear hb1
    go_wp2_with fail
    obtain ⟨w2, hw2⟩ : ∃ w2 : World, w1.alloc (.cells (savC (startS 0)) 113) = w2 := ⟨_, rfl⟩
    have hb2 : Below w.heap.size w w2 := by rw [← hw2]; exact HB1.out.alloc HB1.out.size _
    have hB2 : Blk w2 w1.heap.size (savC (startS 0)) 113 := by rw [← hw2]; exact Blk.new _ _ _
    change Code.wp _ _ _ _ (w1.alloc (.cells (savC (startS 0)) 113))
    rw [hw2]
    have c0 := hB2.cell 0
    have c1 := hB2.cell 1
    have c2 := hB2.cell 2
    have c3 := hB2.cell 3
    have c4 := hB2.cell 4
    have zz := hB2.lt
    have hd1 : Below w.heap.size w w2.drew := Below_drew hb2
    have hd2 : Below w.heap.size w (w2.drew.alloc (.cells sav0 113)) := hd1.alloc hd1.size _
    have HD1 := hide hd1
    have HD2 := hide hd2
    clear hd1 hd2 hw2 hb2 hB2
    go_region_with (go_at_call 61; refine (HC.out _ (by first | exact HD1.out | exact HD2.out)).mono ?_; rintro e w3 ⟨v, rfl, hT3, hv3, hb3⟩; try (have hq : Blk w3 w2.heap.size sav0 113 := (Blk.new w2.drew sav0 113).below hb3; have q0 := hq.cell 0; have q1 := hq.cell 1; have q2 := hq.cell 2; have q3 := hq.cell 3; have q4 := hq.cell 4; have f0 := hq.frozen 0; have f1 := hq.frozen 1; have f2 := hq.frozen 2; have f3 := hq.frozen 3; have f4 := hq.frozen 4))
    · have hT : TokRow w3 v (cutF kd g s) := by rw [← onF_cut]; exact hT3
      have hz3 : w.heap.size ≤ w2.heap.size := HD1.out.size
      have hbb : Below w.heap.size w w3 := HD1.out.trans (hb3.mono HD1.out.size)
      have HH : Hid (TokRow w3 v (cutF kd g s) ∧ (∀ b, v.ownBlock = some b → w.heap.size ≤ b) ∧ Below w.heap.size w w3) := ⟨hT, fun b hb => Nat.le_trans hz3 (hv3 b hb), hbb⟩
      clear hT hT3 hv3 hb3 hbb c0 c1 c2 c3 c4 HC HD1 HD2
      go_wp2_with fail
      go_ret2
      exact ⟨HH.out.2.2.alloc HH.out.2.2.size _, .inr ⟨by omega, v, rfl, HH.out.1.below (Below1 _ _), HH.out.2.1⟩⟩
    · have hT : TokRow w3 v (cutF kd g s) := by rw [← onF_cut]; exact hT3
      have hz3 : w.heap.size ≤ w2.heap.size := HD1.out.size
      have hbb : Below w.heap.size w w3 := HD2.out.trans (hb3.mono HD2.out.size)
      have hv4 : ∀ b, v.ownBlock = some b → w2.heap.size < b := fun b hb => Nat.lt_of_succ_le (by have := hv3 b hb; simpa using this)
      have HH : Hid (TokRow w3 v (cutF kd g s) ∧ (∀ b, v.ownBlock = some b → w2.heap.size < b) ∧ Below w.heap.size w w3) := ⟨hT, hv4, hbb⟩
      clear hT hT3 hv3 hb3 hbb c0 c1 c2 c3 c4 HC HD1 HD2 hv4 q0 q1 q2 q3 q4 f0 f1 f2 f3 f4 hq
      generalize (onF kd g (startS 0) s true).2 = sv
      go_wp2_with fail
      go_ret2
      refine ⟨((((HH.out.2.2.setCell (p := ⟨w2.heap.size, 0, none⟩) hz3 _).setCell (p := ⟨w2.heap.size, 1, none⟩) hz3 _).setCell (p := ⟨w2.heap.size, 2, none⟩) hz3 _).setCell (p := ⟨w2.heap.size, 3, none⟩) hz3 _).setCell (p := ⟨w2.heap.size, 4, none⟩) hz3 _, .inr ⟨by omega, v, rfl, ?_, fun b hb => by have := HH.out.2.1 b hb; omega⟩⟩
      exact HH.out.1.kept (ex := fun b => b = w2.heap.size) (((((Kept.setCell (ex := fun b => b = w2.heap.size) (p := ⟨w2.heap.size, 0, none⟩) (Kept.refl _ _) (fun _ => rfl) _).setCell (p := ⟨w2.heap.size, 1, none⟩) (fun _ => rfl) _).setCell (p := ⟨w2.heap.size, 2, none⟩) (fun _ => rfl) _).setCell (p := ⟨w2.heap.size, 3, none⟩) (fun _ => rfl) _).setCell (p := ⟨w2.heap.size, 4, none⟩) (fun _ => rfl) _) (fun b hb e => by have := HH.out.2.1 b hb; omega)
    · have hT : TokRow w3 v (cutF kd g s) := by rw [← onF_cut]; exact hT3
      have hz3 : w.heap.size ≤ w2.heap.size := HD1.out.size
      have hbb : Below w.heap.size w w3 := HD2.out.trans (hb3.mono HD2.out.size)
      have hv4 : ∀ b, v.ownBlock = some b → w2.heap.size < b := fun b hb => Nat.lt_of_succ_le (by have := hv3 b hb; simpa using this)
      have HH : Hid (TokRow w3 v (cutF kd g s) ∧ (∀ b, v.ownBlock = some b → w2.heap.size < b) ∧ Below w.heap.size w w3) := ⟨hT, hv4, hbb⟩
      clear hT hT3 hv3 hb3 hbb c0 c1 c2 c3 c4 HC HD1 HD2 hv4 q0 q1 q2 q3 q4 f0 f1 f2 f3 f4 hq
      generalize (onF kd g (startS 0) s true).2 = sv
      go_wp2_with fail
      go_ret2
      refine ⟨((((HH.out.2.2.setCell (p := ⟨w2.heap.size, 0, none⟩) hz3 _).setCell (p := ⟨w2.heap.size, 1, none⟩) hz3 _).setCell (p := ⟨w2.heap.size, 2, none⟩) hz3 _).setCell (p := ⟨w2.heap.size, 3, none⟩) hz3 _).setCell (p := ⟨w2.heap.size, 4, none⟩) hz3 _, .inr ⟨by omega, v, rfl, ?_, fun b hb => by have := HH.out.2.1 b hb; omega⟩⟩
      exact HH.out.1.kept (ex := fun b => b = w2.heap.size) (((((Kept.setCell (ex := fun b => b = w2.heap.size) (p := ⟨w2.heap.size, 0, none⟩) (Kept.refl _ _) (fun _ => rfl) _).setCell (p := ⟨w2.heap.size, 1, none⟩) (fun _ => rfl) _).setCell (p := ⟨w2.heap.size, 2, none⟩) (fun _ => rfl) _).setCell (p := ⟨w2.heap.size, 3, none⟩) (fun _ => rfl) _).setCell (p := ⟨w2.heap.size, 4, none⟩) (fun _ => rfl) _) (fun b hb e => by have := HH.out.2.1 b hb; omega)
end Go.Proofs.Ytmgpdaemcbbikaa

namespace Go.Proofs.Ytmgpdaemcbbikaa
open Go.RowKit Go.Deep
set_option linter.unusedVariables false

abbrev ababText : ByteArray := ⟨#[97, 98, 97, 98]⟩
def cutOf (s : ByteArray) : NewT → List TokT
  | .bad _ _ => []
  | .lexer kd g => cutF kd g s
theorem sureCut : cutOf ababText (newF sureText) = [⟨0, 0, 1⟩, ⟨-1, 1, 2⟩, ⟨0, 2, 3⟩, ⟨-1, 3, 4⟩] := by kernel_rfl

set_option maxHeartbeats 1600000 in
theorem cuts_any (w : World) : Calls Try.prog 30 #[] w fun e w' => e = .returned (.bool true) ∧ Below w.heap.size w w' := by
  obtain ⟨kd, g, hn, hg⟩ := sureNew
  have hcut : cutF kd g ababText = [⟨0, 0, 1⟩, ⟨-1, 1, 2⟩, ⟨0, 2, 3⟩, ⟨-1, 3, 4⟩] := by have := sureCut; rw [hn] at this; exact this
  have hok := (newF_lexOk hn).1
  have HN := hide hn
  have HC := hide hcut
  have HOK := hide hok
  have HS := hide (fun W => sure_any W)
  have HNE := hide (fun W => new_any sureText (by decide) W)
  clear hn hg hcut hok
  go_enter Try.func30, Try.ntmps30
  go_wp2_with fail
  refine (HS.out _).mono ?_
  rintro e w1 ⟨rfl, hb1⟩
  have HB1 := hide hb1
  clear hb1
  go_wp2_with fail
  refine (HNE.out _).mono ?_
  rw [HN.out]
  rintro e w2 ⟨hb2, pb, rfl, hL⟩
  have hb : Below w.heap.size w w2 := HB1.out.trans (hb2.mono HB1.out.size)
  have HB2 := hide hb
  have HSP := hide (split_any pb kd g ababText w2 hL HOK.out (by decide))
  clear hb hb2 hL
  go_wp2_with fail
  refine HSP.out.mono ?_
  rintro e w3 ⟨hb3, hres⟩
  rcases hres with ⟨hbad, _⟩ | ⟨_, v, rfl, hT, hv⟩
  · exact absurd hbad (by decide)
  rw [HC.out] at hT
  obtain ⟨td, tcap, rfl, htrow⟩ := hT.form
  rcases htrow with h0 | ⟨tg, rfl⟩
  · simp at h0
  have c0 : w3.cell? ⟨tg, 0, none⟩ = some (.int .i64 0) := ownsRow_cell hT 0 (by decide)
  have c1 : w3.cell? ⟨tg, 1, none⟩ = some (.int .i64 0) := ownsRow_cell hT 1 (by decide)
  have c2 : w3.cell? ⟨tg, 2, none⟩ = some (.int .i64 1) := ownsRow_cell hT 2 (by decide)
  have c3 : w3.cell? ⟨tg, 3, none⟩ = some (.int .i64 (-1)) := ownsRow_cell hT 3 (by decide)
  have c4 : w3.cell? ⟨tg, 4, none⟩ = some (.int .i64 1) := ownsRow_cell hT 4 (by decide)
  have c5 : w3.cell? ⟨tg, 5, none⟩ = some (.int .i64 2) := ownsRow_cell hT 5 (by decide)
  have hb4 : Below w.heap.size w w3 := HB2.out.trans (hb3.mono HB2.out.size)
  have HB3 := hide hb4
  clear hb4 hb3 hT hv
  go_wp2_with fail
  go_ret
  exact ⟨rfl, HB3.out⟩
end Go.Proofs.Ytmgpdaemcbbikaa
