import Derived.Test.YtcckhngbdoiikaaM27
import Derived.Test.YtcckhngbdoiikaaM09
import Derived.BigQuiet
import Derived.Deep.QuietTactic
import Derived.Deep.DeepCutAuto

namespace Go.Proofs.Ytcckhngbdoiikaa
open Go.RowKit Go.Deep
set_option linter.unusedVariables false

/-- The rule text of the first k rules, and how many places they have. -/
def spellK (all : List NodeT) (tops : List Nat) : Nat → ByteArray × Nat
  | 0 => (⟨#[]⟩, 0)
  | k + 1 => ((if 0 < k then (spellK all tops k).1 ++ ⟨#[10]⟩ else (spellK all tops k).1) ++ (all.getD (tops.getD k 0) nodeD).text, (spellK all tops k).2 + (all.getD (tops.getD k 0) nodeD).places)
structure SpellOk (all : List NodeT) (tops : List Nat) : Prop where
  into : ∀ k, k < tops.length → tops.getD k 0 < all.length
  size : ∀ k, k ≤ tops.length → (spellK all tops k).1.size ≤ 1073741824 ∧ (spellK all tops k).2 ≤ 1073741824
  node : ∀ k, k < tops.length → (all.getD (tops.getD k 0) nodeD).text.size ≤ 1073741824 ∧ (all.getD (tops.getD k 0) nodeD).places ≤ 1073741824
  few : tops.length ≤ 1073741824

set_option maxRecDepth 20000 in
set_option maxHeartbeats 1600000 in
theorem spelling_any (all : List NodeT) (tops : List Nat) (av tv : Value) (w : World) (ha : NodeRow w av all) (ht : IRow w tv (natsI tops)) (hs : SpellOk all tops) :
    Calls Try.prog 59 #[.agg #[av, tv]] w fun e w' => e = .returned (.tuple #[.string (spellK all tops tops.length).1, .int .i64 ((spellK all tops tops.length).2 : Int)]) ∧ Below w.heap.size w w' := by
  obtain ⟨ad, acap, rfl, harow⟩ := ha.form
  obtain ⟨td, tcap, rfl, htrow⟩ := ht.formN
  have HA := hide ha
  have HT := hide ht
  have HS := hide hs
  have hfew := hs.few
  clear ha ht hs
  go_enter Try.func59, Try.ntmps59
  go_wp2_with fail
  go_loopg [4, 5, 6] tops.length (fun G sv nv iv wr => ∃ k : Nat, iv = .int .i64 (k : Int) ∧ k ≤ tops.length ∧ G = tops.length - k ∧ sv = .string (spellK all tops k).1 ∧ nv = .int .i64 ((spellK all tops k).2 : Int) ∧ Below w.heap.size w wr ∧ Blk wr w.heap.size #[.slice ad all.length acap, .slice td tops.length tcap] 42)
  case atStart => exact ⟨0, rfl, by omega, rfl, rfl, rfl, Below1 _ _, Blk.new _ _ _⟩
  case round =>
    obtain ⟨k, rfl, hk, rfl, rfl, rfl, hb, hZ⟩ := hrel
    have z0 : wr.cell? ⟨w.heap.size, 0, none⟩ = some (.slice ad all.length acap) := hZ.cell 0
    have z1 : wr.cell? ⟨w.heap.size, 1, none⟩ = some (.slice td tops.length tcap) := hZ.cell 1
    by_cases hlt : k < tops.length
    · have e0 : decide ((k : Int) < (tops.length : Int)) = true := by simp; omega
      rcases htrow with h0 | ⟨tg, rfl⟩
      · omega
      have hT := HT.out.below hb
      have hA := HA.out.below hb
      have htl := HS.out.into k hlt
      rcases harow with h0 | ⟨ag, rfl⟩
      · omega
      have t0 := hT.cellN k hlt
      have a5 := hA.cell (tops.getD k 0) 5 htl (by omega)
      have a6 := hA.cell (tops.getD k 0) 6 htl (by omega)
      obtain ⟨s1, s2⟩ := HS.out.size k hk
      obtain ⟨s3, s4⟩ := HS.out.node k hlt
      have hnext : spellK all tops (k + 1) = ((if 0 < k then (spellK all tops k).1 ++ ⟨#[10]⟩ else (spellK all tops k).1) ++ (all.getD (tops.getD k 0) nodeD).text, (spellK all tops k).2 + (all.getD (tops.getD k 0) nodeD).places) := rfl
      generalize spellK all tops k = r at s1 s2 hnext ⊢
      obtain ⟨rt, rn⟩ := r
      generalize tops.getD k 0 = tk at t0 a5 a6 s3 s4 htl hnext
      generalize all.getD tk nodeD = A at a5 a6 s3 s4 hnext
      obtain ⟨Ak, Aa, Ab, Al, Ar, At, Ap⟩ := A
      simp only [nodesC, List.getElem?_cons_zero, List.getElem?_cons_succ] at a5 a6
      simp only at s1 s2 s3 s4
      have i0 : (0 : Int) ≤ (k : Int) := by omega
      have i1 : (k : Int) < (tops.length : Int) := by omega
      have x0 : (0 : Int) ≤ (tk : Int) := by omega
      have x1 : (tk : Int) < (all.length : Int) := by omega
      have HH : Hid (Below w.heap.size w wr ∧ Blk wr w.heap.size #[.slice (some ⟨ag, 0, none⟩) all.length acap, .slice (some ⟨tg, 0, none⟩) tops.length tcap] 42) := ⟨hb, hZ⟩
      have HN := hide hnext
      clear hb hZ hT hA hnext
      by_cases hk0 : 0 < k
      · have e1 : decide ((0 : Int) < (k : Int)) = true := by simp; omega
        have sz : (rt ++ ⟨#[10]⟩ : ByteArray).size ≤ 1073741825 := by rw [ByteArray.size_append]; have : (⟨#[10]⟩ : ByteArray).size = 1 := rfl; omega
        go_wp2_with fail
        go_quiet (fail)
        go_wp2_with fail
        go_quiet (fail)
        go_wp2_with fail
        go_roundg (tops.length - (k + 1))
        case measure => omega
        case rel =>
          have hn := HN.out
          rw [if_pos hk0] at hn
          exact ⟨k + 1, by go_num, by omega, rfl, by rw [hn], by rw [hn]; go_num, Below_drewN HH.out.1 _, HH.out.2⟩
      · have e1 : decide ((0 : Int) < (k : Int)) = false := by simp; omega
        go_wp2_with fail
        go_quiet (fail)
        go_wp2_with fail
        go_quiet (fail)
        go_wp2_with fail
        go_roundg (tops.length - (k + 1))
        case measure => omega
        case rel =>
          have hn := HN.out
          rw [if_neg hk0] at hn
          exact ⟨k + 1, by go_num, by omega, rfl, by rw [hn], by rw [hn]; go_num, Below_drewN HH.out.1 _, HH.out.2⟩
    · have e0 : decide ((k : Int) < (tops.length : Int)) = false := by simp; omega
      obtain rfl : k = tops.length := by omega
      have HB := hide hb
      clear hb hZ
      go_wp2_with fail
      go_ret2
      exact ⟨rfl, HB.out⟩
end Go.Proofs.Ytcckhngbdoiikaa
