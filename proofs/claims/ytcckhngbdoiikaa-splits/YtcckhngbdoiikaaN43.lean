import Derived.Test.YtcckhngbdoiikaaN42
import Derived.Test.YtcckhngbdoiikaaN09
import Derived.BigQuiet

namespace Go.Proofs.Ytcckhngbdoiikaa
open Go.RowKit Go.Deep
set_option linter.unusedVariables false

theorem getD_ext {l m : List Bool} {n : Nat} (hl : l.length = n) (hm : m.length = n) (h : ∀ q, q < n → l.getD q false = m.getD q false) : l = m := by
  refine bools_ext (hl.trans hm.symm) fun a => ?_
  by_cases ha : a < n
  · rw [h a ha]
  · simp only [List.getD_eq_getElem?_getD]
    rw [List.getElem?_eq_none (by omega), List.getElem?_eq_none (by omega)]
set_option maxRecDepth 20000 in
set_option maxHeartbeats 3200000 in
theorem refEqual_any (a b n c1 c2 : Nat) (l m : List Bool) (w : World) (hl : Blk w a (boolsA l) 4) (hm : Blk w b (boolsA m) 4) (hln : l.length = n) (hmn : m.length = n) (hn : n ≤ 50000) :
    Calls Try.prog 133 #[.slice (some ⟨a, 0, none⟩) n c1, .slice (some ⟨b, 0, none⟩) n c2] w fun e w' => ∃ x, e = .returned (.bool x) ∧ (x = true ↔ l = m) ∧ Below w.heap.size w w' := by
  have HL := hide (And.intro hl (And.intro hm (And.intro hln hmn)))
  clear hl hm hln hmn
  go_enter Try.func133, Try.ntmps133
  go_wp2_with fail
  go_loopg [5] n (fun G iv wr => ∃ i : Nat, iv = .int .i64 (i : Int) ∧ i ≤ n ∧ G = n - i ∧ (∀ q, q < i → l.getD q false = m.getD q false) ∧ Below w.heap.size w wr)
  case atStart => exact ⟨0, rfl, by omega, rfl, fun q hq => by omega, Below.refl _ _⟩
  case round =>
    obtain ⟨i, rfl, hi, rfl, hq, hbl⟩ := hrel
    obtain ⟨h1, h2, h3, h4⟩ := HL.out
    by_cases hlt : i < n
    · have e0 : decide ((i : Int) < (n : Int)) = true := by simp; omega
      have k1 := boolsA_cellD (h1.below hbl) i (by omega)
      have k2 := boolsA_cellD (h2.below hbl) i (by omega)
      generalize hx : l.getD i false = x at k1
      generalize hy : m.getD i false = y at k2
      have i0 : (0 : Int) ≤ (i : Int) := by omega
      have i1 : (i : Int) < (n : Int) := by omega
      have HI := hide (And.intro hq (And.intro hbl (And.intro hx hy)))
      clear hq hbl hx hy h1 h2 h3 h4
      cases x <;> cases y
      all_goals
        go_upto_region 4 with fail
        go_quiet (fail)
        obtain ⟨w0, hw0⟩ : ∃ w0, wr.drewN nq = w0 := ⟨_, rfl⟩
        have HB0 : Hid (Below wr.heap.size wr w0) := hide (by rw [← hw0]; exact Below_drewN (Below.refl _ _) _)
        rw [hw0]
        clear hw0
        go_wp2_with fail
        first
        | go_ret
          obtain ⟨a1, a2, a3, a4⟩ := HI.out
          refine ⟨false, rfl, ⟨fun e => (by cases e), fun e => ?_⟩, a2.trans (HB0.out.mono a2.size)⟩
          rw [e] at a3
          rw [a3] at a4; cases a4
        | go_roundg (n - (i + 1))
          case measure => omega
          case rel =>
            obtain ⟨a1, a2, a3, a4⟩ := HI.out
            refine ⟨i + 1, by go_num, by omega, rfl, fun q hq => ?_, a2.trans (HB0.out.mono a2.size)⟩
            by_cases e : q < i
            · exact a1 q e
            · rw [show q = i by omega, a3, a4]
    · obtain rfl : i = n := by omega
      have e0 : decide ((i : Int) < (i : Int)) = false := by simp
      have HI := hide (And.intro hq hbl)
      clear hq hbl h1 h2 
      go_wp2_with fail
      go_ret
      obtain ⟨a1, a2⟩ := HI.out
      exact ⟨true, rfl, ⟨fun _ => getD_ext h3 h4 a1, fun _ => rfl⟩, a2⟩
set_option maxRecDepth 20000 in
set_option maxHeartbeats 3200000 in
theorem refEmpty_any (a n c1 : Nat) (l : List Bool) (w : World) (hl : Blk w a (boolsA l) 4) (hln : l.length = n) (hn : n ≤ 50000) :
    Calls Try.prog 102 #[.slice (some ⟨a, 0, none⟩) n c1] w fun e w' => ∃ x, e = .returned (.bool x) ∧ (x = true ↔ ∀ q, l.getD q false = false) ∧ Below w.heap.size w w' := by
  have HL := hide (And.intro hl hln)
  clear hl hln
  go_enter Try.func102, Try.ntmps102
  go_wp2_with fail
  go_loopg [3] n (fun G iv wr => ∃ i : Nat, iv = .int .i64 (i : Int) ∧ i ≤ n ∧ G = n - i ∧ (∀ q, q < i → l.getD q false = false) ∧ Below w.heap.size w wr)
  case atStart => exact ⟨0, rfl, by omega, rfl, fun q hq => by omega, Below.refl _ _⟩
  case round =>
    obtain ⟨i, rfl, hi, rfl, hq, hbl⟩ := hrel
    obtain ⟨h1, h3⟩ := HL.out
    by_cases hlt : i < n
    · have e0 : decide ((i : Int) < (n : Int)) = true := by simp; omega
      have k1 := boolsA_cellD (h1.below hbl) i (by omega)
      generalize hx : l.getD i false = x at k1
      have i0 : (0 : Int) ≤ (i : Int) := by omega
      have i1 : (i : Int) < (n : Int) := by omega
      have HI := hide (And.intro hq (And.intro hbl hx))
      clear hq hbl hx h1 h3
      cases x with
      | true =>
        go_wp2_with fail
        go_ret
        obtain ⟨a1, a2, a3⟩ := HI.out
        refine ⟨false, rfl, ⟨fun e => (by cases e), fun e => ?_⟩, a2⟩
        rw [e i] at a3; cases a3
      | false =>
        go_wp2_with fail
        go_roundg (n - (i + 1))
        case measure => omega
        case rel =>
          obtain ⟨a1, a2, a3⟩ := HI.out
          refine ⟨i + 1, by go_num, by omega, rfl, fun q hq => ?_, a2⟩
          by_cases e : q < i
          · exact a1 q e
          · rw [show q = i by omega, a3]
    · obtain rfl : i = n := by omega
      have e0 : decide ((i : Int) < (i : Int)) = false := by simp
      have HI := hide (And.intro hq hbl)
      clear hq hbl h1
      go_wp2_with fail
      go_ret
      obtain ⟨a1, a2⟩ := HI.out
      refine ⟨true, rfl, ⟨fun _ q => ?_, fun _ => rfl⟩, a2⟩
      by_cases e : q < i
      · exact a1 q e
      · rw [List.getD_eq_getElem?_getD, List.getElem?_eq_none (by omega)]; rfl
def slV (N b : Nat) : Value := .slice (some ⟨b, 0, none⟩) N N
/-- Sets in memory. -/
structure BSets (w : World) (sv : Value) (S : List (Nat × List Bool)) : Prop where
  row : w.ownsRow 0 119 1 sv S.length (S.map (fun p => slV 120 p.1))
  each : ∀ p ∈ S, Blk w p.1 (boolsA p.2) 4 ∧ p.2.length = 120
/-- Rows of 256 numbers in memory. -/
structure ITos (w : World) (ov : Value) (To : List (Nat × List Int)) : Prop where
  row : w.ownsRow 0 40 1 ov To.length (To.map (fun p => slV 256 p.1))
  each : ∀ p ∈ To, Blk w p.1 (intsA p.2) 3 ∧ p.2.length = 256
/-- What was found, in memory. -/
structure FoundAt (w : World) (lo fb : Nat) (tv sv ov : Value) (T : List ByteArray) (S : List (Nat × List Bool)) (To : List (Nat × List Int)) : Prop where
  blk : Blk w fb #[tv, sv, ov] 182
  txt : w.ownsRow 0 9 1 tv T.length (T.map Value.string)
  sets : BSets w sv S
  tos : ITos w ov To
  own : lo ≤ fb ∧ (∀ b, tv.ownBlock = some b → lo ≤ b) ∧ (∀ b, sv.ownBlock = some b → lo ≤ b) ∧ (∀ b, ov.ownBlock = some b → lo ≤ b)
theorem FoundAt.below {w w' : World} {lo fb : Nat} {tv sv ov : Value} {T : List ByteArray} {S : List (Nat × List Bool)} {To : List (Nat × List Int)} (h : FoundAt w lo fb tv sv ov T S To) (k : Below w.heap.size w w') : FoundAt w' lo fb tv sv ov T S To :=
  ⟨h.blk.below k, ownsRow_kept (ex := fun _ => False) h.txt (Kept.ofBelow k) (fun _ _ e => e), ⟨ownsRow_kept (ex := fun _ => False) h.sets.row (Kept.ofBelow k) (fun _ _ e => e), fun p hp => ⟨(h.sets.each p hp).1.below k, (h.sets.each p hp).2⟩⟩, ⟨ownsRow_kept (ex := fun _ => False) h.tos.row (Kept.ofBelow k) (fun _ _ e => e), fun p hp => ⟨(h.tos.each p hp).1.below k, (h.tos.each p hp).2⟩⟩, h.own⟩
/-- The number of a set. -/
def AtIs (S : List (Nat × List Bool)) (m : List Bool) (r : Int) : Prop := (r = -1 ∧ ∀ i, (h : i < S.length) → 0 < i → S[i].2 ≠ m) ∨ ∃ i, ∃ h : i < S.length, 0 < i ∧ r = (i : Int) ∧ S[i].2 = m
set_option maxRecDepth 20000 in
set_option maxHeartbeats 3200000 in
theorem refAt_any (fb b lo : Nat) (tv sv ov : Value) (T : List ByteArray) (S : List (Nat × List Bool)) (To : List (Nat × List Int)) (m : List Bool) (w : World) (h : FoundAt w lo fb tv sv ov T S To) (hm : Blk w b (boolsA m) 4) (hmn : m.length = 120) (hS : S.length ≤ 100) :
    Calls Try.prog 103 #[.pointer (some ⟨fb, 0, none⟩), slV 120 b] w fun e w' => ∃ r, e = .returned (.int .i64 r) ∧ AtIs S m r ∧ Below w.heap.size w w' := by
  have HL := hide (And.intro h (And.intro hm hmn))
  clear h hm hmn
  unfold slV
  go_enter Try.func103, Try.ntmps103
  go_wp2_with fail
  go_loopg [5] 99 (fun G iv wr => ∃ i : Nat, iv = .int .i64 (i : Int) ∧ 0 < i ∧ G = 100 - i ∧ (∀ j, (hj : j < S.length) → 0 < j → j < i → S[j].2 ≠ m) ∧ Below w.heap.size w wr)
  case atStart => exact ⟨1, rfl, by omega, rfl, fun j hj h0 h1 => by omega, Below.refl _ _⟩
  case round =>
    obtain ⟨i, rfl, hi, rfl, hq, hbl⟩ := hrel
    obtain ⟨h1, h2, h3⟩ := HL.out
    have h1' := h1.below hbl
    have hrow := h1'.sets.row
    obtain ⟨_, sd, scap, rfl, hform⟩ := ownsRow_form hrow
    have c1 : wr.cell? ⟨fb, 1, none⟩ = some (.slice sd S.length scap) := h1'.blk.cell 1
    by_cases hlt : i < S.length
    · have e0 : decide ((i : Int) < (S.length : Int)) = true := by simp; omega
      rcases hform with ⟨_, e⟩ | ⟨sg, sc, rfl, hsb, _⟩
      · omega
      have cg : wr.cell? ⟨sg, i, none⟩ = some (.slice (some ⟨S[i].1, 0, none⟩) 120 120) := by rw [ownsRow_cell hrow i (by omega)]; simp [slV, hlt]
      obtain ⟨k1, k2⟩ := h1'.sets.each S[i] (List.getElem_mem hlt)
      have HE := hide (refEqual_any S[i].1 b 120 120 120 S[i].2 m wr k1 (h2.below hbl) k2 h3 (by omega))
      have i0 : (0 : Int) ≤ (i : Int) := by omega
      have i1 : (i : Int) < (S.length : Int) := by omega
      have HI := hide (And.intro hq hbl)
      clear hq hbl h1 h2 h3 h1' hrow hsb k1 k2
      go_wp2_with fail
      refine HE.out.mono ?_
      rintro e w1 ⟨x, rfl, hx, hb1⟩
      have HX := hide (And.intro hx hb1)
      clear hx hb1 HE
      cases x with
      | true =>
        go_wp2_with fail
        go_ret
        obtain ⟨a1, a2⟩ := HI.out
        obtain ⟨b1, b2⟩ := HX.out
        exact ⟨(i : Int), rfl, .inr ⟨i, hlt, hi, rfl, b1.1 (by simp)⟩, a2.trans (b2.mono a2.size)⟩
      | false =>
        go_wp2_with fail
        go_roundg (100 - (i + 1))
        case measure => omega
        case rel =>
          obtain ⟨a1, a2⟩ := HI.out
          obtain ⟨b1, b2⟩ := HX.out
          refine ⟨i + 1, by go_num, by omega, rfl, fun j hj h0 hji => ?_, a2.trans (b2.mono a2.size)⟩
          by_cases e : j < i
          · exact a1 j hj h0 e
          · have : j = i := by omega
            subst this
            exact fun e => by have := b1.2 e; cases this
    · have e0 : decide ((i : Int) < (S.length : Int)) = false := by simp; omega
      have HI := hide (And.intro hq hbl)
      clear hq hbl h1 h2 h3 h1' hrow hform
      go_wp2_with fail
      go_ret
      obtain ⟨a1, a2⟩ := HI.out
      exact ⟨-1, rfl, .inl ⟨rfl, fun j hj h0 => a1 j hj h0 (by omega)⟩, a2⟩
end Go.Proofs.Ytcckhngbdoiikaa
