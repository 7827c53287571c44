import Derived.Test.YtmgpdaemcbbikaaB12
import Derived.Test.YtmgpdaemcbbikaaB08
import Derived.Test.YtmgpdaemcbbikaaB03

namespace Go.Proofs.Ytmgpdaemcbbikaa
open Go.RowKit Go.Deep
set_option linter.unusedVariables false

/-- Rows of ints, of bools, of slices of ints. -/
def IRow (w : World) (v : Value) (l : List Int) : Prop := w.ownsRow 0 3 1 v l.length (l.map (Value.int .i64))
def BRow (w : World) (v : Value) (l : List Bool) : Prop := w.ownsRow 0 4 1 v l.length (l.map Value.bool)
def NRow (w : World) (v : Value) (l : List Value) : Prop := w.ownsRow 0 40 1 v l.length l
/-- The graph: its rules, its rows. -/
structure GraphAt (w : World) (rv nv : Value) (g : Graph) : Prop where
  rule : IRow w rv g.rule
  next : ∃ vs : List Value, NRow w nv vs ∧ vs.length = g.next.length ∧ ∀ i v, vs[i]? = some v → IRow w v (g.next.getD i [])

section
variable {w w' : World} {v : Value}
theorem IRow.kept {l : List Int} {ex : Nat → Prop} (h : IRow w v l) (k : Kept ex w w') (he : ∀ b, v.ownBlock = some b → ¬ ex b) : IRow w' v l := ownsRow_kept h k he
theorem BRow.kept {l : List Bool} {ex : Nat → Prop} (h : BRow w v l) (k : Kept ex w w') (he : ∀ b, v.ownBlock = some b → ¬ ex b) : BRow w' v l := ownsRow_kept h k he
theorem NRow.kept {l : List Value} {ex : Nat → Prop} (h : NRow w v l) (k : Kept ex w w') (he : ∀ b, v.ownBlock = some b → ¬ ex b) : NRow w' v l := ownsRow_kept h k he
theorem IRow.below {l : List Int} (h : IRow w v l) (k : Below w.heap.size w w') : IRow w' v l := h.kept (ex := fun _ => False) (Kept.ofBelow k) (fun _ _ e => e)
theorem BRow.below {l : List Bool} (h : BRow w v l) (k : Below w.heap.size w w') : BRow w' v l := h.kept (ex := fun _ => False) (Kept.ofBelow k) (fun _ _ e => e)
theorem NRow.below {l : List Value} (h : NRow w v l) (k : Below w.heap.size w w') : NRow w' v l := h.kept (ex := fun _ => False) (Kept.ofBelow k) (fun _ _ e => e)
theorem ownsRow_lt {e : TypeId} {size n : Nat} {xs : List Value} (h : w.ownsRow 0 e size v n xs) : ∀ b, v.ownBlock = some b → b < w.heap.size := by
  intro b hb
  obtain ⟨_, ⟨rfl, _⟩ | ⟨g, cap, cur, rfl, _, h3, _⟩⟩ := h
  · simp [Value.ownBlock] at hb
  · cases (Option.some.inj hb : g = b)
    exact Blk.lt (h3 : Blk w _ cur e)
theorem GraphAt.below {rv nv : Value} {g : Graph} (h : GraphAt w rv nv g) (k : Below w.heap.size w w') : GraphAt w' rv nv g := by
  obtain ⟨vs, h1, h2, h3⟩ := h.next
  exact ⟨h.rule.below k, vs, h1.below k, h2, fun i v hv => (h3 i v hv).below k⟩

/-- What a slice of ints looks like, and its cells. -/
theorem IRow.form {l : List Int} (h : IRow w v l) : ∃ (ad : Option Addr) (cap : Nat), v = .slice ad l.length cap ∧ (l.length = 0 ∨ ∃ g, ad = some ⟨g, 0, none⟩) := by
  obtain ⟨_, ad, cap, rfl, hr⟩ := ownsRow_form h
  refine ⟨ad, cap, rfl, ?_⟩
  rcases hr with ⟨_, e⟩ | ⟨g, _, e, _⟩
  · exact .inl e
  · exact .inr ⟨g, e⟩
theorem IRow.cell {l : List Int} {g cap : Nat} (h : IRow w (.slice (some ⟨g, 0, none⟩) l.length cap) l) (j : Nat) (hj : j < l.length) : w.cell? ⟨g, j, none⟩ = some (.int .i64 l[j]) := by
  rw [ownsRow_cell h j (by omega)]; simp [hj]
theorem BRow.form {l : List Bool} (h : BRow w v l) : ∃ (ad : Option Addr) (cap : Nat), v = .slice ad l.length cap ∧ (l.length = 0 ∨ ∃ g, ad = some ⟨g, 0, none⟩) := by
  obtain ⟨_, ad, cap, rfl, hr⟩ := ownsRow_form h
  refine ⟨ad, cap, rfl, ?_⟩
  rcases hr with ⟨_, e⟩ | ⟨g, _, e, _⟩
  · exact .inl e
  · exact .inr ⟨g, e⟩
theorem BRow.cell {l : List Bool} {g cap : Nat} (h : BRow w (.slice (some ⟨g, 0, none⟩) l.length cap) l) (j : Nat) (hj : j < l.length) : w.cell? ⟨g, j, none⟩ = some (.bool l[j]) := by
  rw [ownsRow_cell h j (by omega)]; simp [hj]
theorem NRow.form {l : List Value} (h : NRow w v l) : ∃ (ad : Option Addr) (cap : Nat), v = .slice ad l.length cap ∧ (l.length = 0 ∨ ∃ g, ad = some ⟨g, 0, none⟩) := by
  obtain ⟨_, ad, cap, rfl, hr⟩ := ownsRow_form h
  refine ⟨ad, cap, rfl, ?_⟩
  rcases hr with ⟨_, e⟩ | ⟨g, _, e, _⟩
  · exact .inl e
  · exact .inr ⟨g, e⟩
theorem NRow.cell {l : List Value} {g cap : Nat} (h : NRow w (.slice (some ⟨g, 0, none⟩) l.length cap) l) (j : Nat) (hj : j < l.length) : w.cell? ⟨g, j, none⟩ = some l[j] := by
  rw [ownsRow_cell h j (by omega)]; simp [hj]
end
end Go.Proofs.Ytmgpdaemcbbikaa

namespace Go.Proofs.Ytmgpdaemcbbikaa
open Go.RowKit Go.Deep
set_option linter.unusedVariables false

/-- Every entry of a row is -1 or a node's number. -/
def RowOk (n : Nat) (row : List Int) : Prop := ∀ to ∈ row, to = -1 ∨ (0 ≤ to ∧ to < (n : Int))

set_option maxHeartbeats 1600000 in
theorem leads_any (rv mv : Value) (row : List Int) (marked : List Bool) (w : World) (hr : IRow w rv row) (hm : BRow w mv marked) (hl : row.length ≤ 1000) (hml : marked.length ≤ 1000) (hok : RowOk marked.length row) :
    Calls Try.prog 134 #[rv, mv] w fun e w' => e = .returned (.bool (leadsF row marked)) ∧ w' = w := by
  obtain ⟨ad, cap, rfl, hrow⟩ := hr.form
  obtain ⟨md, mcap, rfl, hmrow⟩ := hm.form
  generalize hF : leadsF row marked = F
  unfold leadsF at hF
  have HF := hide hF
  clear hF
  go_enter Try.func134, Try.ntmps134
  go_wp2_with fail
  go_loopg [9] row.length (fun g i wr => ∃ k : Nat, k ≤ row.length ∧ g = row.length - k ∧ i = .int .i64 (k : Int) ∧ wr = w ∧ (row.drop k).any (fun to => to != -1 && marked.getD to.toNat false) = F)
  case atStart => exact ⟨0, by omega, rfl, rfl, rfl, by simpa using HF.out⟩
  case round =>
    obtain ⟨k, hk, rfl, rfl, rfl, hfr⟩ := hrel
    clear HF
    by_cases hlt : k < row.length
    · have e0 : decide ((k : Int) < (row.length : Int)) = true := by simp; omega
      rcases hrow with h0 | ⟨g, rfl⟩
      · omega
      have r0 := hr.cell k hlt
      have i0 : (0 : Int) ≤ (k : Int) := by omega
      have i1 : (k : Int) < (row.length : Int) := by omega
      rw [List.drop_eq_getElem_cons hlt, List.any_cons] at hfr
      have hto := hok row[k] (List.getElem_mem hlt)
      generalize row[k] = to at r0 hfr hto
      by_cases hn : to = -1
      · subst hn
        have HFR := hide hfr
        clear hfr hto
        go_wp2_with fail
        go_roundg (row.length - (k + 1))
        case measure => omega
        case rel => exact ⟨k + 1, by omega, rfl, by go_num, rfl, by simpa using HFR.out⟩
      · have e1 : (to != -1) = true := by simp [hn]
        obtain ⟨j, rfl⟩ : ∃ j : Nat, to = (j : Int) := ⟨to.toNat, by omega⟩
        have hj : j < marked.length := by omega
        rcases hmrow with h0 | ⟨mg, rfl⟩
        · omega
        have m0 := hm.cell j hj
        have j0 : (0 : Int) ≤ (j : Int) := by omega
        have j1 : (j : Int) < (marked.length : Int) := by omega
        have hgd : marked.getD j false = marked[j] := by simp [hj]
        simp only [Int.toNat_natCast, hgd, e1, Bool.true_and] at hfr
        cases hb : marked[j] with
        | true =>
          rw [hb] at hfr m0
          have hfe : F = true := by simpa using hfr.symm
          subst hfe
          clear hfr hgd hb hto hn
          go_wp2_with fail
          go_ret
          exact ⟨rfl, rfl⟩
        | false =>
          rw [hb] at hfr m0
          have HFR := hide hfr
          clear hfr hgd hb hto hn
          go_wp2_with fail
          go_roundg (row.length - (k + 1))
          case measure => omega
          case rel => exact ⟨k + 1, by omega, rfl, by go_num, rfl, by simpa using HFR.out⟩
    · have e0 : decide ((k : Int) < (row.length : Int)) = false := by simp; omega
      rw [List.drop_of_length_le (by omega)] at hfr
      have hfe : F = false := by simpa using hfr.symm
      subst hfe
      clear hfr
      go_wp2_with fail
      go_ret
      exact ⟨rfl, rfl⟩
end Go.Proofs.Ytmgpdaemcbbikaa

namespace Go.Proofs.Ytmgpdaemcbbikaa
open Go.RowKit Go.Deep
set_option linter.unusedVariables false

theorem SetRow.below {w w' : World} {v : Value} {l : List PSet} (h : SetRow w v l) (k : Below w.heap.size w w') : SetRow w' v l := ownsRow_kept (ex := fun _ => False) h (Kept.ofBelow k) (fun _ _ e => e)

set_option maxHeartbeats 1600000 in
theorem find_any (v : Value) (l : List PSet) (s : PSet) (w : World) (h : SetRow w v l) (hl : l.length ≤ 1000) :
    Calls Try.prog 103 #[v, setV s] w fun e w' => e = .returned (.int .i64 (findF l s)) ∧ Below w.heap.size w w' := by
  obtain ⟨_, ad, cap, rfl, hrow⟩ := ownsRow_form h
  unfold findF
  cases he : s.isEmpty with
  | true =>
    rw [if_pos rfl]
    go_enter Try.func103, Try.ntmps103
    go_wp2_with fail
    refine (empty_any s _).mono ?_
    rintro e w1 ⟨rfl, hb1⟩
    rw [he]
    go_wp2_with fail
    go_ret
    exact ⟨rfl, (Below1 w _).trans (hb1.mono (by simp))⟩
  | false =>
    rw [if_neg (by simp)]
    generalize hF : idxF l s = F
    have HF := hide hF
    have HR := hide h
    clear hF h
    go_enter Try.func103, Try.ntmps103
    go_wp2_with fail
    refine (empty_any s _).mono ?_
    rintro e w1 ⟨rfl, hb1⟩
    rw [he]
    have HB : Hid (Below w.heap.size w w1 ∧ Blk w1 w.heap.size (setC s) 139) := ⟨(Below1 w _).trans (hb1.mono (by simp)), (Blk.new w _ _).below hb1⟩
    clear hb1
    go_wp2_with fail
    go_loopg [11] l.length (fun g i wr => ∃ k : Nat, k ≤ l.length ∧ g = l.length - k ∧ i = .int .i64 (k : Int) ∧
      Below w.heap.size w wr ∧ Blk wr w.heap.size (setC s) 139 ∧ k + idxF (l.drop k) s = F)
    case atStart =>
      obtain ⟨q1, q2⟩ := HB.out
      exact ⟨0, by omega, rfl, rfl, q1, q2, by simpa using HF.out⟩
    case round =>
      obtain ⟨k, hk, rfl, rfl, hb, hS, hfr⟩ := hrel
      clear HB HF
      by_cases hlt : k < l.length
      · have e0 : decide ((k : Int) < (l.length : Int)) = true := by simp; omega
        rcases hrow with ⟨rfl, h0⟩ | ⟨fb, cur, rfl, _⟩
        · omega
        have hRw := HR.out.below hb
        have r0 : wr.cell? ⟨fb, k * 2, none⟩ = some (.int .u64 (l[k].lo.toNat : Int)) := by rw [ownsRow_cell hRw _ (by omega), setsC_get0 _ k hlt]
        have r1 : wr.cell? ⟨fb, k * 2 + 1, none⟩ = some (.int .u64 (l[k].hi.toNat : Int)) := by rw [ownsRow_cell hRw _ (by omega), setsC_get1 _ k hlt]
        have i0 : (0 : Int) ≤ (k : Int) := by omega
        have i1 : (k : Int) < (l.length : Int) := by omega
        have s0 : wr.cell? ⟨w.heap.size, 0, none⟩ = some (.int .u64 (s.lo.toNat : Int)) := hS.cell 0
        have s1 : wr.cell? ⟨w.heap.size, 1, none⟩ = some (.int .u64 (s.hi.toNat : Int)) := hS.cell 1
        have zs0 : w.heap.size < wr.heap.size := hS.lt
        have HH : Hid (Below w.heap.size w wr ∧ Blk wr w.heap.size (setC s) 139 ∧ k + idxF (l.drop k) s = F) := ⟨hb, hS, hfr⟩
        clear hb hS hRw hfr
        cases hb1 : ((l[k].lo.toNat : Int) == (s.lo.toNat : Int)) with
        | false =>
          have HN := hide (PSet.ne_lo hb1)
          go_wp2_with fail
          go_roundg (l.length - (k + 1))
          case measure => omega
          case rel =>
            obtain ⟨hb, hS, hfr⟩ := HH.out
            rw [idxF_drop l s k hlt, if_neg HN.out] at hfr
            exact ⟨k + 1, by omega, rfl, by go_num, hb.alloc (by omega) _, hS.alloc _, by omega⟩
        | true =>
          cases hb2 : ((l[k].hi.toNat : Int) == (s.hi.toNat : Int)) with
          | false =>
            have HN := hide (PSet.ne_hi hb2)
            go_wp2_with fail
            go_roundg (l.length - (k + 1))
            case measure => omega
            case rel =>
              obtain ⟨hb, hS, hfr⟩ := HH.out
              rw [idxF_drop l s k hlt, if_neg HN.out] at hfr
              exact ⟨k + 1, by omega, rfl, by go_num, hb.alloc (by omega) _, hS.alloc _, by omega⟩
          | true =>
            have hN := PSet.eq_of hb1 hb2
            have hfe : F = k := by
              have hfr := HH.out.2.2
              rw [idxF_drop l s k hlt, if_pos hN] at hfr
              omega
            subst hfe
            clear hN
            go_wp2_with fail
            go_ret
            exact ⟨rfl, HH.out.1.alloc (by omega) _⟩
      · have e0 : decide ((k : Int) < (l.length : Int)) = false := by simp; omega
        rw [List.drop_of_length_le (by omega)] at hfr
        have hfe : F = l.length := by simp [idxF] at hfr; omega
        subst hfe
        clear hfr
        go_wp2_with fail
        go_ret
        exact ⟨rfl, hb⟩
end Go.Proofs.Ytmgpdaemcbbikaa
