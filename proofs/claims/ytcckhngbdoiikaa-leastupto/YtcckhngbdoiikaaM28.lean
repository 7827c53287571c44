import Derived.Test.YtcckhngbdoiikaaRows
import Derived.Test.YtcckhngbdoiikaaM27
import Derived.ProofKit
import Derived.OpenShut
import Derived.JoinedCond
import Derived.Deep.Strs
import Derived.WideKeyArgs

namespace Go.Proofs.Ytcckhngbdoiikaa
open Go.ChangeShapes Go.WideShapes Go.ChangeAt Go.RowKit Go.Deep
open Go.ChangeMaps (open_string shut_string)
set_option linter.unusedVariables false

theorem Try.own : ownKnob Try.prog.godebug = none := by kernel_rfl
theorem Try.laidOut' : laidOutB Try.prog = true := by kernel_rfl
theorem Try.opCells : Try.prog.cellsOf 112 = 3 := by kernel_rfl
theorem Try.intCells : Try.prog.cellsOf 3 = 1 := by kernel_rfl

def opD {H : Type} (o : OpT) : DataW H := .agg [.lit (.int .i64 o.kind), .lit (.int .i64 o.a), .lit (.int .i64 o.b)]
instance : Inhabited OpT := ⟨⟨0, 0, 0⟩⟩
theorem wf_i64ok {a : Int} (h : (Lit.int .i64 a).wf = true) : i64ok a := by
  have := h
  simp [Lit.wf, IntKind.min, IntKind.max, IntKind.signed, IntKind.bits] at this
  unfold i64ok
  omega
theorem bulk_ops {H : Type} : ∀ l : List OpT, Rows.uptoBulkAll (l.map fun o => opD (H := H) o) = 4 * l.length
  | [] => rfl
  | o :: r => by
    have ih := bulk_ops (H := H) r
    have e : Rows.uptoBulk (opD (H := H) o) = 4 := rfl
    rw [List.map_cons, List.length_cons]
    show Rows.uptoBulk (opD (H := H) o) + _ = _
    omega
section
variable {H : Type} {enc : TypeId × Value → H}
set_option maxRecDepth 100000 in
/-- The steps, opened: nil, or a row of three cells a step. -/
theorem open_ops {W : World} {sp : Nat → Bool} {fuel : Nat} {cs : List Value} {x : DataW H × List MemPlace} (h : DataW.trod enc Try.prog W 0 sp true fuel 38 cs = some x) :
    (cs = [.slice none 0 0] ∧ x = (.nil, [])) ∨
    ∃ (a : Addr) (len cap m : Nat) (I : Nat → OpT), cs = [.slice (some a) len cap] ∧ len ≤ m ∧
      x = (.slice ((List.range len).map fun i => opD (I i)) ((List.range (m - len)).map fun j => opD (I (len + j))), MemPlace.row a (m * 3) ++ (List.range m).flatMap fun _ => []) ∧
      ∀ i, i < m → (I i).ok ∧ W.cell? (a.add (i * 3)) = some (.int .i64 (I i).kind) ∧ W.cell? (a.add (i * 3 + 1)) = some (.int .i64 (I i).a) ∧ W.cell? (a.add (i * 3 + 2)) = some (.int .i64 (I i).b) := by
  rcases open_slice Try.underlying38 h with h0 | ⟨a, len, cap, m, n, D, Pl, rfl, hb, hl, hm, hmm, rfl, hx⟩
  · exact Or.inl h0
  right
  have hlm : len ≤ m := by rw [hmm]; split <;> omega
  have each : ∀ i, i < m → ∃ q : OpT, q.ok ∧ W.cell? (a.add (i * 3)) = some (.int .i64 q.kind) ∧ W.cell? (a.add (i * 3 + 1)) = some (.int .i64 q.a) ∧ W.cell? (a.add (i * 3 + 2)) = some (.int .i64 q.b) ∧ D i = opD q ∧ Pl i = [] := by
    intro i hi
    obtain ⟨cs', h1, h2⟩ := hx i hi
    rw [Try.opCells] at h1
    obtain ⟨_, hlen, hcell⟩ := World.cells?_some h1
    obtain ⟨y0, y1, y2, k, hxy, _, u0, u1, u2⟩ := trod_struct3 Try.underlying112 h2
    match cs', hlen with
    | [v0, v1, v2], _ =>
      simp only [Try.intCells, List.drop, List.take] at u0 u1 u2
      obtain ⟨s, e0, d0, w0⟩ := DataW.trod_int Try.underlying3 u0
      obtain ⟨q, e1, d1, w1⟩ := DataW.trod_int Try.underlying3 u1
      obtain ⟨p, e2, d2, w2⟩ := DataW.trod_int Try.underlying3 u2
      simp only [List.cons.injEq, and_true] at e0 e1 e2
      subst e0; subst e1; subst e2
      have c0 := hcell 0 (by omega)
      have c1 := hcell 1 (by omega)
      have c2 := hcell 2 (by omega)
      rw [add_add] at c0 c1 c2
      simp only [Prod.mk.injEq] at hxy
      exact ⟨⟨s, q, p⟩, ⟨wf_i64ok w0, wf_i64ok w1, wf_i64ok w2⟩, by simpa using c0, by simpa using c1, by simpa using c2, by rw [hxy.1, d0, d1, d2]; rfl, by rw [hxy.2, d0, d1, d2]; rfl⟩
  obtain ⟨q, hq⟩ := choose_lt each
  refine ⟨a, len, cap, m, q, rfl, hlm, ?_, fun i hi => ⟨(hq i hi).1, (hq i hi).2.1, (hq i hi).2.2.1, (hq i hi).2.2.2.1⟩⟩
  rw [Try.opCells, List.map_congr_left (fun i hi => (hq i (by have := List.mem_range.1 hi; omega)).2.2.2.2.1), List.map_congr_left (fun j hj => (hq (len + j) (by have := List.mem_range.1 hj; omega)).2.2.2.2.1),
    flatMap_congr_range (fun i hi => (hq i hi).2.2.2.2.2)]
set_option maxRecDepth 100000 in
/-- The steps as they came in, by their reading. -/
theorem opsAt_of {W : World} {base : Nat} {v : Value} {d : DataW H} {p : List MemPlace} (hval : Value.okWide Try.prog W .any base 38 v) (h : DataW.Trod enc Try.prog W 0 (fun _ => true) true 38 v d p) (hlt : ∀ x ∈ p, x.block < W.heap.size) (hb : Rows.uptoBulk d ≤ 1048576) : ∃ ops, OpsAt W v ops := by
  obtain ⟨a1, len, cap, rfl⟩ := okWide_slice Try.underlying38 hval
  obtain ⟨fuel, hf⟩ := h
  rcases open_ops hf with ⟨hcs, hx⟩ | ⟨a, len', cap', m, I, hcs, hlm, hx, hcell⟩
  · simp [Value.cells] at hcs
    obtain ⟨rfl, rfl, rfl⟩ := hcs
    exact ⟨[], ⟨none, 0, rfl, .inl rfl⟩, fun o ho => by simp at ho, by simp⟩
  · simp [Value.cells] at hcs
    obtain ⟨rfl, rfl, rfl⟩ := hcs
    simp only [Prod.mk.injEq] at hx
    obtain ⟨rfl, rfl⟩ := hx
    refine ⟨(List.range len).map I, ⟨some a, cap, by simp, ?_⟩, fun o ho => ?_, ?_⟩
    · by_cases h0 : len = 0
      · exact .inl (by simp [h0])
      · right
        obtain ⟨xb, xo, spot⟩ := a
        have hspot : spot = none := by simpa [Addr.add] using World.cell?_spot (hcell 0 (by omega)).2.1
        subst hspot
        refine ⟨xb, xo, rfl, ?_, fun j hj => ?_⟩
        · refine hlt (.cell xb (xo + 0)) (List.mem_append_left _ ?_)
          simp only [MemPlace.row, List.mem_map, List.mem_range]
          exact ⟨0, by omega, rfl⟩
        · have hj' : j < len := by simpa using hj
          obtain ⟨_, g0, g1, g2⟩ := hcell j (by omega)
          rw [Addr.add_lit] at g0 g1 g2
          have eI : ((List.range len).map I)[j] = I j := by simp
          rw [eI]
          exact ⟨g0, by simpa [Nat.add_assoc] using g1, by simpa [Nat.add_assoc] using g2⟩
    · simp only [List.mem_map, List.mem_range] at ho
      obtain ⟨i, hi, rfl⟩ := ho
      exact (hcell i (by omega)).1
    · have e : (List.range len).map (fun i => opD (H := H) (I i)) = ((List.range len).map I).map (fun o => opD o) := by simp [Function.comp_def]
      simp only [Rows.uptoBulk] at hb
      rw [e, bulk_ops] at hb
      simp only [List.length_map, List.length_range] at hb ⊢
      omega
end
end Go.Proofs.Ytcckhngbdoiikaa
