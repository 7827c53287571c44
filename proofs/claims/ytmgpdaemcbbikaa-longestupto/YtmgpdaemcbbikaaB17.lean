import Derived.Test.YtmgpdaemcbbikaaB16
import Derived.Test.YtmgpdaemcbbikaaB13

namespace Go.Proofs.Ytmgpdaemcbbikaa
open Go.RowKit Go.Deep
set_option linter.unusedVariables false

def nodeD : NodeT := ⟨0, 0, 0, 0, 0, ⟨#[]⟩, 0⟩
def markB (k : Nat) : ByteArray := if k = 6 then ⟨#[42]⟩ else if k = 7 then ⟨#[43]⟩ else ⟨#[63]⟩
/-- The node of a step, and how many of the pile stay. -/
def stepNode (all : List NodeT) (tops : List Nat) (o : OpT) : NodeT × Nat :=
  if (kindF o = 4 ∨ kindF o = 5) ∧ 1 < tops.length then
    (⟨kindF o, 0, 0, tops.getD (tops.length - 2) 0, tops.getD (tops.length - 1) 0,
      (⟨#[40]⟩ : ByteArray) ++ (all.getD (tops.getD (tops.length - 2) 0) nodeD).text ++ (if kindF o = 5 then ⟨#[124]⟩ else ⟨#[]⟩) ++ (all.getD (tops.getD (tops.length - 1) 0) nodeD).text ++ ⟨#[41]⟩,
      (all.getD (tops.getD (tops.length - 2) 0) nodeD).places + (all.getD (tops.getD (tops.length - 1) 0) nodeD).places⟩, tops.length - 2)
  else if 6 ≤ kindF o ∧ 0 < tops.length then
    (⟨kindF o, 0, 0, tops.getD (tops.length - 1) 0, 0,
      (⟨#[40]⟩ : ByteArray) ++ (all.getD (tops.getD (tops.length - 1) 0) nodeD).text ++ markB (kindF o) ++ ⟨#[41]⟩,
      (all.getD (tops.getD (tops.length - 1) 0) nodeD).places⟩, tops.length - 1)
  else (leafN o, tops.length)
def builtStep (st : List NodeT × List Nat) (o : OpT) : List NodeT × List Nat :=
  (st.1 ++ [(stepNode st.1 st.2 o).1], st.2.take (stepNode st.1 st.2 o).2 ++ [st.1.length])
def builtFold (ops : List OpT) (st : List NodeT × List Nat) : List NodeT × List Nat := ops.foldl builtStep st
def nodeA : NodeT := ⟨0, 97, 0, 0, 0, ⟨#[97]⟩, 1⟩
def builtF (ops : List OpT) : List NodeT × List Nat := if (builtFold ops ([], [])).2.length = 0 then ((builtFold ops ([], [])).1 ++ [nodeA], (builtFold ops ([], [])).2 ++ [0]) else builtFold ops ([], [])

/-- What holds of the nodes and of the pile. -/
structure BInv (i : Nat) (st : List NodeT × List Nat) : Prop where
  tops : ∀ t ∈ st.2, t < st.1.length
  len : st.2.length ≤ st.1.length
  all : st.1.length = i
  sum : (st.2.map (fun t => (st.1.getD t nodeD).text.size)).sum ≤ 8 * i
  pl : ∀ x ∈ st.1, x.places ≤ x.text.size
theorem leafN_size (o : OpT) : (leafN o).text.size ≤ 8 ∧ (leafN o).places ≤ (leafN o).text.size := by
  have h1 := byteT_le (loF o)
  have h2 := byteT_le (hiF o)
  have h3 := byteT_le (pickF o.a 256)
  have p3 := byteT_pos (pickF o.a 256)
  unfold leafN
  split
  · exact ⟨by rw [bytesOf_size]; simp, by rw [bytesOf_size]; simp⟩
  · split
    · simp only [bytesOf_size, leafT]
      simp
      omega
    · split
      · simp only [bytesOf_size, leafT]
        simp
        omega
      · simp only [bytesOf_size]
        omega
theorem sum_take_le (l : List Nat) (k : Nat) : (l.take k).sum ≤ l.sum := by
  have := congrArg List.sum (List.take_append_drop k l)
  rw [List.sum_append] at this
  omega
theorem sum_ge (l : List Nat) (k : Nat) (h : k < l.length) : l[k] ≤ l.sum := by
  have := congrArg List.sum (List.take_append_drop k l)
  rw [List.sum_append, List.drop_eq_getElem_cons h, List.sum_cons] at this
  omega
theorem getD_app {l : List NodeT} {x : NodeT} {k : Nat} (h : k < l.length) : (l ++ [x]).getD k nodeD = l.getD k nodeD := by
  rw [List.getD_eq_getElem?_getD, List.getElem?_append_left h, ← List.getD_eq_getElem?_getD]
/-- The sum of the first of the pile and the last ones. -/
theorem sum_split (l : List Nat) (k : Nat) (h : k < l.length) : (l.take k).sum + l[k] = (l.take (k + 1)).sum := by
  rw [List.take_succ_eq_append_getElem h, List.sum_append]; simp
theorem stepNode_size {i : Nat} {st : List NodeT × List Nat} (h : BInv i st) (o : OpT) :
    ((st.2.take (stepNode st.1 st.2 o).2).map (fun t => (st.1.getD t nodeD).text.size)).sum + (stepNode st.1 st.2 o).1.text.size ≤ (st.2.map (fun t => (st.1.getD t nodeD).text.size)).sum + 8 ∧ (stepNode st.1 st.2 o).1.places ≤ (stepNode st.1 st.2 o).1.text.size ∧ (stepNode st.1 st.2 o).2 ≤ st.2.length := by
  have hg : ∀ k, k < st.2.length → st.2.getD k 0 = st.2[k]! := fun k hk => by simp [hk]
  have hpl : ∀ t, t < st.1.length → (st.1.getD t nodeD).places ≤ (st.1.getD t nodeD).text.size := fun t ht => h.pl _ (by simp [ht])
  have hat : ∀ k, (hk : k < st.2.length) → (st.2.map (fun t => (st.1.getD t nodeD).text.size))[k]'(by simpa using hk) = (st.1.getD (st.2.getD k 0) nodeD).text.size := fun k hk => by simp [hk]
  have htp : ∀ k, k < st.2.length → st.2.getD k 0 < st.1.length := fun k hk => h.tops _ (by simp [hk])
  unfold stepNode
  split
  · rename_i hc
    have hlen : (st.2.map (fun t => (st.1.getD t nodeD).text.size)).length = st.2.length := by simp
    have s1 := sum_split (st.2.map (fun t => (st.1.getD t nodeD).text.size)) (st.2.length - 2) (by omega)
    have s2 := sum_split (st.2.map (fun t => (st.1.getD t nodeD).text.size)) (st.2.length - 1) (by omega)
    rw [hat _ (by omega)] at s1 s2
    rw [show st.2.length - 2 + 1 = st.2.length - 1 by omega] at s1
    rw [show st.2.length - 1 + 1 = (st.2.map (fun t => (st.1.getD t nodeD).text.size)).length by omega, List.take_length] at s2
    have p1 := hpl _ (htp (st.2.length - 2) (by omega))
    have p2 := hpl _ (htp (st.2.length - 1) (by omega))
    have hm : (if kindF o = 5 then (⟨#[124]⟩ : ByteArray) else ⟨#[]⟩).size ≤ 1 := by split <;> decide
    simp only [List.map_take, ByteArray.size_append]
    have e1 : (⟨#[40]⟩ : ByteArray).size = 1 := rfl
    have e2 : (⟨#[41]⟩ : ByteArray).size = 1 := rfl
    omega
  · split
    · rename_i hc
      have hlen : (st.2.map (fun t => (st.1.getD t nodeD).text.size)).length = st.2.length := by simp
      have s2 := sum_split (st.2.map (fun t => (st.1.getD t nodeD).text.size)) (st.2.length - 1) (by omega)
      rw [hat _ (by omega)] at s2
      rw [show st.2.length - 1 + 1 = (st.2.map (fun t => (st.1.getD t nodeD).text.size)).length by omega, List.take_length] at s2
      have p2 := hpl _ (htp (st.2.length - 1) (by omega))
      have hm : (markB (kindF o)).size = 1 := by unfold markB; split; rfl; split <;> rfl
      simp only [List.map_take, ByteArray.size_append]
      have e1 : (⟨#[40]⟩ : ByteArray).size = 1 := rfl
      have e2 : (⟨#[41]⟩ : ByteArray).size = 1 := rfl
      omega
    · have := leafN_size o
      simp only [List.take_length]
      omega
theorem BInv.step {i : Nat} {st : List NodeT × List Nat} (h : BInv i st) (o : OpT) : BInv (i + 1) (builtStep st o) := by
  obtain ⟨h1, h2, h3⟩ := stepNode_size h o
  have hal := h.all
  unfold builtStep
  generalize stepNode st.1 st.2 o = x at *
  refine ⟨fun t ht => ?_, ?_, by simp [hal], ?_, fun y hy => ?_⟩
  · simp only [List.mem_append, List.mem_singleton, List.length_append, List.length_cons, List.length_nil] at ht ⊢
    rcases ht with e | e
    · have := h.tops t (List.mem_of_mem_take e); omega
    · omega
  · have := h.len
    simp only [List.length_append, List.length_cons, List.length_nil, List.length_take]
    omega
  · have hm : (st.2.take x.2).map (fun t => ((st.1 ++ [x.1]).getD t nodeD).text.size) = (st.2.take x.2).map (fun t => (st.1.getD t nodeD).text.size) :=
      List.map_congr_left fun t ht => by rw [getD_app (h.tops t (List.mem_of_mem_take ht))]
    have hl : ((st.1 ++ [x.1]).getD st.1.length nodeD) = x.1 := by simp
    simp only [List.map_append, hm, List.map_cons, List.map_nil, List.sum_append, List.sum_cons, List.sum_nil, hl]
    have := h.sum
    omega
  · simp only [List.mem_append, List.mem_singleton] at hy
    rcases hy with e | e
    · exact h.pl y e
    · rw [e]; exact h2
theorem BInv.text {i : Nat} {st : List NodeT × List Nat} (h : BInv i st) {k : Nat} (hk : k < st.2.length) : (st.1.getD (st.2.getD k 0) nodeD).text.size ≤ 8 * i ∧ (st.1.getD (st.2.getD k 0) nodeD).places ≤ 8 * i ∧ st.2.getD k 0 < st.1.length := by
  have h1 := sum_ge (st.2.map (fun t => (st.1.getD t nodeD).text.size)) k (by simpa using hk)
  have h2 := h.sum
  have h3 : st.2.getD k 0 < st.1.length := h.tops _ (by simp [hk])
  have h4 := h.pl (st.1.getD (st.2.getD k 0) nodeD) (by rw [List.getD_eq_getElem?_getD, List.getElem?_eq_getElem h3]; exact List.getElem_mem h3)
  have h5 : (st.2.map (fun t => (st.1.getD t nodeD).text.size))[k]'(by simpa using hk) = (st.1.getD (st.2.getD k 0) nodeD).text.size := by simp [hk]
  omega

/-- The cells of a list of nodes. -/
def nodesC : List NodeT → List Value
  | [] => []
  | x :: r => .int .i64 (x.kind : Int) :: .int .i64 (x.a : Int) :: .int .i64 (x.b : Int) :: .int .i64 (x.l : Int) :: .int .i64 (x.r : Int) :: .string x.text :: .int .i64 (x.places : Int) :: nodesC r
theorem nodesC_length : ∀ l : List NodeT, (nodesC l).length = l.length * 7
  | [] => rfl
  | s :: r => by simp [nodesC, nodesC_length r]; omega
theorem nodesC_append : ∀ l m : List NodeT, nodesC (l ++ m) = nodesC l ++ nodesC m
  | [], m => rfl
  | s :: r, m => by simp [nodesC, nodesC_append r m]
theorem nodesC_drop : ∀ (l : List NodeT) (k : Nat), k < l.length → (nodesC l).drop (k * 7) = nodesC (l.drop k)
  | l, 0, _ => by simp
  | [], k + 1, h => by simp at h
  | s :: r, k + 1, h => by
    rw [show (k + 1) * 7 = k * 7 + 7 by omega]
    simp only [nodesC, List.drop_succ_cons]
    exact nodesC_drop r k (by simpa using h)
theorem nodesC_get (l : List NodeT) (k c : Nat) (h : k < l.length) (hc : c < 7) : (nodesC l)[k * 7 + c]? = (nodesC [l[k]])[c]? := by
  have e : (nodesC l)[k * 7 + c]? = ((nodesC l).drop (k * 7))[c]? := by rw [List.getElem?_drop]
  rw [e, nodesC_drop l k h, List.drop_eq_getElem_cons h]
  have : nodesC (l[k] :: l.drop (k + 1)) = nodesC [l[k]] ++ nodesC (l.drop (k + 1)) := by rw [← nodesC_append]; rfl
  rw [this, List.getElem?_append_left (by simp [nodesC]; omega)]
def NodeRow (w : World) (v : Value) (l : List NodeT) : Prop := w.ownsRow 0 104 7 v l.length (nodesC l)
theorem Try.infoNode3 : (Try.prog.info? 104).map (fun i => (i.zero, i.size, i.bytes)) = some (some (.agg #[.int .i64 0, .int .i64 0, .int .i64 0, .int .i64 0, .int .i64 0, .string ⟨#[]⟩, .int .i64 0]), 7, 64) := by kernel_rfl
theorem NodeRow.kept {w w' : World} {v : Value} {l : List NodeT} {ex : Nat → Prop} (h : NodeRow w v l) (k : Kept ex w w') (he : ∀ b, v.ownBlock = some b → ¬ ex b) : NodeRow w' v l := ownsRow_kept h k he
theorem NodeRow.below {w w' : World} {v : Value} {l : List NodeT} (h : NodeRow w v l) (k : Below w.heap.size w w') : NodeRow w' v l := h.kept (ex := fun _ => False) (Kept.ofBelow k) (fun _ _ e => e)
theorem NodeRow.form {w : World} {v : Value} {l : List NodeT} (h : NodeRow w v l) : ∃ (ad : Option Addr) (cap : Nat), v = .slice ad l.length cap ∧ (l.length = 0 ∨ ∃ g, ad = some ⟨g, 0, none⟩) := by
  obtain ⟨_, ad, cap, rfl, ⟨_, h⟩ | ⟨g, _, rfl, _⟩⟩ := ownsRow_form h
  · exact ⟨ad, cap, rfl, .inl h⟩
  · exact ⟨_, cap, rfl, .inr ⟨g, rfl⟩⟩
theorem NodeRow.cell {w : World} {l : List NodeT} {g cap : Nat} (h : NodeRow w (.slice (some ⟨g, 0, none⟩) l.length cap) l) (k c : Nat) (hk : k < l.length) (hc : c < 7) : w.cell? ⟨g, k * 7 + c, none⟩ = (nodesC [l.getD k nodeD])[c]? := by
  rw [ownsRow_cell h (k * 7 + c) (by omega), nodesC_get l k c hk hc]
  simp [hk]

/-- The steps, as they came in. -/
structure OpsAt (w : World) (v : Value) (ops : List OpT) : Prop where
  form : ∃ (ad : Option Addr) (cap : Nat), v = .slice ad ops.length cap ∧ (ops.length = 0 ∨ ∃ b off, ad = some ⟨b, off, none⟩ ∧ b < w.heap.size ∧ ∀ j, (h : j < ops.length) → w.cell? ⟨b, off + j * 3, none⟩ = some (.int .i64 ops[j].kind) ∧ w.cell? ⟨b, off + j * 3 + 1, none⟩ = some (.int .i64 ops[j].a) ∧ w.cell? ⟨b, off + j * 3 + 2, none⟩ = some (.int .i64 ops[j].b))
  ok : ∀ o ∈ ops, o.ok
  few : ops.length ≤ 1048576
theorem OpsAt.below {w w' : World} {v : Value} {ops : List OpT} (h : OpsAt w v ops) (k : Below w.heap.size w w') : OpsAt w' v ops := by
  obtain ⟨⟨ad, cap, rfl, hc⟩, h2, h3⟩ := h
  refine ⟨⟨ad, cap, rfl, ?_⟩, h2, h3⟩
  rcases hc with h0 | ⟨b, off, rfl, hlt, hc⟩
  · exact .inl h0
  · refine .inr ⟨b, off, rfl, by have := k.size; omega, fun j hj => ?_⟩
    obtain ⟨a, b', c⟩ := hc j hj
    exact ⟨(k.cell (p := ⟨b, _, none⟩) hlt).trans a, (k.cell (p := ⟨b, _, none⟩) hlt).trans b', (k.cell (p := ⟨b, _, none⟩) hlt).trans c⟩
/-- The first of a row. -/
theorem IRow.take {w : World} {l : List Int} {ad : Option Addr} {cap : Nat} (h : IRow w (.slice ad l.length cap) l) (k : Nat) (hk : k ≤ l.length) : IRow w (.slice ad k cap) (l.take k) := by
  obtain ⟨h0, ⟨h, h1⟩ | ⟨g, cap', cur, e, h2, h3, h4, h5, h6, h7⟩⟩ := h
  · injection h with e1 e2 e3
    have : k = 0 := by omega
    subst this
    exact ⟨by simp, .inl ⟨by rw [e1, e3], by simp⟩⟩
  · injection e with e1 e2 e3
    subst e3
    have hlen : (l.take k).length = k := by simp; omega
    refine ⟨by simp, .inr ⟨g, cap, cur, by rw [e1, hlen], h2, h3, by omega, h5, h6, ?_⟩⟩
    rw [hlen, List.map_take, ← h7, List.take_take]
    congr 1
    omega
def natsI (l : List Nat) : List Int := l.map (fun (n : Nat) => (n : Int))
theorem natsI_len (l : List Nat) : (natsI l).length = l.length := by simp [natsI]
theorem IRow.formN {w : World} {v : Value} {l : List Nat} (h : IRow w v (natsI l)) : ∃ (ad : Option Addr) (cap : Nat), v = .slice ad l.length cap ∧ (l.length = 0 ∨ ∃ g, ad = some ⟨g, 0, none⟩) := by
  have := h.form
  rw [natsI_len] at this
  exact this
theorem IRow.cellN {w : World} {l : List Nat} {g cap : Nat} (h : IRow w (.slice (some ⟨g, 0, none⟩) l.length cap) (natsI l)) (j : Nat) (hj : j < l.length) : w.cell? ⟨g, j, none⟩ = some (.int .i64 (l.getD j 0 : Int)) := by
  have h' : IRow w (.slice (some ⟨g, 0, none⟩) (natsI l).length cap) (natsI l) := by rw [natsI_len]; exact h
  rw [h'.cell j (by rw [natsI_len]; exact hj)]
  simp [natsI, hj]
end Go.Proofs.Ytmgpdaemcbbikaa

namespace Go.Proofs.Ytmgpdaemcbbikaa
open Go.RowKit Go.Deep
set_option linter.unusedVariables false

set_option maxRecDepth 20000 in
set_option maxHeartbeats 1600000 in
theorem allows_any (x : NodeT) (b : Nat) (w : World) : Calls Try.prog 112 #[nodeV x, .int .i64 (b : Int)] w fun e w' => e = .returned (.bool (leafA x.kind x.a x.b b)) ∧ Below w.heap.size w w' := by
  obtain ⟨k, xa, xb, xl, xr, xt, xp⟩ := x
  rcases (by omega : k = 1 ∨ k = 2 ∨ k = 3 ∨ (k ≠ 1 ∧ k ≠ 2 ∧ k ≠ 3)) with h | h | h | ⟨h1, h2, h3⟩
  · subst h
    go_enter Try.func112, Try.ntmps112
    go_wp2_with fail
    go_ret
    exact ⟨rfl, Below1 _ _⟩
  · subst h
    generalize hX : leafA 2 xa xb b = X
    unfold leafA at hX
    simp only [show ¬ (2 = 1) by omega, if_false, if_true] at hX
    by_cases h1 : xa ≤ b
    · have e1 : decide ((xa : Int) ≤ (b : Int)) = true := by simp; omega
      have hx : X = decide ((b : Int) ≤ (xb : Int)) := by rw [← hX]; rw [Bool.eq_iff_iff]; simp; omega
      subst hx
      clear hX
      go_enter Try.func112, Try.ntmps112
      go_wp2_with fail
      go_ret
      exact ⟨by simp, Below1 _ _⟩
    · have e1 : decide ((xa : Int) ≤ (b : Int)) = false := by simp; omega
      have hx : X = false := by rw [← hX]; simp; omega
      subst hx
      clear hX
      go_enter Try.func112, Try.ntmps112
      go_wp2_with fail
      go_ret
      exact ⟨rfl, Below1 _ _⟩
  · subst h
    generalize hX : leafA 3 xa xb b = X
    unfold leafA at hX
    simp only [show ¬ (3 = 1) by omega, show ¬ (3 = 2) by omega, if_false, if_true] at hX
    by_cases h1 : b < xa
    · have e1 : decide ((b : Int) < (xa : Int)) = true := by simp; omega
      have hx : X = true := by rw [← hX]; simp; omega
      subst hx
      clear hX
      go_enter Try.func112, Try.ntmps112
      go_wp2_with fail
      go_ret
      exact ⟨rfl, Below1 _ _⟩
    · have e1 : decide ((b : Int) < (xa : Int)) = false := by simp; omega
      have hx : X = decide ((xb : Int) < (b : Int)) := by rw [← hX]; rw [Bool.eq_iff_iff]; simp; omega
      subst hx
      clear hX
      go_enter Try.func112, Try.ntmps112
      go_wp2_with fail
      go_ret
      exact ⟨by simp, Below1 _ _⟩
  · have e1 : ((k : Int) == 1) = false := by simp; omega
    have e2 : ((k : Int) == 2) = false := by simp; omega
    have e3 : ((k : Int) == 3) = false := by simp; omega
    have hx : leafA k xa xb b = ((b : Int) == (xa : Int)) := by unfold leafA; rw [if_neg h1, if_neg h2, if_neg h3, Bool.eq_iff_iff]; simp; omega
    rw [hx]
    go_enter Try.func112, Try.ntmps112
    go_wp2_with fail
    go_ret
    exact ⟨by simp, Below1 _ _⟩
end Go.Proofs.Ytmgpdaemcbbikaa
