import Derived.Test.YtmgpdaemcbbikaaB10
import Derived.Test.YtmgpdaemcbbikaaB09
import Derived.Test.YtmgpdaemcbbikaaB08
import Derived.Test.YtmgpdaemcbbikaaB12

namespace Go.Proofs.Ytmgpdaemcbbikaa
open Go.RowKit Go.Deep
set_option linter.unusedVariables false

/-- A step, and a node. -/
structure OpT where
  kind : Int
  a : Int
  b : Int
structure NodeT where
  kind : Nat
  a : Nat
  b : Nat
  l : Nat
  r : Nat
  text : ByteArray
  places : Nat
def i64ok (x : Int) : Prop := -9223372036854775808 ≤ x ∧ x ≤ 9223372036854775807
def OpT.ok (o : OpT) : Prop := i64ok o.kind ∧ i64ok o.a ∧ i64ok o.b
abbrev opV (o : OpT) : Value := .agg #[.int .i64 o.kind, .int .i64 o.a, .int .i64 o.b]
abbrev opC (o : OpT) : Array Value := #[.int .i64 o.kind, .int .i64 o.a, .int .i64 o.b]
abbrev nodeC (x : NodeT) : Array Value := #[.int .i64 (x.kind : Int), .int .i64 (x.a : Int), .int .i64 (x.b : Int), .int .i64 (x.l : Int), .int .i64 (x.r : Int), .string x.text, .int .i64 (x.places : Int)]
abbrev nodeV (x : NodeT) : Value := .agg (nodeC x)
def kindF (o : OpT) : Nat := pickF o.kind 9
def loF (o : OpT) : Nat := min (pickF o.a 256) (pickF o.b 256)
def hiF (o : OpT) : Nat := max (pickF o.a 256) (pickF o.b 256)
/-- The tree of one place. -/
def leafTree (o : OpT) : Tree := if kindF o = 1 then .leaf 1 0 0 else if kindF o = 2 then .leaf 2 (loF o) (hiF o) else if kindF o = 3 then .leaf 3 (loF o) (hiF o) else .leaf 0 (pickF o.a 256) 0
def leafN (o : OpT) : NodeT :=
  if kindF o = 1 then ⟨1, 0, 0, 0, 0, bytesOf [46], 1⟩
  else if kindF o = 2 then ⟨2, loF o, hiF o, 0, 0, bytesOf (leafT 2 (loF o) (hiF o)), 1⟩
  else if kindF o = 3 then ⟨3, loF o, hiF o, 0, 0, bytesOf (leafT 3 (loF o) (hiF o)), 1⟩
  else ⟨0, pickF o.a 256, 0, 0, 0, bytesOf (byteT (pickF o.a 256)), 1⟩
theorem byteT_le (b : Nat) : (byteT b).length ≤ 2 := by
  unfold byteT; split
  · simp
  · split <;> simp
theorem span2 (a b : Nat) : (⟨#[91]⟩ : ByteArray) ++ (bytesOf (byteT a) ++ ⟨#[45]⟩ ++ bytesOf (byteT b) ++ ⟨#[93]⟩) = bytesOf (leafT 2 a b) := by
  have e1 : (⟨#[91]⟩ : ByteArray) = bytesOf [91] := rfl
  have e2 : (⟨#[45]⟩ : ByteArray) = bytesOf [45] := rfl
  have e3 : (⟨#[93]⟩ : ByteArray) = bytesOf [93] := rfl
  rw [e1, e2, e3, bytesOf_append, bytesOf_append, bytesOf_append, bytesOf_append]
  simp [leafT]
theorem span3 (a b : Nat) : (⟨#[91, 94]⟩ : ByteArray) ++ (bytesOf (byteT a) ++ ⟨#[45]⟩ ++ bytesOf (byteT b) ++ ⟨#[93]⟩) = bytesOf (leafT 3 a b) := by
  have e1 : (⟨#[91, 94]⟩ : ByteArray) = bytesOf [91, 94] := rfl
  have e2 : (⟨#[45]⟩ : ByteArray) = bytesOf [45] := rfl
  have e3 : (⟨#[93]⟩ : ByteArray) = bytesOf [93] := rfl
  rw [e1, e2, e3, bytesOf_append, bytesOf_append, bytesOf_append, bytesOf_append]
  simp [leafT]
theorem Try.infoNode : (Try.prog.info? 104).map (·.size) = some 7 := by kernel_rfl
theorem resultsNode {fn : Func} {p : Tmp} (h : fn.results = #[.cell p 104]) {x : NodeT} (tmps : Array Value) {w : World} {g : Nat}
    (hp : tmps.getD p undef = .pointer (some ⟨g, 0, none⟩)) (hg : Blk w g (nodeC x) 104) : (results fn tmps).run Try.prog w = .ok (nodeV x) w :=
  results_cell_row h tmps w g 104 _ (0, 0) _ hp hg Try.underlying104 rfl Try.infoNode
theorem storeN {x : NodeT} {ops : Array Oper} {rest : List Oper} {o : Oper} {a : Act} {w : World} {Q : Exit → Act → World → Prop} (hgd : o.guard = none) (p q : Operand) (ho : o.op = .store 104 p q)
    (g : Nat) (hx : a.eval p = .pointer (some ⟨g, 0, none⟩)) (hy : a.eval q = nodeV x) {old : Array Value} (hb : Blk w g old 104) (hold : old.size = 7)
    (h : wpList Try.prog ops Q rest (a.put o.dst undef) (w.setRow g (nodeC x))) : wpList Try.prog ops Q (o :: rest) a w :=
  wpList_store_row hgd 104 p q ho g _ hx hy 104 _ hb Try.infoNode hold (by simp [Value.oneCell']) h
theorem loadN {x : NodeT} {ops : Array Oper} {rest : List Oper} {o : Oper} {a : Act} {w : World} {Q : Exit → Act → World → Prop} (hgd : o.guard = none) (p : Operand) (ho : o.op = .load 104 p)
    (g : Nat) (hx : a.eval p = .pointer (some ⟨g, 0, none⟩)) (hb : Blk w g (nodeC x) 104)
    (h : wpList Try.prog ops Q rest (a.put o.dst (nodeV x)) w) : wpList Try.prog ops Q (o :: rest) a w :=
  wpList_load_row hgd 104 p ho g hx 104 _ (0, 0) _ hb Try.underlying104 rfl Try.infoNode h
abbrev node0 : Array Value := #[.int .i64 0, .int .i64 0, .int .i64 0, .int .i64 0, .int .i64 0, .string ⟨#[]⟩, .int .i64 0]

set_option maxRecDepth 20000 in
set_option maxHeartbeats 3200000 in
theorem leaf_any (o : OpT) (ho : o.ok) (w : World) : Calls Try.prog 53 #[opV o] w fun e w' => e = .returned (nodeV (leafN o)) ∧ Below w.heap.size w w' := by
  obtain ⟨k0, a0, b0⟩ := o
  obtain ⟨hk, ha, hb⟩ := ho
  have pk : ∀ W, Calls Try.prog 16 #[.int .i64 k0, .int .i64 9] W fun e w' => e = .returned (.int .i64 (pickF k0 9 : Int)) ∧ w' = W := fun W => pick_any k0 9 hk (by omega) (by omega) W
  have pa : ∀ W, Calls Try.prog 16 #[.int .i64 a0, .int .i64 256] W fun e w' => e = .returned (.int .i64 (pickF a0 256 : Int)) ∧ w' = W := fun W => pick_any a0 256 ha (by omega) (by omega) W
  have pb : ∀ W, Calls Try.prog 16 #[.int .i64 b0, .int .i64 256] W fun e w' => e = .returned (.int .i64 (pickF b0 256 : Int)) ∧ w' = W := fun W => pick_any b0 256 hb (by omega) (by omega) W
  have lk := pickF_lt k0 9 (by omega)
  have la := pickF_lt a0 256 (by omega)
  have lb := pickF_lt b0 256 (by omega)
  generalize hX : leafN ⟨k0, a0, b0⟩ = X
  unfold leafN kindF loF hiF at hX
  simp only at hX
  generalize pickF k0 9 = k at pk lk hX
  generalize pickF a0 256 = a at pa la hX
  generalize pickF b0 256 = b at pb lb hX
  have PK := hide pk
  have PA := hide pa
  have PB := hide pb
  have HX := hide hX
  clear pk pa pb hk ha hb hX
  have hBT : ∀ n, n < 256 → ∃ t : ByteArray, t = bytesOf (byteT n) ∧ t.size ≤ 2 ∧ ∀ W : World, Calls Try.prog 81 #[.int .i64 (n : Int)] W fun e w' => e = .returned (.string t) ∧ Below W.heap.size W w' := fun n hn => ⟨_, rfl, by rw [bytesOf_size]; exact byteT_le n, byteText_any n hn⟩
  obtain ⟨ta, hta, sta, BTa⟩ := hBT a la
  obtain ⟨tb, htb, stb, BTb⟩ := hBT b lb
  have HTA := hide hta
  have HTB := hide htb
  have BA := hide BTa
  have BB := hide BTb
  clear hBT hta htb BTa BTb
  by_cases hab : b < a
  · have e0 : decide ((b : Int) < (a : Int)) = true := by simp; omega
    have hlo : min a b = b := by omega
    have hhi : max a b = a := by omega
    rw [hlo, hhi] at HX
    clear hlo hhi
    go_enter Try.func53, Try.ntmps53
    go_wp2_with fail
    refine (PK.out _).mono ?_
    rintro e w1 ⟨rfl, rfl⟩
    go_wp2_with fail
    refine (PA.out _).mono ?_
    rintro e w1 ⟨rfl, rfl⟩
    go_wp2_with fail
    refine (PB.out _).mono ?_
    rintro e w1 ⟨rfl, rfl⟩
    go_wp2_with fail
    refine (BB.out _).mono ?_
    rintro e w1 ⟨rfl, hb1⟩
    have HB1 := hide hb1
    clear hb1
    go_wp2_with fail
    refine (BA.out _).mono ?_
    rintro e w2 ⟨rfl, hb2⟩
    have hbb : Below w.heap.size w w2 ∧ Blk w2 (w.heap.size + 1) node0 104 ∧ Blk w2 w.heap.size #[.int .i64 k0, .int .i64 a0, .int .i64 b0] 102 := by
      have h1 := HB1.out
      have h2 := hb2
      have z1 := h1.size
      simp at z1
      refine ⟨(Below2 w _ _).trans ((h1.mono (by simp; omega)).trans (h2.mono (by omega))), ?_, ?_⟩
      · exact ((Blk.at1 w _ _ _).below h1).below h2
      · exact ((((Blk.new w _ _).alloc _)).below h1).below h2
    have HBB := hide hbb
    have hz2 := hbb.2.1.lt
    have c1 : w2.cell? ⟨w.heap.size, 1, none⟩ = some (.int .i64 a0) := hbb.2.2.cell 1
    clear hb2 HB1 hbb
    rcases (by omega : k = 1 ∨ k = 2 ∨ k = 3 ∨ (k ≠ 1 ∧ k ≠ 2 ∧ k ≠ 3)) with h | h | h | ⟨h1, h2, h3⟩
    · subst h
      have hx := HX.out
      rw [if_pos rfl] at hx
      subst hx
      go_wp2_with (first | refine storeN (x := ⟨1, 0, 0, 0, 0, ⟨#[46]⟩, 1⟩) rfl (.tmp 2) (.tmp 31) rfl (w.heap.size + 1) rfl rfl HBB.out.2.1 rfl ?_)
      refine bodyPost_ret (v := nodeV ⟨1, 0, 0, 0, 0, ⟨#[46]⟩, 1⟩) ?_ ?_ ?_
      · refine resultsNode (g := w.heap.size + 1) Try.results53 _ ?_ ?_
        · rfl
        · exact (HBB.out.2.1).setRow _
      · rfl
      · exact ⟨rfl, Below_setRow HBB.out.1 (by omega) _⟩
    · subst h
      have hx := HX.out
      rw [if_neg (by omega), if_pos rfl] at hx
      rw [← span2, ← HTB.out, ← HTA.out] at hx
      subst hx
      go_wp2_with (first | refine storeN (x := ⟨2, b, a, 0, 0, (⟨#[91]⟩ : ByteArray) ++ (tb ++ ⟨#[45]⟩ ++ ta ++ ⟨#[93]⟩), 1⟩) rfl (.tmp 2) (.tmp 38) rfl (w.heap.size + 1) rfl rfl HBB.out.2.1 rfl ?_)
      refine bodyPost_ret (v := nodeV ⟨2, b, a, 0, 0, (⟨#[91]⟩ : ByteArray) ++ (tb ++ ⟨#[45]⟩ ++ ta ++ ⟨#[93]⟩), 1⟩) ?_ ?_ ?_
      · refine resultsNode (g := w.heap.size + 1) Try.results53 _ ?_ ?_
        · rfl
        · exact (HBB.out.2.1).setRow _
      · rfl
      · exact ⟨rfl, Below_setRow HBB.out.1 (by omega) _⟩
    · subst h
      have hx := HX.out
      rw [if_neg (by omega), if_neg (by omega), if_pos rfl] at hx
      rw [← span3, ← HTB.out, ← HTA.out] at hx
      subst hx
      go_wp2_with (first | refine storeN (x := ⟨3, b, a, 0, 0, (⟨#[91, 94]⟩ : ByteArray) ++ (tb ++ ⟨#[45]⟩ ++ ta ++ ⟨#[93]⟩), 1⟩) rfl (.tmp 2) (.tmp 45) rfl (w.heap.size + 1) rfl rfl HBB.out.2.1 rfl ?_)
      refine bodyPost_ret (v := nodeV ⟨3, b, a, 0, 0, (⟨#[91, 94]⟩ : ByteArray) ++ (tb ++ ⟨#[45]⟩ ++ ta ++ ⟨#[93]⟩), 1⟩) ?_ ?_ ?_
      · refine resultsNode (g := w.heap.size + 1) Try.results53 _ ?_ ?_
        · rfl
        · exact (HBB.out.2.1).setRow _
      · rfl
      · exact ⟨rfl, Below_setRow HBB.out.1 (by omega) _⟩
    · have hx := HX.out
      rw [if_neg h1, if_neg h2, if_neg h3] at hx
      rw [← HTA.out] at hx
      subst hx
      have e1 : ((k : Int) == 1) = false := by simp; omega
      have e2 : ((k : Int) == 2) = false := by simp; omega
      have e3 : ((k : Int) == 3) = false := by simp; omega
      clear HX
      go_wp2_with fail
      refine (PA.out _).mono ?_
      rintro e w3 ⟨rfl, rfl⟩
      go_wp2_with fail
      refine (BA.out _).mono ?_
      rintro e w4 ⟨rfl, hb4⟩
      have hbb : Below w.heap.size w w4 ∧ Blk w4 (w.heap.size + 1) node0 104 := ⟨HBB.out.1.trans (hb4.mono (by omega)), HBB.out.2.1.below hb4⟩
      have HB4 := hide hbb
      clear hb4 hbb HBB c1
      go_wp2_with (first | refine storeN (x := ⟨0, a, 0, 0, 0, ta, 1⟩) rfl (.tmp 2) (.tmp 52) rfl (w.heap.size + 1) rfl rfl HB4.out.2 rfl ?_)
      refine bodyPost_ret (v := nodeV ⟨0, a, 0, 0, 0, ta, 1⟩) ?_ ?_ ?_
      · refine resultsNode (g := w.heap.size + 1) Try.results53 _ ?_ ?_
        · rfl
        · exact (HB4.out.2).setRow _
      · rfl
      · exact ⟨rfl, Below_setRow HB4.out.1 (by omega) _⟩
  · have e0 : decide ((b : Int) < (a : Int)) = false := by simp; omega
    have hlo : min a b = a := by omega
    have hhi : max a b = b := by omega
    rw [hlo, hhi] at HX
    clear hlo hhi
    go_enter Try.func53, Try.ntmps53
    go_wp2_with fail
    refine (PK.out _).mono ?_
    rintro e w1 ⟨rfl, rfl⟩
    go_wp2_with fail
    refine (PA.out _).mono ?_
    rintro e w1 ⟨rfl, rfl⟩
    go_wp2_with fail
    refine (PB.out _).mono ?_
    rintro e w1 ⟨rfl, rfl⟩
    go_wp2_with fail
    refine (BA.out _).mono ?_
    rintro e w1 ⟨rfl, hb1⟩
    have HB1 := hide hb1
    clear hb1
    go_wp2_with fail
    refine (BB.out _).mono ?_
    rintro e w2 ⟨rfl, hb2⟩
    have hbb : Below w.heap.size w w2 ∧ Blk w2 (w.heap.size + 1) node0 104 ∧ Blk w2 w.heap.size #[.int .i64 k0, .int .i64 a0, .int .i64 b0] 102 := by
      have h1 := HB1.out
      have h2 := hb2
      have z1 := h1.size
      simp at z1
      refine ⟨(Below2 w _ _).trans ((h1.mono (by simp; omega)).trans (h2.mono (by omega))), ?_, ?_⟩
      · exact ((Blk.at1 w _ _ _).below h1).below h2
      · exact ((((Blk.new w _ _).alloc _)).below h1).below h2
    have HBB := hide hbb
    have hz2 := hbb.2.1.lt
    have c1 : w2.cell? ⟨w.heap.size, 1, none⟩ = some (.int .i64 a0) := hbb.2.2.cell 1
    clear hb2 HB1 hbb
    rcases (by omega : k = 1 ∨ k = 2 ∨ k = 3 ∨ (k ≠ 1 ∧ k ≠ 2 ∧ k ≠ 3)) with h | h | h | ⟨h1, h2, h3⟩
    · subst h
      have hx := HX.out
      rw [if_pos rfl] at hx
      subst hx
      go_wp2_with (first | refine storeN (x := ⟨1, 0, 0, 0, 0, ⟨#[46]⟩, 1⟩) rfl (.tmp 2) (.tmp 31) rfl (w.heap.size + 1) rfl rfl HBB.out.2.1 rfl ?_)
      refine bodyPost_ret (v := nodeV ⟨1, 0, 0, 0, 0, ⟨#[46]⟩, 1⟩) ?_ ?_ ?_
      · refine resultsNode (g := w.heap.size + 1) Try.results53 _ ?_ ?_
        · rfl
        · exact (HBB.out.2.1).setRow _
      · rfl
      · exact ⟨rfl, Below_setRow HBB.out.1 (by omega) _⟩
    · subst h
      have hx := HX.out
      rw [if_neg (by omega), if_pos rfl] at hx
      rw [← span2, ← HTA.out, ← HTB.out] at hx
      subst hx
      go_wp2_with (first | refine storeN (x := ⟨2, a, b, 0, 0, (⟨#[91]⟩ : ByteArray) ++ (ta ++ ⟨#[45]⟩ ++ tb ++ ⟨#[93]⟩), 1⟩) rfl (.tmp 2) (.tmp 38) rfl (w.heap.size + 1) rfl rfl HBB.out.2.1 rfl ?_)
      refine bodyPost_ret (v := nodeV ⟨2, a, b, 0, 0, (⟨#[91]⟩ : ByteArray) ++ (ta ++ ⟨#[45]⟩ ++ tb ++ ⟨#[93]⟩), 1⟩) ?_ ?_ ?_
      · refine resultsNode (g := w.heap.size + 1) Try.results53 _ ?_ ?_
        · rfl
        · exact (HBB.out.2.1).setRow _
      · rfl
      · exact ⟨rfl, Below_setRow HBB.out.1 (by omega) _⟩
    · subst h
      have hx := HX.out
      rw [if_neg (by omega), if_neg (by omega), if_pos rfl] at hx
      rw [← span3, ← HTA.out, ← HTB.out] at hx
      subst hx
      go_wp2_with (first | refine storeN (x := ⟨3, a, b, 0, 0, (⟨#[91, 94]⟩ : ByteArray) ++ (ta ++ ⟨#[45]⟩ ++ tb ++ ⟨#[93]⟩), 1⟩) rfl (.tmp 2) (.tmp 45) rfl (w.heap.size + 1) rfl rfl HBB.out.2.1 rfl ?_)
      refine bodyPost_ret (v := nodeV ⟨3, a, b, 0, 0, (⟨#[91, 94]⟩ : ByteArray) ++ (ta ++ ⟨#[45]⟩ ++ tb ++ ⟨#[93]⟩), 1⟩) ?_ ?_ ?_
      · refine resultsNode (g := w.heap.size + 1) Try.results53 _ ?_ ?_
        · rfl
        · exact (HBB.out.2.1).setRow _
      · rfl
      · exact ⟨rfl, Below_setRow HBB.out.1 (by omega) _⟩
    · have hx := HX.out
      rw [if_neg h1, if_neg h2, if_neg h3] at hx
      rw [← HTA.out] at hx
      subst hx
      have e1 : ((k : Int) == 1) = false := by simp; omega
      have e2 : ((k : Int) == 2) = false := by simp; omega
      have e3 : ((k : Int) == 3) = false := by simp; omega
      clear HX
      go_wp2_with fail
      refine (PA.out _).mono ?_
      rintro e w3 ⟨rfl, rfl⟩
      go_wp2_with fail
      refine (BA.out _).mono ?_
      rintro e w4 ⟨rfl, hb4⟩
      have hbb : Below w.heap.size w w4 ∧ Blk w4 (w.heap.size + 1) node0 104 := ⟨HBB.out.1.trans (hb4.mono (by omega)), HBB.out.2.1.below hb4⟩
      have HB4 := hide hbb
      clear hb4 hbb HBB c1
      go_wp2_with (first | refine storeN (x := ⟨0, a, 0, 0, 0, ta, 1⟩) rfl (.tmp 2) (.tmp 52) rfl (w.heap.size + 1) rfl rfl HB4.out.2 rfl ?_)
      refine bodyPost_ret (v := nodeV ⟨0, a, 0, 0, 0, ta, 1⟩) ?_ ?_ ?_
      · refine resultsNode (g := w.heap.size + 1) Try.results53 _ ?_ ?_
        · rfl
        · exact (HB4.out.2).setRow _
      · rfl
      · exact ⟨rfl, Below_setRow HB4.out.1 (by omega) _⟩
end Go.Proofs.Ytmgpdaemcbbikaa
