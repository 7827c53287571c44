import Derived.Test.YtcckhngbdoiikaaM26
import Derived.Test.YtcckhngbdoiikaaM12
import Derived.Test.YtcckhngbdoiikaaM04
import Derived.Test.YtcckhngbdoiikaaM06

namespace Go.Proofs.Ytcckhngbdoiikaa
open Go.RowKit Go.Deep
set_option linter.unusedVariables false

/-- A step, and a node. -/
structure OpT where
  kind : Int
  a : Int
  b : Int
structure NodeT where
  kind : Nat
  a : Nat
  b : Nat
  l : Nat
  r : Nat
  text : ByteArray
  places : Nat
def i64ok (x : Int) : Prop := -9223372036854775808 ≤ x ∧ x ≤ 9223372036854775807
def OpT.ok (o : OpT) : Prop := i64ok o.kind ∧ i64ok o.a ∧ i64ok o.b
abbrev opV (o : OpT) : Value := .agg #[.int .i64 o.kind, .int .i64 o.a, .int .i64 o.b]
abbrev opC (o : OpT) : Array Value := #[.int .i64 o.kind, .int .i64 o.a, .int .i64 o.b]
abbrev nodeC (x : NodeT) : Array Value := #[.int .i64 (x.kind : Int), .int .i64 (x.a : Int), .int .i64 (x.b : Int), .int .i64 (x.l : Int), .int .i64 (x.r : Int), .string x.text, .int .i64 (x.places : Int)]
abbrev nodeV (x : NodeT) : Value := .agg (nodeC x)
def kindF (o : OpT) : Nat := pickF o.kind 9
def loF (o : OpT) : Nat := min (pickF o.a 256) (pickF o.b 256)
def hiF (o : OpT) : Nat := max (pickF o.a 256) (pickF o.b 256)
/-- The tree of one place. -/
def leafTree (o : OpT) : Tree := if kindF o = 1 then .leaf 1 0 0 else if kindF o = 2 then .leaf 2 (loF o) (hiF o) else if kindF o = 3 then .leaf 3 (loF o) (hiF o) else .leaf 0 (pickF o.a 256) 0
def leafN (o : OpT) : NodeT :=
  if kindF o = 1 then ⟨1, 0, 0, 0, 0, bytesOf [46], 1⟩
  else if kindF o = 2 then ⟨2, loF o, hiF o, 0, 0, bytesOf (leafT 2 (loF o) (hiF o)), 1⟩
  else if kindF o = 3 then ⟨3, loF o, hiF o, 0, 0, bytesOf (leafT 3 (loF o) (hiF o)), 1⟩
  else ⟨0, pickF o.a 256, 0, 0, 0, bytesOf (byteT (pickF o.a 256)), 1⟩
theorem byteT_le (b : Nat) : (byteT b).length ≤ 2 := by
  unfold byteT; split
  · simp
  · split <;> simp
theorem span2 (a b : Nat) : (⟨#[91]⟩ : ByteArray) ++ (bytesOf (byteT a) ++ ⟨#[45]⟩ ++ bytesOf (byteT b) ++ ⟨#[93]⟩) = bytesOf (leafT 2 a b) := by
  have e1 : (⟨#[91]⟩ : ByteArray) = bytesOf [91] := rfl
  have e2 : (⟨#[45]⟩ : ByteArray) = bytesOf [45] := rfl
  have e3 : (⟨#[93]⟩ : ByteArray) = bytesOf [93] := rfl
  rw [e1, e2, e3, bytesOf_append, bytesOf_append, bytesOf_append, bytesOf_append]
  simp [leafT]
theorem span3 (a b : Nat) : (⟨#[91, 94]⟩ : ByteArray) ++ (bytesOf (byteT a) ++ ⟨#[45]⟩ ++ bytesOf (byteT b) ++ ⟨#[93]⟩) = bytesOf (leafT 3 a b) := by
  have e1 : (⟨#[91, 94]⟩ : ByteArray) = bytesOf [91, 94] := rfl
  have e2 : (⟨#[45]⟩ : ByteArray) = bytesOf [45] := rfl
  have e3 : (⟨#[93]⟩ : ByteArray) = bytesOf [93] := rfl
  rw [e1, e2, e3, bytesOf_append, bytesOf_append, bytesOf_append, bytesOf_append]
  simp [leafT]
theorem Try.infoNode : (Try.prog.info? 114).map (·.size) = some 7 := by kernel_rfl
theorem resultsNode {fn : Func} {p : Tmp} (h : fn.results = #[.cell p 114]) {x : NodeT} (tmps : Array Value) {w : World} {g : Nat}
    (hp : tmps.getD p undef = .pointer (some ⟨g, 0, none⟩)) (hg : Blk w g (nodeC x) 114) : (results fn tmps).run Try.prog w = .ok (nodeV x) w :=
  results_cell_row h tmps w g 114 _ (0, 0) _ hp hg Try.underlying114 rfl Try.infoNode
theorem storeN {x : NodeT} {ops : Array Oper} {rest : List Oper} {o : Oper} {a : Act} {w : World} {Q : Exit → Act → World → Prop} (hgd : o.guard = none) (p q : Operand) (ho : o.op = .store 114 p q)
    (g : Nat) (hx : a.eval p = .pointer (some ⟨g, 0, none⟩)) (hy : a.eval q = nodeV x) {old : Array Value} (hb : Blk w g old 114) (hold : old.size = 7)
    (h : wpList Try.prog ops Q rest (a.put o.dst undef) (w.setRow g (nodeC x))) : wpList Try.prog ops Q (o :: rest) a w :=
  wpList_store_row hgd 114 p q ho g _ hx hy 114 _ hb Try.infoNode hold (by simp [Value.oneCell']) h
theorem loadN {x : NodeT} {ops : Array Oper} {rest : List Oper} {o : Oper} {a : Act} {w : World} {Q : Exit → Act → World → Prop} (hgd : o.guard = none) (p : Operand) (ho : o.op = .load 114 p)
    (g : Nat) (hx : a.eval p = .pointer (some ⟨g, 0, none⟩)) (hb : Blk w g (nodeC x) 114)
    (h : wpList Try.prog ops Q rest (a.put o.dst (nodeV x)) w) : wpList Try.prog ops Q (o :: rest) a w :=
  wpList_load_row hgd 114 p ho g hx 114 _ (0, 0) _ hb Try.underlying114 rfl Try.infoNode h
abbrev node0 : Array Value := #[.int .i64 0, .int .i64 0, .int .i64 0, .int .i64 0, .int .i64 0, .string ⟨#[]⟩, .int .i64 0]

set_option maxRecDepth 20000 in
set_option maxHeartbeats 3200000 in
theorem leaf_any (o : OpT) (ho : o.ok) (w : World) : Calls Try.prog 58 #[opV o] w fun e w' => e = .returned (nodeV (leafN o)) ∧ Below w.heap.size w w' := by
  obtain ⟨k0, a0, b0⟩ := o
  obtain ⟨hk, ha, hb⟩ := ho
  have pk : ∀ W, Calls Try.prog 17 #[.int .i64 k0, .int .i64 9] W fun e w' => e = .returned (.int .i64 (pickF k0 9 : Int)) ∧ w' = W := fun W => pick_any k0 9 hk (by omega) (by omega) W
  have pa : ∀ W, Calls Try.prog 17 #[.int .i64 a0, .int .i64 256] W fun e w' => e = .returned (.int .i64 (pickF a0 256 : Int)) ∧ w' = W := fun W => pick_any a0 256 ha (by omega) (by omega) W
  have pb : ∀ W, Calls Try.prog 17 #[.int .i64 b0, .int .i64 256] W fun e w' => e = .returned (.int .i64 (pickF b0 256 : Int)) ∧ w' = W := fun W => pick_any b0 256 hb (by omega) (by omega) W
  have lk := pickF_lt k0 9 (by omega)
  have la := pickF_lt a0 256 (by omega)
  have lb := pickF_lt b0 256 (by omega)
  generalize hX : leafN ⟨k0, a0, b0⟩ = X
  unfold leafN kindF loF hiF at hX
  simp only at hX
  generalize pickF k0 9 = k at pk lk hX
  generalize pickF a0 256 = a at pa la hX
  generalize pickF b0 256 = b at pb lb hX
  have PK := hide pk
  have PA := hide pa
  have PB := hide pb
  have HX := hide hX
  clear pk pa pb hk ha hb hX
  have hBT : ∀ n, n < 256 → ∃ t : ByteArray, t = bytesOf (byteT n) ∧ t.size ≤ 2 ∧ ∀ W : World, Calls Try.prog 87 #[.int .i64 (n : Int)] W fun e w' => e = .returned (.string t) ∧ Below W.heap.size W w' := fun n hn => ⟨_, rfl, by rw [bytesOf_size]; exact byteT_le n, byteText_any n hn⟩
  obtain ⟨ta, hta, sta, BTa⟩ := hBT a la
  obtain ⟨tb, htb, stb, BTb⟩ := hBT b lb
  have HTA := hide hta
  have HTB := hide htb
  have BA := hide BTa
  have BB := hide BTb
  clear hBT hta htb BTa BTb
  by_cases hab : b < a
  · have e0 : decide ((b : Int) < (a : Int)) = true := by simp; omega
    have hlo : min a b = b := by omega
    have hhi : max a b = a := by omega
    rw [hlo, hhi] at HX
    clear hlo hhi
    go_enter Try.func58, Try.ntmps58
    go_wp2_with fail
    refine (PK.out _).mono ?_
    rintro e w1 ⟨rfl, rfl⟩
    go_wp2_with fail
    refine (PA.out _).mono ?_
    rintro e w1 ⟨rfl, rfl⟩
    go_wp2_with fail
    refine (PB.out _).mono ?_
    rintro e w1 ⟨rfl, rfl⟩
    go_wp2_with fail
    refine (BB.out _).mono ?_
    rintro e w1 ⟨rfl, hb1⟩
    have HB1 := hide hb1
    clear hb1
    go_wp2_with fail
    refine (BA.out _).mono ?_
    rintro e w2 ⟨rfl, hb2⟩
    have hbb : Below w.heap.size w w2 ∧ Blk w2 (w.heap.size + 1) node0 114 ∧ Blk w2 w.heap.size #[.int .i64 k0, .int .i64 a0, .int .i64 b0] 112 := by
      have h1 := HB1.out
      have h2 := hb2
      have z1 := h1.size
      simp at z1
      refine ⟨(Below2 w _ _).trans ((h1.mono (by simp; omega)).trans (h2.mono (by omega))), ?_, ?_⟩
      · exact ((Blk.at1 w _ _ _).below h1).below h2
      · exact ((((Blk.new w _ _).alloc _)).below h1).below h2
    have HBB := hide hbb
    have hz2 := hbb.2.1.lt
    have c1 : w2.cell? ⟨w.heap.size, 1, none⟩ = some (.int .i64 a0) := hbb.2.2.cell 1
    clear hb2 HB1 hbb
    rcases (by omega : k = 1 ∨ k = 2 ∨ k = 3 ∨ (k ≠ 1 ∧ k ≠ 2 ∧ k ≠ 3)) with h | h | h | ⟨h1, h2, h3⟩
    · subst h
      have hx := HX.out
      rw [if_pos rfl] at hx
      subst hx
      go_wp2_with (first | refine storeN (x := ⟨1, 0, 0, 0, 0, ⟨#[46]⟩, 1⟩) rfl (.tmp 2) (.tmp 31) rfl (w.heap.size + 1) rfl rfl HBB.out.2.1 rfl ?_)
      refine bodyPost_ret (v := nodeV ⟨1, 0, 0, 0, 0, ⟨#[46]⟩, 1⟩) ?_ ?_ ?_
      · refine resultsNode (g := w.heap.size + 1) Try.results58 _ ?_ ?_
        · rfl
        · exact (HBB.out.2.1).setRow _
      · rfl
      · exact ⟨rfl, Below_setRow HBB.out.1 (by omega) _⟩
    · subst h
      have hx := HX.out
      rw [if_neg (by omega), if_pos rfl] at hx
      rw [← span2, ← HTB.out, ← HTA.out] at hx
      subst hx
      go_wp2_with (first | refine storeN (x := ⟨2, b, a, 0, 0, (⟨#[91]⟩ : ByteArray) ++ (tb ++ ⟨#[45]⟩ ++ ta ++ ⟨#[93]⟩), 1⟩) rfl (.tmp 2) (.tmp 38) rfl (w.heap.size + 1) rfl rfl HBB.out.2.1 rfl ?_)
      refine bodyPost_ret (v := nodeV ⟨2, b, a, 0, 0, (⟨#[91]⟩ : ByteArray) ++ (tb ++ ⟨#[45]⟩ ++ ta ++ ⟨#[93]⟩), 1⟩) ?_ ?_ ?_
      · refine resultsNode (g := w.heap.size + 1) Try.results58 _ ?_ ?_
        · rfl
        · exact (HBB.out.2.1).setRow _
      · rfl
      · exact ⟨rfl, Below_setRow HBB.out.1 (by omega) _⟩
    · subst h
      have hx := HX.out
      rw [if_neg (by omega), if_neg (by omega), if_pos rfl] at hx
      rw [← span3, ← HTB.out, ← HTA.out] at hx
      subst hx
      go_wp2_with (first | refine storeN (x := ⟨3, b, a, 0, 0, (⟨#[91, 94]⟩ : ByteArray) ++ (tb ++ ⟨#[45]⟩ ++ ta ++ ⟨#[93]⟩), 1⟩) rfl (.tmp 2) (.tmp 45) rfl (w.heap.size + 1) rfl rfl HBB.out.2.1 rfl ?_)
      refine bodyPost_ret (v := nodeV ⟨3, b, a, 0, 0, (⟨#[91, 94]⟩ : ByteArray) ++ (tb ++ ⟨#[45]⟩ ++ ta ++ ⟨#[93]⟩), 1⟩) ?_ ?_ ?_
      · refine resultsNode (g := w.heap.size + 1) Try.results58 _ ?_ ?_
        · rfl
        · exact (HBB.out.2.1).setRow _
      · rfl
      · exact ⟨rfl, Below_setRow HBB.out.1 (by omega) _⟩
    · have hx := HX.out
      rw [if_neg h1, if_neg h2, if_neg h3] at hx
      rw [← HTA.out] at hx
      subst hx
      have e1 : ((k : Int) == 1) = false := by simp; omega
      have e2 : ((k : Int) == 2) = false := by simp; omega
      have e3 : ((k : Int) == 3) = false := by simp; omega
      clear HX
      go_wp2_with fail
      refine (PA.out _).mono ?_
      rintro e w3 ⟨rfl, rfl⟩
      go_wp2_with fail
      refine (BA.out _).mono ?_
      rintro e w4 ⟨rfl, hb4⟩
      have hbb : Below w.heap.size w w4 ∧ Blk w4 (w.heap.size + 1) node0 114 := ⟨HBB.out.1.trans (hb4.mono (by omega)), HBB.out.2.1.below hb4⟩
      have HB4 := hide hbb
      clear hb4 hbb HBB c1
      go_wp2_with (first | refine storeN (x := ⟨0, a, 0, 0, 0, ta, 1⟩) rfl (.tmp 2) (.tmp 52) rfl (w.heap.size + 1) rfl rfl HB4.out.2 rfl ?_)
      refine bodyPost_ret (v := nodeV ⟨0, a, 0, 0, 0, ta, 1⟩) ?_ ?_ ?_
      · refine resultsNode (g := w.heap.size + 1) Try.results58 _ ?_ ?_
        · rfl
        · exact (HB4.out.2).setRow _
      · rfl
      · exact ⟨rfl, Below_setRow HB4.out.1 (by omega) _⟩
  · have e0 : decide ((b : Int) < (a : Int)) = false := by simp; omega
    have hlo : min a b = a := by omega
    have hhi : max a b = b := by omega
    rw [hlo, hhi] at HX
    clear hlo hhi
    go_enter Try.func58, Try.ntmps58
    go_wp2_with fail
    refine (PK.out _).mono ?_
    rintro e w1 ⟨rfl, rfl⟩
    go_wp2_with fail
    refine (PA.out _).mono ?_
    rintro e w1 ⟨rfl, rfl⟩
    go_wp2_with fail
    refine (PB.out _).mono ?_
    rintro e w1 ⟨rfl, rfl⟩
    go_wp2_with fail
    refine (BA.out _).mono ?_
    rintro e w1 ⟨rfl, hb1⟩
    have HB1 := hide hb1
    clear hb1
    go_wp2_with fail
    refine (BB.out _).mono ?_
    rintro e w2 ⟨rfl, hb2⟩
    have hbb : Below w.heap.size w w2 ∧ Blk w2 (w.heap.size + 1) node0 114 ∧ Blk w2 w.heap.size #[.int .i64 k0, .int .i64 a0, .int .i64 b0] 112 := by
      have h1 := HB1.out
      have h2 := hb2
      have z1 := h1.size
      simp at z1
      refine ⟨(Below2 w _ _).trans ((h1.mono (by simp; omega)).trans (h2.mono (by omega))), ?_, ?_⟩
      · exact ((Blk.at1 w _ _ _).below h1).below h2
      · exact ((((Blk.new w _ _).alloc _)).below h1).below h2
    have HBB := hide hbb
    have hz2 := hbb.2.1.lt
    have c1 : w2.cell? ⟨w.heap.size, 1, none⟩ = some (.int .i64 a0) := hbb.2.2.cell 1
    clear hb2 HB1 hbb
    rcases (by omega : k = 1 ∨ k = 2 ∨ k = 3 ∨ (k ≠ 1 ∧ k ≠ 2 ∧ k ≠ 3)) with h | h | h | ⟨h1, h2, h3⟩
    · subst h
      have hx := HX.out
      rw [if_pos rfl] at hx
      subst hx
      go_wp2_with (first | refine storeN (x := ⟨1, 0, 0, 0, 0, ⟨#[46]⟩, 1⟩) rfl (.tmp 2) (.tmp 31) rfl (w.heap.size + 1) rfl rfl HBB.out.2.1 rfl ?_)
      refine bodyPost_ret (v := nodeV ⟨1, 0, 0, 0, 0, ⟨#[46]⟩, 1⟩) ?_ ?_ ?_
      · refine resultsNode (g := w.heap.size + 1) Try.results58 _ ?_ ?_
        · rfl
        · exact (HBB.out.2.1).setRow _
      · rfl
      · exact ⟨rfl, Below_setRow HBB.out.1 (by omega) _⟩
    · subst h
      have hx := HX.out
      rw [if_neg (by omega), if_pos rfl] at hx
      rw [← span2, ← HTA.out, ← HTB.out] at hx
      subst hx
      go_wp2_with (first | refine storeN (x := ⟨2, a, b, 0, 0, (⟨#[91]⟩ : ByteArray) ++ (ta ++ ⟨#[45]⟩ ++ tb ++ ⟨#[93]⟩), 1⟩) rfl (.tmp 2) (.tmp 38) rfl (w.heap.size + 1) rfl rfl HBB.out.2.1 rfl ?_)
      refine bodyPost_ret (v := nodeV ⟨2, a, b, 0, 0, (⟨#[91]⟩ : ByteArray) ++ (ta ++ ⟨#[45]⟩ ++ tb ++ ⟨#[93]⟩), 1⟩) ?_ ?_ ?_
      · refine resultsNode (g := w.heap.size + 1) Try.results58 _ ?_ ?_
        · rfl
        · exact (HBB.out.2.1).setRow _
      · rfl
      · exact ⟨rfl, Below_setRow HBB.out.1 (by omega) _⟩
    · subst h
      have hx := HX.out
      rw [if_neg (by omega), if_neg (by omega), if_pos rfl] at hx
      rw [← span3, ← HTA.out, ← HTB.out] at hx
      subst hx
      go_wp2_with (first | refine storeN (x := ⟨3, a, b, 0, 0, (⟨#[91, 94]⟩ : ByteArray) ++ (ta ++ ⟨#[45]⟩ ++ tb ++ ⟨#[93]⟩), 1⟩) rfl (.tmp 2) (.tmp 45) rfl (w.heap.size + 1) rfl rfl HBB.out.2.1 rfl ?_)
      refine bodyPost_ret (v := nodeV ⟨3, a, b, 0, 0, (⟨#[91, 94]⟩ : ByteArray) ++ (ta ++ ⟨#[45]⟩ ++ tb ++ ⟨#[93]⟩), 1⟩) ?_ ?_ ?_
      · refine resultsNode (g := w.heap.size + 1) Try.results58 _ ?_ ?_
        · rfl
        · exact (HBB.out.2.1).setRow _
      · rfl
      · exact ⟨rfl, Below_setRow HBB.out.1 (by omega) _⟩
    · have hx := HX.out
      rw [if_neg h1, if_neg h2, if_neg h3] at hx
      rw [← HTA.out] at hx
      subst hx
      have e1 : ((k : Int) == 1) = false := by simp; omega
      have e2 : ((k : Int) == 2) = false := by simp; omega
      have e3 : ((k : Int) == 3) = false := by simp; omega
      clear HX
      go_wp2_with fail
      refine (PA.out _).mono ?_
      rintro e w3 ⟨rfl, rfl⟩
      go_wp2_with fail
      refine (BA.out _).mono ?_
      rintro e w4 ⟨rfl, hb4⟩
      have hbb : Below w.heap.size w w4 ∧ Blk w4 (w.heap.size + 1) node0 114 := ⟨HBB.out.1.trans (hb4.mono (by omega)), HBB.out.2.1.below hb4⟩
      have HB4 := hide hbb
      clear hb4 hbb HBB c1
      go_wp2_with (first | refine storeN (x := ⟨0, a, 0, 0, 0, ta, 1⟩) rfl (.tmp 2) (.tmp 52) rfl (w.heap.size + 1) rfl rfl HB4.out.2 rfl ?_)
      refine bodyPost_ret (v := nodeV ⟨0, a, 0, 0, 0, ta, 1⟩) ?_ ?_ ?_
      · refine resultsNode (g := w.heap.size + 1) Try.results58 _ ?_ ?_
        · rfl
        · exact (HB4.out.2).setRow _
      · rfl
      · exact ⟨rfl, Below_setRow HB4.out.1 (by omega) _⟩
end Go.Proofs.Ytcckhngbdoiikaa

namespace Go.Proofs.Ytcckhngbdoiikaa
open Go.RowKit Go.Deep
set_option linter.unusedVariables false

def nodeD : NodeT := ⟨0, 0, 0, 0, 0, ⟨#[]⟩, 0⟩
def markB (k : Nat) : ByteArray := if k = 6 then ⟨#[42]⟩ else if k = 7 then ⟨#[43]⟩ else ⟨#[63]⟩
/-- The node of a step, and how many of the pile stay. -/
def stepNode (all : List NodeT) (tops : List Nat) (o : OpT) : NodeT × Nat :=
  if (kindF o = 4 ∨ kindF o = 5) ∧ 1 < tops.length then
    (⟨kindF o, 0, 0, tops.getD (tops.length - 2) 0, tops.getD (tops.length - 1) 0,
      (⟨#[40]⟩ : ByteArray) ++ (all.getD (tops.getD (tops.length - 2) 0) nodeD).text ++ (if kindF o = 5 then ⟨#[124]⟩ else ⟨#[]⟩) ++ (all.getD (tops.getD (tops.length - 1) 0) nodeD).text ++ ⟨#[41]⟩,
      (all.getD (tops.getD (tops.length - 2) 0) nodeD).places + (all.getD (tops.getD (tops.length - 1) 0) nodeD).places⟩, tops.length - 2)
  else if 6 ≤ kindF o ∧ 0 < tops.length then
    (⟨kindF o, 0, 0, tops.getD (tops.length - 1) 0, 0,
      (⟨#[40]⟩ : ByteArray) ++ (all.getD (tops.getD (tops.length - 1) 0) nodeD).text ++ markB (kindF o) ++ ⟨#[41]⟩,
      (all.getD (tops.getD (tops.length - 1) 0) nodeD).places⟩, tops.length - 1)
  else (leafN o, tops.length)
def builtStep (st : List NodeT × List Nat) (o : OpT) : List NodeT × List Nat :=
  (st.1 ++ [(stepNode st.1 st.2 o).1], st.2.take (stepNode st.1 st.2 o).2 ++ [st.1.length])
def builtFold (ops : List OpT) (st : List NodeT × List Nat) : List NodeT × List Nat := ops.foldl builtStep st
def nodeA : NodeT := ⟨0, 97, 0, 0, 0, ⟨#[97]⟩, 1⟩
def builtF (ops : List OpT) : List NodeT × List Nat := if (builtFold ops ([], [])).2.length = 0 then ((builtFold ops ([], [])).1 ++ [nodeA], (builtFold ops ([], [])).2 ++ [0]) else builtFold ops ([], [])

/-- What holds of the nodes and of the pile. -/
structure BInv (i : Nat) (st : List NodeT × List Nat) : Prop where
  tops : ∀ t ∈ st.2, t < st.1.length
  len : st.2.length ≤ st.1.length
  all : st.1.length = i
  sum : (st.2.map (fun t => (st.1.getD t nodeD).text.size)).sum ≤ 8 * i
  pl : ∀ x ∈ st.1, x.places ≤ x.text.size
theorem leafN_size (o : OpT) : (leafN o).text.size ≤ 8 ∧ (leafN o).places ≤ (leafN o).text.size := by
  have h1 := byteT_le (loF o)
  have h2 := byteT_le (hiF o)
  have h3 := byteT_le (pickF o.a 256)
  have p3 := byteT_pos (pickF o.a 256)
  unfold leafN
  split
  · exact ⟨by rw [bytesOf_size]; simp, by rw [bytesOf_size]; simp⟩
  · split
    · simp only [bytesOf_size, leafT]
      simp
      omega
    · split
      · simp only [bytesOf_size, leafT]
        simp
        omega
      · simp only [bytesOf_size]
        omega
theorem sum_take_le (l : List Nat) (k : Nat) : (l.take k).sum ≤ l.sum := by
  have := congrArg List.sum (List.take_append_drop k l)
  rw [List.sum_append] at this
  omega
theorem sum_ge (l : List Nat) (k : Nat) (h : k < l.length) : l[k] ≤ l.sum := by
  have := congrArg List.sum (List.take_append_drop k l)
  rw [List.sum_append, List.drop_eq_getElem_cons h, List.sum_cons] at this
  omega
theorem getD_app {l : List NodeT} {x : NodeT} {k : Nat} (h : k < l.length) : (l ++ [x]).getD k nodeD = l.getD k nodeD := by
  rw [List.getD_eq_getElem?_getD, List.getElem?_append_left h, ← List.getD_eq_getElem?_getD]
/-- The sum of the first of the pile and the last ones. -/
theorem sum_split (l : List Nat) (k : Nat) (h : k < l.length) : (l.take k).sum + l[k] = (l.take (k + 1)).sum := by
  rw [List.take_succ_eq_append_getElem h, List.sum_append]; simp
theorem stepNode_size {i : Nat} {st : List NodeT × List Nat} (h : BInv i st) (o : OpT) :
    ((st.2.take (stepNode st.1 st.2 o).2).map (fun t => (st.1.getD t nodeD).text.size)).sum + (stepNode st.1 st.2 o).1.text.size ≤ (st.2.map (fun t => (st.1.getD t nodeD).text.size)).sum + 8 ∧ (stepNode st.1 st.2 o).1.places ≤ (stepNode st.1 st.2 o).1.text.size ∧ (stepNode st.1 st.2 o).2 ≤ st.2.length := by
  have hg : ∀ k, k < st.2.length → st.2.getD k 0 = st.2[k]! := fun k hk => by simp [hk]
  have hpl : ∀ t, t < st.1.length → (st.1.getD t nodeD).places ≤ (st.1.getD t nodeD).text.size := fun t ht => h.pl _ (by simp [ht])
  have hat : ∀ k, (hk : k < st.2.length) → (st.2.map (fun t => (st.1.getD t nodeD).text.size))[k]'(by simpa using hk) = (st.1.getD (st.2.getD k 0) nodeD).text.size := fun k hk => by simp [hk]
  have htp : ∀ k, k < st.2.length → st.2.getD k 0 < st.1.length := fun k hk => h.tops _ (by simp [hk])
  unfold stepNode
  split
  · rename_i hc
    have hlen : (st.2.map (fun t => (st.1.getD t nodeD).text.size)).length = st.2.length := by simp
    have s1 := sum_split (st.2.map (fun t => (st.1.getD t nodeD).text.size)) (st.2.length - 2) (by omega)
    have s2 := sum_split (st.2.map (fun t => (st.1.getD t nodeD).text.size)) (st.2.length - 1) (by omega)
    rw [hat _ (by omega)] at s1 s2
    rw [show st.2.length - 2 + 1 = st.2.length - 1 by omega] at s1
    rw [show st.2.length - 1 + 1 = (st.2.map (fun t => (st.1.getD t nodeD).text.size)).length by omega, List.take_length] at s2
    have p1 := hpl _ (htp (st.2.length - 2) (by omega))
    have p2 := hpl _ (htp (st.2.length - 1) (by omega))
    have hm : (if kindF o = 5 then (⟨#[124]⟩ : ByteArray) else ⟨#[]⟩).size ≤ 1 := by split <;> decide
    simp only [List.map_take, ByteArray.size_append]
    have e1 : (⟨#[40]⟩ : ByteArray).size = 1 := rfl
    have e2 : (⟨#[41]⟩ : ByteArray).size = 1 := rfl
    omega
  · split
    · rename_i hc
      have hlen : (st.2.map (fun t => (st.1.getD t nodeD).text.size)).length = st.2.length := by simp
      have s2 := sum_split (st.2.map (fun t => (st.1.getD t nodeD).text.size)) (st.2.length - 1) (by omega)
      rw [hat _ (by omega)] at s2
      rw [show st.2.length - 1 + 1 = (st.2.map (fun t => (st.1.getD t nodeD).text.size)).length by omega, List.take_length] at s2
      have p2 := hpl _ (htp (st.2.length - 1) (by omega))
      have hm : (markB (kindF o)).size = 1 := by unfold markB; split; rfl; split <;> rfl
      simp only [List.map_take, ByteArray.size_append]
      have e1 : (⟨#[40]⟩ : ByteArray).size = 1 := rfl
      have e2 : (⟨#[41]⟩ : ByteArray).size = 1 := rfl
      omega
    · have := leafN_size o
      simp only [List.take_length]
      omega
theorem BInv.step {i : Nat} {st : List NodeT × List Nat} (h : BInv i st) (o : OpT) : BInv (i + 1) (builtStep st o) := by
  obtain ⟨h1, h2, h3⟩ := stepNode_size h o
  have hal := h.all
  unfold builtStep
  generalize stepNode st.1 st.2 o = x at *
  refine ⟨fun t ht => ?_, ?_, by simp [hal], ?_, fun y hy => ?_⟩
  · simp only [List.mem_append, List.mem_singleton, List.length_append, List.length_cons, List.length_nil] at ht ⊢
    rcases ht with e | e
    · have := h.tops t (List.mem_of_mem_take e); omega
    · omega
  · have := h.len
    simp only [List.length_append, List.length_cons, List.length_nil, List.length_take]
    omega
  · have hm : (st.2.take x.2).map (fun t => ((st.1 ++ [x.1]).getD t nodeD).text.size) = (st.2.take x.2).map (fun t => (st.1.getD t nodeD).text.size) :=
      List.map_congr_left fun t ht => by rw [getD_app (h.tops t (List.mem_of_mem_take ht))]
    have hl : ((st.1 ++ [x.1]).getD st.1.length nodeD) = x.1 := by simp
    simp only [List.map_append, hm, List.map_cons, List.map_nil, List.sum_append, List.sum_cons, List.sum_nil, hl]
    have := h.sum
    omega
  · simp only [List.mem_append, List.mem_singleton] at hy
    rcases hy with e | e
    · exact h.pl y e
    · rw [e]; exact h2
theorem BInv.text {i : Nat} {st : List NodeT × List Nat} (h : BInv i st) {k : Nat} (hk : k < st.2.length) : (st.1.getD (st.2.getD k 0) nodeD).text.size ≤ 8 * i ∧ (st.1.getD (st.2.getD k 0) nodeD).places ≤ 8 * i ∧ st.2.getD k 0 < st.1.length := by
  have h1 := sum_ge (st.2.map (fun t => (st.1.getD t nodeD).text.size)) k (by simpa using hk)
  have h2 := h.sum
  have h3 : st.2.getD k 0 < st.1.length := h.tops _ (by simp [hk])
  have h4 := h.pl (st.1.getD (st.2.getD k 0) nodeD) (by rw [List.getD_eq_getElem?_getD, List.getElem?_eq_getElem h3]; exact List.getElem_mem h3)
  have h5 : (st.2.map (fun t => (st.1.getD t nodeD).text.size))[k]'(by simpa using hk) = (st.1.getD (st.2.getD k 0) nodeD).text.size := by simp [hk]
  omega

/-- The cells of a list of nodes. -/
def nodesC : List NodeT → List Value
  | [] => []
  | x :: r => .int .i64 (x.kind : Int) :: .int .i64 (x.a : Int) :: .int .i64 (x.b : Int) :: .int .i64 (x.l : Int) :: .int .i64 (x.r : Int) :: .string x.text :: .int .i64 (x.places : Int) :: nodesC r
theorem nodesC_length : ∀ l : List NodeT, (nodesC l).length = l.length * 7
  | [] => rfl
  | s :: r => by simp [nodesC, nodesC_length r]; omega
theorem nodesC_append : ∀ l m : List NodeT, nodesC (l ++ m) = nodesC l ++ nodesC m
  | [], m => rfl
  | s :: r, m => by simp [nodesC, nodesC_append r m]
theorem nodesC_drop : ∀ (l : List NodeT) (k : Nat), k < l.length → (nodesC l).drop (k * 7) = nodesC (l.drop k)
  | l, 0, _ => by simp
  | [], k + 1, h => by simp at h
  | s :: r, k + 1, h => by
    rw [show (k + 1) * 7 = k * 7 + 7 by omega]
    simp only [nodesC, List.drop_succ_cons]
    exact nodesC_drop r k (by simpa using h)
theorem nodesC_get (l : List NodeT) (k c : Nat) (h : k < l.length) (hc : c < 7) : (nodesC l)[k * 7 + c]? = (nodesC [l[k]])[c]? := by
  have e : (nodesC l)[k * 7 + c]? = ((nodesC l).drop (k * 7))[c]? := by rw [List.getElem?_drop]
  rw [e, nodesC_drop l k h, List.drop_eq_getElem_cons h]
  have : nodesC (l[k] :: l.drop (k + 1)) = nodesC [l[k]] ++ nodesC (l.drop (k + 1)) := by rw [← nodesC_append]; rfl
  rw [this, List.getElem?_append_left (by simp [nodesC]; omega)]
def NodeRow (w : World) (v : Value) (l : List NodeT) : Prop := w.ownsRow 0 114 7 v l.length (nodesC l)
theorem Try.infoNode3 : (Try.prog.info? 114).map (fun i => (i.zero, i.size, i.bytes)) = some (some (.agg #[.int .i64 0, .int .i64 0, .int .i64 0, .int .i64 0, .int .i64 0, .string ⟨#[]⟩, .int .i64 0]), 7, 64) := by kernel_rfl
theorem NodeRow.kept {w w' : World} {v : Value} {l : List NodeT} {ex : Nat → Prop} (h : NodeRow w v l) (k : Kept ex w w') (he : ∀ b, v.ownBlock = some b → ¬ ex b) : NodeRow w' v l := ownsRow_kept h k he
theorem NodeRow.below {w w' : World} {v : Value} {l : List NodeT} (h : NodeRow w v l) (k : Below w.heap.size w w') : NodeRow w' v l := h.kept (ex := fun _ => False) (Kept.ofBelow k) (fun _ _ e => e)
theorem NodeRow.form {w : World} {v : Value} {l : List NodeT} (h : NodeRow w v l) : ∃ (ad : Option Addr) (cap : Nat), v = .slice ad l.length cap ∧ (l.length = 0 ∨ ∃ g, ad = some ⟨g, 0, none⟩) := by
  obtain ⟨_, ad, cap, rfl, ⟨_, h⟩ | ⟨g, _, rfl, _⟩⟩ := ownsRow_form h
  · exact ⟨ad, cap, rfl, .inl h⟩
  · exact ⟨_, cap, rfl, .inr ⟨g, rfl⟩⟩
theorem NodeRow.cell {w : World} {l : List NodeT} {g cap : Nat} (h : NodeRow w (.slice (some ⟨g, 0, none⟩) l.length cap) l) (k c : Nat) (hk : k < l.length) (hc : c < 7) : w.cell? ⟨g, k * 7 + c, none⟩ = (nodesC [l.getD k nodeD])[c]? := by
  rw [ownsRow_cell h (k * 7 + c) (by omega), nodesC_get l k c hk hc]
  simp [hk]

/-- The steps, as they came in. -/
structure OpsAt (w : World) (v : Value) (ops : List OpT) : Prop where
  form : ∃ (ad : Option Addr) (cap : Nat), v = .slice ad ops.length cap ∧ (ops.length = 0 ∨ ∃ b off, ad = some ⟨b, off, none⟩ ∧ b < w.heap.size ∧ ∀ j, (h : j < ops.length) → w.cell? ⟨b, off + j * 3, none⟩ = some (.int .i64 ops[j].kind) ∧ w.cell? ⟨b, off + j * 3 + 1, none⟩ = some (.int .i64 ops[j].a) ∧ w.cell? ⟨b, off + j * 3 + 2, none⟩ = some (.int .i64 ops[j].b))
  ok : ∀ o ∈ ops, o.ok
  few : ops.length ≤ 1048576
theorem OpsAt.below {w w' : World} {v : Value} {ops : List OpT} (h : OpsAt w v ops) (k : Below w.heap.size w w') : OpsAt w' v ops := by
  obtain ⟨⟨ad, cap, rfl, hc⟩, h2, h3⟩ := h
  refine ⟨⟨ad, cap, rfl, ?_⟩, h2, h3⟩
  rcases hc with h0 | ⟨b, off, rfl, hlt, hc⟩
  · exact .inl h0
  · refine .inr ⟨b, off, rfl, by have := k.size; omega, fun j hj => ?_⟩
    obtain ⟨a, b', c⟩ := hc j hj
    exact ⟨(k.cell (p := ⟨b, _, none⟩) hlt).trans a, (k.cell (p := ⟨b, _, none⟩) hlt).trans b', (k.cell (p := ⟨b, _, none⟩) hlt).trans c⟩
/-- The first of a row. -/
theorem IRow.take {w : World} {l : List Int} {ad : Option Addr} {cap : Nat} (h : IRow w (.slice ad l.length cap) l) (k : Nat) (hk : k ≤ l.length) : IRow w (.slice ad k cap) (l.take k) := by
  obtain ⟨h0, ⟨h, h1⟩ | ⟨g, cap', cur, e, h2, h3, h4, h5, h6, h7⟩⟩ := h
  · injection h with e1 e2 e3
    have : k = 0 := by omega
    subst this
    exact ⟨by simp, .inl ⟨by rw [e1, e3], by simp⟩⟩
  · injection e with e1 e2 e3
    subst e3
    have hlen : (l.take k).length = k := by simp; omega
    refine ⟨by simp, .inr ⟨g, cap, cur, by rw [e1, hlen], h2, h3, by omega, h5, h6, ?_⟩⟩
    rw [hlen, List.map_take, ← h7, List.take_take]
    congr 1
    omega
def natsI (l : List Nat) : List Int := l.map (fun (n : Nat) => (n : Int))
theorem natsI_len (l : List Nat) : (natsI l).length = l.length := by simp [natsI]
theorem IRow.formN {w : World} {v : Value} {l : List Nat} (h : IRow w v (natsI l)) : ∃ (ad : Option Addr) (cap : Nat), v = .slice ad l.length cap ∧ (l.length = 0 ∨ ∃ g, ad = some ⟨g, 0, none⟩) := by
  have := h.form
  rw [natsI_len] at this
  exact this
theorem IRow.cellN {w : World} {l : List Nat} {g cap : Nat} (h : IRow w (.slice (some ⟨g, 0, none⟩) l.length cap) (natsI l)) (j : Nat) (hj : j < l.length) : w.cell? ⟨g, j, none⟩ = some (.int .i64 (l.getD j 0 : Int)) := by
  have h' : IRow w (.slice (some ⟨g, 0, none⟩) (natsI l).length cap) (natsI l) := by rw [natsI_len]; exact h
  rw [h'.cell j (by rw [natsI_len]; exact hj)]
  simp [natsI, hj]
end Go.Proofs.Ytcckhngbdoiikaa

namespace Go.Proofs.Ytcckhngbdoiikaa
open Go.RowKit Go.Deep
set_option linter.unusedVariables false

set_option maxRecDepth 20000 in
set_option maxHeartbeats 1600000 in
theorem allows_any (x : NodeT) (b : Nat) (w : World) : Calls Try.prog 121 #[nodeV x, .int .i64 (b : Int)] w fun e w' => e = .returned (.bool (leafA x.kind x.a x.b b)) ∧ Below w.heap.size w w' := by
  obtain ⟨k, xa, xb, xl, xr, xt, xp⟩ := x
  rcases (by omega : k = 1 ∨ k = 2 ∨ k = 3 ∨ (k ≠ 1 ∧ k ≠ 2 ∧ k ≠ 3)) with h | h | h | ⟨h1, h2, h3⟩
  · subst h
    go_enter Try.func121, Try.ntmps121
    go_wp2_with fail
    go_ret
    exact ⟨rfl, Below1 _ _⟩
  · subst h
    generalize hX : leafA 2 xa xb b = X
    unfold leafA at hX
    simp only [show ¬ (2 = 1) by omega, if_false, if_true] at hX
    by_cases h1 : xa ≤ b
    · have e1 : decide ((xa : Int) ≤ (b : Int)) = true := by simp; omega
      have hx : X = decide ((b : Int) ≤ (xb : Int)) := by rw [← hX]; rw [Bool.eq_iff_iff]; simp; omega
      subst hx
      clear hX
      go_enter Try.func121, Try.ntmps121
      go_wp2_with fail
      go_ret
      exact ⟨by simp, Below1 _ _⟩
    · have e1 : decide ((xa : Int) ≤ (b : Int)) = false := by simp; omega
      have hx : X = false := by rw [← hX]; simp; omega
      subst hx
      clear hX
      go_enter Try.func121, Try.ntmps121
      go_wp2_with fail
      go_ret
      exact ⟨rfl, Below1 _ _⟩
  · subst h
    generalize hX : leafA 3 xa xb b = X
    unfold leafA at hX
    simp only [show ¬ (3 = 1) by omega, show ¬ (3 = 2) by omega, if_false, if_true] at hX
    by_cases h1 : b < xa
    · have e1 : decide ((b : Int) < (xa : Int)) = true := by simp; omega
      have hx : X = true := by rw [← hX]; simp; omega
      subst hx
      clear hX
      go_enter Try.func121, Try.ntmps121
      go_wp2_with fail
      go_ret
      exact ⟨rfl, Below1 _ _⟩
    · have e1 : decide ((b : Int) < (xa : Int)) = false := by simp; omega
      have hx : X = decide ((xb : Int) < (b : Int)) := by rw [← hX]; rw [Bool.eq_iff_iff]; simp; omega
      subst hx
      clear hX
      go_enter Try.func121, Try.ntmps121
      go_wp2_with fail
      go_ret
      exact ⟨by simp, Below1 _ _⟩
  · have e1 : ((k : Int) == 1) = false := by simp; omega
    have e2 : ((k : Int) == 2) = false := by simp; omega
    have e3 : ((k : Int) == 3) = false := by simp; omega
    have hx : leafA k xa xb b = ((b : Int) == (xa : Int)) := by unfold leafA; rw [if_neg h1, if_neg h2, if_neg h3, Bool.eq_iff_iff]; simp; omega
    rw [hx]
    go_enter Try.func121, Try.ntmps121
    go_wp2_with fail
    go_ret
    exact ⟨by simp, Below1 _ _⟩
end Go.Proofs.Ytcckhngbdoiikaa
