import Derived.Test.YtmgpdaemcbbikaaNumber
import Derived.Test.YtmgpdaemcbbikaaFind
import Derived.Test.YtmgpdaemcbbikaaAdd
import Derived.Deep.MidRow
namespace Go.Proofs.Ytmgpdaemcbbikaa
open Go.RowKit Go.Deep
set_option linter.unusedVariables false

/-- 256 ints. -/
def kindC (f : Nat → Nat) : Array Value := (Array.range 256).map (fun i => .int .i64 (f i : Int))
theorem kindC_size (A : Nat → Nat) : (kindC A).size = 256 := by simp [kindC]
theorem kindC_get (A : Nat → Nat) (i : Nat) (h : i < 256) : (kindC A)[i]? = some (.int .i64 (A i : Int)) := by
  simp [kindC, h]
theorem kindC_one (A : Nat → Nat) : (kindC A).all (·.oneCell') = true := by
  rw [Array.all_eq_true_iff_forall_mem]
  intro v hv
  simp [kindC] at hv
  obtain ⟨i, _, rfl⟩ := hv
  rfl
theorem kindC_congr {A B : Nat → Nat} (h : ∀ i, i < 256 → A i = B i) : kindC A = kindC B := by
  unfold kindC
  apply Array.ext_getElem?
  intro j
  simp only [Array.getElem?_map]
  by_cases hj : j < 256
  · simp [hj, h j hj]
  · simp [hj]
theorem kindC_set (A : Nat → Nat) (i : Nat) (v : Nat) (h : i < 256) : (kindC A).setIfInBounds i (.int .i64 (v : Int)) = kindC (fun j => if j = i then v else A j) := by
  apply Array.ext_getElem?
  intro j
  rw [Array.getElem?_setIfInBounds]
  by_cases hj : j < 256
  · rw [kindC_get _ j hj]
    by_cases e : i = j
    · subst e; rw [if_pos rfl, if_pos (by rw [kindC_size]; exact h), kindC_get _ _ h, if_pos rfl]
    · rw [if_neg e, kindC_get _ j hj, if_neg (fun e' => e e'.symm)]
  · rw [Array.getElem?_eq_none (by rw [kindC_size]; omega : (kindC _).size ≤ j)]
    by_cases e : i = j
    · omega
    · rw [if_neg e, Array.getElem?_eq_none (by rw [kindC_size]; omega)]
theorem zeroKinds : Try.zeroCells89 = kindC (fun _ => 0) := by kernel_rfl
theorem Try.infoK : (Try.prog.info? 89).map (·.size) = some 256 := by kernel_rfl
theorem kind_step (f : Nat → Nat) (b : Nat) (h : b < 256) : (kindC (fun j => if j < b then f j else 0)).setIfInBounds b (.int .i64 (f b : Int)) = kindC (fun j => if j < b + 1 then f j else 0) := by
  rw [kindC_set _ _ _ h]
  apply kindC_congr
  intro i _
  by_cases e : i = b
  · subst e; simp
  · by_cases h : i < b
    · simp [e, h, show i < b + 1 by omega]
    · simp [e, h, show ¬ i < b + 1 by omega]
theorem loadK {A : Nat → Nat} {ops : Array Oper} {rest : List Oper} {o : Oper} {a : Act} {w : World} {Q : Exit → Act → World → Prop} (hgd : o.guard = none) (x : Operand) (ho : o.op = .load 89 x)
    (g : Nat) (hx : a.eval x = .pointer (some ⟨g, 0, none⟩)) (hb : Blk w g (kindC A) 89)
    (h : wpList Try.prog ops Q rest (a.put o.dst (.agg (kindC A))) w) : wpList Try.prog ops Q (o :: rest) a w :=
  wpList_load_row hgd 89 x ho g hx 89 _ (0, 0) _ hb Try.underlying89 rfl (by rw [kindC_size]; exact Try.infoK) h
theorem storeK {A : Nat → Nat} {ops : Array Oper} {rest : List Oper} {o : Oper} {a : Act} {w : World} {Q : Exit → Act → World → Prop} (hgd : o.guard = none) (x y : Operand) (ho : o.op = .store 89 x y)
    (g : Nat) (hx : a.eval x = .pointer (some ⟨g, 0, none⟩)) (hy : a.eval y = .agg (kindC A)) {old : Array Value} (hb : Blk w g old 89) (hold : old.size = 256)
    (h : wpList Try.prog ops Q rest (a.put o.dst undef) (w.setRow g (kindC A))) : wpList Try.prog ops Q (o :: rest) a w :=
  wpList_store_row hgd 89 x y ho g _ hx hy 89 _ hb (by rw [kindC_size]; exact Try.infoK) (by rw [kindC_size]; exact hold) (kindC_one _) h
theorem storeKz {ops : Array Oper} {rest : List Oper} {o : Oper} {a : Act} {w : World} {Q : Exit → Act → World → Prop} (hgd : o.guard = none) (x y : Operand) (ho : o.op = .store 89 x y)
    (g : Nat) (hx : a.eval x = .pointer (some ⟨g, 0, none⟩)) (hy : a.eval y = .agg Try.zeroCells89) {old : Array Value} (hb : Blk w g old 89) (hold : old.size = 256)
    (h : wpList Try.prog ops Q rest (a.put o.dst undef) (w.setRow g (kindC (fun _ => 0)))) : wpList Try.prog ops Q (o :: rest) a w :=
  storeK hgd x y ho g hx (by rw [hy, zeroKinds]) hb hold h
theorem zeroK : Try.zeroCells89.size = 256 := Try.zeroCells89_size

/-- The 256 sets of the rules. -/
def allowsC (al : Nat → PSet) : List Value := setsC ((List.range 256).map al)
theorem allowsC_at {w : World} {gb : Nat} {R : RulesT} {fv lv : Value} (h : Blk w gb (rulesC R.allow R.first fv lv) 143) : w.rangeAt gb 0 (allowsC R.allow) := by
  intro j v hv
  have hj : j < 512 := by
    have := (List.getElem?_eq_some_iff.1 hv).1
    rw [allowsC, allows_length] at this
    exact this
  rw [Nat.zero_add, h.cell, rulesC, List.getElem?_toArray, List.getElem?_append_left (by rw [allows_length]; omega)]
  exact hv
theorem Try.infoA : (Try.prog.info? 140).map (·.size) = some 512 := by kernel_rfl
theorem loadA {al : Nat → PSet} {ops : Array Oper} {rest : List Oper} {o : Oper} {a : Act} {w : World} {Q : Exit → Act → World → Prop} (hgd : o.guard = none) (x : Operand) (ho : o.op = .load 140 x)
    (g : Nat) (hx : a.eval x = .pointer (some ⟨g, 0, none⟩)) (hb : w.rangeAt g 0 (allowsC al))
    (h : wpList Try.prog ops Q rest (a.put o.dst (.agg (allowsC al).toArray)) w) : wpList Try.prog ops Q (o :: rest) a w :=
  wpList_load_mid hgd 140 x ho g 0 hx (allowsC al) _ hb Try.underlying140 rfl (by rw [allowsC, allows_length]; exact Try.infoA) h
theorem rangeAt_below {w w' : World} {g o : Nat} {cs : List Value} (h : w.rangeAt g o cs) (hg : g < w.heap.size) (hb : Below w.heap.size w w') : w'.rangeAt g o cs := fun j v hv => by
  rw [hb.cell (p := ⟨g, o + j, none⟩) hg]; exact h j v hv
theorem SetRow.kept {w w' : World} {v : Value} {l : List PSet} {ex : Nat → Prop} (h : SetRow w v l) (k : Kept ex w w') (he : ∀ b, v.ownBlock = some b → ¬ ex b) : SetRow w' v l := ownsRow_kept h k he
theorem SetRow.form {w : World} {v : Value} {l : List PSet} (h : SetRow w v l) : ∃ (ad : Option Addr) (cap : Nat), v = .slice ad l.length cap ∧ (l.length = 0 ∨ ∃ g, ad = some ⟨g, 0, none⟩) := by
  obtain ⟨_, ad, cap, rfl, hr⟩ := ownsRow_form h
  refine ⟨ad, cap, rfl, ?_⟩
  rcases hr with ⟨_, e⟩ | ⟨g, _, e, _⟩
  · exact .inl e
  · exact .inr ⟨g, e⟩
theorem SetRow.cell0 {w : World} {l : List PSet} {g cap : Nat} (h : SetRow w (.slice (some ⟨g, 0, none⟩) l.length cap) l) (j : Nat) (hj : j < l.length) : w.cell? ⟨g, j * 2, none⟩ = some (.int .u64 (l[j].lo.toNat : Int)) := by
  rw [ownsRow_cell h _ (by omega), setsC_get0 _ j hj]
theorem SetRow.cell1 {w : World} {l : List PSet} {g cap : Nat} (h : SetRow w (.slice (some ⟨g, 0, none⟩) l.length cap) l) (j : Nat) (hj : j < l.length) : w.cell? ⟨g, j * 2 + 1, none⟩ = some (.int .u64 (l[j].hi.toNat : Int)) := by
  rw [ownsRow_cell h _ (by omega), setsC_get1 _ j hj]
theorem setRow_push {w' : World} {l : List PSet} {s : PSet} {g cap : Nat} (hown : w'.ownsRow 0 139 2 (.slice (some ⟨g, 0, none⟩) (l.length + 1) cap) (l.length + 1) (setsC l ++ [.int .u64 (s.lo.toNat : Int), .int .u64 (s.hi.toNat : Int)])) :
    SetRow w' (.slice (some ⟨g, 0, none⟩) (l.length + 1) cap) (l ++ [s]) := by
  unfold SetRow
  rw [List.length_append, setsC_append]
  exact hown
theorem isAggSet (w : World) : (isAgg 139).run Try.prog w = .ok true w := by kernel_rfl
theorem sizeOfSet (w : World) : (Go.sizeOf 139).run Try.prog w = .ok 2 w := by kernel_rfl
theorem underA (w : World) : (Go.underlying 140).run Try.prog w = .ok (.array 256 139) w := by kernel_rfl
theorem index_allow (al : Nat → PSet) (b : Nat) (hb : b < 256) (w : World) : (Instr.index 140 (.agg (allowsC al).toArray) (.int .i64 (b : Int))).run Try.prog w = .ok (setV (al b)) w := by
  have e0 : (0 : Int) ≤ (b : Int) ∧ (b : Int) < ((256 : Nat) : Int) := by omega
  have e1 : (allowsC al).toArray.extract (b * 2) (b * 2 + 2) = setC (al b) := by
    apply Array.ext_getElem?
    intro j
    have hl : (allowsC al).toArray.size = 512 := by simp only [List.size_toArray]; exact allows_length al
    rw [Array.getElem?_extract]
    match j with
    | 0 => rw [if_pos (by rw [hl]; omega), List.getElem?_toArray, Nat.add_zero, allowsC, setsC_get0 _ b (by simpa using hb)]; simp
    | 1 => rw [if_pos (by rw [hl]; omega), List.getElem?_toArray, allowsC, setsC_get1 _ b (by simpa using hb)]; simp
    | j + 2 => rw [if_neg (by rw [hl]; omega)]; simp
  simp only [Instr.index, asIntOf, Sem.run_bind, Sem.run_pure, Result.andThen_ok, underA, e0, and_self, if_true, sizeOfSet, Go.part, isAggSet, Int.toNat_natCast, e1]

end Go.Proofs.Ytmgpdaemcbbikaa
