import Derived.Test.YtmgpdaemcbbikaaReadD
import Derived.Test.YtmgpdaemcbbikaaChain
import Derived.Test.YtmgpdaemcbbikaaEndRule
namespace Go.Proofs.Ytmgpdaemcbbikaa
open Go.RowKit Go.Deep
set_option linter.unusedVariables false

/-- The reader and the rules that it fills. -/
structure RS (w : World) (rb gb : Nat) (s : ByteArray) (p : Nat) (R : RulesT) (O : Nat → Prop) : Prop where
  rd : Rd w rb s p gb
  ru : ∃ fv lv, RulesAt w gb O R fv lv
  no : ¬ O rb
/-- What a method of the reader leaves. -/
def RPost (w w' : World) (rb gb : Nat) (s : ByteArray) (O : Nat → Prop) (p : Nat) (R : RulesT) : Prop :=
  ∃ O', RS w' rb gb s p R O' ∧ Kept (fun k => k = rb ∨ O k) w w' ∧ ∀ k, O' k → O k ∨ w.heap.size ≤ k

section
variable {w w' : World} {rb gb : Nat} {s : ByteArray} {p : Nat} {R : RulesT} {O : Nat → Prop}
theorem RS.olt (h : RS w rb gb s p R O) : ∀ k, O k → k < w.heap.size := by obtain ⟨fv, lv, hr⟩ := h.ru; exact hr.olt
theorem RS.og (h : RS w rb gb s p R O) : O gb := by obtain ⟨fv, lv, hr⟩ := h.ru; exact hr.og
theorem RS.lt (h : RS w rb gb s p R O) : rb < w.heap.size := h.rd.lt
theorem RS.kept {ex : Nat → Prop} (h : RS w rb gb s p R O) (k : Kept ex w w') (h1 : ¬ ex rb) (h2 : ∀ b, O b → ¬ ex b) : RS w' rb gb s p R O := by
  obtain ⟨fv, lv, hr⟩ := h.ru
  exact ⟨Blk.kept h.rd k h1, ⟨fv, lv, hr.kept k h2⟩, h.no⟩
theorem RS.below (h : RS w rb gb s p R O) (k : Below w.heap.size w w') : RS w' rb gb s p R O := h.kept (ex := fun _ => False) (Kept.ofBelow k) (fun e => e) (fun _ _ e => e)
theorem RS.alloc (h : RS w rb gb s p R O) (o : Obj) : RS (w.alloc o) rb gb s p R O := h.below (Below1 _ _)
theorem RS.drew (h : RS w rb gb s p R O) : RS w.drew rb gb s p R O := h.kept (ex := fun _ => False) (Kept.refl _ _).drew (fun e => e) (fun _ _ e => e)
theorem RS.drewN (h : RS w rb gb s p R O) (n : Nat) : RS (w.drewN n) rb gb s p R O := h.kept (ex := fun _ => False) ((Kept.refl _ _).drewN n) (fun e => e) (fun _ _ e => e)
theorem RS.set1 (h : RS w rb gb s p R O) : RS (w.setCell ⟨rb, 1, none⟩ (.int .i64 ((p : Int) + 1))) rb gb s (p + 1) R O := by
  obtain ⟨fv, lv, hr⟩ := h.ru
  exact ⟨h.rd.set1, ⟨fv, lv, hr.kept (ex := fun k => k = rb) (Kept.setCell (ex := fun k => k = rb) (Kept.refl _ _) (fun _ => rfl) _) (fun b hb e => h.no (e ▸ hb))⟩, h.no⟩
/-- A store into a block that is neither the reader's nor the rules'. -/
theorem RS.setOther (h : RS w rb gb s p R O) {a : Addr} (h1 : a.block ≠ rb) (h2 : ¬ O a.block) (v : Value) : RS (w.setCell a v) rb gb s p R O :=
  h.kept (ex := fun k => k = a.block) (Kept.setCell (ex := fun k => k = a.block) (Kept.refl _ _) (fun _ => rfl) _) (fun e => h1 e.symm) (fun b hb e => h2 (e ▸ hb))
theorem RS.setRow (h : RS w rb gb s p R O) {g : Nat} (h1 : g ≠ rb) (h2 : ¬ O g) (c : Array Value) : RS (w.setRow g c) rb gb s p R O :=
  h.kept (ex := fun k => k = g) (Kept.setRow (ex := fun k => k = g) (Kept.refl _ _) (fun _ => rfl) _) (fun e => h1 e.symm) (fun b hb e => h2 (e ▸ hb))
/-- The reader has moved, and no more. -/
theorem RS.moved {q : Nat} (h : RS w rb gb s p R O) (hr : Rd w' rb s q gb) (k : Kept (· = rb) w w') : RS w' rb gb s q R O := by
  obtain ⟨fv, lv, hru⟩ := h.ru
  exact ⟨hr, ⟨fv, lv, hru.kept k (fun b hb e => h.no (e ▸ hb))⟩, h.no⟩
/-- The rules have turned, and no more. -/
theorem RS.turned {R' : RulesT} (h : RS w rb gb s p R O) {fv lv : Value} (hr : RulesAt w' gb O R' fv lv) (k : Kept O w w') : RS w' rb gb s p R' O :=
  ⟨Blk.kept h.rd k h.no, ⟨fv, lv, hr⟩, h.no⟩
theorem RS.turned' {R' : RulesT} {O' : Nat → Prop} (h : RS w rb gb s p R O) {fv lv : Value} (hr : RulesAt w' gb O' R' fv lv) (k : Kept O w w') (ho : ∀ k, O' k → O k ∨ w.heap.size ≤ k) : RS w' rb gb s p R' O' :=
  ⟨Blk.kept h.rd k h.no, ⟨fv, lv, hr⟩, fun e => by
    rcases ho rb e with e | e
    · exact h.no e
    · have := h.lt; omega⟩
end

/-- The walk's steps at a whole part. -/
theorem loadP {q : PartT} {ops : Array Oper} {rest : List Oper} {o : Oper} {a : Act} {w : World} {Q : Exit → Act → World → Prop} (hgd : o.guard = none) (x : Operand) (ho : o.op = .load 213 x)
    (g : Nat) (hx : a.eval x = .pointer (some ⟨g, 0, none⟩)) (hb : Blk w g (partC q) 213)
    (h : wpList Try.prog ops Q rest (a.put o.dst (partV q)) w) : wpList Try.prog ops Q (o :: rest) a w :=
  wpList_load_row hgd 213 x ho g hx 213 _ (0, 0) _ hb Try.underlying213 rfl Try.infoP h
theorem partC_one (q : PartT) : (partC q).all (·.oneCell') = true := by simp [Value.oneCell']
theorem storeP {q : PartT} {ops : Array Oper} {rest : List Oper} {o : Oper} {a : Act} {w : World} {Q : Exit → Act → World → Prop} (hgd : o.guard = none) (x y : Operand) (ho : o.op = .store 213 x y)
    (g : Nat) (hx : a.eval x = .pointer (some ⟨g, 0, none⟩)) (hy : a.eval y = partV q) {old : Array Value} (hb : Blk w g old 213) (hold : old.size = 5)
    (h : wpList Try.prog ops Q rest (a.put o.dst undef) (w.setRow g (partC q))) : wpList Try.prog ops Q (o :: rest) a w :=
  wpList_store_row hgd 213 x y ho g _ hx hy 213 _ hb Try.infoP hold (partC_one q) h
theorem resultsPartTmp {fn : Func} {p q : Tmp} (h : fn.results = #[.cell p 213, .tmp q]) {x : PartT} (tmps : Array Value) {w : World} {g : Nat}
    (hp : tmps.getD p undef = .pointer (some ⟨g, 0, none⟩)) (hg : Blk w g (partC x) 213) : (results fn tmps).run Try.prog w = .ok (.tuple #[partV x, tmps.getD q undef]) w :=
  results_cell_tmp h tmps w g 213 _ (0, 0) _ hp hg Try.underlying213 rfl Try.infoP
theorem part0_new : part0 = partC PartT.new := rfl

/-- The contract of 'expression' where fuel f is enough. -/
def ExprC (s : ByteArray) (rb gb f : Nat) : Prop := ∀ (w : World) (p : Nat) (R : RulesT) (O : Nat → Prop), RS w rb gb s p R O → p ≤ s.size → R.follow.length ≤ p → s.size - p < f →
  Calls Try.prog 128 #[.pointer (some ⟨rb, 0, none⟩)] w fun e w' =>
    e = .returned (.tuple #[partV (exprF s f p R).part, .bool (exprF s f p R).ok]) ∧ RPost w w' rb gb s O (exprF s f p R).at' (exprF s f p R).rules
end Go.Proofs.Ytmgpdaemcbbikaa
