import Derived.Test.YtcckhngbdoiikaaN23

namespace Go.Proofs.Ytcckhngbdoiikaa
open Go.RowKit Go.Deep
set_option linter.unusedVariables false

/-- The post, moved along. -/
theorem RPost.of {w w1 w' : World} {rb gb : Nat} {s : ByteArray} {O O1 : Nat → Prop} {p : Nat} {R : RulesT} (h : RS w' rb gb s p R O1) (k : Kept (fun k => k = rb ∨ O k) w w') (ho : ∀ k, O1 k → O k ∨ w.heap.size ≤ k) : RPost w w' rb gb s O p R := ⟨O1, h, k, ho⟩

set_option maxHeartbeats 1600000 in
theorem group_any (s : ByteArray) (rb gb f : Nat) (hE : ExprG s rb gb f) (hs : s.size ≤ 120) (w : World) (p : Nat) (R : RulesT) (O : Nat → Prop) (h : RS w rb gb s p R O) (hp : p < s.size) (hR : R.follow.length ≤ p) (hf : s.size - p ≤ f) :
    Calls Try.prog 161 #[.pointer (some ⟨rb, 0, none⟩)] w fun e w' =>
      e = .returned (.tuple #[partV (groupF s (exprF s f) p R).part, .bool (groupF s (exprF s f) p R).ok]) ∧ RPost w w' rb gb s O (groupF s (exprF s f) p R).at' (groupF s (exprF s f) p R).rules := by
  have c1 := h.rd.c1
  have f1 := h.rd.f1
  have hrb := h.lt
  have hK : Kept (fun k => k = rb ∨ O k) w w := Kept.refl _ _
  have nO : ∀ k, O k → k < w.heap.size := h.olt
  have hg := exprF_good s f (p + 1) R (by omega) (by omega)
  have hEc := fun W O h1 => hE W (p + 1) R O h1 (by omega) (by omega) (by omega)
  unfold groupF
  generalize exprF s f (p + 1) R = r at hg hEc ⊢
  obtain ⟨q, ok, p1, R1⟩ := r
  simp only at hEc ⊢
  have htop := hg.top
  have HE := hide hEc
  have HNO := hide nO
  have HS := hide h
  clear hE hEc hg nO h
  cases ok with
  | false =>
    rw [if_neg (by simp)]
    go_enter Try.func161, Try.ntmps161
    go_wp2_with fail
    refine (HE.out _ O (HS.out.set1.alloc _)).mono ?_
    rintro e w1 ⟨rfl, O1, hS1, hk1, ho1⟩
    have hz1 : w.heap.size < w1.heap.size := by have := hk1.size; simp at this; omega
    have nO := HNO.out
    have hZ1 : Blk w1 w.heap.size part0 222 := by
      have h9 := Blk.new (w.setCell ⟨rb, 1, none⟩ (.int .i64 ((p : Int) + 1))) part0 222
      rw [show (w.setCell ⟨rb, 1, none⟩ (.int .i64 ((p : Int) + 1))).heap.size = w.heap.size by simp] at h9
      exact h9.kept hk1 (fun e => by rcases e with e | e; omega; have := nO _ e; omega)
    have hN1 := Blk.new w1 part0 222
    have hZ2 := (hZ1.alloc (.cells part0 222)).setRowOther (g := w1.heap.size) (by omega) (partC q)
    have hkW : Kept (fun k => k = rb ∨ O k) w w1 := ((hK.setCell (fun _ => .inl rfl) _).alloc _).trans' hk1
    have hO1 : ∀ k, O1 k → O k ∨ w.heap.size < k := by
      intro k hk
      rcases ho1 k hk with e | e
      · exact .inl e
      · exact .inr (by simp at e; omega)
    have HH : Hid (RS w1 rb gb s p1 R1 O1 ∧ Kept (fun k => k = rb ∨ O k) w w1 ∧ (∀ k, O1 k → O k ∨ w.heap.size < k)) := ⟨hS1, hkW, hO1⟩
    clear hS1 hk1 ho1 hkW hO1 nO
    go_wp2_with (first | refine storeP rfl (.tmp 4) (.tmp 16) rfl w1.heap.size rfl rfl hN1 rfl ?_ | refine storeP (q := PartT.new) rfl (.tmp 2) (.tmp 25) rfl w.heap.size rfl rfl hZ2 rfl ?_)
    obtain ⟨hS1, hkW, hO1⟩ := HH.out
    have nO := HNO.out
    have hn0 : ¬ O1 w.heap.size := fun e => by rcases hO1 _ e with e | e; have := nO _ e; omega; omega
    have hn1 : ¬ O1 w1.heap.size := fun e => by have := hS1.olt _ e; omega
    refine bodyPost_ret (resultsPartTmp Try.results161 _ rfl (hZ2.setRow _)) rfl ⟨rfl, O1, (((hS1.alloc _).setRow (by omega) hn1 _).setRow (by omega) hn0 _), ?_, ?_⟩
    · exact ((hkW.alloc _).setRow (by omega) _).setRow (by omega) _
    · exact fun k hk => (hO1 k hk).imp id (fun e => by omega)
  | true =>
    by_cases h41 : peekI s p1 = 41
    · rw [if_pos ⟨rfl, h41⟩]
      go_enter Try.func161, Try.ntmps161
      go_wp2_with fail
      refine (HE.out _ O (HS.out.set1.alloc _)).mono ?_
      rintro e w1 ⟨rfl, O1, hS1, hk1, ho1⟩
      have hz1 : w.heap.size < w1.heap.size := by have := hk1.size; simp at this; omega
      have nO := HNO.out
      have hZ1 : Blk w1 w.heap.size part0 222 := by
        have h9 := Blk.new (w.setCell ⟨rb, 1, none⟩ (.int .i64 ((p : Int) + 1))) part0 222
        rw [show (w.setCell ⟨rb, 1, none⟩ (.int .i64 ((p : Int) + 1))).heap.size = w.heap.size by simp] at h9
        exact h9.kept hk1 (fun e => by rcases e with e | e; omega; have := nO _ e; omega)
      have hN1 := Blk.new w1 part0 222
      have hZ2 := (hZ1.alloc (.cells part0 222)).setRowOther (g := w1.heap.size) (by omega) (partC q)
      have hkW : Kept (fun k => k = rb ∨ O k) w w1 := ((hK.setCell (fun _ => .inl rfl) _).alloc _).trans' hk1
      have hO1 : ∀ k, O1 k → O k ∨ w.heap.size < k := by
        intro k hk
        rcases ho1 k hk with e | e
        · exact .inl e
        · exact .inr (by simp at e; omega)
      have HH : Hid (RS w1 rb gb s p1 R1 O1 ∧ Kept (fun k => k = rb ∨ O k) w w1 ∧ (∀ k, O1 k → O k ∨ w.heap.size < k)) := ⟨hS1, hkW, hO1⟩
      clear hS1 hk1 ho1 hkW hO1 nO
      have hr2 : Rd ((w1.alloc (.cells part0 222)).setRow w1.heap.size (partC q)) rb s p1 gb := Blk.setRowOther (Blk.alloc (HH.out.1.rd) _) (by have := HH.out.1.lt; omega) _
      have hI2 : Blk ((w1.alloc (.cells part0 222)).setRow w1.heap.size (partC q)) w1.heap.size (partC q) 222 := hN1.setRow _
      have c2 := hr2.c1
      have f2 := hr2.f1
      go_wp2_with (first | refine storeP rfl (.tmp 4) (.tmp 16) rfl w1.heap.size rfl rfl hN1 rfl ?_)
      refine (peek_any s p1 rb gb _ hr2 hs (by omega)).mono ?_
      rintro e w2 ⟨rfl, n, rfl⟩
      rw [h41]
      have hI3 := (hI2.drewN n).setOther (p := ⟨rb, 1, none⟩) (by simp; have := HH.out.1.lt; omega) (.int .i64 ((p1 : Int) + 1))
      have hZ3 := (hZ2.drewN n).setOther (p := ⟨rb, 1, none⟩) (by simp; omega) (.int .i64 ((p1 : Int) + 1))
      go_wp2_with (first | refine loadP rfl (.tmp 4) rfl w1.heap.size rfl hI3 ?_ | refine storeP rfl (.tmp 2) (.tmp 33) rfl w.heap.size rfl rfl hZ3 rfl ?_)
      obtain ⟨hS1, hkW, hO1⟩ := HH.out
      have nO := HNO.out
      have hn0 : ¬ O1 w.heap.size := fun e => by rcases hO1 _ e with e | e; have := nO _ e; omega; omega
      have hn1 : ¬ O1 w1.heap.size := fun e => by have := hS1.olt _ e; omega
      have hl1 := hS1.lt
      refine bodyPost_ret (resultsPartTmp Try.results161 _ rfl (hZ3.setRow _)) rfl ⟨rfl, O1, ((((hS1.alloc _).setRow (by omega) hn1 _).drewN n).set1).setRow (by omega) hn0 _, ?_, ?_⟩
      · exact ((((hkW.alloc _).setRow (by omega) _).drewN n).setCell (fun _ => .inl rfl) _).setRow (by omega) _
      · exact fun k hk => (hO1 k hk).imp id (fun e => by omega)
    · rw [if_neg (by simp [h41])]
      have e41 : (peekI s p1 != 41) = true := by simp [h41]
      go_enter Try.func161, Try.ntmps161
      go_wp2_with fail
      refine (HE.out _ O (HS.out.set1.alloc _)).mono ?_
      rintro e w1 ⟨rfl, O1, hS1, hk1, ho1⟩
      have hz1 : w.heap.size < w1.heap.size := by have := hk1.size; simp at this; omega
      have nO := HNO.out
      have hZ1 : Blk w1 w.heap.size part0 222 := by
        have h9 := Blk.new (w.setCell ⟨rb, 1, none⟩ (.int .i64 ((p : Int) + 1))) part0 222
        rw [show (w.setCell ⟨rb, 1, none⟩ (.int .i64 ((p : Int) + 1))).heap.size = w.heap.size by simp] at h9
        exact h9.kept hk1 (fun e => by rcases e with e | e; omega; have := nO _ e; omega)
      have hN1 := Blk.new w1 part0 222
      have hZ2 := (hZ1.alloc (.cells part0 222)).setRowOther (g := w1.heap.size) (by omega) (partC q)
      have hkW : Kept (fun k => k = rb ∨ O k) w w1 := ((hK.setCell (fun _ => .inl rfl) _).alloc _).trans' hk1
      have hO1 : ∀ k, O1 k → O k ∨ w.heap.size < k := by
        intro k hk
        rcases ho1 k hk with e | e
        · exact .inl e
        · exact .inr (by simp at e; omega)
      have HH : Hid (RS w1 rb gb s p1 R1 O1 ∧ Kept (fun k => k = rb ∨ O k) w w1 ∧ (∀ k, O1 k → O k ∨ w.heap.size < k)) := ⟨hS1, hkW, hO1⟩
      clear hS1 hk1 ho1 hkW hO1 nO
      have hr2 : Rd ((w1.alloc (.cells part0 222)).setRow w1.heap.size (partC q)) rb s p1 gb := Blk.setRowOther (Blk.alloc (HH.out.1.rd) _) (by have := HH.out.1.lt; omega) _
      go_wp2_with (first | refine storeP rfl (.tmp 4) (.tmp 16) rfl w1.heap.size rfl rfl hN1 rfl ?_)
      refine (peek_any s p1 rb gb _ hr2 hs (by omega)).mono ?_
      rintro e w2 ⟨rfl, n, rfl⟩
      have hZ3 := hZ2.drewN n
      go_wp2_with (first | refine storeP (q := PartT.new) rfl (.tmp 2) (.tmp 25) rfl w.heap.size rfl rfl hZ3 rfl ?_)
      obtain ⟨hS1, hkW, hO1⟩ := HH.out
      have nO := HNO.out
      have hn0 : ¬ O1 w.heap.size := fun e => by rcases hO1 _ e with e | e; have := nO _ e; omega; omega
      have hn1 : ¬ O1 w1.heap.size := fun e => by have := hS1.olt _ e; omega
      have hl1 := hS1.lt
      refine bodyPost_ret (resultsPartTmp Try.results161 _ rfl (hZ3.setRow _)) rfl ⟨rfl, O1, (((hS1.alloc _).setRow (by omega) hn1 _).drewN n).setRow (by omega) hn0 _, ?_, ?_⟩
      · exact (((hkW.alloc _).setRow (by omega) _).drewN n).setRow (by omega) _
      · exact fun k hk => (hO1 k hk).imp id (fun e => by omega)
end Go.Proofs.Ytcckhngbdoiikaa

namespace Go.Proofs.Ytcckhngbdoiikaa
open Go.RowKit Go.Deep
/-- A method of the reader that answers a part. -/
def PartC (fn : Nat) (s : ByteArray) (rb gb f : Nat) (F : PFn) : Prop := ∀ (w : World) (p : Nat) (R : RulesT) (O : Nat → Prop), RS w rb gb s p R O → p ≤ s.size → R.follow.length ≤ p → s.size - p ≤ f →
  Calls Try.prog fn #[.pointer (some ⟨rb, 0, none⟩)] w fun e w' =>
    e = .returned (.tuple #[partV (F p R).part, .bool (F p R).ok]) ∧ RPost w w' rb gb s O (F p R).at' (F p R).rules
end Go.Proofs.Ytcckhngbdoiikaa

namespace Go.Proofs.Ytcckhngbdoiikaa
open Go.RowKit Go.Deep
set_option linter.unusedVariables false

theorem rangeAt_set {w : World} {b o : Nat} {cs : List Value} (h : w.rangeAt b o cs) {a : Addr} (hne : a.block ≠ b) (v : Value) : (w.setCell a v).rangeAt b o cs := fun j u hu => by
  rw [World.cell?_setCell_far _ _ _ _ hne]; exact h j u hu
theorem rangeAt_blk {w : World} {b : Nat} {c : Array Value} {t : TypeId} (h : Blk w b c t) : w.rangeAt b 0 c.toList := fun j v hv => by
  rw [Nat.zero_add, h.cell]; simpa using hv

set_option maxRecDepth 4000 in
set_option maxHeartbeats 800000 in
theorem atom_any (s : ByteArray) (rb gb f : Nat) (hE : ExprG s rb gb f) (hs : s.size ≤ 120) (w : World) (p : Nat) (R : RulesT) (O : Nat → Prop) (h : RS w rb gb s p R O) (hp : p ≤ s.size) (hR : R.follow.length ≤ p) (hf : s.size - p ≤ f) :
    Calls Try.prog 159 #[.pointer (some ⟨rb, 0, none⟩)] w fun e w' =>
      e = .returned (.tuple #[partV (atomF s (exprF s f) p R).part, .bool (atomF s (exprF s f) p R).ok]) ∧ RPost w w' rb gb s O (atomF s (exprF s f) p R).at' (atomF s (exprF s f) p R).rules := by
  have hrb := h.lt
  have hK : Kept (fun k => k = rb ∨ O k) w w := Kept.refl _ _
  have nO : ∀ k, O k → k < w.heap.size := h.olt
  have hnO : ¬ O w.heap.size := fun e => by have := nO _ e; omega
  unfold atomF
  by_cases h40 : peekI s p = 40
  · rw [if_pos h40]
    have hpl : p < s.size := peekI_in (by rw [h40]; decide)
    have hGc := fun W O h1 => group_any s rb gb f hE hs W p R O h1 hpl hR hf
    generalize groupF s (exprF s f) p R = r at hGc ⊢
    obtain ⟨q, ok, p1, R1⟩ := r
    simp only at hGc ⊢
    have HG := hide hGc
    have HS := hide h
    have HNO := hide nO
    clear hGc hE h nO
    go_enter Try.func159, Try.ntmps159
    go_wp2_with fail
    refine (peek_any s p rb gb _ (HS.out.rd.alloc _) hs (by omega)).mono ?_
    rintro e w1 ⟨rfl, n, rfl⟩
    rw [h40]
    go_wp2_with fail
    refine (HG.out _ O ((HS.out.alloc _).drewN n)).mono ?_
    rintro e w1 ⟨rfl, O1, hS1, hk1, ho1⟩
    have hZ1 : Blk w1 w.heap.size part0 222 := ((Blk.new w part0 222).drewN n).kept hk1 (fun e => by rcases e with e | e; omega; exact hnO e)
    go_wp2_with (refine storeP rfl (.tmp 2) (.tmp 11) rfl w.heap.size rfl rfl hZ1 rfl ?_)
    have nO := HNO.out
    have hO1 : ∀ k, O1 k → O k ∨ w.heap.size < k := by
      intro k hk
      rcases ho1 k hk with e | e
      · exact .inl e
      · exact .inr (by simp at e; omega)
    have hn0 : ¬ O1 w.heap.size := fun e => by rcases hO1 _ e with e | e; have := nO _ e; omega; omega
    refine bodyPost_ret (resultsPartTmp Try.results159 _ rfl (hZ1.setRow _)) rfl ⟨rfl, O1, hS1.setRow (by omega) hn0 _, ?_, ?_⟩
    · exact (((hK.alloc _).drewN n).trans' hk1).setRow (by omega) _
    · exact fun k hk => (hO1 k hk).imp id (fun e => by omega)
  rw [if_neg h40]
  have e40 : (peekI s p == 40) = false := by simp [h40]
  have hPc := fun W h1 => place_any s p rb gb W h1 hs hp
  generalize placeF s p = r at hPc ⊢
  obtain ⟨A, ok, p1⟩ := r
  simp only at hPc ⊢
  have HP := hide hPc
  have HS := hide h
  have HNO := hide nO
  clear hPc hE h nO h40
  cases ok with
  | false =>
    rw [if_neg (by simp)]
    go_enter Try.func159, Try.ntmps159
    go_wp2_with fail
    refine (peek_any s p rb gb _ (HS.out.rd.alloc _) hs (by omega)).mono ?_
    rintro e w1 ⟨rfl, n, rfl⟩
    go_wp2_with fail
    refine (HP.out _ ((HS.out.rd.alloc _).drewN n)).mono ?_
    rintro e w1 ⟨rfl, hr1, hk1⟩
    have hS1 := ((HS.out.alloc _).drewN n).moved hr1 hk1
    have hZ1 : Blk w1 w.heap.size part0 222 := ((Blk.new w part0 222).drewN n).kept hk1 (by omega)
    have hz1 := hZ1.lt
    have hN1 := Blk.new w1 Try.zeroCells240 240
    have hZ2 := (hZ1.alloc (.cells Try.zeroCells240 240)).setRowOther (g := w1.heap.size) (by omega) (boolsC A)
    have hkW : Kept (fun k => k = rb ∨ O k) w w1 := ((hK.alloc _).drewN n).trans hk1 (fun i _ e => .inl e)
    have HH : Hid (RS w1 rb gb s p1 R O ∧ Kept (fun k => k = rb ∨ O k) w w1) := ⟨hS1, hkW⟩
    clear hS1 hr1 hk1 hkW
    go_wp2_with (first | refine store256 rfl (.tmp 4) (.tmp 16) rfl w1.heap.size rfl rfl hN1 zero256 ?_ | refine storeP (q := PartT.new) rfl (.tmp 2) (.tmp 20) rfl w.heap.size rfl rfl hZ2 rfl ?_)
    obtain ⟨hS1, hkW⟩ := HH.out
    have hn1 : ¬ O w1.heap.size := fun e => by have := HNO.out _ e; omega
    refine bodyPost_ret (resultsPartTmp Try.results159 _ rfl (hZ2.setRow _)) rfl ⟨rfl, O, ((hS1.alloc _).setRow (by omega) hn1 _).setRow (by omega) hnO _, ?_, fun k hk => .inl hk⟩
    exact ((hkW.alloc _).setRow (by omega) _).setRow (by omega) _
  | true =>
    rw [if_pos rfl]
    go_enter Try.func159, Try.ntmps159
    go_wp2_with fail
    refine (peek_any s p rb gb _ (HS.out.rd.alloc _) hs (by omega)).mono ?_
    rintro e w1 ⟨rfl, n, rfl⟩
    go_wp2_with fail
    refine (HP.out _ ((HS.out.rd.alloc _).drewN n)).mono ?_
    rintro e w1 ⟨rfl, hr1, hk1⟩
    have hS1 := ((HS.out.alloc _).drewN n).moved hr1 hk1
    have hZ1 : Blk w1 w.heap.size part0 222 := ((Blk.new w part0 222).drewN n).kept hk1 (by omega)
    have hz1 := hZ1.lt
    have hN1 := Blk.new w1 Try.zeroCells240 240
    have hkW : Kept (fun k => k = rb ∨ O k) w w1 := ((hK.alloc _).drewN n).trans hk1 (fun i _ e => .inl e)
    have hn1 : ¬ O w1.heap.size := fun e => by have := HNO.out _ e; omega
    have hl1 := hS1.lt
    have hS2 := (hS1.alloc (.cells Try.zeroCells240 240)).setRow (g := w1.heap.size) (by omega) hn1 (boolsC A)
    have hk2 := (hkW.alloc (.cells Try.zeroCells240 240)).setRow (g := w1.heap.size) (by omega) (boolsC A)
    have hZ2 := (hZ1.alloc (.cells Try.zeroCells240 240)).setRowOther (g := w1.heap.size) (by omega) (boolsC A)
    have hA2 := hN1.setRow (boolsC A)
    clear hS1 hr1 hk1 hkW hZ1
    go_wp2_with (first | refine store256 rfl (.tmp 4) (.tmp 16) rfl w1.heap.size rfl rfl hN1 zero256 ?_)
    generalize (w1.alloc (.cells Try.zeroCells240 240)).setRow w1.heap.size (boolsC A) = w2 at hS2 hk2 hZ2 hA2 ⊢
    obtain ⟨fv, lv, hRu⟩ := hS2.ru
    have c2 : w2.cell? ⟨rb, 2, none⟩ = some (.pointer (some ⟨gb, 0, none⟩)) := hS2.rd.c2
    have hrg := rangeAt_blk hA2
    have hu := Try.underlying240
    have hi : (Try.prog.info? 240).map (·.size) = some (boolsC A).toList.length := by rw [Array.length_toList, boolsC_size]; exact Try.infoB
    have hcl : (boolsC A).toList.length = 256 := by rw [Array.length_toList, boolsC_size]
    have hone : ∀ v ∈ (boolsC A).toList, v.oneCell' = true := fun v hv => (Array.all_eq_true_iff_forall_mem.1 (boolsC_one A)) v (by simpa using hv)
    have zZ : w.heap.size < w2.heap.size := hZ2.lt
    have zA : w1.heap.size < w2.heap.size := hA2.lt
    have zr : rb < w2.heap.size := hS2.lt
    have hadd : ∀ W, RulesAt W gb O R fv lv → Calls Try.prog 163 #[.pointer (some ⟨gb, 0, none⟩), .agg (boolsC A).toList.toArray] W fun e w' =>
      e = .returned (partV R.addPart) ∧ ∃ O' fv', RulesAt w' gb O' (R.add A) fv' lv ∧ Kept O W w' ∧ ∀ k, O' k → O k ∨ W.heap.size ≤ k := by
      intro W hW
      rw [Array.toArray_toList]
      exact add_any R gb O fv lv A W hW (by omega)
    have hrk : ∀ W, Blk W w1.heap.size (boolsC A) 240 → W.rangeAt w1.heap.size 0 (boolsC A).toList := fun W hW => rangeAt_blk hW
    generalize (boolsC A).toList = cs at hrg hi hcl hone hadd hrk
    have HADD := hide hadd
    have HRK := hide hrk
    have HH2 : Hid (RS w2 rb gb s p1 R O ∧ Kept (fun k => k = rb ∨ O k) w w2 ∧ Blk w2 w.heap.size part0 222 ∧ RulesAt w2 gb O R fv lv ∧ Blk w2 w1.heap.size (boolsC A) 240) := ⟨hS2, hk2, hZ2, hRu, hA2⟩
    clear hS2 hk2 hZ2 hRu hA2 hN1 hadd hrk
    have hne0 : w.heap.size ≠ rb := by omega
    have hne1 : w.heap.size ≠ w1.heap.size := by omega
    go_region_held3 (fun w' => w'.cell? ⟨rb, 2, none⟩ = some (.pointer (some ⟨gb, 0, none⟩)) ∧ w'.rangeAt w1.heap.size 0 cs)
      (first | with_reducible exact ⟨k1, k2⟩ | exact ⟨by simp [k1, hne0, World.cell?_setCell_far], rangeAt_set (rangeAt_set (rangeAt_set (rangeAt_set (rangeAt_set k2 hne1 _) hne1 _) hne1 _) hne1 _) hne1 _⟩ | exact ⟨c2, hrg⟩)
      (first | (go_at_call 163; refine (HADD.out _ HH2.out.2.2.2.1.drew).mono ?_; rintro e w3 ⟨rfl, O3, fv3, hR3, hk3, ho3⟩; have k1 : w3.cell? ⟨rb, 2, none⟩ = some (.pointer (some ⟨gb, 0, none⟩)) := (hk3.cell (p := ⟨rb, 2, none⟩) zr HH2.out.1.no).trans c2; have k2 : w3.rangeAt w1.heap.size 0 cs := HRK.out _ (HH2.out.2.2.2.2.drew.kept hk3 hn1); have k3 := HH2.out.2.2.1.drew.kept hk3 hnO; have k30 := k3.cell 0; have k31 := k3.cell 1; have k32 := k3.cell 2; have k33 := k3.cell 3; have k34 := k3.cell 4; have k40 := k3.frozen 0; have k41 := k3.frozen 1; have k42 := k3.frozen 2; have k43 := k3.frozen 3; have k44 := k3.frozen 4))
    obtain ⟨hS2, hk2, hZ2, hRu, hA2⟩ := HH2.out
    have hS3 := hS2.drew.turned' hR3 hk3 ho3
    have hn3 : ¬ O3 w.heap.size := fun e => by rcases ho3 _ e with e | e; exact hnO e; simp at e; omega
    have hkW : Kept (fun k => k = rb ∨ O k) w w3 := hk2.drew.trans hk3 (fun i _ e => .inr e)
    go_wp2_with fail
    refine bodyPost_ret (resultsPartTmp (x := R.addPart) Try.results159 _ rfl (((((k3.set 0 _).set 1 _).set 2 _).set 3 _).set 4 _)) rfl ⟨rfl, O3, ((((hS3.setOther hne0 hn3 _).setOther hne0 hn3 _).setOther hne0 hn3 _).setOther hne0 hn3 _).setOther hne0 hn3 _, ?_, ?_⟩
    · exact ((((hkW.setCell (by simp) _).setCell (by simp) _).setCell (by simp) _).setCell (by simp) _).setCell (by simp) _
    · intro k hk
      rcases ho3 k hk with e | e
      · exact .inl e
      · exact .inr (by simp at e; omega)
theorem atom_is (s : ByteArray) (rb gb f : Nat) (hE : ExprG s rb gb f) (hs : s.size ≤ 120) : PartC 159 s rb gb f (atomF s (exprF s f)) :=
  fun w p R O h hp hR hf => atom_any s rb gb f hE hs w p R O h hp hR hf
end Go.Proofs.Ytcckhngbdoiikaa

namespace Go.Proofs.Ytcckhngbdoiikaa
open Go.RowKit Go.Deep
set_option linter.unusedVariables false

set_option maxHeartbeats 1600000 in
theorem piece_any (s : ByteArray) (rb gb f : Nat) (hA : PartC 159 s rb gb f (atomF s (exprF s f))) (hs : s.size ≤ 120) : PartC 156 s rb gb f (pieceF s (exprF s f)) := by
  intro w p R O h hp hR hf
  have hrb := h.lt
  have hK : Kept (fun k => k = rb ∨ O k) w w := Kept.refl _ _
  have nO : ∀ k, O k → k < w.heap.size := h.olt
  have hnO : ¬ O w.heap.size := fun e => by have := nO _ e; omega
  have hg := atomF_good (exprF_good s f) p R hp hR
  have hAc := fun W O h1 => hA W p R O h1 hp hR hf
  unfold pieceF
  generalize atomF s (exprF s f) p R = r at hg hAc ⊢
  obtain ⟨q, ok, p1, R1⟩ := r
  simp only at hAc
  have htop := hg.top
  have hfew := hg.few
  simp only at htop hfew
  generalize hFm : markF s ⟨q, ok, p1, R1⟩ = F
  have HF := hide hFm
  have HA := hide hAc
  have HS := hide h
  have HNO := hide nO
  clear hAc hA h nO hg hFm
  go_enter Try.func156, Try.ntmps156
  go_wp2_with fail
  refine (HA.out _ O (HS.out.alloc _)).mono ?_
  rintro e w1 ⟨rfl, O1, hS1, hk1, ho1⟩
  have nO := HNO.out
  have hZ1 : Blk w1 w.heap.size part0 222 := (Blk.new w part0 222).kept hk1 (fun e => by rcases e with e | e; omega; exact hnO e)
  have hz1 := hZ1.lt
  have hkW : Kept (fun k => k = rb ∨ O k) w w1 := (hK.alloc _).trans' hk1
  have hO1 : ∀ k, O1 k → O k ∨ w.heap.size < k := by
    intro k hk
    rcases ho1 k hk with e | e
    · exact .inl e
    · exact .inr (by simp at e; omega)
  have hn0 : ¬ O1 w.heap.size := fun e => by rcases hO1 _ e with e | e; have := nO _ e; omega; omega
  have hn1 : ¬ O1 w1.heap.size := fun e => by have := hS1.olt _ e; omega
  have hN1 := Blk.new w1 part0 222
  have hl1 := hS1.lt
  have hS2 := (hS1.alloc (.cells part0 222)).setRow (g := w1.heap.size) (by omega) hn1 (partC q)
  have hk2 := (hkW.alloc (.cells part0 222)).setRow (g := w1.heap.size) (by omega) (partC q)
  have hZ2 := (hZ1.alloc (.cells part0 222)).setRowOther (g := w1.heap.size) (by omega) (partC q)
  have hI2 := hN1.setRow (partC q)
  have hne : w1.heap.size ≠ w.heap.size := by omega
  have hne1 : w1.heap.size ≠ rb := by omega
  have hne0 : w.heap.size ≠ rb := by omega
  have hO2 : ∀ k, O1 k → O k ∨ w.heap.size ≤ k := fun k hk => (hO1 k hk).imp id (fun e => by omega)
  have HO := hide hO2
  clear hS1 hk1 ho1 hkW hO1 nO hZ1 hO2 HNO HS HA
  cases ok with
  | false =>
    have hFe : F = ⟨PartT.new, false, p1, R1⟩ := by rw [← HF.out]; rfl
    subst hFe
    clear HF
    go_wp2_with (first | refine storeP rfl (.tmp 4) (.tmp 9) rfl w1.heap.size rfl rfl hN1 rfl ?_ | refine storeP (q := PartT.new) rfl (.tmp 2) (.tmp 13) rfl w.heap.size rfl rfl hZ2 rfl ?_)
    exact bodyPost_ret (resultsPartTmp Try.results156 _ rfl (hZ2.setRow _)) rfl ⟨rfl, O1, hS2.setRow hne0 hn0 _, hk2.setRow (by omega) _, HO.out⟩
  | true =>
    have hr2 := hS2.rd
    go_wp2_with (first | refine storeP rfl (.tmp 4) (.tmp 9) rfl w1.heap.size rfl rfl hN1 rfl ?_)
    refine (peek_any s p1 rb gb _ hr2 hs (by omega)).mono ?_
    rintro e w3 ⟨rfl, n, rfl⟩
    have hS3 := hS2.drewN n
    have hk3 := hk2.drewN n
    have hZ3 := hZ2.drewN n
    have hI3 := hI2.drewN n
    clear hS2 hk2 hZ2 hI2 hr2 hN1
    generalize ((w1.alloc (.cells part0 222)).setRow w1.heap.size (partC q)).drewN n = w2 at hS3 hk3 hZ3 hI3 ⊢
    generalize w1.heap.size = m at hS3 hk3 hZ3 hI3 hne hne1 hn1 hz1 ⊢
    by_cases h42 : peekI s p1 = 42
    · have hFe : F = ⟨{ q with empty := true }, true, p1 + 1, R1.link q.last q.first⟩ := by rw [← HF.out]; simp [markF, h42]
      subst hFe
      clear HF
      rw [h42]
      obtain ⟨fv, lv, hRu⟩ := hS3.ru
      have c2 := hS3.rd.c2
      have c1 := hS3.rd.c1
      have f1 := hS3.rd.f1
      have i0 : w2.cell? ⟨m, 0, none⟩ = some (.int .u64 (q.first.lo.toNat : Int)) := hI3.cell 0
      have i1 : w2.cell? ⟨m, 1, none⟩ = some (.int .u64 (q.first.hi.toNat : Int)) := hI3.cell 1
      have i2 : w2.cell? ⟨m, 2, none⟩ = some (.int .u64 (q.last.lo.toNat : Int)) := hI3.cell 2
      have i3 : w2.cell? ⟨m, 3, none⟩ = some (.int .u64 (q.last.hi.toNat : Int)) := hI3.cell 3
      have zr := hS3.lt
      have zm := hI3.lt
      have hno := hS3.no
      have HH : Hid (RS w2 rb gb s p1 R1 O1 ∧ Kept (fun k => k = rb ∨ O k) w w2 ∧ Blk w2 w.heap.size part0 222 ∧ Blk w2 m (partC q) 222 ∧ RulesAt w2 gb O1 R1 fv lv) := ⟨hS3, hk3, hZ3, hI3, hRu⟩
      clear hS3 hk3 hZ3 hI3 hRu
      go_wp2_with fail
      go_region_held3 (fun w' => w'.cell? ⟨rb, 2, none⟩ = some (.pointer (some ⟨gb, 0, none⟩)) ∧ w'.cell? ⟨m, 0, none⟩ = some (.int .u64 (q.first.lo.toNat : Int)) ∧ w'.cell? ⟨m, 1, none⟩ = some (.int .u64 (q.first.hi.toNat : Int)) ∧ w'.cell? ⟨m, 2, none⟩ = some (.int .u64 (q.last.lo.toNat : Int)) ∧ w'.cell? ⟨m, 3, none⟩ = some (.int .u64 (q.last.hi.toNat : Int)))
        (first | exact ⟨c2, i0, i1, i2, i3⟩ | exact ⟨j0, j1, j2, j3, j4⟩)
        (first | (go_at_call 160; refine (link_any R1 gb O1 fv lv q.last q.first _ HH.out.2.2.2.2.drew (by omega)).mono ?_; rintro e w4 ⟨rfl, hR4, hk4⟩; have j0 := (hk4.cell (p := ⟨rb, 2, none⟩) zr hno).trans c2; have j1 := (hk4.cell (p := ⟨m, 0, none⟩) zm hn1).trans i0; have j2 := (hk4.cell (p := ⟨m, 1, none⟩) zm hn1).trans i1; have j3 := (hk4.cell (p := ⟨m, 2, none⟩) zm hn1).trans i2; have j4 := (hk4.cell (p := ⟨m, 3, none⟩) zm hn1).trans i3))
      obtain ⟨hS3, hk3, hZ3, hI3, hRu⟩ := HH.out
      have hS4 := hS3.drew.turned hR4 hk4
      have hk5 : Kept (fun k => k = rb ∨ O k) w w4 := hk3.drew.trans hk4 (fun i hi e => .inr (by rcases HO.out i e with e | e; exact e; omega))
      have hZ4 := hZ3.drew.kept hk4 hn0
      have hI4 := hI3.drew.kept hk4 hn1
      clear hS3 hk3 hZ3 hI3 hRu HH j0 j1 j2 j3 j4 c2 c1 f1 i0 i1 i2 i3 hR4 hk4
      have c1 := hS4.rd.c1
      have f1 := hS4.rd.f1
      have e4 : w4.cell? ⟨m, 4, none⟩ = some (.bool q.empty) := hI4.cell 4
      have f4 := hI4.frozen 4
      have hI5 := (hI4.set 4 (.bool true)).setOther (p := ⟨rb, 1, none⟩) (by simp; omega) (.int .i64 ((p1 : Int) + 1))
      have hZ5 := (hZ4.setOther (p := ⟨m, 4, none⟩) (by simp; omega) (.bool true)).setOther (p := ⟨rb, 1, none⟩) (by simp; omega) (.int .i64 ((p1 : Int) + 1))
      have hS5 := (hS4.setOther (a := ⟨m, 4, none⟩) hne1 hn1 (.bool true)).set1
      have hk6 := (hk5.setCell (p := ⟨m, 4, none⟩) (by simp; omega) (.bool true)).setCell (p := ⟨rb, 1, none⟩) (fun _ => .inl rfl) (.int .i64 ((p1 : Int) + 1))
      have hI6 : Blk _ m (partC { q with empty := true }) 222 := hI5
      clear hS4 hk5 hZ4 hI4 hI5
      go_wp2_with (first | refine loadP rfl (.tmp 4) rfl m rfl hI6 ?_ | refine storeP rfl (.tmp 2) (.tmp 50) rfl w.heap.size rfl rfl hZ5 rfl ?_)
      exact bodyPost_ret (resultsPartTmp Try.results156 _ rfl (hZ5.setRow _)) rfl ⟨rfl, O1, hS5.setRow hne0 hn0 _, hk6.setRow (by omega) _, HO.out⟩
    have e42 : (peekI s p1 == 42) = false := by simp [h42]
    by_cases h43 : peekI s p1 = 43
    · have hFe : F = ⟨q, true, p1 + 1, R1.link q.last q.first⟩ := by rw [← HF.out]; simp [markF, h43]
      subst hFe
      clear HF
      rw [h43] at e42 ⊢
      obtain ⟨fv, lv, hRu⟩ := hS3.ru
      have c2 := hS3.rd.c2
      have c1 := hS3.rd.c1
      have f1 := hS3.rd.f1
      have i0 : w2.cell? ⟨m, 0, none⟩ = some (.int .u64 (q.first.lo.toNat : Int)) := hI3.cell 0
      have i1 : w2.cell? ⟨m, 1, none⟩ = some (.int .u64 (q.first.hi.toNat : Int)) := hI3.cell 1
      have i2 : w2.cell? ⟨m, 2, none⟩ = some (.int .u64 (q.last.lo.toNat : Int)) := hI3.cell 2
      have i3 : w2.cell? ⟨m, 3, none⟩ = some (.int .u64 (q.last.hi.toNat : Int)) := hI3.cell 3
      have zr := hS3.lt
      have zm := hI3.lt
      have hno := hS3.no
      have HH : Hid (RS w2 rb gb s p1 R1 O1 ∧ Kept (fun k => k = rb ∨ O k) w w2 ∧ Blk w2 w.heap.size part0 222 ∧ Blk w2 m (partC q) 222 ∧ RulesAt w2 gb O1 R1 fv lv) := ⟨hS3, hk3, hZ3, hI3, hRu⟩
      clear hS3 hk3 hZ3 hI3 hRu
      go_wp2_with fail
      go_region_held3 (fun w' => w'.cell? ⟨rb, 2, none⟩ = some (.pointer (some ⟨gb, 0, none⟩)) ∧ w'.cell? ⟨m, 0, none⟩ = some (.int .u64 (q.first.lo.toNat : Int)) ∧ w'.cell? ⟨m, 1, none⟩ = some (.int .u64 (q.first.hi.toNat : Int)) ∧ w'.cell? ⟨m, 2, none⟩ = some (.int .u64 (q.last.lo.toNat : Int)) ∧ w'.cell? ⟨m, 3, none⟩ = some (.int .u64 (q.last.hi.toNat : Int)))
        (first | exact ⟨c2, i0, i1, i2, i3⟩ | exact ⟨j0, j1, j2, j3, j4⟩)
        (first | (go_at_call 160; refine (link_any R1 gb O1 fv lv q.last q.first _ HH.out.2.2.2.2.drew (by omega)).mono ?_; rintro e w4 ⟨rfl, hR4, hk4⟩; have j0 := (hk4.cell (p := ⟨rb, 2, none⟩) zr hno).trans c2; have j1 := (hk4.cell (p := ⟨m, 0, none⟩) zm hn1).trans i0; have j2 := (hk4.cell (p := ⟨m, 1, none⟩) zm hn1).trans i1; have j3 := (hk4.cell (p := ⟨m, 2, none⟩) zm hn1).trans i2; have j4 := (hk4.cell (p := ⟨m, 3, none⟩) zm hn1).trans i3))
      obtain ⟨hS3, hk3, hZ3, hI3, hRu⟩ := HH.out
      have hS4 := hS3.drew.turned hR4 hk4
      have hk5 : Kept (fun k => k = rb ∨ O k) w w4 := hk3.drew.trans hk4 (fun i hi e => .inr (by rcases HO.out i e with e | e; exact e; omega))
      have hZ4 := hZ3.drew.kept hk4 hn0
      have hI4 := hI3.drew.kept hk4 hn1
      clear hS3 hk3 hZ3 hI3 hRu HH j0 j1 j2 j3 j4 c2 c1 f1 i0 i1 i2 i3 hR4 hk4
      have c1 := hS4.rd.c1
      have f1 := hS4.rd.f1
      have hI5 := hI4.setOther (p := ⟨rb, 1, none⟩) (by simp; omega) (.int .i64 ((p1 : Int) + 1))
      have hZ5 := hZ4.setOther (p := ⟨rb, 1, none⟩) (by simp; omega) (.int .i64 ((p1 : Int) + 1))
      have hS5 := hS4.set1
      have hk6 := hk5.setCell (p := ⟨rb, 1, none⟩) (fun _ => .inl rfl) (.int .i64 ((p1 : Int) + 1))
      clear hS4 hk5 hZ4 hI4
      go_wp2_with (first | refine loadP rfl (.tmp 4) rfl m rfl hI5 ?_ | refine storeP rfl (.tmp 2) (.tmp 50) rfl w.heap.size rfl rfl hZ5 rfl ?_)
      exact bodyPost_ret (resultsPartTmp Try.results156 _ rfl (hZ5.setRow _)) rfl ⟨rfl, O1, hS5.setRow hne0 hn0 _, hk6.setRow (by omega) _, HO.out⟩
    have e43 : (peekI s p1 == 43) = false := by simp [h43]
    have hS4 := hS3
    have hk5 := hk3
    have hZ4 := hZ3
    have hI4 := hI3
    have c1 := hS3.rd.c1
    have f1 := hS3.rd.f1
    clear hS3 hk3 hZ3 hI3
    generalize w2 = w4 at hS4 hk5 hZ4 hI4 c1 f1 ⊢
    by_cases h63 : peekI s p1 = 63
    · have hFe : F = ⟨{ q with empty := true }, true, p1 + 1, R1⟩ := by rw [← HF.out]; simp [markF, h63]
      subst hFe
      clear HF
      rw [h63] at e42 e43 ⊢
      have e4 : w4.cell? ⟨m, 4, none⟩ = some (.bool q.empty) := hI4.cell 4
      have f4 := hI4.frozen 4
      have hI5 := (hI4.set 4 (.bool true)).setOther (p := ⟨rb, 1, none⟩) (by simp; omega) (.int .i64 ((p1 : Int) + 1))
      have hZ5 := (hZ4.setOther (p := ⟨m, 4, none⟩) (by simp; omega) (.bool true)).setOther (p := ⟨rb, 1, none⟩) (by simp; omega) (.int .i64 ((p1 : Int) + 1))
      have hS5 := (hS4.setOther (a := ⟨m, 4, none⟩) hne1 hn1 (.bool true)).set1
      have hk6 := (hk5.setCell (p := ⟨m, 4, none⟩) (by simp; omega) (.bool true)).setCell (p := ⟨rb, 1, none⟩) (fun _ => .inl rfl) (.int .i64 ((p1 : Int) + 1))
      have hI6 : Blk _ m (partC { q with empty := true }) 222 := hI5
      clear hS4 hk5 hZ4 hI4 hI5
      go_wp2_with (first | refine loadP rfl (.tmp 4) rfl m rfl hI6 ?_ | refine storeP rfl (.tmp 2) (.tmp 50) rfl w.heap.size rfl rfl hZ5 rfl ?_)
      exact bodyPost_ret (resultsPartTmp Try.results156 _ rfl (hZ5.setRow _)) rfl ⟨rfl, O1, hS5.setRow hne0 hn0 _, hk6.setRow (by omega) _, HO.out⟩
    · have e63 : (peekI s p1 == 63) = false := by simp [h63]
      have hFe : F = ⟨q, true, p1, R1⟩ := by rw [← HF.out]; simp [markF, h42, h43, h63]
      subst hFe
      clear HF h42 h43 h63
      go_wp2_with (first | refine loadP rfl (.tmp 4) rfl m rfl hI4 ?_ | refine storeP rfl (.tmp 2) (.tmp 16) rfl w.heap.size rfl rfl hZ4 rfl ?_)
      exact bodyPost_ret (resultsPartTmp Try.results156 _ rfl (hZ4.setRow _)) rfl ⟨rfl, O1, hS4.setRow hne0 hn0 _, hk5.setRow (by omega) _, HO.out⟩
end Go.Proofs.Ytcckhngbdoiikaa
