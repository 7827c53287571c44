import Derived.Test.YtmgpdaemcbbikaaRState
namespace Go.Proofs.Ytmgpdaemcbbikaa
open Go.RowKit Go.Deep
set_option linter.unusedVariables false

/-- The post, moved along. -/
theorem RPost.of {w w1 w' : World} {rb gb : Nat} {s : ByteArray} {O O1 : Nat → Prop} {p : Nat} {R : RulesT} (h : RS w' rb gb s p R O1) (k : Kept (fun k => k = rb ∨ O k) w w') (ho : ∀ k, O1 k → O k ∨ w.heap.size ≤ k) : RPost w w' rb gb s O p R := ⟨O1, h, k, ho⟩

set_option maxHeartbeats 1600000 in
theorem group_any (s : ByteArray) (rb gb f : Nat) (hE : ExprC s rb gb f) (hs : s.size ≤ 120) (w : World) (p : Nat) (R : RulesT) (O : Nat → Prop) (h : RS w rb gb s p R O) (hp : p < s.size) (hR : R.follow.length ≤ p) (hf : s.size - p ≤ f) :
    Calls Try.prog 152 #[.pointer (some ⟨rb, 0, none⟩)] w fun e w' =>
      e = .returned (.tuple #[partV (groupF s (exprF s f) p R).part, .bool (groupF s (exprF s f) p R).ok]) ∧ RPost w w' rb gb s O (groupF s (exprF s f) p R).at' (groupF s (exprF s f) p R).rules := by
  have c1 := h.rd.c1
  have f1 := h.rd.f1
  have hrb := h.lt
  have hK : Kept (fun k => k = rb ∨ O k) w w := Kept.refl _ _
  have nO : ∀ k, O k → k < w.heap.size := h.olt
  have hg := exprF_good s f (p + 1) R (by omega) (by omega)
  have hEc := fun W O h1 => hE W (p + 1) R O h1 (by omega) (by omega) (by omega)
  unfold groupF
  generalize exprF s f (p + 1) R = r at hg hEc ⊢
  obtain ⟨q, ok, p1, R1⟩ := r
  simp only at hEc ⊢
  have htop := hg.top
  have HE := hide hEc
  have HNO := hide nO
  have HS := hide h
  clear hE hEc hg nO h
  cases ok with
  | false =>
    rw [if_neg (by simp)]
    go_enter Try.func152, Try.ntmps152
    go_wp2_with fail
    refine (HE.out _ O (HS.out.set1.alloc _)).mono ?_
    rintro e w1 ⟨rfl, O1, hS1, hk1, ho1⟩
    have hz1 : w.heap.size < w1.heap.size := by have := hk1.size; simp at this; omega
    have nO := HNO.out
    have hZ1 : Blk w1 w.heap.size part0 213 := by
      have h9 := Blk.new (w.setCell ⟨rb, 1, none⟩ (.int .i64 ((p : Int) + 1))) part0 213
      rw [show (w.setCell ⟨rb, 1, none⟩ (.int .i64 ((p : Int) + 1))).heap.size = w.heap.size by simp] at h9
      exact h9.kept hk1 (fun e => by rcases e with e | e; omega; have := nO _ e; omega)
    have hN1 := Blk.new w1 part0 213
    have hZ2 := (hZ1.alloc (.cells part0 213)).setRowOther (g := w1.heap.size) (by omega) (partC q)
    have hkW : Kept (fun k => k = rb ∨ O k) w w1 := ((hK.setCell (fun _ => .inl rfl) _).alloc _).trans' hk1
    have hO1 : ∀ k, O1 k → O k ∨ w.heap.size < k := by
      intro k hk
      rcases ho1 k hk with e | e
      · exact .inl e
      · exact .inr (by simp at e; omega)
    have HH : Hid (RS w1 rb gb s p1 R1 O1 ∧ Kept (fun k => k = rb ∨ O k) w w1 ∧ (∀ k, O1 k → O k ∨ w.heap.size < k)) := ⟨hS1, hkW, hO1⟩
    clear hS1 hk1 ho1 hkW hO1 nO
    go_wp2_with (first | refine storeP rfl (.tmp 4) (.tmp 16) rfl w1.heap.size rfl rfl hN1 rfl ?_ | refine storeP (q := PartT.new) rfl (.tmp 2) (.tmp 25) rfl w.heap.size rfl rfl hZ2 rfl ?_)
    obtain ⟨hS1, hkW, hO1⟩ := HH.out
    have nO := HNO.out
    have hn0 : ¬ O1 w.heap.size := fun e => by rcases hO1 _ e with e | e; have := nO _ e; omega; omega
    have hn1 : ¬ O1 w1.heap.size := fun e => by have := hS1.olt _ e; omega
    refine bodyPost_ret (resultsPartTmp Try.results152 _ rfl (hZ2.setRow _)) rfl ⟨rfl, O1, (((hS1.alloc _).setRow (by omega) hn1 _).setRow (by omega) hn0 _), ?_, ?_⟩
    · exact ((hkW.alloc _).setRow (by omega) _).setRow (by omega) _
    · exact fun k hk => (hO1 k hk).imp id (fun e => by omega)
  | true =>
    by_cases h41 : peekI s p1 = 41
    · rw [if_pos ⟨rfl, h41⟩]
      go_enter Try.func152, Try.ntmps152
      go_wp2_with fail
      refine (HE.out _ O (HS.out.set1.alloc _)).mono ?_
      rintro e w1 ⟨rfl, O1, hS1, hk1, ho1⟩
      have hz1 : w.heap.size < w1.heap.size := by have := hk1.size; simp at this; omega
      have nO := HNO.out
      have hZ1 : Blk w1 w.heap.size part0 213 := by
        have h9 := Blk.new (w.setCell ⟨rb, 1, none⟩ (.int .i64 ((p : Int) + 1))) part0 213
        rw [show (w.setCell ⟨rb, 1, none⟩ (.int .i64 ((p : Int) + 1))).heap.size = w.heap.size by simp] at h9
        exact h9.kept hk1 (fun e => by rcases e with e | e; omega; have := nO _ e; omega)
      have hN1 := Blk.new w1 part0 213
      have hZ2 := (hZ1.alloc (.cells part0 213)).setRowOther (g := w1.heap.size) (by omega) (partC q)
      have hkW : Kept (fun k => k = rb ∨ O k) w w1 := ((hK.setCell (fun _ => .inl rfl) _).alloc _).trans' hk1
      have hO1 : ∀ k, O1 k → O k ∨ w.heap.size < k := by
        intro k hk
        rcases ho1 k hk with e | e
        · exact .inl e
        · exact .inr (by simp at e; omega)
      have HH : Hid (RS w1 rb gb s p1 R1 O1 ∧ Kept (fun k => k = rb ∨ O k) w w1 ∧ (∀ k, O1 k → O k ∨ w.heap.size < k)) := ⟨hS1, hkW, hO1⟩
      clear hS1 hk1 ho1 hkW hO1 nO
      have hr2 : Rd ((w1.alloc (.cells part0 213)).setRow w1.heap.size (partC q)) rb s p1 gb := Blk.setRowOther (Blk.alloc (HH.out.1.rd) _) (by have := HH.out.1.lt; omega) _
      have hI2 : Blk ((w1.alloc (.cells part0 213)).setRow w1.heap.size (partC q)) w1.heap.size (partC q) 213 := hN1.setRow _
      have c2 := hr2.c1
      have f2 := hr2.f1
      go_wp2_with (first | refine storeP rfl (.tmp 4) (.tmp 16) rfl w1.heap.size rfl rfl hN1 rfl ?_)
      refine (peek_any s p1 rb gb _ hr2 hs (by omega)).mono ?_
      rintro e w2 ⟨rfl, n, rfl⟩
      rw [h41]
      have hI3 := (hI2.drewN n).setOther (p := ⟨rb, 1, none⟩) (by simp; have := HH.out.1.lt; omega) (.int .i64 ((p1 : Int) + 1))
      have hZ3 := (hZ2.drewN n).setOther (p := ⟨rb, 1, none⟩) (by simp; omega) (.int .i64 ((p1 : Int) + 1))
      go_wp2_with (first | refine loadP rfl (.tmp 4) rfl w1.heap.size rfl hI3 ?_ | refine storeP rfl (.tmp 2) (.tmp 33) rfl w.heap.size rfl rfl hZ3 rfl ?_)
      obtain ⟨hS1, hkW, hO1⟩ := HH.out
      have nO := HNO.out
      have hn0 : ¬ O1 w.heap.size := fun e => by rcases hO1 _ e with e | e; have := nO _ e; omega; omega
      have hn1 : ¬ O1 w1.heap.size := fun e => by have := hS1.olt _ e; omega
      have hl1 := hS1.lt
      refine bodyPost_ret (resultsPartTmp Try.results152 _ rfl (hZ3.setRow _)) rfl ⟨rfl, O1, ((((hS1.alloc _).setRow (by omega) hn1 _).drewN n).set1).setRow (by omega) hn0 _, ?_, ?_⟩
      · exact ((((hkW.alloc _).setRow (by omega) _).drewN n).setCell (fun _ => .inl rfl) _).setRow (by omega) _
      · exact fun k hk => (hO1 k hk).imp id (fun e => by omega)
    · rw [if_neg (by simp [h41])]
      have e41 : (peekI s p1 != 41) = true := by simp [h41]
      go_enter Try.func152, Try.ntmps152
      go_wp2_with fail
      refine (HE.out _ O (HS.out.set1.alloc _)).mono ?_
      rintro e w1 ⟨rfl, O1, hS1, hk1, ho1⟩
      have hz1 : w.heap.size < w1.heap.size := by have := hk1.size; simp at this; omega
      have nO := HNO.out
      have hZ1 : Blk w1 w.heap.size part0 213 := by
        have h9 := Blk.new (w.setCell ⟨rb, 1, none⟩ (.int .i64 ((p : Int) + 1))) part0 213
        rw [show (w.setCell ⟨rb, 1, none⟩ (.int .i64 ((p : Int) + 1))).heap.size = w.heap.size by simp] at h9
        exact h9.kept hk1 (fun e => by rcases e with e | e; omega; have := nO _ e; omega)
      have hN1 := Blk.new w1 part0 213
      have hZ2 := (hZ1.alloc (.cells part0 213)).setRowOther (g := w1.heap.size) (by omega) (partC q)
      have hkW : Kept (fun k => k = rb ∨ O k) w w1 := ((hK.setCell (fun _ => .inl rfl) _).alloc _).trans' hk1
      have hO1 : ∀ k, O1 k → O k ∨ w.heap.size < k := by
        intro k hk
        rcases ho1 k hk with e | e
        · exact .inl e
        · exact .inr (by simp at e; omega)
      have HH : Hid (RS w1 rb gb s p1 R1 O1 ∧ Kept (fun k => k = rb ∨ O k) w w1 ∧ (∀ k, O1 k → O k ∨ w.heap.size < k)) := ⟨hS1, hkW, hO1⟩
      clear hS1 hk1 ho1 hkW hO1 nO
      have hr2 : Rd ((w1.alloc (.cells part0 213)).setRow w1.heap.size (partC q)) rb s p1 gb := Blk.setRowOther (Blk.alloc (HH.out.1.rd) _) (by have := HH.out.1.lt; omega) _
      go_wp2_with (first | refine storeP rfl (.tmp 4) (.tmp 16) rfl w1.heap.size rfl rfl hN1 rfl ?_)
      refine (peek_any s p1 rb gb _ hr2 hs (by omega)).mono ?_
      rintro e w2 ⟨rfl, n, rfl⟩
      have hZ3 := hZ2.drewN n
      go_wp2_with (first | refine storeP (q := PartT.new) rfl (.tmp 2) (.tmp 25) rfl w.heap.size rfl rfl hZ3 rfl ?_)
      obtain ⟨hS1, hkW, hO1⟩ := HH.out
      have nO := HNO.out
      have hn0 : ¬ O1 w.heap.size := fun e => by rcases hO1 _ e with e | e; have := nO _ e; omega; omega
      have hn1 : ¬ O1 w1.heap.size := fun e => by have := hS1.olt _ e; omega
      have hl1 := hS1.lt
      refine bodyPost_ret (resultsPartTmp Try.results152 _ rfl (hZ3.setRow _)) rfl ⟨rfl, O1, (((hS1.alloc _).setRow (by omega) hn1 _).drewN n).setRow (by omega) hn0 _, ?_, ?_⟩
      · exact (((hkW.alloc _).setRow (by omega) _).drewN n).setRow (by omega) _
      · exact fun k hk => (hO1 k hk).imp id (fun e => by omega)
end Go.Proofs.Ytmgpdaemcbbikaa
