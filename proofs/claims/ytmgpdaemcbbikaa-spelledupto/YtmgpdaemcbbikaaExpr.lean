import Derived.Test.YtmgpdaemcbbikaaConts
namespace Go.Proofs.Ytmgpdaemcbbikaa
open Go.RowKit Go.Deep
set_option linter.unusedVariables false

set_option maxHeartbeats 3200000 in
theorem expression_any (s : ByteArray) (rb gb f : Nat) (hP : PartC 143 s rb gb f (alternativeF s (exprF s f))) (hs : s.size ≤ 120) : PartC 128 s rb gb f (expressionF s (exprF s f)) := by
  intro w p R O h hp hR hf
  have hrb := h.lt
  have hK : Kept (fun k => k = rb ∨ O k) w w := Kept.refl _ _
  have nO : ∀ k, O k → k < w.heap.size := h.olt
  have hnO : ¬ O w.heap.size := fun e => by have := nO _ e; omega
  have hgex := exprF_good s f
  have hg := alternativeF_good hgex p R hp hR
  have hPc := fun W O h1 => hP W p R O h1 hp hR hf
  unfold expressionF
  generalize hr0 : alternativeF s (exprF s f) p R = r0 at hg hPc ⊢
  generalize hFm : exprLoopF s (exprF s f) (s.size + 1) r0 = F
  have HF := hide hFm
  have HA := hide hPc
  have HS := hide h
  have HNO := hide nO
  have HP := hide hP
  have HGX := hide hgex
  have HG := hide hg
  clear hPc hP h nO hFm hr0 hg hgex
  go_enter Try.func128, Try.ntmps128
  go_wp2_with fail
  refine (HA.out _ O (HS.out.alloc _)).mono ?_
  rintro e w1 ⟨rfl, O1, hS1, hk1, ho1⟩
  have nO := HNO.out
  have hZ1 : Blk w1 w.heap.size part0 213 := (Blk.new w part0 213).kept hk1 (fun e => by rcases e with e | e; omega; exact hnO e)
  have hz1 := hZ1.lt
  have hkW : Kept (fun k => k = rb ∨ O k) w w1 := (hK.alloc _).trans' hk1
  have hO1 : ∀ k, O1 k → O k ∨ w.heap.size < k := by
    intro k hk
    rcases ho1 k hk with e | e
    · exact .inl e
    · exact .inr (by simp at e; omega)
  have hn0 : ¬ O1 w.heap.size := fun e => by rcases hO1 _ e with e | e; have := nO _ e; omega; omega
  have hn1 : ¬ O1 w1.heap.size := fun e => by have := hS1.olt _ e; omega
  have hN1 := Blk.new w1 part0 213
  have hl1 := hS1.lt
  have hS2 := (hS1.alloc (.cells part0 213)).setRow (g := w1.heap.size) (by omega) hn1 (partC r0.part)
  have hk2 := (hkW.alloc (.cells part0 213)).setRow (g := w1.heap.size) (by omega) (partC r0.part)
  have hZ2 := (hZ1.alloc (.cells part0 213)).setRowOther (g := w1.heap.size) (by omega) (partC r0.part)
  have hI2 := hN1.setRow (partC r0.part)
  have hO2 : ∀ k, O1 k → O k ∨ w.heap.size ≤ k := fun k hk => (hO1 k hk).imp id (fun e => by omega)
  have HH0 : Hid (RS ((w1.alloc (.cells part0 213)).setRow w1.heap.size (partC r0.part)) rb gb s r0.at' r0.rules O1 ∧ Kept (fun k => k = rb ∨ O k) w ((w1.alloc (.cells part0 213)).setRow w1.heap.size (partC r0.part)) ∧
    Blk ((w1.alloc (.cells part0 213)).setRow w1.heap.size (partC r0.part)) w.heap.size part0 213 ∧ Blk ((w1.alloc (.cells part0 213)).setRow w1.heap.size (partC r0.part)) w1.heap.size (partC r0.part) 213 ∧ ¬ O1 w.heap.size ∧ ¬ O1 w1.heap.size ∧ ∀ k, O1 k → O k ∨ w.heap.size ≤ k) := ⟨hS2, hk2, hZ2, hI2, hn0, hn1, hO2⟩
  clear hS1 hk1 ho1 hkW hO1 nO hZ1 hO2 HNO HS HA hS2 hk2 hZ2 hI2 hn0 hn1
  go_wp2_with (first | refine storeP rfl (.tmp 4) (.tmp 11) rfl w1.heap.size rfl rfl hN1 rfl ?_)
  clear hN1
  generalize ((w1.alloc (.cells part0 213)).setRow w1.heap.size (partC r0.part)) = w2 at HH0 ⊢
  generalize w1.heap.size = m at HH0 hz1 hl1 ⊢
  go_loopg [5] (s.size + 1) (fun g c wr => ∃ (r : PRes) (O1 : Nat → Prop), c = .bool r.ok ∧ Good s p R r ∧ (r.ok = true → s.size < g + r.at') ∧ exprLoopF s (exprF s f) g r = F ∧
    RS wr rb gb s r.at' r.rules O1 ∧ Kept (fun k => k = rb ∨ O k) w wr ∧ Blk wr w.heap.size part0 213 ∧ Blk wr m (partC r.part) 213 ∧ ¬ O1 w.heap.size ∧ ¬ O1 m ∧ ∀ k, O1 k → O k ∨ w.heap.size ≤ k)
  case atStart =>
    obtain ⟨q1, q2, q3, q4, q5, q6, q7⟩ := HH0.out
    exact ⟨r0, O1, rfl, HG.out, fun _ => by omega, HF.out, q1, q2, q3, q4, q5, q6, q7⟩
  case round =>
    obtain ⟨r, O3, rfl, hg3, hn3, hF3, hS3, hk3, hZ3, hI3, no0, nom, hO3⟩ := hrel
    clear HH0 HF HG
    have htop := hg3.top
    have hfew := hg3.few
    have hle := hg3.le
    obtain ⟨q, ok, p1, R1⟩ := r
    simp only at htop hfew hle hn3 hS3 hI3 ⊢
    cases ok with
    | false =>
      have hFe : F = ⟨q, false, p1, R1⟩ := by rw [← hF3]; exact exprLoopF_stop _ _ _ _ (by simp)
      subst hFe
      clear hF3 hg3 hn3
      go_wp2_with (first | refine loadP rfl (.tmp 4) rfl m rfl hI3 ?_ | refine storeP rfl (.tmp 2) (.tmp 35) rfl w.heap.size rfl rfl hZ3 rfl ?_)
      exact bodyPost_ret (resultsPartTmp Try.results128 _ rfl (hZ3.setRow _)) rfl ⟨rfl, O3, hS3.setRow (by omega) no0 _, hk3.setRow (by omega) _, hO3⟩
    | true =>
      by_cases h124 : peekI s p1 = 124
      · have hgk := hn3 rfl
        have hne : gk = (gk - 1) + 1 := by omega
        rw [hne] at hF3
        unfold exprLoopF at hF3
        rw [if_pos ⟨rfl, h124⟩] at hF3
        have hltp : p1 < s.size := peekI_in (by rw [h124]; decide)
        have hg4 := exprStep_good HGX.out hg3 rfl h124
        have hgp := alternativeF_good HGX.out (p1 + 1) R1 (by omega) (by omega)
        have hPc := fun W O h1 => HP.out W (p1 + 1) R1 O h1 (by omega) (by omega) (by omega)
        simp only at hF3 hg4
        generalize alternativeF s (exprF s f) (p1 + 1) R1 = r2 at hF3 hg4 hgp hPc
        obtain ⟨q2, ok2, p2, R2⟩ := r2
        simp only at hF3 hg4 hgp hPc
        have hle2 := hgp.le
        simp only at hle2
        have HF3 := hide hF3
        have HG4 := hide hg4
        have HPc := hide hPc
        have hzm := hI3.lt
        have hzn := hZ3.lt
        have c1 := hS3.rd.c1
        have f1 := hS3.rd.f1
        have HH3 : Hid (RS wr rb gb s p1 R1 O3 ∧ Kept (fun k => k = rb ∨ O k) w wr ∧ Blk wr w.heap.size part0 213 ∧ Blk wr m (partC q) 213 ∧ ∀ k, O3 k → O k ∨ w.heap.size ≤ k) := ⟨hS3, hk3, hZ3, hI3, hO3⟩
        clear hF3 hg4 hgp hPc hg3 hn3 hS3 hk3 hZ3 hI3 hO3
        go_wp2_with fail
        refine (peek_any s p1 rb gb _ HH3.out.1.rd hs (by omega)).mono ?_
        rintro e w4 ⟨rfl, n, rfl⟩
        rw [h124]
        go_wp2_with fail
        refine (HPc.out _ O3 ((HH3.out.1.drewN n).set1)).mono ?_
        rintro e w4 ⟨rfl, O4, hS4, hk4, ho4⟩
        obtain ⟨hS3, hk3, hZ3, hI3, hO3⟩ := HH3.out
        have hz4 : wr.heap.size ≤ w4.heap.size := by have := hk4.size; simpa using this
        have hI4 := ((hI3.drewN n).setOther (p := ⟨rb, 1, none⟩) (by simp; omega) (.int .i64 ((p1 : Int) + 1))).kept hk4 (fun e => by rcases e with e | e; omega; exact nom e)
        have hZ4 := ((hZ3.drewN n).setOther (p := ⟨rb, 1, none⟩) (by simp; omega) (.int .i64 ((p1 : Int) + 1))).kept hk4 (fun e => by rcases e with e | e; omega; exact no0 e)
        have hkW : Kept (fun k => k = rb ∨ O k) w w4 := ((hk3.drewN n).setCell (p := ⟨rb, 1, none⟩) (fun _ => .inl rfl) (.int .i64 ((p1 : Int) + 1))).trans hk4 (fun i hi e => by rcases e with e | e; exact .inl e; exact .inr (by rcases hO3 i e with e | e; exact e; omega))
        have no0' : ¬ O4 w.heap.size := fun e => by rcases ho4 _ e with e | e; exact no0 e; simp at e; omega
        have nom' : ¬ O4 m := fun e => by rcases ho4 _ e with e | e; exact nom e; simp at e; omega
        have hO4 : ∀ k, O4 k → O k ∨ w.heap.size ≤ k := fun k hk => by rcases ho4 k hk with e | e; exact hO3 k e; exact .inr (by simp at e; omega)
        have nol : ¬ O4 w4.heap.size := fun e => by have := hS4.olt _ e; omega
        have hN4 := Blk.new w4 part0 213
        have hl4 := hS4.lt
        have hS5 := (hS4.alloc (.cells part0 213)).setRow (g := w4.heap.size) (by omega) nol (partC q2)
        have hk5 := (hkW.alloc (.cells part0 213)).setRow (g := w4.heap.size) (by omega) (partC q2)
        have hZ5 := (hZ4.alloc (.cells part0 213)).setRowOther (g := w4.heap.size) (by omega) (partC q2)
        have hI5 := (hI4.alloc (.cells part0 213)).setRowOther (g := w4.heap.size) (by omega) (partC q2)
        have hX5 := hN4.setRow (partC q2)
        have hxm : w4.heap.size ≠ m := by omega
        clear hS3 hk3 hZ3 hI3 hO3 HH3 hS4 hk4 ho4 hkW hZ4 hI4 HPc c1 f1
        go_wp2_with (first | refine storeP rfl (.tmp 6) (.tmp 29) rfl w4.heap.size rfl rfl hN4 rfl ?_ | refine loadP rfl (.tmp 4) rfl m rfl hI5 ?_ | refine loadP rfl (.tmp 6) rfl w4.heap.size rfl hX5 ?_)
        refine (either_any q q2 _).mono ?_
        rintro e w6 ⟨rfl, hb6⟩
        have hI6 := hI5.below hb6
        go_wp2_with (first | refine storeP rfl (.tmp 4) (.tmp 33) rfl m rfl rfl hI6 rfl ?_)
        go_roundg (gk - 1)
        case measure => omega
        case rel =>
          refine ⟨_, O4, rfl, HG4.out, fun e => ?_, HF3.out, (hS5.below hb6).setRow (by omega) nom' _, (hk5.below hb6).setRow (by omega) _, (hZ5.below hb6).setRowOther (by omega) _, hI6.setRow _, no0', nom', hO4⟩
          show s.size < gk - 1 + p2
          omega
      · have e124 : (peekI s p1 == 124) = false := by simp [h124]
        have hFe : F = ⟨q, true, p1, R1⟩ := by rw [← hF3]; exact exprLoopF_stop _ _ _ _ (by simp [h124])
        subst hFe
        clear hF3 hg3 hn3
        go_wp2_with fail
        refine (peek_any s p1 rb gb _ hS3.rd hs (by omega)).mono ?_
        rintro e w4 ⟨rfl, n, rfl⟩
        have hI4 := hI3.drewN n
        have hZ4 := hZ3.drewN n
        go_wp2_with (first | refine loadP rfl (.tmp 4) rfl m rfl hI4 ?_ | refine storeP rfl (.tmp 2) (.tmp 35) rfl w.heap.size rfl rfl hZ4 rfl ?_)
        exact bodyPost_ret (resultsPartTmp Try.results128 _ rfl (hZ4.setRow _)) rfl ⟨rfl, O3, (hS3.drewN n).setRow (by omega) no0 _, (hk3.drewN n).setRow (by omega) _, hO3⟩
end Go.Proofs.Ytmgpdaemcbbikaa
