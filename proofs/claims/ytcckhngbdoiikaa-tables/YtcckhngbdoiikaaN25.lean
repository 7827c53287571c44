import Derived.Test.YtcckhngbdoiikaaN24
import Derived.Test.YtcckhngbdoiikaaN11

namespace Go.Proofs.Ytcckhngbdoiikaa
open Go.RowKit Go.Deep
set_option linter.unusedVariables false

set_option maxHeartbeats 3200000 in
theorem alternative_any (s : ByteArray) (rb gb f : Nat) (hP : PartC 156 s rb gb f (pieceF s (exprF s f))) (hs : s.size ≤ 120) : PartC 152 s rb gb f (alternativeF s (exprF s f)) := by
  intro w p R O h hp hR hf
  have hrb := h.lt
  have hK : Kept (fun k => k = rb ∨ O k) w w := Kept.refl _ _
  have nO : ∀ k, O k → k < w.heap.size := h.olt
  have hnO : ¬ O w.heap.size := fun e => by have := nO _ e; omega
  have hgex := exprF_good s f
  have hg := pieceF_good hgex p R hp hR
  have hPc := fun W O h1 => hP W p R O h1 hp hR hf
  unfold alternativeF
  generalize hr0 : pieceF s (exprF s f) p R = r0 at hg hPc ⊢
  generalize hFm : altLoopF s (exprF s f) (s.size + 1) r0 = F
  have HF := hide hFm
  have HA := hide hPc
  have HS := hide h
  have HNO := hide nO
  have HP := hide hP
  have HGX := hide hgex
  have HG := hide hg
  clear hPc hP h nO hFm hr0 hg hgex
  go_enter Try.func152, Try.ntmps152
  go_wp2_with fail
  refine (HA.out _ O (HS.out.alloc _)).mono ?_
  rintro e w1 ⟨rfl, O1, hS1, hk1, ho1⟩
  have nO := HNO.out
  have hZ1 : Blk w1 w.heap.size part0 222 := (Blk.new w part0 222).kept hk1 (fun e => by rcases e with e | e; omega; exact hnO e)
  have hz1 := hZ1.lt
  have hkW : Kept (fun k => k = rb ∨ O k) w w1 := (hK.alloc _).trans' hk1
  have hO1 : ∀ k, O1 k → O k ∨ w.heap.size < k := by
    intro k hk
    rcases ho1 k hk with e | e
    · exact .inl e
    · exact .inr (by simp at e; omega)
  have hn0 : ¬ O1 w.heap.size := fun e => by rcases hO1 _ e with e | e; have := nO _ e; omega; omega
  have hn1 : ¬ O1 w1.heap.size := fun e => by have := hS1.olt _ e; omega
  have hN1 := Blk.new w1 part0 222
  have hl1 := hS1.lt
  have hS2 := (hS1.alloc (.cells part0 222)).setRow (g := w1.heap.size) (by omega) hn1 (partC r0.part)
  have hk2 := (hkW.alloc (.cells part0 222)).setRow (g := w1.heap.size) (by omega) (partC r0.part)
  have hZ2 := (hZ1.alloc (.cells part0 222)).setRowOther (g := w1.heap.size) (by omega) (partC r0.part)
  have hI2 := hN1.setRow (partC r0.part)
  have hO2 : ∀ k, O1 k → O k ∨ w.heap.size ≤ k := fun k hk => (hO1 k hk).imp id (fun e => by omega)
  have HH0 : Hid (RS ((w1.alloc (.cells part0 222)).setRow w1.heap.size (partC r0.part)) rb gb s r0.at' r0.rules O1 ∧ Kept (fun k => k = rb ∨ O k) w ((w1.alloc (.cells part0 222)).setRow w1.heap.size (partC r0.part)) ∧
    Blk ((w1.alloc (.cells part0 222)).setRow w1.heap.size (partC r0.part)) w.heap.size part0 222 ∧ Blk ((w1.alloc (.cells part0 222)).setRow w1.heap.size (partC r0.part)) w1.heap.size (partC r0.part) 222 ∧ ¬ O1 w.heap.size ∧ ¬ O1 w1.heap.size ∧ ∀ k, O1 k → O k ∨ w.heap.size ≤ k) := ⟨hS2, hk2, hZ2, hI2, hn0, hn1, hO2⟩
  clear hS1 hk1 ho1 hkW hO1 nO hZ1 hO2 HNO HS HA hS2 hk2 hZ2 hI2 hn0 hn1
  go_wp2_with (first | refine storeP rfl (.tmp 4) (.tmp 11) rfl w1.heap.size rfl rfl hN1 rfl ?_)
  clear hN1
  generalize ((w1.alloc (.cells part0 222)).setRow w1.heap.size (partC r0.part)) = w2 at HH0 ⊢
  generalize w1.heap.size = m at HH0 hz1 hl1 ⊢
  go_loopg [5] (s.size + 1) (fun g c wr => ∃ (r : PRes) (O1 : Nat → Prop), c = .bool r.ok ∧ Good s p R r ∧ (r.ok = true → s.size < g + r.at') ∧ altLoopF s (exprF s f) g r = F ∧
    RS wr rb gb s r.at' r.rules O1 ∧ Kept (fun k => k = rb ∨ O k) w wr ∧ Blk wr w.heap.size part0 222 ∧ Blk wr m (partC r.part) 222 ∧ ¬ O1 w.heap.size ∧ ¬ O1 m ∧ ∀ k, O1 k → O k ∨ w.heap.size ≤ k)
  case atStart =>
    obtain ⟨q1, q2, q3, q4, q5, q6, q7⟩ := HH0.out
    exact ⟨r0, O1, rfl, HG.out, fun _ => by omega, HF.out, q1, q2, q3, q4, q5, q6, q7⟩
  case round =>
    obtain ⟨r, O3, rfl, hg3, hn3, hF3, hS3, hk3, hZ3, hI3, no0, nom, hO3⟩ := hrel
    clear HH0 HF HG
    have htop := hg3.top
    have hfew := hg3.few
    have hle := hg3.le
    obtain ⟨q, ok, p1, R1⟩ := r
    simp only at htop hfew hle hn3 hS3 hI3 ⊢
    cases ok with
    | false =>
      have hFe : F = ⟨q, false, p1, R1⟩ := by rw [← hF3]; exact altLoopF_stop _ _ _ _ (by simp)
      subst hFe
      clear hF3 hg3 hn3
      go_wp2_with (first | refine loadP rfl (.tmp 4) rfl m rfl hI3 ?_ | refine storeP rfl (.tmp 2) (.tmp 32) rfl w.heap.size rfl rfl hZ3 rfl ?_)
      exact bodyPost_ret (resultsPartTmp Try.results152 _ rfl (hZ3.setRow _)) rfl ⟨rfl, O3, hS3.setRow (by omega) no0 _, hk3.setRow (by omega) _, hO3⟩
    | true =>
      cases hend : endsB (peekI s p1) with
      | true =>
        have hFe : F = ⟨q, true, p1, R1⟩ := by rw [← hF3]; exact altLoopF_stop _ _ _ _ (by simp [hend])
        subst hFe
        clear hF3 hg3 hn3
        go_wp2_with fail
        refine (alternativeEnds_any s p1 rb gb _ hS3.rd hs (by omega)).mono ?_
        rintro e w4 ⟨rfl, n, rfl⟩
        rw [hend]
        have hI4 := hI3.drewN n
        have hZ4 := hZ3.drewN n
        go_wp2_with (first | refine loadP rfl (.tmp 4) rfl m rfl hI4 ?_ | refine storeP rfl (.tmp 2) (.tmp 32) rfl w.heap.size rfl rfl hZ4 rfl ?_)
        exact bodyPost_ret (resultsPartTmp Try.results152 _ rfl (hZ4.setRow _)) rfl ⟨rfl, O3, (hS3.drewN n).setRow (by omega) no0 _, (hk3.drewN n).setRow (by omega) _, hO3⟩
      | false =>
        have hgk := hn3 rfl
        have hne : gk = (gk - 1) + 1 := by omega
        rw [hne] at hF3
        unfold altLoopF at hF3
        rw [if_pos ⟨rfl, hend⟩] at hF3
        have hg4 := altStep_good HGX.out hg3 rfl
        have hgp := pieceF_good HGX.out p1 R1 htop hfew
        have hPc := fun W O h1 => HP.out W p1 R1 O h1 htop hfew (by omega)
        simp only at hF3 hg4
        generalize pieceF s (exprF s f) p1 R1 = r2 at hF3 hg4 hgp hPc
        obtain ⟨q2, ok2, p2, R2⟩ := r2
        simp only at hF3 hg4 hgp hPc
        have hlt2 := hgp.ok
        have hfew2 := hgp.few
        have htop2 := hgp.top
        simp only at hlt2 hfew2 htop2
        have HF3 := hide hF3
        have HG4 := hide hg4
        have HPc := hide hPc
        have HLT := hide hlt2
        have hzm := hI3.lt
        have hzn := hZ3.lt
        have HH3 : Hid (RS wr rb gb s p1 R1 O3 ∧ Kept (fun k => k = rb ∨ O k) w wr ∧ Blk wr w.heap.size part0 222 ∧ Blk wr m (partC q) 222 ∧ ∀ k, O3 k → O k ∨ w.heap.size ≤ k) := ⟨hS3, hk3, hZ3, hI3, hO3⟩
        clear hF3 hg4 hgp hPc hg3 hn3 hlt2 hS3 hk3 hZ3 hI3 hO3
        go_wp2_with fail
        refine (alternativeEnds_any s p1 rb gb _ HH3.out.1.rd hs (by omega)).mono ?_
        rintro e w4 ⟨rfl, n, rfl⟩
        rw [hend]
        go_wp2_with fail
        refine (HPc.out _ O3 (HH3.out.1.drewN n)).mono ?_
        rintro e w4 ⟨rfl, O4, hS4, hk4, ho4⟩
        obtain ⟨hS3, hk3, hZ3, hI3, hO3⟩ := HH3.out
        have hz4 : wr.heap.size ≤ w4.heap.size := hk4.size
        have hI4 := (hI3.drewN n).kept hk4 (fun e => by rcases e with e | e; omega; exact nom e)
        have hZ4 := (hZ3.drewN n).kept hk4 (fun e => by rcases e with e | e; omega; exact no0 e)
        have hkW : Kept (fun k => k = rb ∨ O k) w w4 := (hk3.drewN n).trans hk4 (fun i hi e => by rcases e with e | e; exact .inl e; exact .inr (by rcases hO3 i e with e | e; exact e; omega))
        have no0' : ¬ O4 w.heap.size := fun e => by rcases ho4 _ e with e | e; exact no0 e; simp at e; omega
        have nom' : ¬ O4 m := fun e => by rcases ho4 _ e with e | e; exact nom e; simp at e; omega
        have hO4 : ∀ k, O4 k → O k ∨ w.heap.size ≤ k := fun k hk => by rcases ho4 k hk with e | e; exact hO3 k e; exact .inr (by simp at e; omega)
        have nol : ¬ O4 w4.heap.size := fun e => by have := hS4.olt _ e; omega
        have hN4 := Blk.new w4 part0 222
        have hl4 := hS4.lt
        have hS5 := (hS4.alloc (.cells part0 222)).setRow (g := w4.heap.size) (by omega) nol (partC q2)
        have hk5 := (hkW.alloc (.cells part0 222)).setRow (g := w4.heap.size) (by omega) (partC q2)
        have hZ5 := (hZ4.alloc (.cells part0 222)).setRowOther (g := w4.heap.size) (by omega) (partC q2)
        have hI5 := (hI4.alloc (.cells part0 222)).setRowOther (g := w4.heap.size) (by omega) (partC q2)
        have hX5 := hN4.setRow (partC q2)
        have hxm : w4.heap.size ≠ m := by omega
        clear hS3 hk3 hZ3 hI3 hO3 HH3 hS4 hk4 ho4 hkW hZ4 hI4 HPc hend
        go_wp2_with (first | refine storeP rfl (.tmp 6) (.tmp 22) rfl w4.heap.size rfl rfl hN4 rfl ?_)
        clear hN4
        generalize ((w4.alloc (.cells part0 222)).setRow w4.heap.size (partC q2)) = w5 at hS5 hk5 hZ5 hI5 hX5 ⊢
        generalize w4.heap.size = x at hX5 hxm hl4 hz4 nol ⊢
        obtain ⟨fv, lv, hRu⟩ := hS5.ru
        have c2 := hS5.rd.c2
        have a0 : w5.cell? ⟨m, 0, none⟩ = some (.int .u64 (q.first.lo.toNat : Int)) := hI5.cell 0
        have a1 : w5.cell? ⟨m, 1, none⟩ = some (.int .u64 (q.first.hi.toNat : Int)) := hI5.cell 1
        have a2 : w5.cell? ⟨m, 2, none⟩ = some (.int .u64 (q.last.lo.toNat : Int)) := hI5.cell 2
        have a3 : w5.cell? ⟨m, 3, none⟩ = some (.int .u64 (q.last.hi.toNat : Int)) := hI5.cell 3
        have a4 : w5.cell? ⟨m, 4, none⟩ = some (.bool q.empty) := hI5.cell 4
        have b0 : w5.cell? ⟨x, 0, none⟩ = some (.int .u64 (q2.first.lo.toNat : Int)) := hX5.cell 0
        have b1 : w5.cell? ⟨x, 1, none⟩ = some (.int .u64 (q2.first.hi.toNat : Int)) := hX5.cell 1
        have b2 : w5.cell? ⟨x, 2, none⟩ = some (.int .u64 (q2.last.lo.toNat : Int)) := hX5.cell 2
        have b3 : w5.cell? ⟨x, 3, none⟩ = some (.int .u64 (q2.last.hi.toNat : Int)) := hX5.cell 3
        have b4 : w5.cell? ⟨x, 4, none⟩ = some (.bool q2.empty) := hX5.cell 4
        have HH5 : Hid (RS w5 rb gb s p2 R2 O4 ∧ Kept (fun k => k = rb ∨ O k) w w5 ∧ Blk w5 w.heap.size part0 222 ∧ Blk w5 m (partC q) 222 ∧ RulesAt w5 gb O4 R2 fv lv ∧ ∀ k, O4 k → O k ∨ w.heap.size ≤ k) := ⟨hS5, hk5, hZ5, hI5, hRu, hO4⟩
        have hzm5 := hI5.lt
        clear hS5 hk5 hZ5 hI5 hX5 hRu hO4
        go_wp2_with fail
        go_region_with (go_at_call 158; refine (chain_any R2 gb O4 fv lv q q2 _ HH5.out.2.2.2.2.1.drew (by omega)).mono ?_; rintro e w6 ⟨rfl, hR6, hk6⟩; have k3 := HH5.out.2.2.2.1.drew.kept hk6 nom'; have k30 := k3.cell 0; have k31 := k3.cell 1; have k32 := k3.cell 2; have k33 := k3.cell 3; have k34 := k3.cell 4; have k40 := k3.frozen 0; have k41 := k3.frozen 1; have k42 := k3.frozen 2; have k43 := k3.frozen 3; have k44 := k3.frozen 4)
        all_goals
          go_wp2_with fail
          go_roundg (gk - 1)
          case measure => omega
          case rel =>
            obtain ⟨hS5, hk5, hZ5, hI5, hRu, hO4⟩ := HH5.out
            have hS6 := hS5.drew.turned hR6 hk6
            have hk7 : Kept (fun k => k = rb ∨ O k) w w6 := hk5.drew.trans hk6 (fun i hi e => .inr (by rcases hO4 i e with e | e; exact e; omega))
            have hZ6 := hZ5.drew.kept hk6 no0'
            refine ⟨_, O4, rfl, HG4.out, fun e => ?_, HF3.out, ((((hS6.setOther (by simp; omega) nom' _).setOther (by simp; omega) nom' _).setOther (by simp; omega) nom' _).setOther (by simp; omega) nom' _).setOther (by simp; omega) nom' _, ?_, ?_, ?_, no0', nom', hO4⟩
            · have := HLT.out e
              show s.size < gk - 1 + p2
              omega
            · exact ((((hk7.setCell (by simp; omega) _).setCell (by simp; omega) _).setCell (by simp; omega) _).setCell (by simp; omega) _).setCell (by simp; omega) _
            · exact ((((hZ6.setOther (by simp; omega) _).setOther (by simp; omega) _).setOther (by simp; omega) _).setOther (by simp; omega) _).setOther (by simp; omega) _
            · exact ((((k3.set 0 _).set 1 _).set 2 _).set 3 _).set 4 _
end Go.Proofs.Ytcckhngbdoiikaa

namespace Go.Proofs.Ytcckhngbdoiikaa
open Go.RowKit Go.Deep
set_option linter.unusedVariables false

set_option maxHeartbeats 3200000 in
theorem expression_any (s : ByteArray) (rb gb f : Nat) (hP : PartC 152 s rb gb f (alternativeF s (exprF s f))) (hs : s.size ≤ 120) : PartC 137 s rb gb f (expressionF s (exprF s f)) := by
  intro w p R O h hp hR hf
  have hrb := h.lt
  have hK : Kept (fun k => k = rb ∨ O k) w w := Kept.refl _ _
  have nO : ∀ k, O k → k < w.heap.size := h.olt
  have hnO : ¬ O w.heap.size := fun e => by have := nO _ e; omega
  have hgex := exprF_good s f
  have hg := alternativeF_good hgex p R hp hR
  have hPc := fun W O h1 => hP W p R O h1 hp hR hf
  unfold expressionF
  generalize hr0 : alternativeF s (exprF s f) p R = r0 at hg hPc ⊢
  generalize hFm : exprLoopF s (exprF s f) (s.size + 1) r0 = F
  have HF := hide hFm
  have HA := hide hPc
  have HS := hide h
  have HNO := hide nO
  have HP := hide hP
  have HGX := hide hgex
  have HG := hide hg
  clear hPc hP h nO hFm hr0 hg hgex
  go_enter Try.func137, Try.ntmps137
  go_wp2_with fail
  refine (HA.out _ O (HS.out.alloc _)).mono ?_
  rintro e w1 ⟨rfl, O1, hS1, hk1, ho1⟩
  have nO := HNO.out
  have hZ1 : Blk w1 w.heap.size part0 222 := (Blk.new w part0 222).kept hk1 (fun e => by rcases e with e | e; omega; exact hnO e)
  have hz1 := hZ1.lt
  have hkW : Kept (fun k => k = rb ∨ O k) w w1 := (hK.alloc _).trans' hk1
  have hO1 : ∀ k, O1 k → O k ∨ w.heap.size < k := by
    intro k hk
    rcases ho1 k hk with e | e
    · exact .inl e
    · exact .inr (by simp at e; omega)
  have hn0 : ¬ O1 w.heap.size := fun e => by rcases hO1 _ e with e | e; have := nO _ e; omega; omega
  have hn1 : ¬ O1 w1.heap.size := fun e => by have := hS1.olt _ e; omega
  have hN1 := Blk.new w1 part0 222
  have hl1 := hS1.lt
  have hS2 := (hS1.alloc (.cells part0 222)).setRow (g := w1.heap.size) (by omega) hn1 (partC r0.part)
  have hk2 := (hkW.alloc (.cells part0 222)).setRow (g := w1.heap.size) (by omega) (partC r0.part)
  have hZ2 := (hZ1.alloc (.cells part0 222)).setRowOther (g := w1.heap.size) (by omega) (partC r0.part)
  have hI2 := hN1.setRow (partC r0.part)
  have hO2 : ∀ k, O1 k → O k ∨ w.heap.size ≤ k := fun k hk => (hO1 k hk).imp id (fun e => by omega)
  have HH0 : Hid (RS ((w1.alloc (.cells part0 222)).setRow w1.heap.size (partC r0.part)) rb gb s r0.at' r0.rules O1 ∧ Kept (fun k => k = rb ∨ O k) w ((w1.alloc (.cells part0 222)).setRow w1.heap.size (partC r0.part)) ∧
    Blk ((w1.alloc (.cells part0 222)).setRow w1.heap.size (partC r0.part)) w.heap.size part0 222 ∧ Blk ((w1.alloc (.cells part0 222)).setRow w1.heap.size (partC r0.part)) w1.heap.size (partC r0.part) 222 ∧ ¬ O1 w.heap.size ∧ ¬ O1 w1.heap.size ∧ ∀ k, O1 k → O k ∨ w.heap.size ≤ k) := ⟨hS2, hk2, hZ2, hI2, hn0, hn1, hO2⟩
  clear hS1 hk1 ho1 hkW hO1 nO hZ1 hO2 HNO HS HA hS2 hk2 hZ2 hI2 hn0 hn1
  go_wp2_with (first | refine storeP rfl (.tmp 4) (.tmp 11) rfl w1.heap.size rfl rfl hN1 rfl ?_)
  clear hN1
  generalize ((w1.alloc (.cells part0 222)).setRow w1.heap.size (partC r0.part)) = w2 at HH0 ⊢
  generalize w1.heap.size = m at HH0 hz1 hl1 ⊢
  go_loopg [5] (s.size + 1) (fun g c wr => ∃ (r : PRes) (O1 : Nat → Prop), c = .bool r.ok ∧ Good s p R r ∧ (r.ok = true → s.size < g + r.at') ∧ exprLoopF s (exprF s f) g r = F ∧
    RS wr rb gb s r.at' r.rules O1 ∧ Kept (fun k => k = rb ∨ O k) w wr ∧ Blk wr w.heap.size part0 222 ∧ Blk wr m (partC r.part) 222 ∧ ¬ O1 w.heap.size ∧ ¬ O1 m ∧ ∀ k, O1 k → O k ∨ w.heap.size ≤ k)
  case atStart =>
    obtain ⟨q1, q2, q3, q4, q5, q6, q7⟩ := HH0.out
    exact ⟨r0, O1, rfl, HG.out, fun _ => by omega, HF.out, q1, q2, q3, q4, q5, q6, q7⟩
  case round =>
    obtain ⟨r, O3, rfl, hg3, hn3, hF3, hS3, hk3, hZ3, hI3, no0, nom, hO3⟩ := hrel
    clear HH0 HF HG
    have htop := hg3.top
    have hfew := hg3.few
    have hle := hg3.le
    obtain ⟨q, ok, p1, R1⟩ := r
    simp only at htop hfew hle hn3 hS3 hI3 ⊢
    cases ok with
    | false =>
      have hFe : F = ⟨q, false, p1, R1⟩ := by rw [← hF3]; exact exprLoopF_stop _ _ _ _ (by simp)
      subst hFe
      clear hF3 hg3 hn3
      go_wp2_with (first | refine loadP rfl (.tmp 4) rfl m rfl hI3 ?_ | refine storeP rfl (.tmp 2) (.tmp 35) rfl w.heap.size rfl rfl hZ3 rfl ?_)
      exact bodyPost_ret (resultsPartTmp Try.results137 _ rfl (hZ3.setRow _)) rfl ⟨rfl, O3, hS3.setRow (by omega) no0 _, hk3.setRow (by omega) _, hO3⟩
    | true =>
      by_cases h124 : peekI s p1 = 124
      · have hgk := hn3 rfl
        have hne : gk = (gk - 1) + 1 := by omega
        rw [hne] at hF3
        unfold exprLoopF at hF3
        rw [if_pos ⟨rfl, h124⟩] at hF3
        have hltp : p1 < s.size := peekI_in (by rw [h124]; decide)
        have hg4 := exprStep_good HGX.out hg3 rfl h124
        have hgp := alternativeF_good HGX.out (p1 + 1) R1 (by omega) (by omega)
        have hPc := fun W O h1 => HP.out W (p1 + 1) R1 O h1 (by omega) (by omega) (by omega)
        simp only at hF3 hg4
        generalize alternativeF s (exprF s f) (p1 + 1) R1 = r2 at hF3 hg4 hgp hPc
        obtain ⟨q2, ok2, p2, R2⟩ := r2
        simp only at hF3 hg4 hgp hPc
        have hle2 := hgp.le
        simp only at hle2
        have HF3 := hide hF3
        have HG4 := hide hg4
        have HPc := hide hPc
        have hzm := hI3.lt
        have hzn := hZ3.lt
        have c1 := hS3.rd.c1
        have f1 := hS3.rd.f1
        have HH3 : Hid (RS wr rb gb s p1 R1 O3 ∧ Kept (fun k => k = rb ∨ O k) w wr ∧ Blk wr w.heap.size part0 222 ∧ Blk wr m (partC q) 222 ∧ ∀ k, O3 k → O k ∨ w.heap.size ≤ k) := ⟨hS3, hk3, hZ3, hI3, hO3⟩
        clear hF3 hg4 hgp hPc hg3 hn3 hS3 hk3 hZ3 hI3 hO3
        go_wp2_with fail
        refine (peek_any s p1 rb gb _ HH3.out.1.rd hs (by omega)).mono ?_
        rintro e w4 ⟨rfl, n, rfl⟩
        rw [h124]
        go_wp2_with fail
        refine (HPc.out _ O3 ((HH3.out.1.drewN n).set1)).mono ?_
        rintro e w4 ⟨rfl, O4, hS4, hk4, ho4⟩
        obtain ⟨hS3, hk3, hZ3, hI3, hO3⟩ := HH3.out
        have hz4 : wr.heap.size ≤ w4.heap.size := by have := hk4.size; simpa using this
        have hI4 := ((hI3.drewN n).setOther (p := ⟨rb, 1, none⟩) (by simp; omega) (.int .i64 ((p1 : Int) + 1))).kept hk4 (fun e => by rcases e with e | e; omega; exact nom e)
        have hZ4 := ((hZ3.drewN n).setOther (p := ⟨rb, 1, none⟩) (by simp; omega) (.int .i64 ((p1 : Int) + 1))).kept hk4 (fun e => by rcases e with e | e; omega; exact no0 e)
        have hkW : Kept (fun k => k = rb ∨ O k) w w4 := ((hk3.drewN n).setCell (p := ⟨rb, 1, none⟩) (fun _ => .inl rfl) (.int .i64 ((p1 : Int) + 1))).trans hk4 (fun i hi e => by rcases e with e | e; exact .inl e; exact .inr (by rcases hO3 i e with e | e; exact e; omega))
        have no0' : ¬ O4 w.heap.size := fun e => by rcases ho4 _ e with e | e; exact no0 e; simp at e; omega
        have nom' : ¬ O4 m := fun e => by rcases ho4 _ e with e | e; exact nom e; simp at e; omega
        have hO4 : ∀ k, O4 k → O k ∨ w.heap.size ≤ k := fun k hk => by rcases ho4 k hk with e | e; exact hO3 k e; exact .inr (by simp at e; omega)
        have nol : ¬ O4 w4.heap.size := fun e => by have := hS4.olt _ e; omega
        have hN4 := Blk.new w4 part0 222
        have hl4 := hS4.lt
        have hS5 := (hS4.alloc (.cells part0 222)).setRow (g := w4.heap.size) (by omega) nol (partC q2)
        have hk5 := (hkW.alloc (.cells part0 222)).setRow (g := w4.heap.size) (by omega) (partC q2)
        have hZ5 := (hZ4.alloc (.cells part0 222)).setRowOther (g := w4.heap.size) (by omega) (partC q2)
        have hI5 := (hI4.alloc (.cells part0 222)).setRowOther (g := w4.heap.size) (by omega) (partC q2)
        have hX5 := hN4.setRow (partC q2)
        have hxm : w4.heap.size ≠ m := by omega
        clear hS3 hk3 hZ3 hI3 hO3 HH3 hS4 hk4 ho4 hkW hZ4 hI4 HPc c1 f1
        go_wp2_with (first | refine storeP rfl (.tmp 6) (.tmp 29) rfl w4.heap.size rfl rfl hN4 rfl ?_ | refine loadP rfl (.tmp 4) rfl m rfl hI5 ?_ | refine loadP rfl (.tmp 6) rfl w4.heap.size rfl hX5 ?_)
        refine (either_any q q2 _).mono ?_
        rintro e w6 ⟨rfl, hb6⟩
        have hI6 := hI5.below hb6
        go_wp2_with (first | refine storeP rfl (.tmp 4) (.tmp 33) rfl m rfl rfl hI6 rfl ?_)
        go_roundg (gk - 1)
        case measure => omega
        case rel =>
          refine ⟨_, O4, rfl, HG4.out, fun e => ?_, HF3.out, (hS5.below hb6).setRow (by omega) nom' _, (hk5.below hb6).setRow (by omega) _, (hZ5.below hb6).setRowOther (by omega) _, hI6.setRow _, no0', nom', hO4⟩
          show s.size < gk - 1 + p2
          omega
      · have e124 : (peekI s p1 == 124) = false := by simp [h124]
        have hFe : F = ⟨q, true, p1, R1⟩ := by rw [← hF3]; exact exprLoopF_stop _ _ _ _ (by simp [h124])
        subst hFe
        clear hF3 hg3 hn3
        go_wp2_with fail
        refine (peek_any s p1 rb gb _ hS3.rd hs (by omega)).mono ?_
        rintro e w4 ⟨rfl, n, rfl⟩
        have hI4 := hI3.drewN n
        have hZ4 := hZ3.drewN n
        go_wp2_with (first | refine loadP rfl (.tmp 4) rfl m rfl hI4 ?_ | refine storeP rfl (.tmp 2) (.tmp 35) rfl w.heap.size rfl rfl hZ4 rfl ?_)
        exact bodyPost_ret (resultsPartTmp Try.results137 _ rfl (hZ4.setRow _)) rfl ⟨rfl, O3, (hS3.drewN n).setRow (by omega) no0 _, (hk3.drewN n).setRow (by omega) _, hO3⟩
end Go.Proofs.Ytcckhngbdoiikaa

namespace Go.Proofs.Ytcckhngbdoiikaa
open Go.RowKit Go.Deep
set_option linter.unusedVariables false

theorem exprG_all (s : ByteArray) (rb gb : Nat) (hs : s.size ≤ 120) : ∀ f, ExprG s rb gb f
  | 0 => fun w p R O h hp hR hf => absurd hf (by omega)
  | f + 1 => fun w p R O h hp hR hf =>
    expression_any s rb gb f (alternative_any s rb gb f (piece_any s rb gb f (atom_is s rb gb f (exprG_all s rb gb hs f) hs) hs) hs) hs w p R O h hp hR (by omega)

structure GoodR (s : ByteArray) (p : Nat) (r : Bool × Nat × RulesT) : Prop where
  le : p ≤ r.2.1
  top : r.2.1 ≤ s.size
  ok : r.1 = true → p < r.2.1
  few : r.2.2.follow.length ≤ r.2.1
  last : r.2.2.last.length ≤ r.2.1
theorem ruleF_good (s : ByteArray) (p : Nat) (R : RulesT) (hp : p ≤ s.size) (hR : R.follow.length ≤ p) (hL : R.last.length ≤ p) : GoodR s p (ruleF s p R) := by
  have g := exprF_good s (s.size + 1) p R hp hR
  unfold ruleF
  split
  · rename_i hok
    have := g.ok hok
    exact ⟨g.le, g.top, fun _ => this, g.few, by simp [RulesT.endRule, g.last]; omega⟩
  · exact ⟨g.le, g.top, by simp, g.few, by simp [g.last]; have := g.le; omega⟩

set_option maxHeartbeats 1600000 in
theorem rulem_any (s : ByteArray) (rb gb : Nat) (hs : s.size ≤ 120) (w : World) (p : Nat) (R : RulesT) (O : Nat → Prop) (h : RS w rb gb s p R O) (hp : p ≤ s.size) (hR : R.follow.length ≤ p) (hL : R.last.length ≤ p) :
    Calls Try.prog 108 #[.pointer (some ⟨rb, 0, none⟩)] w fun e w' =>
      e = .returned (.bool (ruleF s p R).1) ∧ RPost w w' rb gb s O (ruleF s p R).2.1 (ruleF s p R).2.2 := by
  have hrb := h.lt
  have nO : ∀ k, O k → k < w.heap.size := h.olt
  have hE := exprG_all s rb gb hs (s.size + 1) w p R O h hp hR (by omega)
  have hg := exprF_good s (s.size + 1) p R hp hR
  unfold ruleF
  generalize exprF s (s.size + 1) p R = r at hE hg ⊢
  obtain ⟨q, ok, p1, R1⟩ := r
  simp only at hE ⊢
  have hlast : R1.last.length ≤ 1000 := by have := hg.last; simp only at this; rw [this]; omega
  have HE := hide hE
  clear hE hg
  cases ok with
  | false =>
    rw [if_neg (by simp)]
    go_enter Try.func108, Try.ntmps108
    go_wp2_with fail
    refine HE.out.mono ?_
    rintro e w1 ⟨rfl, O1, hS1, hk1, ho1⟩
    have hN1 := Blk.new w1 part0 222
    have hn1 : ¬ O1 w1.heap.size := fun e => by have := hS1.olt _ e; omega
    have hl1 := hS1.lt
    have hz := hk1.size
    go_wp2_with (first | refine storeP rfl (.tmp 3) (.tmp 8) rfl w1.heap.size rfl rfl hN1 rfl ?_)
    go_ret
    exact ⟨rfl, O1, (hS1.alloc _).setRow (by omega) hn1 _, (hk1.alloc _).setRow (by omega) _, ho1⟩
  | true =>
    rw [if_pos rfl]
    go_enter Try.func108, Try.ntmps108
    go_wp2_with fail
    refine HE.out.mono ?_
    rintro e w1 ⟨rfl, O1, hS1, hk1, ho1⟩
    have hN1 := Blk.new w1 part0 222
    have hn1 : ¬ O1 w1.heap.size := fun e => by have := hS1.olt _ e; omega
    have hl1 := hS1.lt
    have hz := hk1.size
    have hS2 := (hS1.alloc (.cells part0 222)).setRow (g := w1.heap.size) (by omega) hn1 (partC q)
    have hk2 := (hk1.alloc (.cells part0 222)).setRow (g := w1.heap.size) (by omega) (partC q)
    have hI2 := hN1.setRow (partC q)
    have HO := hide ho1
    clear hS1 hk1 ho1 HE
    go_wp2_with (first | refine storeP rfl (.tmp 3) (.tmp 8) rfl w1.heap.size rfl rfl hN1 rfl ?_)
    clear hN1
    generalize ((w1.alloc (.cells part0 222)).setRow w1.heap.size (partC q)) = w2 at hS2 hk2 hI2 ⊢
    generalize w1.heap.size = m at hI2 hl1 hz hn1 ⊢
    obtain ⟨fv, lv, hRu⟩ := hS2.ru
    have c2 := hS2.rd.c2
    have i0 : w2.cell? ⟨m, 0, none⟩ = some (.int .u64 (q.first.lo.toNat : Int)) := hI2.cell 0
    have i1 : w2.cell? ⟨m, 1, none⟩ = some (.int .u64 (q.first.hi.toNat : Int)) := hI2.cell 1
    have i2 : w2.cell? ⟨m, 2, none⟩ = some (.int .u64 (q.last.lo.toNat : Int)) := hI2.cell 2
    have i3 : w2.cell? ⟨m, 3, none⟩ = some (.int .u64 (q.last.hi.toNat : Int)) := hI2.cell 3
    have i4 : w2.cell? ⟨m, 4, none⟩ = some (.bool q.empty) := hI2.cell 4
    have zr := hS2.lt
    have zm := hI2.lt
    have hno := hS2.no
    have HH : Hid (RS w2 rb gb s p1 R1 O1 ∧ Kept (fun k => k = rb ∨ O k) w w2 ∧ Blk w2 m (partC q) 222 ∧ RulesAt w2 gb O1 R1 fv lv) := ⟨hS2, hk2, hI2, hRu⟩
    clear hS2 hk2 hI2 hRu
    go_wp2_with fail
    go_region_held3 (fun w' => w'.cell? ⟨rb, 2, none⟩ = some (.pointer (some ⟨gb, 0, none⟩)) ∧ w'.cell? ⟨m, 0, none⟩ = some (.int .u64 (q.first.lo.toNat : Int)) ∧ w'.cell? ⟨m, 1, none⟩ = some (.int .u64 (q.first.hi.toNat : Int)) ∧ w'.cell? ⟨m, 2, none⟩ = some (.int .u64 (q.last.lo.toNat : Int)) ∧ w'.cell? ⟨m, 3, none⟩ = some (.int .u64 (q.last.hi.toNat : Int)) ∧ w'.cell? ⟨m, 4, none⟩ = some (.bool q.empty))
      (first | exact ⟨j0, j1, j2, j3, j4, j5⟩ | exact ⟨c2, i0, i1, i2, i3, i4⟩)
      (first | (go_at_call 138; refine (endRule_any R1 gb O1 fv lv q _ HH.out.2.2.2.drew hlast).mono ?_; rintro e w4 ⟨rfl, O4, lv4, hR4, hk4, ho4⟩; have j0 := (hk4.cell (p := ⟨rb, 2, none⟩) zr hno).trans c2; have j1 := (hk4.cell (p := ⟨m, 0, none⟩) zm hn1).trans i0; have j2 := (hk4.cell (p := ⟨m, 1, none⟩) zm hn1).trans i1; have j3 := (hk4.cell (p := ⟨m, 2, none⟩) zm hn1).trans i2; have j4 := (hk4.cell (p := ⟨m, 3, none⟩) zm hn1).trans i3; have j5 := (hk4.cell (p := ⟨m, 4, none⟩) zm hn1).trans i4))
    go_wp2_with fail
    go_ret
    obtain ⟨hS2, hk2, hI2, hRu⟩ := HH.out
    have hz2 : w.heap.size ≤ w2.heap.size := hk2.size
    refine ⟨rfl, O4, hS2.drew.turned' hR4 hk4 ho4, hk2.drew.trans hk4 (fun i hi e => .inr (by rcases HO.out i e with e | e; exact e; omega)), ?_⟩
    intro k hk
    rcases ho4 k hk with e | e
    · exact HO.out k e
    · exact .inr (by simp at e; omega)
end Go.Proofs.Ytcckhngbdoiikaa

namespace Go.Proofs.Ytcckhngbdoiikaa
open Go.RowKit Go.Deep
set_option linter.unusedVariables false

set_option maxHeartbeats 1600000 in
theorem all_any (s : ByteArray) (rb gb : Nat) (hs : s.size ≤ 120) (w : World) (O : Nat → Prop) (h : RS w rb gb s 0 RulesT.new O) :
    Calls Try.prog 81 #[.pointer (some ⟨rb, 0, none⟩)] w fun e w' =>
      e = .returned (.bool (allF s).1) ∧ RPost w w' rb gb s O (allF s).2.1 (allF s).2.2 := by
  have hrb := h.lt
  have hR0 := rulem_any s rb gb hs w 0 RulesT.new O h (by omega) (by simp [RulesT.new]) (by simp [RulesT.new])
  have hg0 := ruleF_good s 0 RulesT.new (by omega) (by simp [RulesT.new]) (by simp [RulesT.new])
  generalize hFm : allF s = F
  unfold allF at hFm
  generalize ruleF s 0 RulesT.new = r0 at hR0 hg0 hFm
  have HF := hide hFm
  have HR := hide hR0
  have HG := hide hg0
  clear hFm hR0 hg0
  go_enter Try.func81, Try.ntmps81
  go_wp2_with fail
  refine HR.out.mono ?_
  rintro e w1 ⟨rfl, O1, hS1, hk1, ho1⟩
  have HH1 : Hid (RS w1 rb gb s r0.2.1 r0.2.2 O1 ∧ Kept (fun k => k = rb ∨ O k) w w1 ∧ ∀ k, O1 k → O k ∨ w.heap.size ≤ k) := ⟨hS1, hk1, ho1⟩
  clear hS1 hk1 ho1
  go_wp2_with fail
  go_loopg [3] (s.size + 1) (fun g c wr => ∃ (r : Bool × Nat × RulesT) (O1 : Nat → Prop), c = .bool r.1 ∧ GoodR s 0 r ∧ (r.1 = true → s.size < g + r.2.1) ∧ allLoopF s g r = allLoopF s (s.size + 1) r0 ∧
    RS wr rb gb s r.2.1 r.2.2 O1 ∧ Kept (fun k => k = rb ∨ O k) w wr ∧ ∀ k, O1 k → O k ∨ w.heap.size ≤ k)
  case atStart =>
    obtain ⟨q1, q2, q3⟩ := HH1.out
    exact ⟨r0, O1, rfl, HG.out, fun _ => by omega, rfl, q1, q2, q3⟩
  case round =>
    obtain ⟨r, O3, rfl, hg3, hn3, hF3, hS3, hk3, hO3⟩ := hrel
    clear HH1 HG
    have htop := hg3.top
    have hfew := hg3.few
    have hlas := hg3.last
    obtain ⟨ok, p1, R1⟩ := r
    simp only at htop hfew hlas hn3 hS3 ⊢
    cases ok with
    | false =>
      have hl : allLoopF s gk (false, p1, R1) = (false, p1, R1) := allLoopF_stop _ _ _ (by simp)
      rw [hl] at hF3
      have hFe : F = (false, p1, R1) := by have := HF.out; simp only [← hF3] at this; rw [← this]; rfl
      subst hFe
      clear hF3 hg3 hn3 hl
      go_wp2_with fail
      go_ret
      exact ⟨rfl, O3, hS3, hk3, hO3⟩
    | true =>
      by_cases h10 : peekI s p1 = 10
      · have hgk := hn3 rfl
        have hne : gk = (gk - 1) + 1 := by omega
        rw [hne] at hF3
        unfold allLoopF at hF3
        rw [if_pos ⟨rfl, h10⟩] at hF3
        have hltp : p1 < s.size := peekI_in (by rw [h10]; decide)
        have hgp := ruleF_good s (p1 + 1) R1 (by omega) (by omega) (by omega)
        have hPc := fun W O h1 => rulem_any s rb gb hs W (p1 + 1) R1 O h1 (by omega) (by omega) (by omega)
        simp only at hF3
        generalize ruleF s (p1 + 1) R1 = r2 at hF3 hgp hPc
        obtain ⟨ok2, p2, R2⟩ := r2
        simp only at hPc
        have hle2 := hgp.le
        have hlt2 := hgp.ok
        simp only at hle2 hlt2
        have hg4 : GoodR s 0 (ok2, p2, R2) := ⟨Nat.zero_le _, hgp.top, fun e => by have := hgp.ok e; omega, hgp.few, hgp.last⟩
        have c1 := hS3.rd.c1
        have f1 := hS3.rd.f1
        have HF3 := hide hF3
        have HG4 := hide hg4
        have HPc := hide hPc
        have HLT := hide hlt2
        have HH3 : Hid (RS wr rb gb s p1 R1 O3 ∧ Kept (fun k => k = rb ∨ O k) w wr ∧ ∀ k, O3 k → O k ∨ w.heap.size ≤ k) := ⟨hS3, hk3, hO3⟩
        clear hF3 hg4 hgp hPc hg3 hn3 hS3 hk3 hO3 hlt2 HF
        go_wp2_with fail
        refine (peek_any s p1 rb gb _ HH3.out.1.rd hs (by omega)).mono ?_
        rintro e w4 ⟨rfl, n, rfl⟩
        rw [h10]
        go_wp2_with fail
        refine (HPc.out _ O3 ((HH3.out.1.drewN n).set1)).mono ?_
        rintro e w4 ⟨rfl, O4, hS4, hk4, ho4⟩
        obtain ⟨hS3, hk3, hO3⟩ := HH3.out
        have hz3 : w.heap.size ≤ wr.heap.size := hk3.size
        have HH4 : Hid (RS w4 rb gb s p2 R2 O4 ∧ Kept (fun k => k = rb ∨ O k) w w4 ∧ ∀ k, O4 k → O k ∨ w.heap.size ≤ k) := ⟨hS4, ((hk3.drewN n).setCell (p := ⟨rb, 1, none⟩) (fun _ => .inl rfl) (.int .i64 ((p1 : Int) + 1))).trans hk4 (fun i hi e => by rcases e with e | e; exact .inl e; exact .inr (by rcases hO3 i e with e | e; exact e; omega)), fun k hk => by rcases ho4 k hk with e | e; exact hO3 k e; exact .inr (by simp at e; omega)⟩
        clear hS3 hk3 hO3 hS4 hk4 ho4 HH3 c1 f1
        go_wp2_with fail
        go_roundg (gk - 1)
        case measure => omega
        case rel =>
          obtain ⟨q1, q2, q3⟩ := HH4.out
          refine ⟨_, O4, rfl, HG4.out, fun e => ?_, HF3.out, q1, q2, q3⟩
          have := HLT.out e
          show s.size < gk - 1 + p2
          omega
      · have e10 : (peekI s p1 == 10) = false := by simp [h10]
        have hl : allLoopF s gk (true, p1, R1) = (true, p1, R1) := allLoopF_stop _ _ _ (by simp [h10])
        rw [hl] at hF3
        have hFe : F = (decide (peekI s p1 = -1), p1, R1) := by have := HF.out; simp only [← hF3] at this; rw [← this]; rfl
        subst hFe
        clear hF3 hg3 hn3 hl HF h10
        have e1 : (peekI s p1 == -1) = decide (peekI s p1 = -1) := by cases h : (peekI s p1 == -1) <;> simp_all
        go_wp2_with fail
        refine (peek_any s p1 rb gb _ hS3.rd hs (by omega)).mono ?_
        rintro e w4 ⟨rfl, n, rfl⟩
        go_wp2_with fail
        refine (peek_any s p1 rb gb _ (hS3.rd.drewN n) hs (by omega)).mono ?_
        rintro e w4 ⟨rfl, n2, rfl⟩
        go_wp2_with fail
        go_ret
        exact ⟨rfl, O3, hS3.drewN (n + n2), hk3.drewN (n + n2), hO3⟩

set_option maxHeartbeats 1600000 in
theorem read_long (s : ByteArray) (hs : 120 < s.size) (hm : s.size ≤ maxLen) (w : World) :
    Calls Try.prog 54 #[.string s] w fun e w' => e = .returned (.tuple #[.pointer none, .int .i64 1, .int .i64 0]) ∧ w' = w := by
  unfold maxLen at hm
  have e1 : decide ((120 : Int) < (s.size : Int)) = true := by simp; omega
  go_enter Try.func54, Try.ntmps54
  go_wp2_with fail
  go_ret3
  exact ⟨rfl, rfl⟩

/-- The rules, all of whose memory is new. -/
def RulesNew (w w' : World) (gb : Nat) (R : RulesT) : Prop := ∃ O fv lv, RulesAt w' gb O R fv lv ∧ ∀ k, O k → w.heap.size ≤ k

set_option maxHeartbeats 1600000 in
theorem read_any (s : ByteArray) (hs : s.size ≤ 120) (w : World) :
    Calls Try.prog 54 #[.string s] w fun e w' => Below w.heap.size w w' ∧
      ((allF s).1 = false ∧ e = .returned (.tuple #[.pointer none, .int .i64 2, .int .i64 ((allF s).2.1 : Int)]) ∨
       (allF s).1 = true ∧ ∃ gb, e = .returned (.tuple #[.pointer (some ⟨gb, 0, none⟩), .int .i64 0, .int .i64 0]) ∧ RulesNew w w' gb (allF s).2.2) := by
  have e1 : decide ((120 : Int) < (s.size : Int)) = false := by simp; omega
  generalize hF : allF s = F
  have HF := hide hF
  clear hF
  go_enter Try.func54, Try.ntmps54
  go_wp2_with fail
  have hB0 : Blk (w.alloc (.cells Try.zeroCells152 152)) w.heap.size (rulesC RulesT.new.allow RulesT.new.first (.slice none 0 0) (.slice none 0 0)) 152 := by
    have := Blk.new w Try.zeroCells152 152
    rw [zeroRules] at this ⊢
    exact this
  have hRu0 : RulesAt ((w.alloc (.cells Try.zeroCells152 152)).alloc (.cells #[.string s, .int .i64 0, .pointer (some ⟨w.heap.size, 0, none⟩)] 154)) w.heap.size (fun k => k = w.heap.size) RulesT.new (.slice none 0 0) (.slice none 0 0) :=
    ⟨hB0.alloc _, World.ownsRow_nil _ _ _ _, World.ownsRow_nil _ _ _ _, rfl, fun k e => by simp [Value.ownBlock] at e, fun k e => by simp [Value.ownBlock] at e, fun k e => by simp [Value.ownBlock] at e, fun k e => by simp; omega⟩
  have hS0 : RS ((w.alloc (.cells Try.zeroCells152 152)).alloc (.cells #[.string s, .int .i64 0, .pointer (some ⟨w.heap.size, 0, none⟩)] 154)) (w.heap.size + 1) w.heap.size s 0 RulesT.new (fun k => k = w.heap.size) :=
    ⟨Blk.at1 w _ _ _, ⟨_, _, hRu0⟩, by simp⟩
  refine (all_any s (w.heap.size + 1) w.heap.size hs _ _ hS0).mono ?_
  rw [HF.out]
  rintro e w1 ⟨rfl, O1, hS1, hk1, ho1⟩
  have hbl : Below w.heap.size w w1 := by
    have h2 := Below2 w (.cells Try.zeroCells152 152) (.cells #[.string s, .int .i64 0, .pointer (some ⟨w.heap.size, 0, none⟩)] 154)
    refine h2.trans ⟨hk1.os, hk1.tape, hk1.output, hk1.size, fun k hk => hk1.block k (by simp; omega) (fun e => by rcases e with e | e <;> omega)⟩
  have hO : ∀ k, O1 k → w.heap.size ≤ k := fun k hk => by rcases ho1 k hk with e | e; omega; simp at e; omega
  have c1 := hS1.rd.c1
  have c2 := hS1.rd.c2
  obtain ⟨ok, p, R⟩ := F
  have HH : Hid (Below w.heap.size w w1 ∧ RS w1 (w.heap.size + 1) w.heap.size s p R O1 ∧ ∀ k, O1 k → w.heap.size ≤ k) := ⟨hbl, hS1, hO⟩
  clear hbl hO hS1 hk1 ho1 hS0 hRu0 hB0
  simp only at c1 c2 ⊢
  cases ok with
  | false =>
    go_wp2_with fail
    go_quiet (fail)
    go_wp2_with fail
    go_ret3
    obtain ⟨q1, q2, q3⟩ := HH.out
    exact ⟨⟨q1.os, q1.tape, q1.output, q1.size, q1.block⟩, rfl⟩
  | true =>
    go_wp2_with fail
    go_ret3
    obtain ⟨q1, q2, q3⟩ := HH.out
    obtain ⟨fv, lv, hr⟩ := q2.ru
    exact ⟨q1, _, rfl, O1, fv, lv, hr, q3⟩
end Go.Proofs.Ytcckhngbdoiikaa
