import Derived.Test.YtmgpdaemcbbikaaC23

namespace Go.Proofs.Ytmgpdaemcbbikaa
open Go.RowKit Go.Deep
set_option linter.unusedVariables false

set_option maxHeartbeats 1600000 in
theorem piece_any (s : ByteArray) (rb gb f : Nat) (hA : PartC 150 s rb gb f (atomF s (exprF s f))) (hs : s.size ≤ 120) : PartC 147 s rb gb f (pieceF s (exprF s f)) := by
  intro w p R O h hp hR hf
  have hrb := h.lt
  have hK : Kept (fun k => k = rb ∨ O k) w w := Kept.refl _ _
  have nO : ∀ k, O k → k < w.heap.size := h.olt
  have hnO : ¬ O w.heap.size := fun e => by have := nO _ e; omega
  have hg := atomF_good (exprF_good s f) p R hp hR
  have hAc := fun W O h1 => hA W p R O h1 hp hR hf
  unfold pieceF
  generalize atomF s (exprF s f) p R = r at hg hAc ⊢
  obtain ⟨q, ok, p1, R1⟩ := r
  simp only at hAc
  have htop := hg.top
  have hfew := hg.few
  simp only at htop hfew
  generalize hFm : markF s ⟨q, ok, p1, R1⟩ = F
  have HF := hide hFm
  have HA := hide hAc
  have HS := hide h
  have HNO := hide nO
  clear hAc hA h nO hg hFm
  go_enter Try.func147, Try.ntmps147
  go_wp2_with fail
  refine (HA.out _ O (HS.out.alloc _)).mono ?_
  rintro e w1 ⟨rfl, O1, hS1, hk1, ho1⟩
  have nO := HNO.out
  have hZ1 : Blk w1 w.heap.size part0 213 := (Blk.new w part0 213).kept hk1 (fun e => by rcases e with e | e; omega; exact hnO e)
  have hz1 := hZ1.lt
  have hkW : Kept (fun k => k = rb ∨ O k) w w1 := (hK.alloc _).trans' hk1
  have hO1 : ∀ k, O1 k → O k ∨ w.heap.size < k := by
    intro k hk
    rcases ho1 k hk with e | e
    · exact .inl e
    · exact .inr (by simp at e; omega)
  have hn0 : ¬ O1 w.heap.size := fun e => by rcases hO1 _ e with e | e; have := nO _ e; omega; omega
  have hn1 : ¬ O1 w1.heap.size := fun e => by have := hS1.olt _ e; omega
  have hN1 := Blk.new w1 part0 213
  have hl1 := hS1.lt
  have hS2 := (hS1.alloc (.cells part0 213)).setRow (g := w1.heap.size) (by omega) hn1 (partC q)
  have hk2 := (hkW.alloc (.cells part0 213)).setRow (g := w1.heap.size) (by omega) (partC q)
  have hZ2 := (hZ1.alloc (.cells part0 213)).setRowOther (g := w1.heap.size) (by omega) (partC q)
  have hI2 := hN1.setRow (partC q)
  have hne : w1.heap.size ≠ w.heap.size := by omega
  have hne1 : w1.heap.size ≠ rb := by omega
  have hne0 : w.heap.size ≠ rb := by omega
  have hO2 : ∀ k, O1 k → O k ∨ w.heap.size ≤ k := fun k hk => (hO1 k hk).imp id (fun e => by omega)
  have HO := hide hO2
  clear hS1 hk1 ho1 hkW hO1 nO hZ1 hO2 HNO HS HA
  cases ok with
  | false =>
    have hFe : F = ⟨PartT.new, false, p1, R1⟩ := by rw [← HF.out]; rfl
    subst hFe
    clear HF
    go_wp2_with (first | refine storeP rfl (.tmp 4) (.tmp 9) rfl w1.heap.size rfl rfl hN1 rfl ?_ | refine storeP (q := PartT.new) rfl (.tmp 2) (.tmp 13) rfl w.heap.size rfl rfl hZ2 rfl ?_)
    exact bodyPost_ret (resultsPartTmp Try.results147 _ rfl (hZ2.setRow _)) rfl ⟨rfl, O1, hS2.setRow hne0 hn0 _, hk2.setRow (by omega) _, HO.out⟩
  | true =>
    have hr2 := hS2.rd
    go_wp2_with (first | refine storeP rfl (.tmp 4) (.tmp 9) rfl w1.heap.size rfl rfl hN1 rfl ?_)
    refine (peek_any s p1 rb gb _ hr2 hs (by omega)).mono ?_
    rintro e w3 ⟨rfl, n, rfl⟩
    have hS3 := hS2.drewN n
    have hk3 := hk2.drewN n
    have hZ3 := hZ2.drewN n
    have hI3 := hI2.drewN n
    clear hS2 hk2 hZ2 hI2 hr2 hN1
    generalize ((w1.alloc (.cells part0 213)).setRow w1.heap.size (partC q)).drewN n = w2 at hS3 hk3 hZ3 hI3 ⊢
    generalize w1.heap.size = m at hS3 hk3 hZ3 hI3 hne hne1 hn1 hz1 ⊢
    by_cases h42 : peekI s p1 = 42
    · have hFe : F = ⟨{ q with empty := true }, true, p1 + 1, R1.link q.last q.first⟩ := by rw [← HF.out]; simp [markF, h42]
      subst hFe
      clear HF
      rw [h42]
      obtain ⟨fv, lv, hRu⟩ := hS3.ru
      have c2 := hS3.rd.c2
      have c1 := hS3.rd.c1
      have f1 := hS3.rd.f1
      have i0 : w2.cell? ⟨m, 0, none⟩ = some (.int .u64 (q.first.lo.toNat : Int)) := hI3.cell 0
      have i1 : w2.cell? ⟨m, 1, none⟩ = some (.int .u64 (q.first.hi.toNat : Int)) := hI3.cell 1
      have i2 : w2.cell? ⟨m, 2, none⟩ = some (.int .u64 (q.last.lo.toNat : Int)) := hI3.cell 2
      have i3 : w2.cell? ⟨m, 3, none⟩ = some (.int .u64 (q.last.hi.toNat : Int)) := hI3.cell 3
      have zr := hS3.lt
      have zm := hI3.lt
      have hno := hS3.no
      have HH : Hid (RS w2 rb gb s p1 R1 O1 ∧ Kept (fun k => k = rb ∨ O k) w w2 ∧ Blk w2 w.heap.size part0 213 ∧ Blk w2 m (partC q) 213 ∧ RulesAt w2 gb O1 R1 fv lv) := ⟨hS3, hk3, hZ3, hI3, hRu⟩
      clear hS3 hk3 hZ3 hI3 hRu
      go_wp2_with fail
      go_region_held3 (fun w' => w'.cell? ⟨rb, 2, none⟩ = some (.pointer (some ⟨gb, 0, none⟩)) ∧ w'.cell? ⟨m, 0, none⟩ = some (.int .u64 (q.first.lo.toNat : Int)) ∧ w'.cell? ⟨m, 1, none⟩ = some (.int .u64 (q.first.hi.toNat : Int)) ∧ w'.cell? ⟨m, 2, none⟩ = some (.int .u64 (q.last.lo.toNat : Int)) ∧ w'.cell? ⟨m, 3, none⟩ = some (.int .u64 (q.last.hi.toNat : Int)))
        (first | exact ⟨c2, i0, i1, i2, i3⟩ | exact ⟨j0, j1, j2, j3, j4⟩)
        (first | (go_at_call 151; refine (link_any R1 gb O1 fv lv q.last q.first _ HH.out.2.2.2.2.drew (by omega)).mono ?_; rintro e w4 ⟨rfl, hR4, hk4⟩; have j0 := (hk4.cell (p := ⟨rb, 2, none⟩) zr hno).trans c2; have j1 := (hk4.cell (p := ⟨m, 0, none⟩) zm hn1).trans i0; have j2 := (hk4.cell (p := ⟨m, 1, none⟩) zm hn1).trans i1; have j3 := (hk4.cell (p := ⟨m, 2, none⟩) zm hn1).trans i2; have j4 := (hk4.cell (p := ⟨m, 3, none⟩) zm hn1).trans i3))
      obtain ⟨hS3, hk3, hZ3, hI3, hRu⟩ := HH.out
      have hS4 := hS3.drew.turned hR4 hk4
      have hk5 : Kept (fun k => k = rb ∨ O k) w w4 := hk3.drew.trans hk4 (fun i hi e => .inr (by rcases HO.out i e with e | e; exact e; omega))
      have hZ4 := hZ3.drew.kept hk4 hn0
      have hI4 := hI3.drew.kept hk4 hn1
      clear hS3 hk3 hZ3 hI3 hRu HH j0 j1 j2 j3 j4 c2 c1 f1 i0 i1 i2 i3 hR4 hk4
      have c1 := hS4.rd.c1
      have f1 := hS4.rd.f1
      have e4 : w4.cell? ⟨m, 4, none⟩ = some (.bool q.empty) := hI4.cell 4
      have f4 := hI4.frozen 4
      have hI5 := (hI4.set 4 (.bool true)).setOther (p := ⟨rb, 1, none⟩) (by simp; omega) (.int .i64 ((p1 : Int) + 1))
      have hZ5 := (hZ4.setOther (p := ⟨m, 4, none⟩) (by simp; omega) (.bool true)).setOther (p := ⟨rb, 1, none⟩) (by simp; omega) (.int .i64 ((p1 : Int) + 1))
      have hS5 := (hS4.setOther (a := ⟨m, 4, none⟩) hne1 hn1 (.bool true)).set1
      have hk6 := (hk5.setCell (p := ⟨m, 4, none⟩) (by simp; omega) (.bool true)).setCell (p := ⟨rb, 1, none⟩) (fun _ => .inl rfl) (.int .i64 ((p1 : Int) + 1))
      have hI6 : Blk _ m (partC { q with empty := true }) 213 := hI5
      clear hS4 hk5 hZ4 hI4 hI5
      go_wp2_with (first | refine loadP rfl (.tmp 4) rfl m rfl hI6 ?_ | refine storeP rfl (.tmp 2) (.tmp 50) rfl w.heap.size rfl rfl hZ5 rfl ?_)
      exact bodyPost_ret (resultsPartTmp Try.results147 _ rfl (hZ5.setRow _)) rfl ⟨rfl, O1, hS5.setRow hne0 hn0 _, hk6.setRow (by omega) _, HO.out⟩
    have e42 : (peekI s p1 == 42) = false := by simp [h42]
    by_cases h43 : peekI s p1 = 43
    · have hFe : F = ⟨q, true, p1 + 1, R1.link q.last q.first⟩ := by rw [← HF.out]; simp [markF, h43]
      subst hFe
      clear HF
      rw [h43] at e42 ⊢
      obtain ⟨fv, lv, hRu⟩ := hS3.ru
      have c2 := hS3.rd.c2
      have c1 := hS3.rd.c1
      have f1 := hS3.rd.f1
      have i0 : w2.cell? ⟨m, 0, none⟩ = some (.int .u64 (q.first.lo.toNat : Int)) := hI3.cell 0
      have i1 : w2.cell? ⟨m, 1, none⟩ = some (.int .u64 (q.first.hi.toNat : Int)) := hI3.cell 1
      have i2 : w2.cell? ⟨m, 2, none⟩ = some (.int .u64 (q.last.lo.toNat : Int)) := hI3.cell 2
      have i3 : w2.cell? ⟨m, 3, none⟩ = some (.int .u64 (q.last.hi.toNat : Int)) := hI3.cell 3
      have zr := hS3.lt
      have zm := hI3.lt
      have hno := hS3.no
      have HH : Hid (RS w2 rb gb s p1 R1 O1 ∧ Kept (fun k => k = rb ∨ O k) w w2 ∧ Blk w2 w.heap.size part0 213 ∧ Blk w2 m (partC q) 213 ∧ RulesAt w2 gb O1 R1 fv lv) := ⟨hS3, hk3, hZ3, hI3, hRu⟩
      clear hS3 hk3 hZ3 hI3 hRu
      go_wp2_with fail
      go_region_held3 (fun w' => w'.cell? ⟨rb, 2, none⟩ = some (.pointer (some ⟨gb, 0, none⟩)) ∧ w'.cell? ⟨m, 0, none⟩ = some (.int .u64 (q.first.lo.toNat : Int)) ∧ w'.cell? ⟨m, 1, none⟩ = some (.int .u64 (q.first.hi.toNat : Int)) ∧ w'.cell? ⟨m, 2, none⟩ = some (.int .u64 (q.last.lo.toNat : Int)) ∧ w'.cell? ⟨m, 3, none⟩ = some (.int .u64 (q.last.hi.toNat : Int)))
        (first | exact ⟨c2, i0, i1, i2, i3⟩ | exact ⟨j0, j1, j2, j3, j4⟩)
        (first | (go_at_call 151; refine (link_any R1 gb O1 fv lv q.last q.first _ HH.out.2.2.2.2.drew (by omega)).mono ?_; rintro e w4 ⟨rfl, hR4, hk4⟩; have j0 := (hk4.cell (p := ⟨rb, 2, none⟩) zr hno).trans c2; have j1 := (hk4.cell (p := ⟨m, 0, none⟩) zm hn1).trans i0; have j2 := (hk4.cell (p := ⟨m, 1, none⟩) zm hn1).trans i1; have j3 := (hk4.cell (p := ⟨m, 2, none⟩) zm hn1).trans i2; have j4 := (hk4.cell (p := ⟨m, 3, none⟩) zm hn1).trans i3))
      obtain ⟨hS3, hk3, hZ3, hI3, hRu⟩ := HH.out
      have hS4 := hS3.drew.turned hR4 hk4
      have hk5 : Kept (fun k => k = rb ∨ O k) w w4 := hk3.drew.trans hk4 (fun i hi e => .inr (by rcases HO.out i e with e | e; exact e; omega))
      have hZ4 := hZ3.drew.kept hk4 hn0
      have hI4 := hI3.drew.kept hk4 hn1
      clear hS3 hk3 hZ3 hI3 hRu HH j0 j1 j2 j3 j4 c2 c1 f1 i0 i1 i2 i3 hR4 hk4
      have c1 := hS4.rd.c1
      have f1 := hS4.rd.f1
      have hI5 := hI4.setOther (p := ⟨rb, 1, none⟩) (by simp; omega) (.int .i64 ((p1 : Int) + 1))
      have hZ5 := hZ4.setOther (p := ⟨rb, 1, none⟩) (by simp; omega) (.int .i64 ((p1 : Int) + 1))
      have hS5 := hS4.set1
      have hk6 := hk5.setCell (p := ⟨rb, 1, none⟩) (fun _ => .inl rfl) (.int .i64 ((p1 : Int) + 1))
      clear hS4 hk5 hZ4 hI4
      go_wp2_with (first | refine loadP rfl (.tmp 4) rfl m rfl hI5 ?_ | refine storeP rfl (.tmp 2) (.tmp 50) rfl w.heap.size rfl rfl hZ5 rfl ?_)
      exact bodyPost_ret (resultsPartTmp Try.results147 _ rfl (hZ5.setRow _)) rfl ⟨rfl, O1, hS5.setRow hne0 hn0 _, hk6.setRow (by omega) _, HO.out⟩
    have e43 : (peekI s p1 == 43) = false := by simp [h43]
    have hS4 := hS3
    have hk5 := hk3
    have hZ4 := hZ3
    have hI4 := hI3
    have c1 := hS3.rd.c1
    have f1 := hS3.rd.f1
    clear hS3 hk3 hZ3 hI3
    generalize w2 = w4 at hS4 hk5 hZ4 hI4 c1 f1 ⊢
    by_cases h63 : peekI s p1 = 63
    · have hFe : F = ⟨{ q with empty := true }, true, p1 + 1, R1⟩ := by rw [← HF.out]; simp [markF, h63]
      subst hFe
      clear HF
      rw [h63] at e42 e43 ⊢
      have e4 : w4.cell? ⟨m, 4, none⟩ = some (.bool q.empty) := hI4.cell 4
      have f4 := hI4.frozen 4
      have hI5 := (hI4.set 4 (.bool true)).setOther (p := ⟨rb, 1, none⟩) (by simp; omega) (.int .i64 ((p1 : Int) + 1))
      have hZ5 := (hZ4.setOther (p := ⟨m, 4, none⟩) (by simp; omega) (.bool true)).setOther (p := ⟨rb, 1, none⟩) (by simp; omega) (.int .i64 ((p1 : Int) + 1))
      have hS5 := (hS4.setOther (a := ⟨m, 4, none⟩) hne1 hn1 (.bool true)).set1
      have hk6 := (hk5.setCell (p := ⟨m, 4, none⟩) (by simp; omega) (.bool true)).setCell (p := ⟨rb, 1, none⟩) (fun _ => .inl rfl) (.int .i64 ((p1 : Int) + 1))
      have hI6 : Blk _ m (partC { q with empty := true }) 213 := hI5
      clear hS4 hk5 hZ4 hI4 hI5
      go_wp2_with (first | refine loadP rfl (.tmp 4) rfl m rfl hI6 ?_ | refine storeP rfl (.tmp 2) (.tmp 50) rfl w.heap.size rfl rfl hZ5 rfl ?_)
      exact bodyPost_ret (resultsPartTmp Try.results147 _ rfl (hZ5.setRow _)) rfl ⟨rfl, O1, hS5.setRow hne0 hn0 _, hk6.setRow (by omega) _, HO.out⟩
    · have e63 : (peekI s p1 == 63) = false := by simp [h63]
      have hFe : F = ⟨q, true, p1, R1⟩ := by rw [← HF.out]; simp [markF, h42, h43, h63]
      subst hFe
      clear HF h42 h43 h63
      go_wp2_with (first | refine loadP rfl (.tmp 4) rfl m rfl hI4 ?_ | refine storeP rfl (.tmp 2) (.tmp 16) rfl w.heap.size rfl rfl hZ4 rfl ?_)
      exact bodyPost_ret (resultsPartTmp Try.results147 _ rfl (hZ4.setRow _)) rfl ⟨rfl, O1, hS4.setRow hne0 hn0 _, hk5.setRow (by omega) _, HO.out⟩
end Go.Proofs.Ytmgpdaemcbbikaa

namespace Go.Proofs.Ytmgpdaemcbbikaa
open Go.RowKit Go.Deep
set_option linter.unusedVariables false

set_option maxHeartbeats 3200000 in
theorem alternative_any (s : ByteArray) (rb gb f : Nat) (hP : PartC 147 s rb gb f (pieceF s (exprF s f))) (hs : s.size ≤ 120) : PartC 143 s rb gb f (alternativeF s (exprF s f)) := by
  intro w p R O h hp hR hf
  have hrb := h.lt
  have hK : Kept (fun k => k = rb ∨ O k) w w := Kept.refl _ _
  have nO : ∀ k, O k → k < w.heap.size := h.olt
  have hnO : ¬ O w.heap.size := fun e => by have := nO _ e; omega
  have hgex := exprF_good s f
  have hg := pieceF_good hgex p R hp hR
  have hPc := fun W O h1 => hP W p R O h1 hp hR hf
  unfold alternativeF
  generalize hr0 : pieceF s (exprF s f) p R = r0 at hg hPc ⊢
  generalize hFm : altLoopF s (exprF s f) (s.size + 1) r0 = F
  have HF := hide hFm
  have HA := hide hPc
  have HS := hide h
  have HNO := hide nO
  have HP := hide hP
  have HGX := hide hgex
  have HG := hide hg
  clear hPc hP h nO hFm hr0 hg hgex
  go_enter Try.func143, Try.ntmps143
  go_wp2_with fail
  refine (HA.out _ O (HS.out.alloc _)).mono ?_
  rintro e w1 ⟨rfl, O1, hS1, hk1, ho1⟩
  have nO := HNO.out
  have hZ1 : Blk w1 w.heap.size part0 213 := (Blk.new w part0 213).kept hk1 (fun e => by rcases e with e | e; omega; exact hnO e)
  have hz1 := hZ1.lt
  have hkW : Kept (fun k => k = rb ∨ O k) w w1 := (hK.alloc _).trans' hk1
  have hO1 : ∀ k, O1 k → O k ∨ w.heap.size < k := by
    intro k hk
    rcases ho1 k hk with e | e
    · exact .inl e
    · exact .inr (by simp at e; omega)
  have hn0 : ¬ O1 w.heap.size := fun e => by rcases hO1 _ e with e | e; have := nO _ e; omega; omega
  have hn1 : ¬ O1 w1.heap.size := fun e => by have := hS1.olt _ e; omega
  have hN1 := Blk.new w1 part0 213
  have hl1 := hS1.lt
  have hS2 := (hS1.alloc (.cells part0 213)).setRow (g := w1.heap.size) (by omega) hn1 (partC r0.part)
  have hk2 := (hkW.alloc (.cells part0 213)).setRow (g := w1.heap.size) (by omega) (partC r0.part)
  have hZ2 := (hZ1.alloc (.cells part0 213)).setRowOther (g := w1.heap.size) (by omega) (partC r0.part)
  have hI2 := hN1.setRow (partC r0.part)
  have hO2 : ∀ k, O1 k → O k ∨ w.heap.size ≤ k := fun k hk => (hO1 k hk).imp id (fun e => by omega)
  have HH0 : Hid (RS ((w1.alloc (.cells part0 213)).setRow w1.heap.size (partC r0.part)) rb gb s r0.at' r0.rules O1 ∧ Kept (fun k => k = rb ∨ O k) w ((w1.alloc (.cells part0 213)).setRow w1.heap.size (partC r0.part)) ∧
    Blk ((w1.alloc (.cells part0 213)).setRow w1.heap.size (partC r0.part)) w.heap.size part0 213 ∧ Blk ((w1.alloc (.cells part0 213)).setRow w1.heap.size (partC r0.part)) w1.heap.size (partC r0.part) 213 ∧ ¬ O1 w.heap.size ∧ ¬ O1 w1.heap.size ∧ ∀ k, O1 k → O k ∨ w.heap.size ≤ k) := ⟨hS2, hk2, hZ2, hI2, hn0, hn1, hO2⟩
  clear hS1 hk1 ho1 hkW hO1 nO hZ1 hO2 HNO HS HA hS2 hk2 hZ2 hI2 hn0 hn1
  go_wp2_with (first | refine storeP rfl (.tmp 4) (.tmp 11) rfl w1.heap.size rfl rfl hN1 rfl ?_)
  clear hN1
  generalize ((w1.alloc (.cells part0 213)).setRow w1.heap.size (partC r0.part)) = w2 at HH0 ⊢
  generalize w1.heap.size = m at HH0 hz1 hl1 ⊢
  go_loopg [5] (s.size + 1) (fun g c wr => ∃ (r : PRes) (O1 : Nat → Prop), c = .bool r.ok ∧ Good s p R r ∧ (r.ok = true → s.size < g + r.at') ∧ altLoopF s (exprF s f) g r = F ∧
    RS wr rb gb s r.at' r.rules O1 ∧ Kept (fun k => k = rb ∨ O k) w wr ∧ Blk wr w.heap.size part0 213 ∧ Blk wr m (partC r.part) 213 ∧ ¬ O1 w.heap.size ∧ ¬ O1 m ∧ ∀ k, O1 k → O k ∨ w.heap.size ≤ k)
  case atStart =>
    obtain ⟨q1, q2, q3, q4, q5, q6, q7⟩ := HH0.out
    exact ⟨r0, O1, rfl, HG.out, fun _ => by omega, HF.out, q1, q2, q3, q4, q5, q6, q7⟩
  case round =>
    obtain ⟨r, O3, rfl, hg3, hn3, hF3, hS3, hk3, hZ3, hI3, no0, nom, hO3⟩ := hrel
    clear HH0 HF HG
    have htop := hg3.top
    have hfew := hg3.few
    have hle := hg3.le
    obtain ⟨q, ok, p1, R1⟩ := r
    simp only at htop hfew hle hn3 hS3 hI3 ⊢
    cases ok with
    | false =>
      have hFe : F = ⟨q, false, p1, R1⟩ := by rw [← hF3]; exact altLoopF_stop _ _ _ _ (by simp)
      subst hFe
      clear hF3 hg3 hn3
      go_wp2_with (first | refine loadP rfl (.tmp 4) rfl m rfl hI3 ?_ | refine storeP rfl (.tmp 2) (.tmp 32) rfl w.heap.size rfl rfl hZ3 rfl ?_)
      exact bodyPost_ret (resultsPartTmp Try.results143 _ rfl (hZ3.setRow _)) rfl ⟨rfl, O3, hS3.setRow (by omega) no0 _, hk3.setRow (by omega) _, hO3⟩
    | true =>
      cases hend : endsB (peekI s p1) with
      | true =>
        have hFe : F = ⟨q, true, p1, R1⟩ := by rw [← hF3]; exact altLoopF_stop _ _ _ _ (by simp [hend])
        subst hFe
        clear hF3 hg3 hn3
        go_wp2_with fail
        refine (alternativeEnds_any s p1 rb gb _ hS3.rd hs (by omega)).mono ?_
        rintro e w4 ⟨rfl, n, rfl⟩
        rw [hend]
        have hI4 := hI3.drewN n
        have hZ4 := hZ3.drewN n
        go_wp2_with (first | refine loadP rfl (.tmp 4) rfl m rfl hI4 ?_ | refine storeP rfl (.tmp 2) (.tmp 32) rfl w.heap.size rfl rfl hZ4 rfl ?_)
        exact bodyPost_ret (resultsPartTmp Try.results143 _ rfl (hZ4.setRow _)) rfl ⟨rfl, O3, (hS3.drewN n).setRow (by omega) no0 _, (hk3.drewN n).setRow (by omega) _, hO3⟩
      | false =>
        have hgk := hn3 rfl
        have hne : gk = (gk - 1) + 1 := by omega
        rw [hne] at hF3
        unfold altLoopF at hF3
        rw [if_pos ⟨rfl, hend⟩] at hF3
        have hg4 := altStep_good HGX.out hg3 rfl
        have hgp := pieceF_good HGX.out p1 R1 htop hfew
        have hPc := fun W O h1 => HP.out W p1 R1 O h1 htop hfew (by omega)
        simp only at hF3 hg4
        generalize pieceF s (exprF s f) p1 R1 = r2 at hF3 hg4 hgp hPc
        obtain ⟨q2, ok2, p2, R2⟩ := r2
        simp only at hF3 hg4 hgp hPc
        have hlt2 := hgp.ok
        have hfew2 := hgp.few
        have htop2 := hgp.top
        simp only at hlt2 hfew2 htop2
        have HF3 := hide hF3
        have HG4 := hide hg4
        have HPc := hide hPc
        have HLT := hide hlt2
        have hzm := hI3.lt
        have hzn := hZ3.lt
        have HH3 : Hid (RS wr rb gb s p1 R1 O3 ∧ Kept (fun k => k = rb ∨ O k) w wr ∧ Blk wr w.heap.size part0 213 ∧ Blk wr m (partC q) 213 ∧ ∀ k, O3 k → O k ∨ w.heap.size ≤ k) := ⟨hS3, hk3, hZ3, hI3, hO3⟩
        clear hF3 hg4 hgp hPc hg3 hn3 hlt2 hS3 hk3 hZ3 hI3 hO3
        go_wp2_with fail
        refine (alternativeEnds_any s p1 rb gb _ HH3.out.1.rd hs (by omega)).mono ?_
        rintro e w4 ⟨rfl, n, rfl⟩
        rw [hend]
        go_wp2_with fail
        refine (HPc.out _ O3 (HH3.out.1.drewN n)).mono ?_
        rintro e w4 ⟨rfl, O4, hS4, hk4, ho4⟩
        obtain ⟨hS3, hk3, hZ3, hI3, hO3⟩ := HH3.out
        have hz4 : wr.heap.size ≤ w4.heap.size := hk4.size
        have hI4 := (hI3.drewN n).kept hk4 (fun e => by rcases e with e | e; omega; exact nom e)
        have hZ4 := (hZ3.drewN n).kept hk4 (fun e => by rcases e with e | e; omega; exact no0 e)
        have hkW : Kept (fun k => k = rb ∨ O k) w w4 := (hk3.drewN n).trans hk4 (fun i hi e => by rcases e with e | e; exact .inl e; exact .inr (by rcases hO3 i e with e | e; exact e; omega))
        have no0' : ¬ O4 w.heap.size := fun e => by rcases ho4 _ e with e | e; exact no0 e; simp at e; omega
        have nom' : ¬ O4 m := fun e => by rcases ho4 _ e with e | e; exact nom e; simp at e; omega
        have hO4 : ∀ k, O4 k → O k ∨ w.heap.size ≤ k := fun k hk => by rcases ho4 k hk with e | e; exact hO3 k e; exact .inr (by simp at e; omega)
        have nol : ¬ O4 w4.heap.size := fun e => by have := hS4.olt _ e; omega
        have hN4 := Blk.new w4 part0 213
        have hl4 := hS4.lt
        have hS5 := (hS4.alloc (.cells part0 213)).setRow (g := w4.heap.size) (by omega) nol (partC q2)
        have hk5 := (hkW.alloc (.cells part0 213)).setRow (g := w4.heap.size) (by omega) (partC q2)
        have hZ5 := (hZ4.alloc (.cells part0 213)).setRowOther (g := w4.heap.size) (by omega) (partC q2)
        have hI5 := (hI4.alloc (.cells part0 213)).setRowOther (g := w4.heap.size) (by omega) (partC q2)
        have hX5 := hN4.setRow (partC q2)
        have hxm : w4.heap.size ≠ m := by omega
        clear hS3 hk3 hZ3 hI3 hO3 HH3 hS4 hk4 ho4 hkW hZ4 hI4 HPc hend
        go_wp2_with (first | refine storeP rfl (.tmp 6) (.tmp 22) rfl w4.heap.size rfl rfl hN4 rfl ?_)
        clear hN4
        generalize ((w4.alloc (.cells part0 213)).setRow w4.heap.size (partC q2)) = w5 at hS5 hk5 hZ5 hI5 hX5 ⊢
        generalize w4.heap.size = x at hX5 hxm hl4 hz4 nol ⊢
        obtain ⟨fv, lv, hRu⟩ := hS5.ru
        have c2 := hS5.rd.c2
        have a0 : w5.cell? ⟨m, 0, none⟩ = some (.int .u64 (q.first.lo.toNat : Int)) := hI5.cell 0
        have a1 : w5.cell? ⟨m, 1, none⟩ = some (.int .u64 (q.first.hi.toNat : Int)) := hI5.cell 1
        have a2 : w5.cell? ⟨m, 2, none⟩ = some (.int .u64 (q.last.lo.toNat : Int)) := hI5.cell 2
        have a3 : w5.cell? ⟨m, 3, none⟩ = some (.int .u64 (q.last.hi.toNat : Int)) := hI5.cell 3
        have a4 : w5.cell? ⟨m, 4, none⟩ = some (.bool q.empty) := hI5.cell 4
        have b0 : w5.cell? ⟨x, 0, none⟩ = some (.int .u64 (q2.first.lo.toNat : Int)) := hX5.cell 0
        have b1 : w5.cell? ⟨x, 1, none⟩ = some (.int .u64 (q2.first.hi.toNat : Int)) := hX5.cell 1
        have b2 : w5.cell? ⟨x, 2, none⟩ = some (.int .u64 (q2.last.lo.toNat : Int)) := hX5.cell 2
        have b3 : w5.cell? ⟨x, 3, none⟩ = some (.int .u64 (q2.last.hi.toNat : Int)) := hX5.cell 3
        have b4 : w5.cell? ⟨x, 4, none⟩ = some (.bool q2.empty) := hX5.cell 4
        have HH5 : Hid (RS w5 rb gb s p2 R2 O4 ∧ Kept (fun k => k = rb ∨ O k) w w5 ∧ Blk w5 w.heap.size part0 213 ∧ Blk w5 m (partC q) 213 ∧ RulesAt w5 gb O4 R2 fv lv ∧ ∀ k, O4 k → O k ∨ w.heap.size ≤ k) := ⟨hS5, hk5, hZ5, hI5, hRu, hO4⟩
        have hzm5 := hI5.lt
        clear hS5 hk5 hZ5 hI5 hX5 hRu hO4
        go_wp2_with fail
        go_region_with (go_at_call 149; refine (chain_any R2 gb O4 fv lv q q2 _ HH5.out.2.2.2.2.1.drew (by omega)).mono ?_; rintro e w6 ⟨rfl, hR6, hk6⟩; have k3 := HH5.out.2.2.2.1.drew.kept hk6 nom'; have k30 := k3.cell 0; have k31 := k3.cell 1; have k32 := k3.cell 2; have k33 := k3.cell 3; have k34 := k3.cell 4; have k40 := k3.frozen 0; have k41 := k3.frozen 1; have k42 := k3.frozen 2; have k43 := k3.frozen 3; have k44 := k3.frozen 4)
        all_goals
          go_wp2_with fail
          go_roundg (gk - 1)
          case measure => omega
          case rel =>
            obtain ⟨hS5, hk5, hZ5, hI5, hRu, hO4⟩ := HH5.out
            have hS6 := hS5.drew.turned hR6 hk6
            have hk7 : Kept (fun k => k = rb ∨ O k) w w6 := hk5.drew.trans hk6 (fun i hi e => .inr (by rcases hO4 i e with e | e; exact e; omega))
            have hZ6 := hZ5.drew.kept hk6 no0'
            refine ⟨_, O4, rfl, HG4.out, fun e => ?_, HF3.out, ((((hS6.setOther (by simp; omega) nom' _).setOther (by simp; omega) nom' _).setOther (by simp; omega) nom' _).setOther (by simp; omega) nom' _).setOther (by simp; omega) nom' _, ?_, ?_, ?_, no0', nom', hO4⟩
            · have := HLT.out e
              show s.size < gk - 1 + p2
              omega
            · exact ((((hk7.setCell (by simp; omega) _).setCell (by simp; omega) _).setCell (by simp; omega) _).setCell (by simp; omega) _).setCell (by simp; omega) _
            · exact ((((hZ6.setOther (by simp; omega) _).setOther (by simp; omega) _).setOther (by simp; omega) _).setOther (by simp; omega) _).setOther (by simp; omega) _
            · exact ((((k3.set 0 _).set 1 _).set 2 _).set 3 _).set 4 _
end Go.Proofs.Ytmgpdaemcbbikaa
