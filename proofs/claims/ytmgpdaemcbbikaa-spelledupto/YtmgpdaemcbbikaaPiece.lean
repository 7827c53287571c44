import Derived.Test.YtmgpdaemcbbikaaConts
namespace Go.Proofs.Ytmgpdaemcbbikaa
open Go.RowKit Go.Deep
set_option linter.unusedVariables false

set_option maxHeartbeats 1600000 in
theorem piece_any (s : ByteArray) (rb gb f : Nat) (hA : PartC 150 s rb gb f (atomF s (exprF s f))) (hs : s.size ≤ 120) : PartC 147 s rb gb f (pieceF s (exprF s f)) := by
  intro w p R O h hp hR hf
  have hrb := h.lt
  have hK : Kept (fun k => k = rb ∨ O k) w w := Kept.refl _ _
  have nO : ∀ k, O k → k < w.heap.size := h.olt
  have hnO : ¬ O w.heap.size := fun e => by have := nO _ e; omega
  have hg := atomF_good (exprF_good s f) p R hp hR
  have hAc := fun W O h1 => hA W p R O h1 hp hR hf
  unfold pieceF
  generalize atomF s (exprF s f) p R = r at hg hAc ⊢
  obtain ⟨q, ok, p1, R1⟩ := r
  simp only at hAc
  have htop := hg.top
  have hfew := hg.few
  simp only at htop hfew
  generalize hFm : markF s ⟨q, ok, p1, R1⟩ = F
  have HF := hide hFm
  have HA := hide hAc
  have HS := hide h
  have HNO := hide nO
  clear hAc hA h nO hg hFm
  go_enter Try.func147, Try.ntmps147
  go_wp2_with fail
  refine (HA.out _ O (HS.out.alloc _)).mono ?_
  rintro e w1 ⟨rfl, O1, hS1, hk1, ho1⟩
  have nO := HNO.out
  have hZ1 : Blk w1 w.heap.size part0 213 := (Blk.new w part0 213).kept hk1 (fun e => by rcases e with e | e; omega; exact hnO e)
  have hz1 := hZ1.lt
  have hkW : Kept (fun k => k = rb ∨ O k) w w1 := (hK.alloc _).trans' hk1
  have hO1 : ∀ k, O1 k → O k ∨ w.heap.size < k := by
    intro k hk
    rcases ho1 k hk with e | e
    · exact .inl e
    · exact .inr (by simp at e; omega)
  have hn0 : ¬ O1 w.heap.size := fun e => by rcases hO1 _ e with e | e; have := nO _ e; omega; omega
  have hn1 : ¬ O1 w1.heap.size := fun e => by have := hS1.olt _ e; omega
  have hN1 := Blk.new w1 part0 213
  have hl1 := hS1.lt
  have hS2 := (hS1.alloc (.cells part0 213)).setRow (g := w1.heap.size) (by omega) hn1 (partC q)
  have hk2 := (hkW.alloc (.cells part0 213)).setRow (g := w1.heap.size) (by omega) (partC q)
  have hZ2 := (hZ1.alloc (.cells part0 213)).setRowOther (g := w1.heap.size) (by omega) (partC q)
  have hI2 := hN1.setRow (partC q)
  have hne : w1.heap.size ≠ w.heap.size := by omega
  have hne1 : w1.heap.size ≠ rb := by omega
  have hne0 : w.heap.size ≠ rb := by omega
  have hO2 : ∀ k, O1 k → O k ∨ w.heap.size ≤ k := fun k hk => (hO1 k hk).imp id (fun e => by omega)
  have HO := hide hO2
  clear hS1 hk1 ho1 hkW hO1 nO hZ1 hO2 HNO HS HA
  cases ok with
  | false =>
    have hFe : F = ⟨PartT.new, false, p1, R1⟩ := by rw [← HF.out]; rfl
    subst hFe
    clear HF
    go_wp2_with (first | refine storeP rfl (.tmp 4) (.tmp 9) rfl w1.heap.size rfl rfl hN1 rfl ?_ | refine storeP (q := PartT.new) rfl (.tmp 2) (.tmp 13) rfl w.heap.size rfl rfl hZ2 rfl ?_)
    exact bodyPost_ret (resultsPartTmp Try.results147 _ rfl (hZ2.setRow _)) rfl ⟨rfl, O1, hS2.setRow hne0 hn0 _, hk2.setRow (by omega) _, HO.out⟩
  | true =>
    have hr2 := hS2.rd
    go_wp2_with (first | refine storeP rfl (.tmp 4) (.tmp 9) rfl w1.heap.size rfl rfl hN1 rfl ?_)
    refine (peek_any s p1 rb gb _ hr2 hs (by omega)).mono ?_
    rintro e w3 ⟨rfl, n, rfl⟩
    have hS3 := hS2.drewN n
    have hk3 := hk2.drewN n
    have hZ3 := hZ2.drewN n
    have hI3 := hI2.drewN n
    clear hS2 hk2 hZ2 hI2 hr2 hN1
    generalize ((w1.alloc (.cells part0 213)).setRow w1.heap.size (partC q)).drewN n = w2 at hS3 hk3 hZ3 hI3 ⊢
    generalize w1.heap.size = m at hS3 hk3 hZ3 hI3 hne hne1 hn1 hz1 ⊢
    by_cases h42 : peekI s p1 = 42
    · have hFe : F = ⟨{ q with empty := true }, true, p1 + 1, R1.link q.last q.first⟩ := by rw [← HF.out]; simp [markF, h42]
      subst hFe
      clear HF
      rw [h42]
      obtain ⟨fv, lv, hRu⟩ := hS3.ru
      have c2 := hS3.rd.c2
      have c1 := hS3.rd.c1
      have f1 := hS3.rd.f1
      have i0 : w2.cell? ⟨m, 0, none⟩ = some (.int .u64 (q.first.lo.toNat : Int)) := hI3.cell 0
      have i1 : w2.cell? ⟨m, 1, none⟩ = some (.int .u64 (q.first.hi.toNat : Int)) := hI3.cell 1
      have i2 : w2.cell? ⟨m, 2, none⟩ = some (.int .u64 (q.last.lo.toNat : Int)) := hI3.cell 2
      have i3 : w2.cell? ⟨m, 3, none⟩ = some (.int .u64 (q.last.hi.toNat : Int)) := hI3.cell 3
      have zr := hS3.lt
      have zm := hI3.lt
      have hno := hS3.no
      have HH : Hid (RS w2 rb gb s p1 R1 O1 ∧ Kept (fun k => k = rb ∨ O k) w w2 ∧ Blk w2 w.heap.size part0 213 ∧ Blk w2 m (partC q) 213 ∧ RulesAt w2 gb O1 R1 fv lv) := ⟨hS3, hk3, hZ3, hI3, hRu⟩
      clear hS3 hk3 hZ3 hI3 hRu
      go_wp2_with fail
      go_region_held3 (fun w' => w'.cell? ⟨rb, 2, none⟩ = some (.pointer (some ⟨gb, 0, none⟩)) ∧ w'.cell? ⟨m, 0, none⟩ = some (.int .u64 (q.first.lo.toNat : Int)) ∧ w'.cell? ⟨m, 1, none⟩ = some (.int .u64 (q.first.hi.toNat : Int)) ∧ w'.cell? ⟨m, 2, none⟩ = some (.int .u64 (q.last.lo.toNat : Int)) ∧ w'.cell? ⟨m, 3, none⟩ = some (.int .u64 (q.last.hi.toNat : Int)))
        (first | exact ⟨c2, i0, i1, i2, i3⟩ | exact ⟨j0, j1, j2, j3, j4⟩)
        (first | (go_at_call 151; refine (link_any R1 gb O1 fv lv q.last q.first _ HH.out.2.2.2.2.drew (by omega)).mono ?_; rintro e w4 ⟨rfl, hR4, hk4⟩; have j0 := (hk4.cell (p := ⟨rb, 2, none⟩) zr hno).trans c2; have j1 := (hk4.cell (p := ⟨m, 0, none⟩) zm hn1).trans i0; have j2 := (hk4.cell (p := ⟨m, 1, none⟩) zm hn1).trans i1; have j3 := (hk4.cell (p := ⟨m, 2, none⟩) zm hn1).trans i2; have j4 := (hk4.cell (p := ⟨m, 3, none⟩) zm hn1).trans i3))
      obtain ⟨hS3, hk3, hZ3, hI3, hRu⟩ := HH.out
      have hS4 := hS3.drew.turned hR4 hk4
      have hk5 : Kept (fun k => k = rb ∨ O k) w w4 := hk3.drew.trans hk4 (fun i hi e => .inr (by rcases HO.out i e with e | e; exact e; omega))
      have hZ4 := hZ3.drew.kept hk4 hn0
      have hI4 := hI3.drew.kept hk4 hn1
      clear hS3 hk3 hZ3 hI3 hRu HH j0 j1 j2 j3 j4 c2 c1 f1 i0 i1 i2 i3 hR4 hk4
      have c1 := hS4.rd.c1
      have f1 := hS4.rd.f1
      have e4 : w4.cell? ⟨m, 4, none⟩ = some (.bool q.empty) := hI4.cell 4
      have f4 := hI4.frozen 4
      have hI5 := (hI4.set 4 (.bool true)).setOther (p := ⟨rb, 1, none⟩) (by simp; omega) (.int .i64 ((p1 : Int) + 1))
      have hZ5 := (hZ4.setOther (p := ⟨m, 4, none⟩) (by simp; omega) (.bool true)).setOther (p := ⟨rb, 1, none⟩) (by simp; omega) (.int .i64 ((p1 : Int) + 1))
      have hS5 := (hS4.setOther (a := ⟨m, 4, none⟩) hne1 hn1 (.bool true)).set1
      have hk6 := (hk5.setCell (p := ⟨m, 4, none⟩) (by simp; omega) (.bool true)).setCell (p := ⟨rb, 1, none⟩) (fun _ => .inl rfl) (.int .i64 ((p1 : Int) + 1))
      have hI6 : Blk _ m (partC { q with empty := true }) 213 := hI5
      clear hS4 hk5 hZ4 hI4 hI5
      go_wp2_with (first | refine loadP rfl (.tmp 4) rfl m rfl hI6 ?_ | refine storeP rfl (.tmp 2) (.tmp 50) rfl w.heap.size rfl rfl hZ5 rfl ?_)
      exact bodyPost_ret (resultsPartTmp Try.results147 _ rfl (hZ5.setRow _)) rfl ⟨rfl, O1, hS5.setRow hne0 hn0 _, hk6.setRow (by omega) _, HO.out⟩
    have e42 : (peekI s p1 == 42) = false := by simp [h42]
    by_cases h43 : peekI s p1 = 43
    · have hFe : F = ⟨q, true, p1 + 1, R1.link q.last q.first⟩ := by rw [← HF.out]; simp [markF, h43]
      subst hFe
      clear HF
      rw [h43] at e42 ⊢
      obtain ⟨fv, lv, hRu⟩ := hS3.ru
      have c2 := hS3.rd.c2
      have c1 := hS3.rd.c1
      have f1 := hS3.rd.f1
      have i0 : w2.cell? ⟨m, 0, none⟩ = some (.int .u64 (q.first.lo.toNat : Int)) := hI3.cell 0
      have i1 : w2.cell? ⟨m, 1, none⟩ = some (.int .u64 (q.first.hi.toNat : Int)) := hI3.cell 1
      have i2 : w2.cell? ⟨m, 2, none⟩ = some (.int .u64 (q.last.lo.toNat : Int)) := hI3.cell 2
      have i3 : w2.cell? ⟨m, 3, none⟩ = some (.int .u64 (q.last.hi.toNat : Int)) := hI3.cell 3
      have zr := hS3.lt
      have zm := hI3.lt
      have hno := hS3.no
      have HH : Hid (RS w2 rb gb s p1 R1 O1 ∧ Kept (fun k => k = rb ∨ O k) w w2 ∧ Blk w2 w.heap.size part0 213 ∧ Blk w2 m (partC q) 213 ∧ RulesAt w2 gb O1 R1 fv lv) := ⟨hS3, hk3, hZ3, hI3, hRu⟩
      clear hS3 hk3 hZ3 hI3 hRu
      go_wp2_with fail
      go_region_held3 (fun w' => w'.cell? ⟨rb, 2, none⟩ = some (.pointer (some ⟨gb, 0, none⟩)) ∧ w'.cell? ⟨m, 0, none⟩ = some (.int .u64 (q.first.lo.toNat : Int)) ∧ w'.cell? ⟨m, 1, none⟩ = some (.int .u64 (q.first.hi.toNat : Int)) ∧ w'.cell? ⟨m, 2, none⟩ = some (.int .u64 (q.last.lo.toNat : Int)) ∧ w'.cell? ⟨m, 3, none⟩ = some (.int .u64 (q.last.hi.toNat : Int)))
        (first | exact ⟨c2, i0, i1, i2, i3⟩ | exact ⟨j0, j1, j2, j3, j4⟩)
        (first | (go_at_call 151; refine (link_any R1 gb O1 fv lv q.last q.first _ HH.out.2.2.2.2.drew (by omega)).mono ?_; rintro e w4 ⟨rfl, hR4, hk4⟩; have j0 := (hk4.cell (p := ⟨rb, 2, none⟩) zr hno).trans c2; have j1 := (hk4.cell (p := ⟨m, 0, none⟩) zm hn1).trans i0; have j2 := (hk4.cell (p := ⟨m, 1, none⟩) zm hn1).trans i1; have j3 := (hk4.cell (p := ⟨m, 2, none⟩) zm hn1).trans i2; have j4 := (hk4.cell (p := ⟨m, 3, none⟩) zm hn1).trans i3))
      obtain ⟨hS3, hk3, hZ3, hI3, hRu⟩ := HH.out
      have hS4 := hS3.drew.turned hR4 hk4
      have hk5 : Kept (fun k => k = rb ∨ O k) w w4 := hk3.drew.trans hk4 (fun i hi e => .inr (by rcases HO.out i e with e | e; exact e; omega))
      have hZ4 := hZ3.drew.kept hk4 hn0
      have hI4 := hI3.drew.kept hk4 hn1
      clear hS3 hk3 hZ3 hI3 hRu HH j0 j1 j2 j3 j4 c2 c1 f1 i0 i1 i2 i3 hR4 hk4
      have c1 := hS4.rd.c1
      have f1 := hS4.rd.f1
      have hI5 := hI4.setOther (p := ⟨rb, 1, none⟩) (by simp; omega) (.int .i64 ((p1 : Int) + 1))
      have hZ5 := hZ4.setOther (p := ⟨rb, 1, none⟩) (by simp; omega) (.int .i64 ((p1 : Int) + 1))
      have hS5 := hS4.set1
      have hk6 := hk5.setCell (p := ⟨rb, 1, none⟩) (fun _ => .inl rfl) (.int .i64 ((p1 : Int) + 1))
      clear hS4 hk5 hZ4 hI4
      go_wp2_with (first | refine loadP rfl (.tmp 4) rfl m rfl hI5 ?_ | refine storeP rfl (.tmp 2) (.tmp 50) rfl w.heap.size rfl rfl hZ5 rfl ?_)
      exact bodyPost_ret (resultsPartTmp Try.results147 _ rfl (hZ5.setRow _)) rfl ⟨rfl, O1, hS5.setRow hne0 hn0 _, hk6.setRow (by omega) _, HO.out⟩
    have e43 : (peekI s p1 == 43) = false := by simp [h43]
    have hS4 := hS3
    have hk5 := hk3
    have hZ4 := hZ3
    have hI4 := hI3
    have c1 := hS3.rd.c1
    have f1 := hS3.rd.f1
    clear hS3 hk3 hZ3 hI3
    generalize w2 = w4 at hS4 hk5 hZ4 hI4 c1 f1 ⊢
    by_cases h63 : peekI s p1 = 63
    · have hFe : F = ⟨{ q with empty := true }, true, p1 + 1, R1⟩ := by rw [← HF.out]; simp [markF, h63]
      subst hFe
      clear HF
      rw [h63] at e42 e43 ⊢
      have e4 : w4.cell? ⟨m, 4, none⟩ = some (.bool q.empty) := hI4.cell 4
      have f4 := hI4.frozen 4
      have hI5 := (hI4.set 4 (.bool true)).setOther (p := ⟨rb, 1, none⟩) (by simp; omega) (.int .i64 ((p1 : Int) + 1))
      have hZ5 := (hZ4.setOther (p := ⟨m, 4, none⟩) (by simp; omega) (.bool true)).setOther (p := ⟨rb, 1, none⟩) (by simp; omega) (.int .i64 ((p1 : Int) + 1))
      have hS5 := (hS4.setOther (a := ⟨m, 4, none⟩) hne1 hn1 (.bool true)).set1
      have hk6 := (hk5.setCell (p := ⟨m, 4, none⟩) (by simp; omega) (.bool true)).setCell (p := ⟨rb, 1, none⟩) (fun _ => .inl rfl) (.int .i64 ((p1 : Int) + 1))
      have hI6 : Blk _ m (partC { q with empty := true }) 213 := hI5
      clear hS4 hk5 hZ4 hI4 hI5
      go_wp2_with (first | refine loadP rfl (.tmp 4) rfl m rfl hI6 ?_ | refine storeP rfl (.tmp 2) (.tmp 50) rfl w.heap.size rfl rfl hZ5 rfl ?_)
      exact bodyPost_ret (resultsPartTmp Try.results147 _ rfl (hZ5.setRow _)) rfl ⟨rfl, O1, hS5.setRow hne0 hn0 _, hk6.setRow (by omega) _, HO.out⟩
    · have e63 : (peekI s p1 == 63) = false := by simp [h63]
      have hFe : F = ⟨q, true, p1, R1⟩ := by rw [← HF.out]; simp [markF, h42, h43, h63]
      subst hFe
      clear HF h42 h43 h63
      go_wp2_with (first | refine loadP rfl (.tmp 4) rfl m rfl hI4 ?_ | refine storeP rfl (.tmp 2) (.tmp 16) rfl w.heap.size rfl rfl hZ4 rfl ?_)
      exact bodyPost_ret (resultsPartTmp Try.results147 _ rfl (hZ4.setRow _)) rfl ⟨rfl, O1, hS4.setRow hne0 hn0 _, hk5.setRow (by omega) _, HO.out⟩
end Go.Proofs.Ytmgpdaemcbbikaa
