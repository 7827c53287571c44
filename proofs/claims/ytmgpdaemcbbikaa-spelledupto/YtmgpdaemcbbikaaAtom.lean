import Derived.Test.YtmgpdaemcbbikaaConts
namespace Go.Proofs.Ytmgpdaemcbbikaa
open Go.RowKit Go.Deep
set_option linter.unusedVariables false

theorem rangeAt_set {w : World} {b o : Nat} {cs : List Value} (h : w.rangeAt b o cs) {a : Addr} (hne : a.block ≠ b) (v : Value) : (w.setCell a v).rangeAt b o cs := fun j u hu => by
  rw [World.cell?_setCell_far _ _ _ _ hne]; exact h j u hu
theorem rangeAt_blk {w : World} {b : Nat} {c : Array Value} {t : TypeId} (h : Blk w b c t) : w.rangeAt b 0 c.toList := fun j v hv => by
  rw [Nat.zero_add, h.cell]; simpa using hv

set_option maxRecDepth 4000 in
set_option maxHeartbeats 800000 in
theorem atom_any (s : ByteArray) (rb gb f : Nat) (hE : ExprC s rb gb f) (hs : s.size ≤ 120) (w : World) (p : Nat) (R : RulesT) (O : Nat → Prop) (h : RS w rb gb s p R O) (hp : p ≤ s.size) (hR : R.follow.length ≤ p) (hf : s.size - p ≤ f) :
    Calls Try.prog 150 #[.pointer (some ⟨rb, 0, none⟩)] w fun e w' =>
      e = .returned (.tuple #[partV (atomF s (exprF s f) p R).part, .bool (atomF s (exprF s f) p R).ok]) ∧ RPost w w' rb gb s O (atomF s (exprF s f) p R).at' (atomF s (exprF s f) p R).rules := by
  have hrb := h.lt
  have hK : Kept (fun k => k = rb ∨ O k) w w := Kept.refl _ _
  have nO : ∀ k, O k → k < w.heap.size := h.olt
  have hnO : ¬ O w.heap.size := fun e => by have := nO _ e; omega
  unfold atomF
  by_cases h40 : peekI s p = 40
  · rw [if_pos h40]
    have hpl : p < s.size := peekI_in (by rw [h40]; decide)
    have hGc := fun W O h1 => group_any s rb gb f hE hs W p R O h1 hpl hR hf
    generalize groupF s (exprF s f) p R = r at hGc ⊢
    obtain ⟨q, ok, p1, R1⟩ := r
    simp only at hGc ⊢
    have HG := hide hGc
    have HS := hide h
    have HNO := hide nO
    clear hGc hE h nO
    go_enter Try.func150, Try.ntmps150
    go_wp2_with fail
    refine (peek_any s p rb gb _ (HS.out.rd.alloc _) hs (by omega)).mono ?_
    rintro e w1 ⟨rfl, n, rfl⟩
    rw [h40]
    go_wp2_with fail
    refine (HG.out _ O ((HS.out.alloc _).drewN n)).mono ?_
    rintro e w1 ⟨rfl, O1, hS1, hk1, ho1⟩
    have hZ1 : Blk w1 w.heap.size part0 213 := ((Blk.new w part0 213).drewN n).kept hk1 (fun e => by rcases e with e | e; omega; exact hnO e)
    go_wp2_with (refine storeP rfl (.tmp 2) (.tmp 11) rfl w.heap.size rfl rfl hZ1 rfl ?_)
    have nO := HNO.out
    have hO1 : ∀ k, O1 k → O k ∨ w.heap.size < k := by
      intro k hk
      rcases ho1 k hk with e | e
      · exact .inl e
      · exact .inr (by simp at e; omega)
    have hn0 : ¬ O1 w.heap.size := fun e => by rcases hO1 _ e with e | e; have := nO _ e; omega; omega
    refine bodyPost_ret (resultsPartTmp Try.results150 _ rfl (hZ1.setRow _)) rfl ⟨rfl, O1, hS1.setRow (by omega) hn0 _, ?_, ?_⟩
    · exact (((hK.alloc _).drewN n).trans' hk1).setRow (by omega) _
    · exact fun k hk => (hO1 k hk).imp id (fun e => by omega)
  rw [if_neg h40]
  have e40 : (peekI s p == 40) = false := by simp [h40]
  have hPc := fun W h1 => place_any s p rb gb W h1 hs hp
  generalize placeF s p = r at hPc ⊢
  obtain ⟨A, ok, p1⟩ := r
  simp only at hPc ⊢
  have HP := hide hPc
  have HS := hide h
  have HNO := hide nO
  clear hPc hE h nO h40
  cases ok with
  | false =>
    rw [if_neg (by simp)]
    go_enter Try.func150, Try.ntmps150
    go_wp2_with fail
    refine (peek_any s p rb gb _ (HS.out.rd.alloc _) hs (by omega)).mono ?_
    rintro e w1 ⟨rfl, n, rfl⟩
    go_wp2_with fail
    refine (HP.out _ ((HS.out.rd.alloc _).drewN n)).mono ?_
    rintro e w1 ⟨rfl, hr1, hk1⟩
    have hS1 := ((HS.out.alloc _).drewN n).moved hr1 hk1
    have hZ1 : Blk w1 w.heap.size part0 213 := ((Blk.new w part0 213).drewN n).kept hk1 (by omega)
    have hz1 := hZ1.lt
    have hN1 := Blk.new w1 Try.zeroCells231 231
    have hZ2 := (hZ1.alloc (.cells Try.zeroCells231 231)).setRowOther (g := w1.heap.size) (by omega) (boolsC A)
    have hkW : Kept (fun k => k = rb ∨ O k) w w1 := ((hK.alloc _).drewN n).trans hk1 (fun i _ e => .inl e)
    have HH : Hid (RS w1 rb gb s p1 R O ∧ Kept (fun k => k = rb ∨ O k) w w1) := ⟨hS1, hkW⟩
    clear hS1 hr1 hk1 hkW
    go_wp2_with (first | refine store256 rfl (.tmp 4) (.tmp 16) rfl w1.heap.size rfl rfl hN1 zero256 ?_ | refine storeP (q := PartT.new) rfl (.tmp 2) (.tmp 20) rfl w.heap.size rfl rfl hZ2 rfl ?_)
    obtain ⟨hS1, hkW⟩ := HH.out
    have hn1 : ¬ O w1.heap.size := fun e => by have := HNO.out _ e; omega
    refine bodyPost_ret (resultsPartTmp Try.results150 _ rfl (hZ2.setRow _)) rfl ⟨rfl, O, ((hS1.alloc _).setRow (by omega) hn1 _).setRow (by omega) hnO _, ?_, fun k hk => .inl hk⟩
    exact ((hkW.alloc _).setRow (by omega) _).setRow (by omega) _
  | true =>
    rw [if_pos rfl]
    go_enter Try.func150, Try.ntmps150
    go_wp2_with fail
    refine (peek_any s p rb gb _ (HS.out.rd.alloc _) hs (by omega)).mono ?_
    rintro e w1 ⟨rfl, n, rfl⟩
    go_wp2_with fail
    refine (HP.out _ ((HS.out.rd.alloc _).drewN n)).mono ?_
    rintro e w1 ⟨rfl, hr1, hk1⟩
    have hS1 := ((HS.out.alloc _).drewN n).moved hr1 hk1
    have hZ1 : Blk w1 w.heap.size part0 213 := ((Blk.new w part0 213).drewN n).kept hk1 (by omega)
    have hz1 := hZ1.lt
    have hN1 := Blk.new w1 Try.zeroCells231 231
    have hkW : Kept (fun k => k = rb ∨ O k) w w1 := ((hK.alloc _).drewN n).trans hk1 (fun i _ e => .inl e)
    have hn1 : ¬ O w1.heap.size := fun e => by have := HNO.out _ e; omega
    have hl1 := hS1.lt
    have hS2 := (hS1.alloc (.cells Try.zeroCells231 231)).setRow (g := w1.heap.size) (by omega) hn1 (boolsC A)
    have hk2 := (hkW.alloc (.cells Try.zeroCells231 231)).setRow (g := w1.heap.size) (by omega) (boolsC A)
    have hZ2 := (hZ1.alloc (.cells Try.zeroCells231 231)).setRowOther (g := w1.heap.size) (by omega) (boolsC A)
    have hA2 := hN1.setRow (boolsC A)
    clear hS1 hr1 hk1 hkW hZ1
    go_wp2_with (first | refine store256 rfl (.tmp 4) (.tmp 16) rfl w1.heap.size rfl rfl hN1 zero256 ?_)
    generalize (w1.alloc (.cells Try.zeroCells231 231)).setRow w1.heap.size (boolsC A) = w2 at hS2 hk2 hZ2 hA2 ⊢
    obtain ⟨fv, lv, hRu⟩ := hS2.ru
    have c2 : w2.cell? ⟨rb, 2, none⟩ = some (.pointer (some ⟨gb, 0, none⟩)) := hS2.rd.c2
    have hrg := rangeAt_blk hA2
    have hu := Try.underlying231
    have hi : (Try.prog.info? 231).map (·.size) = some (boolsC A).toList.length := by rw [Array.length_toList, boolsC_size]; exact Try.infoB
    have hcl : (boolsC A).toList.length = 256 := by rw [Array.length_toList, boolsC_size]
    have hone : ∀ v ∈ (boolsC A).toList, v.oneCell' = true := fun v hv => (Array.all_eq_true_iff_forall_mem.1 (boolsC_one A)) v (by simpa using hv)
    have zZ : w.heap.size < w2.heap.size := hZ2.lt
    have zA : w1.heap.size < w2.heap.size := hA2.lt
    have zr : rb < w2.heap.size := hS2.lt
    have hadd : ∀ W, RulesAt W gb O R fv lv → Calls Try.prog 154 #[.pointer (some ⟨gb, 0, none⟩), .agg (boolsC A).toList.toArray] W fun e w' =>
      e = .returned (partV R.addPart) ∧ ∃ O' fv', RulesAt w' gb O' (R.add A) fv' lv ∧ Kept O W w' ∧ ∀ k, O' k → O k ∨ W.heap.size ≤ k := by
      intro W hW
      rw [Array.toArray_toList]
      exact add_any R gb O fv lv A W hW (by omega)
    have hrk : ∀ W, Blk W w1.heap.size (boolsC A) 231 → W.rangeAt w1.heap.size 0 (boolsC A).toList := fun W hW => rangeAt_blk hW
    generalize (boolsC A).toList = cs at hrg hi hcl hone hadd hrk
    have HADD := hide hadd
    have HRK := hide hrk
    have HH2 : Hid (RS w2 rb gb s p1 R O ∧ Kept (fun k => k = rb ∨ O k) w w2 ∧ Blk w2 w.heap.size part0 213 ∧ RulesAt w2 gb O R fv lv ∧ Blk w2 w1.heap.size (boolsC A) 231) := ⟨hS2, hk2, hZ2, hRu, hA2⟩
    clear hS2 hk2 hZ2 hRu hA2 hN1 hadd hrk
    have hne0 : w.heap.size ≠ rb := by omega
    have hne1 : w.heap.size ≠ w1.heap.size := by omega
    go_region_held3 (fun w' => w'.cell? ⟨rb, 2, none⟩ = some (.pointer (some ⟨gb, 0, none⟩)) ∧ w'.rangeAt w1.heap.size 0 cs)
      (first | with_reducible exact ⟨k1, k2⟩ | exact ⟨by simp [k1, hne0, World.cell?_setCell_far], rangeAt_set (rangeAt_set (rangeAt_set (rangeAt_set (rangeAt_set k2 hne1 _) hne1 _) hne1 _) hne1 _) hne1 _⟩ | exact ⟨c2, hrg⟩)
      (first | (go_at_call 154; refine (HADD.out _ HH2.out.2.2.2.1.drew).mono ?_; rintro e w3 ⟨rfl, O3, fv3, hR3, hk3, ho3⟩; have k1 : w3.cell? ⟨rb, 2, none⟩ = some (.pointer (some ⟨gb, 0, none⟩)) := (hk3.cell (p := ⟨rb, 2, none⟩) zr HH2.out.1.no).trans c2; have k2 : w3.rangeAt w1.heap.size 0 cs := HRK.out _ (HH2.out.2.2.2.2.drew.kept hk3 hn1); have k3 := HH2.out.2.2.1.drew.kept hk3 hnO; have k30 := k3.cell 0; have k31 := k3.cell 1; have k32 := k3.cell 2; have k33 := k3.cell 3; have k34 := k3.cell 4; have k40 := k3.frozen 0; have k41 := k3.frozen 1; have k42 := k3.frozen 2; have k43 := k3.frozen 3; have k44 := k3.frozen 4))
    obtain ⟨hS2, hk2, hZ2, hRu, hA2⟩ := HH2.out
    have hS3 := hS2.drew.turned' hR3 hk3 ho3
    have hn3 : ¬ O3 w.heap.size := fun e => by rcases ho3 _ e with e | e; exact hnO e; simp at e; omega
    have hkW : Kept (fun k => k = rb ∨ O k) w w3 := hk2.drew.trans hk3 (fun i _ e => .inr e)
    go_wp2_with fail
    refine bodyPost_ret (resultsPartTmp (x := R.addPart) Try.results150 _ rfl (((((k3.set 0 _).set 1 _).set 2 _).set 3 _).set 4 _)) rfl ⟨rfl, O3, ((((hS3.setOther hne0 hn3 _).setOther hne0 hn3 _).setOther hne0 hn3 _).setOther hne0 hn3 _).setOther hne0 hn3 _, ?_, ?_⟩
    · exact ((((hkW.setCell (by simp) _).setCell (by simp) _).setCell (by simp) _).setCell (by simp) _).setCell (by simp) _
    · intro k hk
      rcases ho3 k hk with e | e
      · exact .inl e
      · exact .inr (by simp at e; omega)
theorem atom_is (s : ByteArray) (rb gb f : Nat) (hE : ExprC s rb gb f) (hs : s.size ≤ 120) : PartC 150 s rb gb f (atomF s (exprF s f)) :=
  fun w p R O h hp hR hf => atom_any s rb gb f hE hs w p R O h hp hR hf
end Go.Proofs.Ytmgpdaemcbbikaa
