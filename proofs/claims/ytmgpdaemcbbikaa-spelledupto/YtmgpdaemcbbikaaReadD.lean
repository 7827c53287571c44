import Derived.Test.YtmgpdaemcbbikaaReadC
namespace Go.Proofs.Ytmgpdaemcbbikaa
open Go.RowKit Go.Deep
set_option linter.unusedVariables false

theorem results256 {fn : Func} {p q : Tmp} (h : fn.results = #[.cell p 231, .tmp q]) {A : Nat → Bool} (tmps : Array Value) {w : World} {g : Nat}
    (hp : tmps.getD p undef = .pointer (some ⟨g, 0, none⟩)) (hg : Blk w g (boolsC A) 231) : (results fn tmps).run Try.prog w = .ok (.tuple #[.agg (boolsC A), tmps.getD q undef]) w :=
  results_cell_tmp h tmps w g 231 _ (0, 0) _ hp hg Try.underlying231 rfl (by rw [boolsC_size]; exact Try.infoB)

set_option maxHeartbeats 1600000 in
theorem place_any (s : ByteArray) (p rb gb : Nat) (w : World) (hr : Rd w rb s p gb) (hs : s.size ≤ 120) (hp : p ≤ s.size) :
    Calls Try.prog 153 #[.pointer (some ⟨rb, 0, none⟩)] w fun e w' =>
      e = .returned (.tuple #[.agg (boolsC (placeF s p).1), .bool (placeF s p).2.1]) ∧ Rd w' rb s (placeF s p).2.2 gb ∧ Kept (· = rb) w w' := by
  have hK : Kept (· = rb) w w := Kept.refl _ _
  have c1 := hr.c1
  have f1 := hr.f1
  have hrb := hr.lt
  generalize hF : placeF s p = F
  unfold placeF at hF
  by_cases h1 : placeBar (peekI s p)
  · rw [if_pos h1] at hF
    subst hF
    go_enter Try.func153, Try.ntmps153
    go_wp2_with fail
    refine (peek_any s p rb gb _ (hr.alloc _) hs (by omega)).mono ?_
    rintro e w2 ⟨rfl, n, rfl⟩
    have hZ := (Blk.new w Try.zeroCells231 231).drewN n
    rcases h1 with h1 | h1 | h1 | h1 | h1 | h1 | h1 | h1 | h1 <;> rw [h1] <;> go_wp2_with (refine store256z rfl (.tmp 2) (.tmp 18) rfl w.heap.size rfl rfl hZ zero256 ?_)
    all_goals
      exact bodyPost_ret (results256 Try.results153 _ rfl (hZ.setRow _)) rfl ⟨rfl, ((hr.alloc _).drewN n).setRowOther (by omega) _, ((hK.alloc _).drewN n).setRow (by omega) _⟩
  rw [if_neg h1] at hF
  have hlt : p < s.size := peekI_in (fun e => h1 (Or.inl e))
  have e1 : (peekI s p == -1) = false := by simp; intro h; exact h1 (by simp [placeBar, h])
  have e2 : (peekI s p == 10) = false := by simp; intro h; exact h1 (by simp [placeBar, h])
  have e3 : (peekI s p == 124) = false := by simp; intro h; exact h1 (by simp [placeBar, h])
  have e4 : (peekI s p == 42) = false := by simp; intro h; exact h1 (by simp [placeBar, h])
  have e5 : (peekI s p == 43) = false := by simp; intro h; exact h1 (by simp [placeBar, h])
  have e6 : (peekI s p == 63) = false := by simp; intro h; exact h1 (by simp [placeBar, h])
  have e7 : (peekI s p == 40) = false := by simp; intro h; exact h1 (by simp [placeBar, h])
  have e8 : (peekI s p == 41) = false := by simp; intro h; exact h1 (by simp [placeBar, h])
  have e9 : (peekI s p == 93) = false := by simp; intro h; exact h1 (by simp [placeBar, h])
  clear h1
  by_cases h2 : peekI s p = 46
  · rw [if_pos h2] at hF
    subst hF
    clear e1 e2 e3 e4 e5 e6 e7 e8 e9
    go_enter Try.func153, Try.ntmps153
    go_wp2_with fail
    refine (peek_any s p rb gb _ (hr.alloc _) hs (by omega)).mono ?_
    rintro e w2 ⟨rfl, n, rfl⟩
    rw [h2]
    go_wp2_with fail
    refine (allBut_zero _).mono ?_
    rintro e w2 ⟨rfl, hb⟩
    have hZ := (((Blk.new w Try.zeroCells231 231).drewN n).setOther (p := ⟨rb, 1, none⟩) (by simp; omega) (.int .i64 ((p : Int) + 1))).below hb
    go_wp2_with (refine store256 rfl (.tmp 2) (.tmp 29) rfl w.heap.size rfl rfl hZ zero256 ?_)
    exact bodyPost_ret (results256 Try.results153 _ rfl (hZ.setRow _)) rfl ⟨rfl, ((((hr.alloc _).drewN n).set1).below hb).setRowOther (by omega) _, ((((hK.alloc _).drewN n).setCell (fun _ => rfl) _).below hb).setRow (by omega) _⟩
  rw [if_neg h2] at hF
  have e10 : (peekI s p == 46) = false := by simp [h2]
  clear h2
  by_cases h3 : peekI s p = 91
  · rw [if_pos h3] at hF
    clear e1 e2 e3 e4 e5 e6 e7 e8 e9 e10
    have hBc : ∀ W, Rd W rb s p gb → _ := fun W h => brackets_any s p rb gb W h hs hlt
    rw [hF] at hBc
    have HBc := hide hBc
    clear hBc hF
    go_enter Try.func153, Try.ntmps153
    go_wp2_with fail
    refine (peek_any s p rb gb _ (hr.alloc _) hs (by omega)).mono ?_
    rintro e w2 ⟨rfl, n, rfl⟩
    rw [h3]
    go_wp2_with fail
    refine ((unhide HBc) _ ((hr.alloc _).drewN n)).mono ?_
    rintro e w2 ⟨rfl, hr2, hk2⟩
    have hZ := ((Blk.new w Try.zeroCells231 231).drewN n).kept hk2 (by omega)
    go_wp2_with (refine store256 rfl (.tmp 2) (.tmp 34) rfl w.heap.size rfl rfl hZ zero256 ?_)
    exact bodyPost_ret (results256 Try.results153 _ rfl (hZ.setRow _)) rfl ⟨rfl, hr2.setRowOther (by omega) _, (((hK.alloc _).drewN n).trans' hk2).setRow (by omega) _⟩
  rw [if_neg h3] at hF
  have e11 : (peekI s p == 91) = false := by simp [h3]
  clear h3
  subst hF
  have hSc : ∀ W, Rd W rb s p gb → _ := fun W h => single_any s p rb gb W h hs (by omega)
  rcases hS : singleF s p with ⟨b, ok, q⟩
  rw [hS] at hSc
  simp only at hSc ⊢
  have HSc := hide hSc
  clear hSc hS
  go_enter Try.func153, Try.ntmps153
  go_wp2_with fail
  refine (peek_any s p rb gb _ (hr.alloc _) hs (by omega)).mono ?_
  rintro e w2 ⟨rfl, n, rfl⟩
  go_wp2_with fail
  refine ((unhide HSc) _ ((hr.alloc _).drewN n)).mono ?_
  rintro e w2 ⟨rfl, hr2, hk2⟩
  go_wp2_with fail
  refine (withRange_zero b b _).mono ?_
  rintro e w3 ⟨rfl, hb⟩
  have hZ := (((Blk.new w Try.zeroCells231 231).drewN n).kept hk2 (by omega)).below hb
  go_wp2_with (refine store256 rfl (.tmp 2) (.tmp 44) rfl w.heap.size rfl rfl hZ zero256 ?_)
  exact bodyPost_ret (results256 Try.results153 _ rfl (hZ.setRow _)) rfl ⟨rfl, (hr2.below hb).setRowOther (by omega) _, ((((hK.alloc _).drewN n).trans' hk2).below hb).setRow (by omega) _⟩
end Go.Proofs.Ytmgpdaemcbbikaa
