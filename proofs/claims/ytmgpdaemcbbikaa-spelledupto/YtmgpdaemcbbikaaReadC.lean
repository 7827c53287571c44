import Derived.Test.YtmgpdaemcbbikaaReadB
namespace Go.Proofs.Ytmgpdaemcbbikaa
open Go.RowKit Go.Deep
set_option linter.unusedVariables false

theorem Rd.alloc {w : World} {rb : Nat} {s : ByteArray} {p gb : Nat} (h : Rd w rb s p gb) (o : Obj) : Rd (w.alloc o) rb s p gb := Blk.alloc h o
theorem Rd.below {w w' : World} {rb : Nat} {s : ByteArray} {p gb : Nat} (h : Rd w rb s p gb) (k : Below w.heap.size w w') : Rd w' rb s p gb := Blk.below h k
theorem Rd.lt {w : World} {rb : Nat} {s : ByteArray} {p gb : Nat} (h : Rd w rb s p gb) : rb < w.heap.size := Blk.lt h

theorem withRange_zero (lo hi : Int) (w : World) :
    Calls Try.prog 158 #[.agg Try.zeroCells231, .int .i64 lo, .int .i64 hi] w fun e w' => e = .returned (.agg (boolsC (rangeF noneF lo hi))) ∧ Below w.heap.size w w' := by
  rw [zeroBools]; exact withRange_any noneF lo hi w
theorem allBut_zero (w : World) :
    Calls Try.prog 155 #[.agg Try.zeroCells231] w fun e w' => e = .returned (.agg (boolsC (butF noneF))) ∧ Below w.heap.size w w' := by
  rw [zeroBools]; exact allBut_any noneF w

set_option maxHeartbeats 1600000 in
theorem brackets_any (s : ByteArray) (p rb gb : Nat) (w : World) (hr : Rd w rb s p gb) (hs : s.size ≤ 120) (hp : p < s.size) :
    Calls Try.prog 156 #[.pointer (some ⟨rb, 0, none⟩)] w fun e w' =>
      e = .returned (.tuple #[.agg (boolsC (bracketsF s p).1), .bool (bracketsF s p).2.1]) ∧ Rd w' rb s (bracketsF s p).2.2 gb ∧ Kept (· = rb) w w' := by
  have hK : Kept (· = rb) w w := Kept.refl _ _
  have c1 := hr.c1
  have f1 := hr.f1
  have hrb := hr.lt
  generalize hF : bracketsF s p = F
  have HF := hide hF
  clear hF
  rcases hinv : decide (peekI s (p + 1) = 94) with _ | _
  · have e1 : (peekI s (p + 1) == 94) = false := by simpa using hinv
    rcases hM : memberF s (p + 1) with ⟨lo, hi, ok, q⟩
    have hmp := memberF_pos s (p + 1) (by omega)
    have hMc : ∀ W, Rd W rb s (p + 1) gb → _ := fun W h => member_any s (p + 1) rb gb W h hs (by omega)
    generalize hR : membersF s (s.size + 1) (rangeF noneF lo hi) ok q = R
    have HE := hide ((unhide HF).symm.trans (bracketsF_eq hinv rfl hM hR))
    rw [hM] at hMc hmp
    simp only at hMc hmp
    have HMc := hide hMc
    have HR := hide hR
    clear hMc hM hinv HF hR
    go_enter Try.func156, Try.ntmps156
    go_wp2_with fail
    refine (peek_any s (p + 1) rb gb _ (hr.set1.alloc _) hs (by omega)).mono ?_
    rintro e w2 ⟨rfl, n, rfl⟩
    go_wp2_with fail
    refine ((unhide HMc) _ ((hr.set1.alloc _).drewN n)).mono ?_
    rintro e w3 ⟨rfl, hr3, hk3⟩
    go_wp2_with fail
    refine (withRange_zero lo hi _).mono ?_
    rintro e w4 ⟨rfl, hb4⟩
    have hr4 := hr3.below hb4
    have hk4 : Kept (· = rb) w w4 := ((((hK.setCell (fun _ => rfl) _).alloc _).drewN n).trans' hk3).below hb4
    have hZ4 : Blk w4 w.heap.size Try.zeroCells231 231 := by
      refine ((Blk.drewN ?_ n).kept hk3 (by omega)).below hb4
      have := Blk.new (w.setCell ⟨rb, 1, none⟩ (.int .i64 ((p : Int) + 1))) Try.zeroCells231 231
      simpa using this
    have hz4 : w.heap.size < w4.heap.size := hZ4.lt
    have HH4 : Hid (Rd w4 rb s q gb ∧ Kept (· = rb) w w4 ∧ Blk w4 w.heap.size Try.zeroCells231 231) := ⟨hr4, hk4, hZ4⟩
    clear hr4 hk4 hZ4 hr3 hk3 hb4 hr hK c1 f1
    have hn := Blk.new w4 Try.zeroCells231 231
    go_wp2_with (refine store256 rfl (.tmp 8) (.tmp 36) rfl w4.heap.size rfl rfl hn zero256 ?_)
    simp only [Act.put]
    rw [World.setRow_alloc_new]
    go_loopg [5, 6, 7] (s.size + 1) (fun g a b c wr => ∃ (A : Nat → Bool) (k : Bool) (t : Nat) (x y : Int), a = .int .i64 x ∧ b = .int .i64 y ∧ c = .bool k ∧ t ≤ s.size ∧
      (k = true → s.size < g + t) ∧ membersF s g A k t = R ∧ Rd wr rb s t gb ∧ Blk wr w4.heap.size (boolsC A) 231 ∧ Blk wr w.heap.size Try.zeroCells231 231 ∧ Kept (· = rb) w wr)
    case atStart =>
      obtain ⟨hr4, hk4, hZ4⟩ := HH4.out
      exact ⟨_, ok, q, lo, hi, rfl, rfl, rfl, hmp.2.1, fun _ => by omega, HR.out, hr4.alloc _, Blk.new _ _ _, hZ4.alloc _, hk4.alloc _⟩
    case round =>
      obtain ⟨A, k, t, x, y, rfl, rfl, rfl, ht, hg, hm, hr5, hA5, hZ5, hk5⟩ := hrel
      have HM5 := hide hm
      have HG := hide hg
      clear hm HH4 HR hn HMc hg
      cases k with
      | false =>
        have hRe := (unhide HM5).symm.trans (membersF_stop s gk A false t (by simp))
        rw [hRe] at HE
        have hFe : F = (noneF, false, t) := unhide HE
        clear HE hRe HM5
        subst hFe
        go_wp2_with (refine store256z rfl (.tmp 2) (.tmp 55) rfl w.heap.size rfl rfl hZ5 zero256 ?_)
        exact bodyPost_ret (results_cell_tmp Try.results156 _ _ w.heap.size 231 _ (0, 0) _ rfl (hZ5.setRow _) Try.underlying231 rfl (by rw [boolsC_size]; exact Try.infoB)) rfl ⟨rfl, hr5.setRowOther (by omega) _, hk5.setRow (by omega) _⟩
      | true =>
        by_cases h93 : peekI s t = 93
        · have hRe := (unhide HM5).symm.trans (membersF_stop s gk A true t (by simp [h93]))
          rw [hRe] at HE
          have hFe : F = (A, true, t + 1) := unhide HE
          clear HE hRe HM5
          subst hFe
          go_wp2_with fail
          refine (peek_any s t rb gb _ hr5 hs (by omega)).mono ?_
          rintro e w6 ⟨rfl, n6, rfl⟩
          rw [h93]
          have c5 := hr5.c1
          have f5 := hr5.f1
          have hA6 := (hA5.drewN n6).setOther (p := ⟨rb, 1, none⟩) (by simp; omega) (.int .i64 ((t : Int) + 1))
          have hZ6 := (hZ5.drewN n6).setOther (p := ⟨rb, 1, none⟩) (by simp; omega) (.int .i64 ((t : Int) + 1))
          go_wp2_with (first | refine load256 rfl (.tmp 8) rfl w4.heap.size rfl hA6 ?_ | refine store256 rfl (.tmp 2) (.tmp 66) rfl w.heap.size rfl rfl hZ6 zero256 ?_)
          exact bodyPost_ret (results_cell_tmp Try.results156 _ _ w.heap.size 231 _ (0, 0) _ rfl (hZ6.setRow _) Try.underlying231 rfl (by rw [boolsC_size]; exact Try.infoB)) rfl ⟨rfl, ((hr5.drewN n6).set1).setRowOther (by omega) _, ((hk5.drewN n6).setCell (fun _ => rfl) _).setRow (by omega) _⟩
        · have e93 : (peekI s t != 93) = true := by simp [h93]
          go_wp2_with fail
          refine (peek_any s t rb gb _ hr5 hs (by omega)).mono ?_
          rintro e w6 ⟨rfl, n6, rfl⟩
          go_wp2_with fail
          refine (member_any s t rb gb _ (hr5.drewN n6) hs (by omega)).mono ?_
          rintro e w6 ⟨rfl, hr6, hk6⟩
          have hA6 := (hA5.drewN n6).kept hk6 (by omega)
          have hZ6 := (hZ5.drewN n6).kept hk6 (by omega)
          go_wp2_with (refine load256 rfl (.tmp 8) rfl w4.heap.size rfl hA6 ?_)
          refine (withRange_any A _ _ _).mono ?_
          rintro e w7 ⟨rfl, hb7⟩
          have hA7 := hA6.below hb7
          go_wp2_with (refine store256 rfl (.tmp 8) (.tmp 52) rfl w4.heap.size rfl rfl hA7 (boolsC_size _) ?_)
          have hgk := (unhide HG) (by trivial)
          have hmp6 := memberF_pos s t ht
          have hne : gk = (gk - 1) + 1 := by omega
          have hm6 := unhide HM5
          rw [hne] at hm6
          unfold membersF at hm6
          rw [if_pos ⟨rfl, h93⟩] at hm6
          go_roundg (gk - 1)
          case measure => omega
          case rel =>
            refine ⟨_, _, _, _, _, rfl, rfl, rfl, hmp6.2.1, fun e => ?_, hm6, (hr6.below hb7).setRowOther (by omega) _, hA7.setRow _, (hZ6.below hb7).setRowOther (by omega) _, (((hk5.drewN n6).trans' hk6).below hb7).setRow (by omega) _⟩
            have := hmp6.2.2 e
            omega
  · have e1 : (peekI s (p + 1) == 94) = true := by simpa using hinv
    rcases hM : memberF s (p + 2) with ⟨lo, hi, ok, q⟩
    have hmp := memberF_pos s (p + 2) (by have := peekI_in (s := s) (p := p + 1) (by have := eq_of_beq e1; omega); omega)
    have hMc : ∀ W, Rd W rb s (p + 2) gb → _ := fun W h => member_any s (p + 2) rb gb W h hs (by have := peekI_in (s := s) (p := p + 1) (by have := eq_of_beq e1; omega); omega)
    generalize hR : membersF s (s.size + 1) (rangeF noneF lo hi) ok q = R
    have HE := hide ((unhide HF).symm.trans (bracketsF_eq hinv rfl hM hR))
    rw [hM] at hMc hmp
    simp only at hMc hmp
    have HMc := hide hMc
    have HR := hide hR
    clear hMc hM hinv HF hR
    go_enter Try.func156, Try.ntmps156
    go_wp2_with fail
    refine (peek_any s (p + 1) rb gb _ (hr.set1.alloc _) hs (by omega)).mono ?_
    rintro e w2 ⟨rfl, n, rfl⟩
    go_wp2_with fail
    refine ((unhide HMc) _ ((hr.set1.alloc _).drewN n).set1).mono ?_
    rintro e w3 ⟨rfl, hr3, hk3⟩
    go_wp2_with fail
    refine (withRange_zero lo hi _).mono ?_
    rintro e w4 ⟨rfl, hb4⟩
    have hr4 := hr3.below hb4
    have hk4 : Kept (· = rb) w w4 := (((((hK.setCell (fun _ => rfl) _).alloc _).drewN n).setCell (fun _ => rfl) _).trans' hk3).below hb4
    have hZ4 : Blk w4 w.heap.size Try.zeroCells231 231 := by
      refine (((Blk.drewN ?_ n).setOther (by simp; omega) _).kept hk3 (by omega)).below hb4
      have := Blk.new (w.setCell ⟨rb, 1, none⟩ (.int .i64 ((p : Int) + 1))) Try.zeroCells231 231
      simpa using this
    have hz4 : w.heap.size < w4.heap.size := hZ4.lt
    have HH4 : Hid (Rd w4 rb s q gb ∧ Kept (· = rb) w w4 ∧ Blk w4 w.heap.size Try.zeroCells231 231) := ⟨hr4, hk4, hZ4⟩
    clear hr4 hk4 hZ4 hr3 hk3 hb4 hr hK c1 f1
    have hn := Blk.new w4 Try.zeroCells231 231
    go_wp2_with (refine store256 rfl (.tmp 8) (.tmp 36) rfl w4.heap.size rfl rfl hn zero256 ?_)
    simp only [Act.put]
    rw [World.setRow_alloc_new]
    go_loopg [5, 6, 7] (s.size + 1) (fun g a b c wr => ∃ (A : Nat → Bool) (k : Bool) (t : Nat) (x y : Int), a = .int .i64 x ∧ b = .int .i64 y ∧ c = .bool k ∧ t ≤ s.size ∧
      (k = true → s.size < g + t) ∧ membersF s g A k t = R ∧ Rd wr rb s t gb ∧ Blk wr w4.heap.size (boolsC A) 231 ∧ Blk wr w.heap.size Try.zeroCells231 231 ∧ Kept (· = rb) w wr)
    case atStart =>
      obtain ⟨hr4, hk4, hZ4⟩ := HH4.out
      exact ⟨_, ok, q, lo, hi, rfl, rfl, rfl, hmp.2.1, fun _ => by omega, HR.out, hr4.alloc _, Blk.new _ _ _, hZ4.alloc _, hk4.alloc _⟩
    case round =>
      obtain ⟨A, k, t, x, y, rfl, rfl, rfl, ht, hg, hm, hr5, hA5, hZ5, hk5⟩ := hrel
      have HM5 := hide hm
      have HG := hide hg
      clear hm HH4 HR hn HMc hg
      cases k with
      | false =>
        have hRe := (unhide HM5).symm.trans (membersF_stop s gk A false t (by simp))
        rw [hRe] at HE
        have hFe : F = (noneF, false, t) := unhide HE
        clear HE hRe HM5
        subst hFe
        go_wp2_with (refine store256z rfl (.tmp 2) (.tmp 55) rfl w.heap.size rfl rfl hZ5 zero256 ?_)
        exact bodyPost_ret (results_cell_tmp Try.results156 _ _ w.heap.size 231 _ (0, 0) _ rfl (hZ5.setRow _) Try.underlying231 rfl (by rw [boolsC_size]; exact Try.infoB)) rfl ⟨rfl, hr5.setRowOther (by omega) _, hk5.setRow (by omega) _⟩
      | true =>
        by_cases h93 : peekI s t = 93
        · have hRe := (unhide HM5).symm.trans (membersF_stop s gk A true t (by simp [h93]))
          rw [hRe] at HE
          have hFe : F = (butF A, true, t + 1) := unhide HE
          clear HE hRe HM5
          subst hFe
          go_wp2_with fail
          refine (peek_any s t rb gb _ hr5 hs (by omega)).mono ?_
          rintro e w6 ⟨rfl, n6, rfl⟩
          rw [h93]
          have c5 := hr5.c1
          have f5 := hr5.f1
          have hA6 := (hA5.drewN n6).setOther (p := ⟨rb, 1, none⟩) (by simp; omega) (.int .i64 ((t : Int) + 1))
          have hZ6 := (hZ5.drewN n6).setOther (p := ⟨rb, 1, none⟩) (by simp; omega) (.int .i64 ((t : Int) + 1))
          go_wp2_with (refine load256 rfl (.tmp 8) rfl w4.heap.size rfl hA6 ?_)
          refine (allBut_any A _).mono ?_
          rintro e w8 ⟨rfl, hb8⟩
          have hA8 := hA6.below hb8
          have hA9 := hA8.setRow (boolsC (butF A))
          have hZ9 := (hZ6.below hb8).setRowOther (g := w4.heap.size) (by omega) (boolsC (butF A))
          go_wp2_with (first | refine store256 rfl (.tmp 8) (.tmp 65) rfl w4.heap.size rfl rfl hA8 (boolsC_size _) ?_ | refine load256 rfl (.tmp 8) rfl w4.heap.size rfl hA9 ?_ | refine store256 rfl (.tmp 2) (.tmp 66) rfl w.heap.size rfl rfl hZ9 zero256 ?_)
          exact bodyPost_ret (results_cell_tmp Try.results156 _ _ w.heap.size 231 _ (0, 0) _ rfl (hZ9.setRow _) Try.underlying231 rfl (by rw [boolsC_size]; exact Try.infoB)) rfl ⟨rfl, ((((hr5.drewN n6).set1).below hb8).setRowOther (by omega) _).setRowOther (by omega) _, ((((hk5.drewN n6).setCell (fun _ => rfl) _).below hb8).setRow (by omega) _).setRow (by omega) _⟩
        · have e93 : (peekI s t != 93) = true := by simp [h93]
          go_wp2_with fail
          refine (peek_any s t rb gb _ hr5 hs (by omega)).mono ?_
          rintro e w6 ⟨rfl, n6, rfl⟩
          go_wp2_with fail
          refine (member_any s t rb gb _ (hr5.drewN n6) hs (by omega)).mono ?_
          rintro e w6 ⟨rfl, hr6, hk6⟩
          have hA6 := (hA5.drewN n6).kept hk6 (by omega)
          have hZ6 := (hZ5.drewN n6).kept hk6 (by omega)
          go_wp2_with (refine load256 rfl (.tmp 8) rfl w4.heap.size rfl hA6 ?_)
          refine (withRange_any A _ _ _).mono ?_
          rintro e w7 ⟨rfl, hb7⟩
          have hA7 := hA6.below hb7
          go_wp2_with (refine store256 rfl (.tmp 8) (.tmp 52) rfl w4.heap.size rfl rfl hA7 (boolsC_size _) ?_)
          have hgk := (unhide HG) (by trivial)
          have hmp6 := memberF_pos s t ht
          have hne : gk = (gk - 1) + 1 := by omega
          have hm6 := unhide HM5
          rw [hne] at hm6
          unfold membersF at hm6
          rw [if_pos ⟨rfl, h93⟩] at hm6
          go_roundg (gk - 1)
          case measure => omega
          case rel =>
            refine ⟨_, _, _, _, _, rfl, rfl, rfl, hmp6.2.1, fun e => ?_, hm6, (hr6.below hb7).setRowOther (by omega) _, hA7.setRow _, (hZ6.below hb7).setRowOther (by omega) _, (((hk5.drewN n6).trans' hk6).below hb7).setRow (by omega) _⟩
            have := hmp6.2.2 e
            omega
end Go.Proofs.Ytmgpdaemcbbikaa
