import Derived.Test.YtmgpdaemcbbikaaReadE
import Derived.Test.YtmgpdaemcbbikaaKept2
namespace Go.Proofs.Ytmgpdaemcbbikaa
open Go.RowKit Go.Deep
set_option linter.unusedVariables false

set_option maxHeartbeats 1600000 in
theorem all_any (s : ByteArray) (rb gb : Nat) (hs : s.size ≤ 120) (w : World) (O : Nat → Prop) (h : RS w rb gb s 0 RulesT.new O) :
    Calls Try.prog 75 #[.pointer (some ⟨rb, 0, none⟩)] w fun e w' =>
      e = .returned (.bool (allF s).1) ∧ RPost w w' rb gb s O (allF s).2.1 (allF s).2.2 := by
  have hrb := h.lt
  have hR0 := rulem_any s rb gb hs w 0 RulesT.new O h (by omega) (by simp [RulesT.new]) (by simp [RulesT.new])
  have hg0 := ruleF_good s 0 RulesT.new (by omega) (by simp [RulesT.new]) (by simp [RulesT.new])
  generalize hFm : allF s = F
  unfold allF at hFm
  generalize ruleF s 0 RulesT.new = r0 at hR0 hg0 hFm
  have HF := hide hFm
  have HR := hide hR0
  have HG := hide hg0
  clear hFm hR0 hg0
  go_enter Try.func75, Try.ntmps75
  go_wp2_with fail
  refine HR.out.mono ?_
  rintro e w1 ⟨rfl, O1, hS1, hk1, ho1⟩
  have HH1 : Hid (RS w1 rb gb s r0.2.1 r0.2.2 O1 ∧ Kept (fun k => k = rb ∨ O k) w w1 ∧ ∀ k, O1 k → O k ∨ w.heap.size ≤ k) := ⟨hS1, hk1, ho1⟩
  clear hS1 hk1 ho1
  go_wp2_with fail
  go_loopg [3] (s.size + 1) (fun g c wr => ∃ (r : Bool × Nat × RulesT) (O1 : Nat → Prop), c = .bool r.1 ∧ GoodR s 0 r ∧ (r.1 = true → s.size < g + r.2.1) ∧ allLoopF s g r = allLoopF s (s.size + 1) r0 ∧
    RS wr rb gb s r.2.1 r.2.2 O1 ∧ Kept (fun k => k = rb ∨ O k) w wr ∧ ∀ k, O1 k → O k ∨ w.heap.size ≤ k)
  case atStart =>
    obtain ⟨q1, q2, q3⟩ := HH1.out
    exact ⟨r0, O1, rfl, HG.out, fun _ => by omega, rfl, q1, q2, q3⟩
  case round =>
    obtain ⟨r, O3, rfl, hg3, hn3, hF3, hS3, hk3, hO3⟩ := hrel
    clear HH1 HG
    have htop := hg3.top
    have hfew := hg3.few
    have hlas := hg3.last
    obtain ⟨ok, p1, R1⟩ := r
    simp only at htop hfew hlas hn3 hS3 ⊢
    cases ok with
    | false =>
      have hl : allLoopF s gk (false, p1, R1) = (false, p1, R1) := allLoopF_stop _ _ _ (by simp)
      rw [hl] at hF3
      have hFe : F = (false, p1, R1) := by have := HF.out; simp only [← hF3] at this; rw [← this]; rfl
      subst hFe
      clear hF3 hg3 hn3 hl
      go_wp2_with fail
      go_ret
      exact ⟨rfl, O3, hS3, hk3, hO3⟩
    | true =>
      by_cases h10 : peekI s p1 = 10
      · have hgk := hn3 rfl
        have hne : gk = (gk - 1) + 1 := by omega
        rw [hne] at hF3
        unfold allLoopF at hF3
        rw [if_pos ⟨rfl, h10⟩] at hF3
        have hltp : p1 < s.size := peekI_in (by rw [h10]; decide)
        have hgp := ruleF_good s (p1 + 1) R1 (by omega) (by omega) (by omega)
        have hPc := fun W O h1 => rulem_any s rb gb hs W (p1 + 1) R1 O h1 (by omega) (by omega) (by omega)
        simp only at hF3
        generalize ruleF s (p1 + 1) R1 = r2 at hF3 hgp hPc
        obtain ⟨ok2, p2, R2⟩ := r2
        simp only at hPc
        have hle2 := hgp.le
        have hlt2 := hgp.ok
        simp only at hle2 hlt2
        have hg4 : GoodR s 0 (ok2, p2, R2) := ⟨Nat.zero_le _, hgp.top, fun e => by have := hgp.ok e; omega, hgp.few, hgp.last⟩
        have c1 := hS3.rd.c1
        have f1 := hS3.rd.f1
        have HF3 := hide hF3
        have HG4 := hide hg4
        have HPc := hide hPc
        have HLT := hide hlt2
        have HH3 : Hid (RS wr rb gb s p1 R1 O3 ∧ Kept (fun k => k = rb ∨ O k) w wr ∧ ∀ k, O3 k → O k ∨ w.heap.size ≤ k) := ⟨hS3, hk3, hO3⟩
        clear hF3 hg4 hgp hPc hg3 hn3 hS3 hk3 hO3 hlt2 HF
        go_wp2_with fail
        refine (peek_any s p1 rb gb _ HH3.out.1.rd hs (by omega)).mono ?_
        rintro e w4 ⟨rfl, n, rfl⟩
        rw [h10]
        go_wp2_with fail
        refine (HPc.out _ O3 ((HH3.out.1.drewN n).set1)).mono ?_
        rintro e w4 ⟨rfl, O4, hS4, hk4, ho4⟩
        obtain ⟨hS3, hk3, hO3⟩ := HH3.out
        have hz3 : w.heap.size ≤ wr.heap.size := hk3.size
        have HH4 : Hid (RS w4 rb gb s p2 R2 O4 ∧ Kept (fun k => k = rb ∨ O k) w w4 ∧ ∀ k, O4 k → O k ∨ w.heap.size ≤ k) := ⟨hS4, ((hk3.drewN n).setCell (p := ⟨rb, 1, none⟩) (fun _ => .inl rfl) (.int .i64 ((p1 : Int) + 1))).trans hk4 (fun i hi e => by rcases e with e | e; exact .inl e; exact .inr (by rcases hO3 i e with e | e; exact e; omega)), fun k hk => by rcases ho4 k hk with e | e; exact hO3 k e; exact .inr (by simp at e; omega)⟩
        clear hS3 hk3 hO3 hS4 hk4 ho4 HH3 c1 f1
        go_wp2_with fail
        go_roundg (gk - 1)
        case measure => omega
        case rel =>
          obtain ⟨q1, q2, q3⟩ := HH4.out
          refine ⟨_, O4, rfl, HG4.out, fun e => ?_, HF3.out, q1, q2, q3⟩
          have := HLT.out e
          show s.size < gk - 1 + p2
          omega
      · have e10 : (peekI s p1 == 10) = false := by simp [h10]
        have hl : allLoopF s gk (true, p1, R1) = (true, p1, R1) := allLoopF_stop _ _ _ (by simp [h10])
        rw [hl] at hF3
        have hFe : F = (decide (peekI s p1 = -1), p1, R1) := by have := HF.out; simp only [← hF3] at this; rw [← this]; rfl
        subst hFe
        clear hF3 hg3 hn3 hl HF h10
        have e1 : (peekI s p1 == -1) = decide (peekI s p1 = -1) := by cases h : (peekI s p1 == -1) <;> simp_all
        go_wp2_with fail
        refine (peek_any s p1 rb gb _ hS3.rd hs (by omega)).mono ?_
        rintro e w4 ⟨rfl, n, rfl⟩
        go_wp2_with fail
        refine (peek_any s p1 rb gb _ (hS3.rd.drewN n) hs (by omega)).mono ?_
        rintro e w4 ⟨rfl, n2, rfl⟩
        go_wp2_with fail
        go_ret
        exact ⟨rfl, O3, hS3.drewN (n + n2), hk3.drewN (n + n2), hO3⟩

theorem Try.infoR : (Try.prog.info? 143).map (·.size) = some 516 := by kernel_rfl

set_option maxHeartbeats 1600000 in
theorem read_long (s : ByteArray) (hs : 120 < s.size) (hm : s.size ≤ maxLen) (w : World) :
    Calls Try.prog 49 #[.string s] w fun e w' => e = .returned (.tuple #[.pointer none, .int .i64 1, .int .i64 0]) ∧ w' = w := by
  unfold maxLen at hm
  have e1 : decide ((120 : Int) < (s.size : Int)) = true := by simp; omega
  go_enter Try.func49, Try.ntmps49
  go_wp2_with fail
  go_ret3
  exact ⟨rfl, rfl⟩

/-- The rules, all of whose memory is new. -/
def RulesNew (w w' : World) (gb : Nat) (R : RulesT) : Prop := ∃ O fv lv, RulesAt w' gb O R fv lv ∧ ∀ k, O k → w.heap.size ≤ k

set_option maxHeartbeats 1600000 in
theorem read_any (s : ByteArray) (hs : s.size ≤ 120) (w : World) :
    Calls Try.prog 49 #[.string s] w fun e w' => Below w.heap.size w w' ∧
      ((allF s).1 = false ∧ e = .returned (.tuple #[.pointer none, .int .i64 2, .int .i64 ((allF s).2.1 : Int)]) ∨
       (allF s).1 = true ∧ ∃ gb, e = .returned (.tuple #[.pointer (some ⟨gb, 0, none⟩), .int .i64 0, .int .i64 0]) ∧ RulesNew w w' gb (allF s).2.2) := by
  have e1 : decide ((120 : Int) < (s.size : Int)) = false := by simp; omega
  generalize hF : allF s = F
  have HF := hide hF
  clear hF
  go_enter Try.func49, Try.ntmps49
  go_wp2_with fail
  have hB0 : Blk (w.alloc (.cells Try.zeroCells143 143)) w.heap.size (rulesC RulesT.new.allow RulesT.new.first (.slice none 0 0) (.slice none 0 0)) 143 := by
    have := Blk.new w Try.zeroCells143 143
    rw [zeroRules] at this ⊢
    exact this
  have hRu0 : RulesAt ((w.alloc (.cells Try.zeroCells143 143)).alloc (.cells #[.string s, .int .i64 0, .pointer (some ⟨w.heap.size, 0, none⟩)] 145)) w.heap.size (fun k => k = w.heap.size) RulesT.new (.slice none 0 0) (.slice none 0 0) :=
    ⟨hB0.alloc _, World.ownsRow_nil _ _ _ _, World.ownsRow_nil _ _ _ _, rfl, fun k e => by simp [Value.ownBlock] at e, fun k e => by simp [Value.ownBlock] at e, fun k e => by simp [Value.ownBlock] at e, fun k e => by simp; omega⟩
  have hS0 : RS ((w.alloc (.cells Try.zeroCells143 143)).alloc (.cells #[.string s, .int .i64 0, .pointer (some ⟨w.heap.size, 0, none⟩)] 145)) (w.heap.size + 1) w.heap.size s 0 RulesT.new (fun k => k = w.heap.size) :=
    ⟨Blk.at1 w _ _ _, ⟨_, _, hRu0⟩, by simp⟩
  refine (all_any s (w.heap.size + 1) w.heap.size hs _ _ hS0).mono ?_
  rw [HF.out]
  rintro e w1 ⟨rfl, O1, hS1, hk1, ho1⟩
  have hbl : Below w.heap.size w w1 := by
    have h2 := Below2 w (.cells Try.zeroCells143 143) (.cells #[.string s, .int .i64 0, .pointer (some ⟨w.heap.size, 0, none⟩)] 145)
    refine h2.trans ⟨hk1.os, hk1.tape, hk1.output, hk1.size, fun k hk => hk1.block k (by simp; omega) (fun e => by rcases e with e | e <;> omega)⟩
  have hO : ∀ k, O1 k → w.heap.size ≤ k := fun k hk => by rcases ho1 k hk with e | e; omega; simp at e; omega
  have c1 := hS1.rd.c1
  have c2 := hS1.rd.c2
  obtain ⟨ok, p, R⟩ := F
  have HH : Hid (Below w.heap.size w w1 ∧ RS w1 (w.heap.size + 1) w.heap.size s p R O1 ∧ ∀ k, O1 k → w.heap.size ≤ k) := ⟨hbl, hS1, hO⟩
  clear hbl hO hS1 hk1 ho1 hS0 hRu0 hB0
  simp only at c1 c2 ⊢
  cases ok with
  | false =>
    go_wp2_with fail
    go_quiet (fail)
    go_wp2_with fail
    go_ret3
    obtain ⟨q1, q2, q3⟩ := HH.out
    exact ⟨⟨q1.os, q1.tape, q1.output, q1.size, q1.block⟩, rfl⟩
  | true =>
    go_wp2_with fail
    go_ret3
    obtain ⟨q1, q2, q3⟩ := HH.out
    obtain ⟨fv, lv, hr⟩ := q2.ru
    exact ⟨q1, _, rfl, O1, fv, lv, hr, q3⟩
end Go.Proofs.Ytmgpdaemcbbikaa
