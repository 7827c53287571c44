import Derived.Test.YtmgpdaemcbbikaaBuild
import Derived.Test.YtmgpdaemcbbikaaReadF
namespace Go.Proofs.Ytmgpdaemcbbikaa
open Go.RowKit Go.Deep
set_option linter.unusedVariables false

theorem allLoopF_good (s : ByteArray) : ∀ (n : Nat) (r : Bool × Nat × RulesT), r.2.1 ≤ s.size ∧ r.2.2.follow.length ≤ r.2.1 ∧ r.2.2.last.length ≤ r.2.1 →
    (allLoopF s n r).2.1 ≤ s.size ∧ (allLoopF s n r).2.2.follow.length ≤ (allLoopF s n r).2.1 ∧ (allLoopF s n r).2.2.last.length ≤ (allLoopF s n r).2.1
  | 0, r, h => h
  | n + 1, r, h => by
    unfold allLoopF
    split
    · rename_i hc
      have hlt := peekI_in (s := s) (p := r.2.1) (by rw [hc.2]; decide)
      have g := ruleF_good s (r.2.1 + 1) r.2.2 (by omega) (by omega) (by omega)
      exact allLoopF_good s n _ ⟨g.top, g.few, g.last⟩
    · exact h
theorem allF_good (s : ByteArray) : (allF s).2.1 ≤ s.size ∧ (allF s).2.2.follow.length ≤ s.size ∧ (allF s).2.2.last.length ≤ s.size := by
  have g := ruleF_good s 0 RulesT.new (by omega) (by simp [RulesT.new]) (by simp [RulesT.new])
  have := allLoopF_good s (s.size + 1) (ruleF s 0 RulesT.new) ⟨g.top, g.few, g.last⟩
  unfold allF
  simp only
  omega

/-- What New answers. -/
inductive NewT where
  | bad (e at' : Nat)
  | lexer (kd : Nat → Nat) (g : Graph)
def newF (s : ByteArray) : NewT :=
  if 120 < s.size then .bad 1 0
  else if (allF s).1 = false then .bad 2 (allF s).2.1
  else match buildF (allF s).2.2 with
    | none => .bad 3 0
    | some (kd, g) => .lexer kd g
/-- A lexer. -/
def LexAt (w : World) (pb : Nat) (kd : Nat → Nat) (g : Graph) : Prop := ∃ ruv nxv, Blk w pb (tableC kd ruv nxv) 97 ∧ GraphAt w ruv nxv g
def NewAns (w' : World) (e : Ending) : NewT → Prop
  | .bad c a => e = .returned (.tuple #[.pointer none, .int .i64 (c : Int), .int .i64 (a : Int)])
  | .lexer kd g => ∃ pb, e = .returned (.tuple #[.pointer (some ⟨pb, 0, none⟩), .int .i64 0, .int .i64 0]) ∧ LexAt w' pb kd g

set_option maxHeartbeats 3200000 in
theorem new_any (s : ByteArray) (hm : s.size ≤ maxLen) (w : World) :
    Calls Try.prog 15 #[.string s] w fun e w' => Below w.heap.size w w' ∧ NewAns w' e (newF s) := by
  by_cases hs : 120 < s.size
  · have e1 : newF s = .bad 1 0 := by unfold newF; rw [if_pos hs]
    rw [e1]
    have HC := hide (read_long s hs hm)
    clear e1 hm
    go_enter Try.func15, Try.ntmps15
    go_wp2_with fail
    refine (HC.out _).mono ?_
    rintro e w1 ⟨rfl, rfl⟩
    go_wp2_with fail
    go_ret3
    exact ⟨Below.refl _ _, rfl⟩
  · have HC := hide (read_any s (by omega))
    have hgood := allF_good s
    generalize hX : newF s = X
    unfold newF at hX
    rw [if_neg hs] at hX
    generalize allF s = F at HC hgood hX
    obtain ⟨ok, p, R⟩ := F
    have HX := hide hX
    clear hX hm
    go_enter Try.func15, Try.ntmps15
    go_wp2_with fail
    refine (HC.out _).mono ?_
    rintro e w1 ⟨hb1, hres⟩
    rcases hres with ⟨hok, rfl⟩ | ⟨hok, gb, rfl, O, fv, lv, hR1, hO⟩
    · subst hok
      have hx := HX.out
      simp only [if_true] at hx
      subst hx
      go_wp2_with fail
      go_ret3
      exact ⟨hb1, rfl⟩
    · subst hok
      have HBU := hide (build_any R gb O fv lv w1 hR1 (by omega) (by omega))
      have HB1 := hide hb1
      clear hb1 hR1 hO
      go_wp2_with fail
      refine HBU.out.mono ?_
      rintro e w2 ⟨hb2, hres⟩
      have hb3 : Below w.heap.size w w2 := HB1.out.trans (hb2.mono HB1.out.size)
      have hz := HB1.out.size
      have hz2 := hb2.size
      rcases hres with ⟨hx0, rfl⟩ | ⟨kd, g, ruv, nxv, hx0, rfl, hG2⟩
      · have hx := HX.out
        simp only [hx0] at hx
        simp only [Bool.true_eq_false, if_false] at hx
        subst hx
        have HB3 := hide hb3
        clear hb2 hb3 hx0
        go_wp2_with (first | refine storeT rfl (.tmp 8) (.tmp 22) rfl w2.heap.size rfl rfl (Blk.new _ _ _) zeroT ⟨rfl, rfl⟩ ?_)
        go_ret3
        exact ⟨Below_setRow (HB3.out.alloc (by omega) _) (by omega) _, rfl⟩
      · have hx := HX.out
        simp only [hx0] at hx
        simp only [Bool.true_eq_false, if_false] at hx
        subst hx
        have hone := hG2.one
        have HB3 := hide hb3
        have HG2 := hide hG2
        have HON := hide hone
        clear hb2 hb3 hx0 hG2 hone
        go_wp2_with (first | refine storeT rfl (.tmp 8) (.tmp 22) rfl w2.heap.size rfl rfl (Blk.new _ _ _) zeroT HON.out ?_ | refine loadT rfl (.tmp 8) rfl w2.heap.size rfl ((Blk.new _ _ _).setRow _) ?_ | refine buildL rfl (.tmp 27) rfl rfl ?_)
        go_ret3
        have hb4 : Below w2.heap.size w2 (((w2.alloc (.cells Try.zeroCells93 93)).setRow w2.heap.size (tableC kd ruv nxv)).alloc (.cells (tableC kd ruv nxv) 97)) := (Below_setRow (Below1 _ _) (Nat.le_refl _) _).alloc (by simp) _
        refine ⟨HB3.out.trans (hb4.mono (by omega)), w2.heap.size + 1, rfl, ruv, nxv, ?_, HG2.out.below hb4⟩
        have := Blk.new ((w2.alloc (.cells Try.zeroCells93 93)).setRow w2.heap.size (tableC kd ruv nxv)) (tableC kd ruv nxv) 97
        simpa using this

theorem LexAt.below {w w' : World} {pb : Nat} {kd : Nat → Nat} {g : Graph} (h : LexAt w pb kd g) (k : Below w.heap.size w w') : LexAt w' pb kd g := by
  obtain ⟨ruv, nxv, h1, h2⟩ := h
  exact ⟨ruv, nxv, h1.below k, h2.below k⟩
theorem tableC_256 (f : Nat → Nat) (ru nx : Value) : (tableC f ru nx)[256]? = some ru := by
  rw [tableC, Array.getElem?_append_right (by rw [kindC_size]; omega), kindC_size]; rfl
theorem tableC_257 (f : Nat → Nat) (ru nx : Value) : (tableC f ru nx)[257]? = some nx := by
  rw [tableC, Array.getElem?_append_right (by rw [kindC_size]; omega), kindC_size]; rfl
theorem count_any (pb : Nat) (ruv : Value) (l : List Int) (w : World) (hc : w.cell? ⟨pb, 256, none⟩ = some ruv) (hl : IRow w ruv l) :
    Calls Try.prog 66 #[.pointer (some ⟨pb, 0, none⟩)] w fun e w' => e = .returned (.int .i64 (l.length : Int)) ∧ w' = w := by
  obtain ⟨ad, cap, rfl, _⟩ := hl.form
  clear hl
  go_enter Try.func66, Try.ntmps66
  go_wp2_with fail
  go_ret
  exact ⟨rfl, rfl⟩
theorem states_any (pb : Nat) (kd : Nat → Nat) (g : Graph) (w : World) (h : LexAt w pb kd g) :
    Calls Try.prog 46 #[.pointer (some ⟨pb, 0, none⟩)] w fun e w' => e = .returned (.int .i64 (g.rule.length : Int)) ∧ w' = w := by
  obtain ⟨ruv, nxv, h1, h2⟩ := h
  have HC := hide (count_any pb ruv g.rule w (by rw [h1.cell]; exact tableC_256 _ _ _) h2.rule)
  clear h1 h2
  go_enter Try.func46, Try.ntmps46
  go_wp2_with fail
  refine HC.out.mono ?_
  rintro e w1 ⟨rfl, rfl⟩
  go_wp2_with fail
  go_ret
  exact ⟨rfl, rfl⟩
end Go.Proofs.Ytmgpdaemcbbikaa
