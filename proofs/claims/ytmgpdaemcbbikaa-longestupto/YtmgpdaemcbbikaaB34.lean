import Derived.Test.YtmgpdaemcbbikaaB33
import Derived.Test.YtmgpdaemcbbikaaB30

namespace Go.Proofs.Ytmgpdaemcbbikaa
open Go.RowKit Go.Deep
set_option linter.unusedVariables false

theorem allLoopF_good (s : ByteArray) : ∀ (n : Nat) (r : Bool × Nat × RulesT), r.2.1 ≤ s.size ∧ r.2.2.follow.length ≤ r.2.1 ∧ r.2.2.last.length ≤ r.2.1 →
    (allLoopF s n r).2.1 ≤ s.size ∧ (allLoopF s n r).2.2.follow.length ≤ (allLoopF s n r).2.1 ∧ (allLoopF s n r).2.2.last.length ≤ (allLoopF s n r).2.1
  | 0, r, h => h
  | n + 1, r, h => by
    unfold allLoopF
    split
    · rename_i hc
      have hlt := peekI_in (s := s) (p := r.2.1) (by rw [hc.2]; decide)
      have g := ruleF_good s (r.2.1 + 1) r.2.2 (by omega) (by omega) (by omega)
      exact allLoopF_good s n _ ⟨g.top, g.few, g.last⟩
    · exact h
theorem allF_good (s : ByteArray) : (allF s).2.1 ≤ s.size ∧ (allF s).2.2.follow.length ≤ s.size ∧ (allF s).2.2.last.length ≤ s.size := by
  have g := ruleF_good s 0 RulesT.new (by omega) (by simp [RulesT.new]) (by simp [RulesT.new])
  have := allLoopF_good s (s.size + 1) (ruleF s 0 RulesT.new) ⟨g.top, g.few, g.last⟩
  unfold allF
  simp only
  omega

/-- What New answers. -/
inductive NewT where
  | bad (e at' : Nat)
  | lexer (kd : Nat → Nat) (g : Graph)
def newF (s : ByteArray) : NewT :=
  if 120 < s.size then .bad 1 0
  else if (allF s).1 = false then .bad 2 (allF s).2.1
  else match buildF (allF s).2.2 with
    | none => .bad 3 0
    | some (kd, g) => .lexer kd g
/-- A lexer. -/
def LexAt (w : World) (pb : Nat) (kd : Nat → Nat) (g : Graph) : Prop := ∃ ruv nxv, Blk w pb (tableC kd ruv nxv) 97 ∧ GraphAt w ruv nxv g
def NewAns (w' : World) (e : Ending) : NewT → Prop
  | .bad c a => e = .returned (.tuple #[.pointer none, .int .i64 (c : Int), .int .i64 (a : Int)])
  | .lexer kd g => ∃ pb, e = .returned (.tuple #[.pointer (some ⟨pb, 0, none⟩), .int .i64 0, .int .i64 0]) ∧ LexAt w' pb kd g

set_option maxHeartbeats 3200000 in
theorem new_any (s : ByteArray) (hm : s.size ≤ maxLen) (w : World) :
    Calls Try.prog 15 #[.string s] w fun e w' => Below w.heap.size w w' ∧ NewAns w' e (newF s) := by
  by_cases hs : 120 < s.size
  · have e1 : newF s = .bad 1 0 := by unfold newF; rw [if_pos hs]
    rw [e1]
    have HC := hide (read_long s hs hm)
    clear e1 hm
    go_enter Try.func15, Try.ntmps15
    go_wp2_with fail
    refine (HC.out _).mono ?_
    rintro e w1 ⟨rfl, rfl⟩
    go_wp2_with fail
    go_ret3
    exact ⟨Below.refl _ _, rfl⟩
  · have HC := hide (read_any s (by omega))
    have hgood := allF_good s
    generalize hX : newF s = X
    unfold newF at hX
    rw [if_neg hs] at hX
    generalize allF s = F at HC hgood hX
    obtain ⟨ok, p, R⟩ := F
    have HX := hide hX
    clear hX hm
    go_enter Try.func15, Try.ntmps15
    go_wp2_with fail
    refine (HC.out _).mono ?_
    rintro e w1 ⟨hb1, hres⟩
    rcases hres with ⟨hok, rfl⟩ | ⟨hok, gb, rfl, O, fv, lv, hR1, hO⟩
    · subst hok
      have hx := HX.out
      simp only [if_true] at hx
      subst hx
      go_wp2_with fail
      go_ret3
      exact ⟨hb1, rfl⟩
    · subst hok
      have HBU := hide (build_any R gb O fv lv w1 hR1 (by omega) (by omega))
      have HB1 := hide hb1
      clear hb1 hR1 hO
      go_wp2_with fail
      refine HBU.out.mono ?_
      rintro e w2 ⟨hb2, hres⟩
      have hb3 : Below w.heap.size w w2 := HB1.out.trans (hb2.mono HB1.out.size)
      have hz := HB1.out.size
      have hz2 := hb2.size
      rcases hres with ⟨hx0, rfl⟩ | ⟨kd, g, ruv, nxv, hx0, rfl, hG2⟩
      · have hx := HX.out
        simp only [hx0] at hx
        simp only [Bool.true_eq_false, if_false] at hx
        subst hx
        have HB3 := hide hb3
        clear hb2 hb3 hx0
        go_wp2_with (first | refine storeT rfl (.tmp 8) (.tmp 22) rfl w2.heap.size rfl rfl (Blk.new _ _ _) zeroT ⟨rfl, rfl⟩ ?_)
        go_ret3
        exact ⟨Below_setRow (HB3.out.alloc (by omega) _) (by omega) _, rfl⟩
      · have hx := HX.out
        simp only [hx0] at hx
        simp only [Bool.true_eq_false, if_false] at hx
        subst hx
        have hone := hG2.one
        have HB3 := hide hb3
        have HG2 := hide hG2
        have HON := hide hone
        clear hb2 hb3 hx0 hG2 hone
        go_wp2_with (first | refine storeT rfl (.tmp 8) (.tmp 22) rfl w2.heap.size rfl rfl (Blk.new _ _ _) zeroT HON.out ?_ | refine loadT rfl (.tmp 8) rfl w2.heap.size rfl ((Blk.new _ _ _).setRow _) ?_ | refine buildL rfl (.tmp 27) rfl rfl ?_)
        go_ret3
        have hb4 : Below w2.heap.size w2 (((w2.alloc (.cells Try.zeroCells93 93)).setRow w2.heap.size (tableC kd ruv nxv)).alloc (.cells (tableC kd ruv nxv) 97)) := (Below_setRow (Below1 _ _) (Nat.le_refl _) _).alloc (by simp) _
        refine ⟨HB3.out.trans (hb4.mono (by omega)), w2.heap.size + 1, rfl, ruv, nxv, ?_, HG2.out.below hb4⟩
        have := Blk.new ((w2.alloc (.cells Try.zeroCells93 93)).setRow w2.heap.size (tableC kd ruv nxv)) (tableC kd ruv nxv) 97
        simpa using this

theorem LexAt.below {w w' : World} {pb : Nat} {kd : Nat → Nat} {g : Graph} (h : LexAt w pb kd g) (k : Below w.heap.size w w') : LexAt w' pb kd g := by
  obtain ⟨ruv, nxv, h1, h2⟩ := h
  exact ⟨ruv, nxv, h1.below k, h2.below k⟩
theorem tableC_256 (f : Nat → Nat) (ru nx : Value) : (tableC f ru nx)[256]? = some ru := by
  rw [tableC, Array.getElem?_append_right (by rw [kindC_size]; omega), kindC_size]; rfl
theorem tableC_257 (f : Nat → Nat) (ru nx : Value) : (tableC f ru nx)[257]? = some nx := by
  rw [tableC, Array.getElem?_append_right (by rw [kindC_size]; omega), kindC_size]; rfl
theorem count_any (pb : Nat) (ruv : Value) (l : List Int) (w : World) (hc : w.cell? ⟨pb, 256, none⟩ = some ruv) (hl : IRow w ruv l) :
    Calls Try.prog 66 #[.pointer (some ⟨pb, 0, none⟩)] w fun e w' => e = .returned (.int .i64 (l.length : Int)) ∧ w' = w := by
  obtain ⟨ad, cap, rfl, _⟩ := hl.form
  clear hl
  go_enter Try.func66, Try.ntmps66
  go_wp2_with fail
  go_ret
  exact ⟨rfl, rfl⟩
theorem states_any (pb : Nat) (kd : Nat → Nat) (g : Graph) (w : World) (h : LexAt w pb kd g) :
    Calls Try.prog 46 #[.pointer (some ⟨pb, 0, none⟩)] w fun e w' => e = .returned (.int .i64 (g.rule.length : Int)) ∧ w' = w := by
  obtain ⟨ruv, nxv, h1, h2⟩ := h
  have HC := hide (count_any pb ruv g.rule w (by rw [h1.cell]; exact tableC_256 _ _ _) h2.rule)
  clear h1 h2
  go_enter Try.func46, Try.ntmps46
  go_wp2_with fail
  refine HC.out.mono ?_
  rintro e w1 ⟨rfl, rfl⟩
  go_wp2_with fail
  go_ret
  exact ⟨rfl, rfl⟩
end Go.Proofs.Ytmgpdaemcbbikaa

namespace Go.Proofs.Ytmgpdaemcbbikaa
open Go.RowKit Go.Deep
set_option linter.unusedVariables false

/-- What Next and Rule answer. -/
def nextF (kd : Nat → Nat) (g : Graph) (s b : Int) : Int := if s < 0 ∨ (g.next.length : Int) ≤ s ∨ b < 0 ∨ 256 ≤ b then -1 else (g.next.getD s.toNat []).getD (kd b.toNat) 0
def ruleOfF (g : Graph) (s : Int) : Int := if s < 0 ∨ (g.rule.length : Int) ≤ s then -1 else g.rule.getD s.toNat 0
/-- Every byte has its kind in every row. -/
def LexOk (kd : Nat → Nat) (g : Graph) : Prop := ∀ i, i < g.next.length → ∀ b, b < 256 → kd b < (g.next.getD i []).length
theorem tableC_kind (f : Nat → Nat) (ru nx : Value) (b : Nat) (h : b < 256) : (tableC f ru nx)[b]? = some (.int .i64 (f b : Int)) := by
  rw [tableC, Array.getElem?_append_left (by rw [kindC_size]; omega), kindC_get _ _ h]

set_option maxHeartbeats 1600000 in
theorem tableRule_any (pb : Nat) (kd : Nat → Nat) (g : Graph) (s : Int) (w : World) (h : LexAt w pb kd g) :
    Calls Try.prog 55 #[.pointer (some ⟨pb, 0, none⟩), .int .i64 s] w fun e w' => e = .returned (.int .i64 (ruleOfF g s)) ∧ w' = w := by
  obtain ⟨ruv, nxv, h1, h2⟩ := h
  have hl := h2.rule
  have c0 : w.cell? ⟨pb, 256, none⟩ = some ruv := by rw [h1.cell]; exact tableC_256 _ _ _
  obtain ⟨ad, cap, rfl, hrow⟩ := hl.form
  generalize hF : ruleOfF g s = F
  unfold ruleOfF at hF
  by_cases hs0 : s < 0
  · have e0 : decide (s < 0) = true := by simp [hs0]
    rw [if_pos (.inl hs0)] at hF
    subst hF
    clear h1 h2 hl
    go_enter Try.func55, Try.ntmps55
    go_wp2_with fail
    go_ret
    exact ⟨rfl, rfl⟩
  · have e0 : decide (s < 0) = false := by simp; omega
    by_cases hs1 : (g.rule.length : Int) ≤ s
    · have e1 : decide ((g.rule.length : Int) ≤ s) = true := by simp [hs1]
      rw [if_pos (.inr hs1)] at hF
      subst hF
      clear h1 h2 hl
      go_enter Try.func55, Try.ntmps55
      go_wp2_with fail
      go_ret
      exact ⟨rfl, rfl⟩
    · have e1 : decide ((g.rule.length : Int) ≤ s) = false := by simp; omega
      rw [if_neg (by omega)] at hF
      obtain ⟨j, rfl⟩ : ∃ j : Nat, s = (j : Int) := ⟨s.toNat, by omega⟩
      have hj : j < g.rule.length := by omega
      rcases hrow with h0 | ⟨rg, rfl⟩
      · omega
      have r0 := hl.cell j hj
      have hg : g.rule.getD j 0 = g.rule[j] := by simp [hj]
      rw [Int.toNat_natCast, hg] at hF
      generalize g.rule[j] = rj at r0 hF
      subst hF
      have i0 : (0 : Int) ≤ (j : Int) := by omega
      have i1 : (j : Int) < (g.rule.length : Int) := by omega
      clear h1 h2 hl hg
      go_enter Try.func55, Try.ntmps55
      go_wp2_with fail
      go_ret
      exact ⟨rfl, rfl⟩

set_option maxHeartbeats 3200000 in
theorem tableNext_any (pb : Nat) (kd : Nat → Nat) (g : Graph) (s b : Int) (w : World) (h : LexAt w pb kd g) (ho : LexOk kd g) :
    Calls Try.prog 51 #[.pointer (some ⟨pb, 0, none⟩), .int .i64 s, .int .i64 b] w fun e w' => e = .returned (.int .i64 (nextF kd g s b)) ∧ Below w.heap.size w w' := by
  obtain ⟨ruv, nxv, h1, h2⟩ := h
  obtain ⟨vs, hN, hvl, hvs⟩ := h2.next
  have c0 : w.cell? ⟨pb, 257, none⟩ = some nxv := by rw [h1.cell]; exact tableC_257 _ _ _
  obtain ⟨ad, cap, rfl, hrow⟩ := hN.form
  generalize hF : nextF kd g s b = F
  unfold nextF at hF
  rw [← hvl] at hF
  by_cases hs0 : s < 0
  · have e0 : decide (s < 0) = true := by simp [hs0]
    rw [if_pos (.inl hs0)] at hF
    subst hF
    clear h1 h2 hN hvl hvs ho
    go_enter Try.func51, Try.ntmps51
    go_wp2_with fail
    go_ret
    exact ⟨rfl, Below.refl _ _⟩
  · have e0 : decide (s < 0) = false := by simp; omega
    by_cases hs1 : (vs.length : Int) ≤ s
    · have e1 : decide ((vs.length : Int) ≤ s) = true := by simp [hs1]
      rw [if_pos (.inr (.inl hs1))] at hF
      subst hF
      clear h1 h2 hN hvl hvs ho
      go_enter Try.func51, Try.ntmps51
      go_wp2_with fail
      go_ret
      exact ⟨rfl, Below.refl _ _⟩
    · have e1 : decide ((vs.length : Int) ≤ s) = false := by simp; omega
      by_cases hb0 : b < 0
      · have e2 : decide (b < 0) = true := by simp [hb0]
        rw [if_pos (.inr (.inr (.inl hb0)))] at hF
        subst hF
        clear h1 h2 hN hvl hvs ho
        go_enter Try.func51, Try.ntmps51
        go_wp2_with fail
        go_ret
        exact ⟨rfl, Below.refl _ _⟩
      · have e2 : decide (b < 0) = false := by simp; omega
        by_cases hb1 : 256 ≤ b
        · have e3 : decide ((256 : Int) ≤ b) = true := by simp [hb1]
          rw [if_pos (.inr (.inr (.inr hb1)))] at hF
          subst hF
          clear h1 h2 hN hvl hvs ho
          go_enter Try.func51, Try.ntmps51
          go_wp2_with fail
          go_ret
          exact ⟨rfl, Below.refl _ _⟩
        · have e3 : decide ((256 : Int) ≤ b) = false := by simp; omega
          rw [if_neg (by omega)] at hF
          obtain ⟨j, rfl⟩ : ∃ j : Nat, s = (j : Int) := ⟨s.toNat, by omega⟩
          obtain ⟨c, rfl⟩ : ∃ c : Nat, b = (c : Int) := ⟨b.toNat, by omega⟩
          have hj : j < vs.length := by omega
          have hc : c < 256 := by omega
          have hkd := ho j (by omega) c hc
          rcases hrow with h0 | ⟨ng, rfl⟩
          · omega
          have n0 := hN.cell j hj
          have hr := hvs j vs[j] (List.getElem?_eq_getElem _)
          rw [Int.toNat_natCast, Int.toNat_natCast] at hF
          generalize g.next.getD j [] = row at hr hF hkd
          generalize vs[j] = vj at n0 hr
          obtain ⟨ed, ecap, rfl, herow⟩ := hr.form
          rcases herow with h0 | ⟨eg, rfl⟩
          · omega
          have k0 : w.cell? ⟨pb, c, none⟩ = some (.int .i64 (kd c : Int)) := by rw [h1.cell]; exact tableC_kind _ _ _ c hc
          have r0 := hr.cell (kd c) hkd
          have hg : row.getD (kd c) 0 = row[kd c] := by simp [hkd]
          rw [hg] at hF
          generalize row[kd c] = rv at r0 hF
          subst hF
          generalize kd c = kc at k0 r0 hkd
          have i0 : (0 : Int) ≤ (j : Int) := by omega
          have i1 : (j : Int) < (vs.length : Int) := by omega
          have i2 : (0 : Int) ≤ (c : Int) := by omega
          have i3 : (c : Int) < 256 := by omega
          have i4 : (0 : Int) ≤ (kc : Int) := by omega
          have i5 : (kc : Int) < (row.length : Int) := by omega
          clear h1 h2 hN hvl hvs ho hr hg
          go_enter Try.func51, Try.ntmps51
          go_wp2_with fail
          go_quiet (fail)
          go_wp2_with fail
          go_ret
          exact ⟨rfl, Below_drewN (Below.refl _ _) _⟩
end Go.Proofs.Ytmgpdaemcbbikaa

namespace Go.Proofs.Ytmgpdaemcbbikaa
open Go.RowKit Go.Deep
set_option linter.unusedVariables false

theorem kindsAt_mono (al : Nat → PSet) : ∀ (d b : Nat), (kindsAt al b).length ≤ (kindsAt al (b + d)).length
  | 0, b => Nat.le_refl _
  | d + 1, b => by
    refine Nat.le_trans (kindsAt_mono al d b) ?_
    show (kindsAt al (b + d)).length ≤ (if idxF (kindsAt al (b + d)) (al (b + d)) = (kindsAt al (b + d)).length then kindsAt al (b + d) ++ [al (b + d)] else kindsAt al (b + d)).length
    split
    · simp
    · exact Nat.le_refl _
theorem kindOf_lt (al : Nat → PSet) (b n : Nat) (h : b < n) : kindOf al b < (kindsAt al n).length := by
  have h1 := idxF_le (kindsAt al b) (al b)
  have h2 : kindOf al b < (kindsAt al (b + 1)).length := by
    show idxF (kindsAt al b) (al b) < (if idxF (kindsAt al b) (al b) = (kindsAt al b).length then kindsAt al b ++ [al b] else kindsAt al b).length
    split
    · simp; omega
    · omega
  have h3 := kindsAt_mono al (n - (b + 1)) (b + 1)
  rw [show b + 1 + (n - (b + 1)) = n by omega] at h3
  omega
theorem visitRow_in {N : Nat} {cls : List Int} : ∀ (row : List Int) (st : List Int × List Int), RowOk N row → (∀ x ∈ st.1, 0 ≤ x ∧ x < (N : Int)) → ∀ x ∈ (visitRow cls row st).1, 0 ≤ x ∧ x < (N : Int)
  | [], st, _, h => h
  | x :: r, st, hr, h => by
    unfold visitRow
    refine visitRow_in r _ (fun y hy => hr y (by simp [hy])) ?_
    split
    · rename_i hc
      simp at hc
      intro y hy
      simp at hy
      rcases hy with e | e
      · exact h y e
      · subst e
        rcases hr y (by simp) with e' | e'
        · exact absurd e' hc.1
        · exact e'
    · exact h
theorem visitLoop_in {g : Graph} {K : Nat} {cls : List Int} (ho : GOk g K) : ∀ (f i : Nat) (st : List Int × List Int), (∀ x ∈ st.1, 0 ≤ x ∧ x < (g.rule.length : Int)) → ∀ x ∈ (visitLoop g cls f i st).1, 0 ≤ x ∧ x < (g.rule.length : Int)
  | 0, i, st, h => h
  | f + 1, i, st, h => by
    unfold visitLoop
    split
    · rename_i hlt
      refine visitLoop_in ho f (i + 1) _ (visitRow_in _ _ ?_ h)
      have hm : st.1.getD i 0 ∈ st.1 := by simp [hlt]
      have := h _ hm
      exact (ho.row _ (by rw [ho.len]; omega)).2
    · exact h
theorem visitF_in {g : Graph} {K : Nat} {cls : List Int} (ho : GOk g K) (hp : 0 < g.rule.length) : ∀ x ∈ (visitF g cls).1, 0 ≤ x ∧ x < (g.rule.length : Int) :=
  visitLoop_in ho _ _ _ (fun x hx => by simp at hx; omega)
theorem numberF_rows {g : Graph} {K : Nat} {cls : List Int} (ho : GOk g K) (hp : 0 < g.rule.length) : (numberF g cls).next.length = (numberF g cls).rule.length ∧ ∀ i, i < (numberF g cls).next.length → ((numberF g cls).next.getD i []).length = K := by
  refine ⟨by simp [numberF], fun i hi => ?_⟩
  have hi' : i < (visitF g cls).1.length := by simpa [numberF] using hi
  have hx := visitF_in (cls := cls) ho hp (visitF g cls).1[i] (List.getElem_mem hi')
  have e1 : (numberF g cls).next.getD i [] = numberRow cls (visitF g cls).2 (g.next.getD (visitF g cls).1[i].toNat []) := by simp [numberF, hi']
  rw [e1]
  have := (ho.row (visitF g cls).1[i].toNat (by rw [ho.len]; omega)).1
  simpa [numberRow] using this
theorem buildF_ok {R : RulesT} {kd : Nat → Nat} {g : Graph} (h : buildF R = some (kd, g)) : LexOk kd g ∧ g.next.length = g.rule.length := by
  unfold buildF at h
  split at h
  · cases h
  · rename_i g0 hx
    obtain ⟨ho, hp, hn⟩ := exploreF_ok hx
    have hr := numberF_rows (cls := mergeF (pruneF g0)) (pruneF_ok ho) hp
    injection h with h
    injection h with h1 h2
    subst h1 h2
    exact ⟨fun i hi b hb => by rw [hr.2 i hi]; exact kindOf_lt _ _ _ hb, hr.1⟩
theorem newF_lexOk {s : ByteArray} {kd : Nat → Nat} {g : Graph} (h : newF s = .lexer kd g) : LexOk kd g ∧ g.next.length = g.rule.length := by
  unfold newF at h
  split at h
  · cases h
  · split at h
    · cases h
    · split at h
      · cases h
      · rename_i hx
        injection h with h1 h2
        subst h1 h2
        exact buildF_ok hx
theorem lexRule_any (pb : Nat) (kd : Nat → Nat) (g : Graph) (s : Int) (w : World) (h : LexAt w pb kd g) :
    Calls Try.prog 24 #[.pointer (some ⟨pb, 0, none⟩), .int .i64 s] w fun e w' => e = .returned (.int .i64 (ruleOfF g s)) ∧ w' = w := by
  have HC := hide (tableRule_any pb kd g s w h)
  clear h
  go_enter Try.func24, Try.ntmps24
  go_wp2_with fail
  refine HC.out.mono ?_
  rintro e w1 ⟨rfl, rfl⟩
  go_wp2_with fail
  go_ret
  exact ⟨rfl, rfl⟩
theorem lexNext_any (pb : Nat) (kd : Nat → Nat) (g : Graph) (s b : Int) (w : World) (h : LexAt w pb kd g) (ho : LexOk kd g) :
    Calls Try.prog 17 #[.pointer (some ⟨pb, 0, none⟩), .int .i64 s, .int .i64 b] w fun e w' => e = .returned (.int .i64 (nextF kd g s b)) ∧ Below w.heap.size w w' := by
  have HC := hide (tableNext_any pb kd g s b w h ho)
  clear h ho
  go_enter Try.func17, Try.ntmps17
  go_wp2_with fail
  refine HC.out.mono ?_
  rintro e w1 ⟨rfl, hb⟩
  go_wp2_with fail
  go_ret
  exact ⟨rfl, hb⟩
end Go.Proofs.Ytmgpdaemcbbikaa
