import Derived.Test.YtcckhngbdoiikaaN31
import Derived.Test.YtcckhngbdoiikaaN12

namespace Go.Proofs.Ytcckhngbdoiikaa
open Go.RowKit Go.Deep
set_option linter.unusedVariables false

theorem kindsAt_mono (al : Nat → PSet) : ∀ (d b : Nat), (kindsAt al b).length ≤ (kindsAt al (b + d)).length
  | 0, b => Nat.le_refl _
  | d + 1, b => by
    refine Nat.le_trans (kindsAt_mono al d b) ?_
    show (kindsAt al (b + d)).length ≤ (if idxF (kindsAt al (b + d)) (al (b + d)) = (kindsAt al (b + d)).length then kindsAt al (b + d) ++ [al (b + d)] else kindsAt al (b + d)).length
    split
    · simp
    · exact Nat.le_refl _
theorem kindOf_lt (al : Nat → PSet) (b n : Nat) (h : b < n) : kindOf al b < (kindsAt al n).length := by
  have h1 := idxF_le (kindsAt al b) (al b)
  have h2 : kindOf al b < (kindsAt al (b + 1)).length := by
    show idxF (kindsAt al b) (al b) < (if idxF (kindsAt al b) (al b) = (kindsAt al b).length then kindsAt al b ++ [al b] else kindsAt al b).length
    split
    · simp; omega
    · omega
  have h3 := kindsAt_mono al (n - (b + 1)) (b + 1)
  rw [show b + 1 + (n - (b + 1)) = n by omega] at h3
  omega
theorem visitRow_in {N : Nat} {cls : List Int} : ∀ (row : List Int) (st : List Int × List Int), RowOk N row → (∀ x ∈ st.1, 0 ≤ x ∧ x < (N : Int)) → ∀ x ∈ (visitRow cls row st).1, 0 ≤ x ∧ x < (N : Int)
  | [], st, _, h => h
  | x :: r, st, hr, h => by
    unfold visitRow
    refine visitRow_in r _ (fun y hy => hr y (by simp [hy])) ?_
    split
    · rename_i hc
      simp at hc
      intro y hy
      simp at hy
      rcases hy with e | e
      · exact h y e
      · subst e
        rcases hr y (by simp) with e' | e'
        · exact absurd e' hc.1
        · exact e'
    · exact h
theorem visitLoop_in {g : Graph} {K : Nat} {cls : List Int} (ho : GOk g K) : ∀ (f i : Nat) (st : List Int × List Int), (∀ x ∈ st.1, 0 ≤ x ∧ x < (g.rule.length : Int)) → ∀ x ∈ (visitLoop g cls f i st).1, 0 ≤ x ∧ x < (g.rule.length : Int)
  | 0, i, st, h => h
  | f + 1, i, st, h => by
    unfold visitLoop
    split
    · rename_i hlt
      refine visitLoop_in ho f (i + 1) _ (visitRow_in _ _ ?_ h)
      have hm : st.1.getD i 0 ∈ st.1 := by simp [hlt]
      have := h _ hm
      exact (ho.row _ (by rw [ho.len]; omega)).2
    · exact h
theorem visitF_in {g : Graph} {K : Nat} {cls : List Int} (ho : GOk g K) (hp : 0 < g.rule.length) : ∀ x ∈ (visitF g cls).1, 0 ≤ x ∧ x < (g.rule.length : Int) :=
  visitLoop_in ho _ _ _ (fun x hx => by simp at hx; omega)
theorem numberF_rows {g : Graph} {K : Nat} {cls : List Int} (ho : GOk g K) (hp : 0 < g.rule.length) : (numberF g cls).next.length = (numberF g cls).rule.length ∧ ∀ i, i < (numberF g cls).next.length → ((numberF g cls).next.getD i []).length = K := by
  refine ⟨by simp [numberF], fun i hi => ?_⟩
  have hi' : i < (visitF g cls).1.length := by simpa [numberF] using hi
  have hx := visitF_in (cls := cls) ho hp (visitF g cls).1[i] (List.getElem_mem hi')
  have e1 : (numberF g cls).next.getD i [] = numberRow cls (visitF g cls).2 (g.next.getD (visitF g cls).1[i].toNat []) := by simp [numberF, hi']
  rw [e1]
  have := (ho.row (visitF g cls).1[i].toNat (by rw [ho.len]; omega)).1
  simpa [numberRow] using this
theorem buildF_ok {R : RulesT} {kd : Nat → Nat} {g : Graph} (h : buildF R = some (kd, g)) : LexOk kd g ∧ g.next.length = g.rule.length := by
  unfold buildF at h
  split at h
  · cases h
  · rename_i g0 hx
    obtain ⟨ho, hp, hn⟩ := exploreF_ok hx
    have hr := numberF_rows (cls := mergeF (pruneF g0)) (pruneF_ok ho) hp
    injection h with h
    injection h with h1 h2
    subst h1 h2
    exact ⟨fun i hi b hb => by rw [hr.2 i hi]; exact kindOf_lt _ _ _ hb, hr.1⟩
theorem newF_lexOk {s : ByteArray} {kd : Nat → Nat} {g : Graph} (h : newF s = .lexer kd g) : LexOk kd g ∧ g.next.length = g.rule.length := by
  unfold newF at h
  split at h
  · cases h
  · split at h
    · cases h
    · split at h
      · cases h
      · rename_i hx
        injection h with h1 h2
        subst h1 h2
        exact buildF_ok hx
theorem lexRule_any (pb : Nat) (kd : Nat → Nat) (g : Graph) (s : Int) (w : World) (h : LexAt w pb kd g) :
    Calls Try.prog 25 #[.pointer (some ⟨pb, 0, none⟩), .int .i64 s] w fun e w' => e = .returned (.int .i64 (ruleOfF g s)) ∧ w' = w := by
  have HC := hide (tableRule_any pb kd g s w h)
  clear h
  go_enter Try.func25, Try.ntmps25
  go_wp2_with fail
  refine HC.out.mono ?_
  rintro e w1 ⟨rfl, rfl⟩
  go_wp2_with fail
  go_ret
  exact ⟨rfl, rfl⟩
theorem lexNext_any (pb : Nat) (kd : Nat → Nat) (g : Graph) (s b : Int) (w : World) (h : LexAt w pb kd g) (ho : LexOk kd g) :
    Calls Try.prog 18 #[.pointer (some ⟨pb, 0, none⟩), .int .i64 s, .int .i64 b] w fun e w' => e = .returned (.int .i64 (nextF kd g s b)) ∧ Below w.heap.size w w' := by
  have HC := hide (tableNext_any pb kd g s b w h ho)
  clear h ho
  go_enter Try.func18, Try.ntmps18
  go_wp2_with fail
  refine HC.out.mono ?_
  rintro e w1 ⟨rfl, hb⟩
  go_wp2_with fail
  go_ret
  exact ⟨rfl, hb⟩
end Go.Proofs.Ytcckhngbdoiikaa

namespace Go.Proofs.Ytcckhngbdoiikaa
open Go.RowKit Go.Deep
set_option linter.unusedVariables false
abbrev sureText : ByteArray := ⟨#[97, 124, 97, 98, 99]⟩
def lenOf : NewT → Nat
  | .bad _ _ => 0
  | .lexer _ g => g.rule.length
theorem sureLen : lenOf (newF sureText) = 4 := by kernel_rfl
theorem sureNew : ∃ kd g, newF sureText = .lexer kd g ∧ g.rule.length = 4 := by
  have h := sureLen
  generalize newF sureText = X at h ⊢
  cases X with
  | bad e a => simp [lenOf] at h
  | lexer kd g => exact ⟨kd, g, rfl, h⟩

end Go.Proofs.Ytcckhngbdoiikaa

namespace Go.Proofs.Ytcckhngbdoiikaa
open Go.RowKit Go.Deep
set_option linter.unusedVariables false

/-- What munchref's New answers; P: its lexer in memory. -/
def RefAns (P : World → Nat → Prop) (w' : World) (e : Ending) : NewT → Prop
  | .bad c a => e = .returned (.tuple #[.pointer none, .int .i64 (c : Int), .int .i64 (a : Int)])
  | .lexer kd g => ∃ yb, e = .returned (.tuple #[.pointer (some ⟨yb, 0, none⟩), .int .i64 0, .int .i64 0]) ∧ P w' yb
def RefNewC (P : World → Nat → Prop) (s : ByteArray) : Prop := ∀ w, Calls Try.prog 52 #[.string s] w fun e w' => Below w.heap.size w w' ∧ RefAns P w' e (newF s)
/-- What 'made' answers. -/
def MadeAns (P : World → Nat → Prop) (w' : World) (e : Ending) : NewT → Prop
  | .bad c a => e = .returned (.tuple #[.pointer none, .bool true])
  | .lexer kd g => ∃ pb xb yb, e = .returned (.tuple #[.pointer (some ⟨pb, 0, none⟩), .bool true]) ∧ Blk w' pb #[.pointer (some ⟨xb, 0, none⟩), .pointer (some ⟨yb, 0, none⟩)] 35 ∧ LexAt w' xb kd g ∧ P w' yb
theorem LexAt.below' {w w' : World} {pb : Nat} {kd : Nat → Nat} {g : Graph} (h : LexAt w pb kd g) (k : Below w.heap.size w w') : LexAt w' pb kd g := by
  obtain ⟨ruv, nxv, h1, h2⟩ := h
  exact ⟨ruv, nxv, h1.below k, h2.below k⟩
set_option maxHeartbeats 1600000 in
theorem num_law (v : Int) (w : World) : Calls Try.prog 53 #[.int .i64 v] w fun e w' => e = .returned (.int .i64 v) ∧ w' = w := by
  go_enter Try.func53, Try.ntmps53
  go_wp2_with fail
  go_ret
  exact ⟨rfl, rfl⟩
set_option maxRecDepth 20000 in
set_option maxHeartbeats 3200000 in
theorem made_x (P : World → Nat → Prop) (hP : ∀ w w' b, P w b → Below w.heap.size w w' → P w' b) (s : ByteArray) (hm : s.size ≤ maxLen) (hr : RefNewC P s) (w : World) :
    Calls Try.prog 14 #[.string s] w fun e w' => Below w.heap.size w w' ∧ MadeAns P w' e (newF s) := by
  have HN := hide (new_any s hm w)
  have HR := hide hr
  have HP := hide hP
  have HNUM := hide num_law
  clear hr hP hm
  unfold RefNewC at HR
  generalize newF s = X at HN HR ⊢
  cases X with
  | bad c a =>
    have e0 : ((c : Int) != (c : Int)) = false := by simp
    have e1 : ((a : Int) != (a : Int)) = false := by simp
    go_enter Try.func14, Try.ntmps14
    go_wp2_with fail
    refine HN.out.mono ?_
    rintro e w1 ⟨hb1, rfl⟩
    have HR1 := hide (HR.out w1)
    have HB1 := hide hb1
    clear hb1 HN
    go_wp2_with fail
    refine HR1.out.mono ?_
    rintro e w2 ⟨hb2, rfl⟩
    have HB2 := hide hb2
    clear hb2 HR1 HR
    go_wp2_with fail
    refine (HNUM.out _ _).mono ?_
    rintro e w3 ⟨rfl, rfl⟩
    go_wp2_with fail
    refine (HNUM.out _ _).mono ?_
    rintro e w4 ⟨rfl, rfl⟩
    go_wp2_with fail
    go_ret2
    exact ⟨HB1.out.trans (HB2.out.mono HB1.out.size), rfl⟩
  | lexer kd g =>
    go_enter Try.func14, Try.ntmps14
    go_wp2_with fail
    refine HN.out.mono ?_
    rintro e w1 ⟨hb1, xb, rfl, hx⟩
    have HR1 := hide (HR.out w1)
    have HB1 := hide (And.intro hb1 hx)
    clear hb1 hx HN
    go_wp2_with fail
    refine HR1.out.mono ?_
    rintro e w2 ⟨hb2, yb, rfl, hy⟩
    have HB2 := hide (And.intro hb2 hy)
    clear hb2 hy HR1 HR
    go_wp2_with fail
    refine (HNUM.out _ _).mono ?_
    rintro e w3 ⟨rfl, rfl⟩
    go_wp2_with fail
    refine (HNUM.out _ _).mono ?_
    rintro e w4 ⟨rfl, rfl⟩
    go_wp2_with fail
    go_ret2
    obtain ⟨b1, x1⟩ := HB1.out
    obtain ⟨b2, y2⟩ := HB2.out
    refine ⟨(b1.trans (b2.mono b1.size)).alloc (Nat.le_trans b1.size b2.size) _, _, xb, yb, rfl, Blk.new _ _ _, (x1.below' b2).below' (Below1 _ _), HP.out _ _ _ y2 (Below1 _ _)⟩
set_option maxRecDepth 20000 in
set_option maxHeartbeats 3200000 in
theorem known_x (P : World → Nat → Prop) (hP : ∀ w w' b, P w b → Below w.heap.size w w' → P w' b) (hr : RefNewC P sureText) (w : World) :
    Calls Try.prog 13 #[] w fun e w' => e = .returned (.bool true) ∧ Below w.heap.size w w' := by
  obtain ⟨kd, g, hn, hg⟩ := sureNew
  have HC := hide (made_x P hP sureText (by decide) hr w)
  rw [hn] at HC
  have HG := hide hg
  clear hn hg hr hP
  go_enter Try.func13, Try.ntmps13
  go_wp2_with fail
  refine HC.out.mono ?_
  rintro e w1 ⟨hb1, pb, xb, yb, rfl, hb, hx, hy⟩
  have HS := hide (states_any xb kd g w1 hx)
  have c0 : w1.cell? ⟨pb, 0, none⟩ = some (.pointer (some ⟨xb, 0, none⟩)) := hb.cell 0
  have zb := hb.lt
  have HB := hide hb1
  clear hb1 hb hx hy HC
  go_wp2_with fail
  refine HS.out.mono ?_
  rintro e w2 ⟨rfl, rfl⟩
  rw [HG.out]
  go_wp2_with fail
  go_ret
  exact ⟨rfl, HB.out⟩
set_option maxRecDepth 20000 in
set_option maxHeartbeats 3200000 in
theorem news_x (P : World → Nat → Prop) (hP : ∀ w w' b, P w b → Below w.heap.size w w' → P w' b) (hr : ∀ s, s.size ≤ maxLen → RefNewC P s) (s : ByteArray) (hm : s.size ≤ maxLen) (w : World) :
    Calls Try.prog 3 #[.string s] w fun e w' => e = .returned (.bool true) ∧ Below w.heap.size w w' := by
  have HK := hide (known_x P hP (hr _ (by decide)) w)
  have HM := hide (fun w => made_x P hP s hm (hr s hm) w)
  generalize newF s = X at HM
  clear hP hr hm
  go_enter Try.func3, Try.ntmps3
  go_wp2_with fail
  refine HK.out.mono ?_
  rintro e w1 ⟨rfl, hb1⟩
  have HM1 := hide (HM.out w1)
  have HB1 := hide hb1
  clear hb1 HK HM
  cases X with
  | bad c a =>
    go_wp2_with fail
    refine HM1.out.mono ?_
    rintro e w2 ⟨hb2, rfl⟩
    have HB2 := hide hb2
    clear hb2 HM1
    go_wp2_with fail
    go_ret
    exact ⟨rfl, HB1.out.trans (HB2.out.mono HB1.out.size)⟩
  | lexer kd g =>
    go_wp2_with fail
    refine HM1.out.mono ?_
    rintro e w2 ⟨hb2, pb, xb, yb, rfl, _, _, _⟩
    have HB2 := hide hb2
    clear hb2 HM1
    go_wp2_with fail
    go_ret
    exact ⟨rfl, HB1.out.trans (HB2.out.mono HB1.out.size)⟩
end Go.Proofs.Ytcckhngbdoiikaa
