import Derived.Test.YtcckhngbdoiikaaN34

namespace Go.Proofs.Ytcckhngbdoiikaa
open Go.RowKit Go.Deep
set_option linter.unusedVariables false

theorem RSp.cases {s : ByteArray} {t : PT} {l : List PT} {p : Nat} (h : RSp s (t :: l) p) (hp : p ≤ s.size) : ∃ q, t.Sp s p q ∧ q ≤ s.size ∧ ((l = [] ∧ q = s.size) ∨ (l ≠ [] ∧ q < s.size ∧ peekI s q = 10 ∧ RSp s l (q + 1))) := by
  cases l with
  | nil => exact ⟨s.size, h.1, Nat.le_refl _, .inl ⟨rfl, rfl⟩⟩
  | cons u l =>
    obtain ⟨q, h1, h2, h3, h4⟩ := h
    have hq := peekI_in (s := s) (p := q) (by rw [h3]; decide)
    exact ⟨q, h1, by omega, .inr ⟨by simp, hq, h3, h4⟩⟩
/-- Parts in a row. -/
structure ListP (w0 w : World) (s : ByteArray) (v : Value) (kids : List MT) : Prop where
  row : w.ownsRow 0 139 1 v kids.length (ptrs (kids.map MT.root))
  kidsAt : AtL w s zeroI kids
  own : ∀ x, hasL kids x → w0.heap.size ≤ x ∧ v.ownBlock ≠ some x
  dv : ∀ x, v.ownBlock = some x → w0.heap.size ≤ x
  nodup : (blksL kids).Nodup
theorem ListP.below {w0 w w' : World} {s : ByteArray} {v : Value} {kids : List MT} (h : ListP w0 w s v kids) (k : Below w.heap.size w w') : ListP w0 w' s v kids :=
  ⟨ownsRow_kept (ex := fun _ => False) h.row (Kept.ofBelow k) (fun _ _ e => e), AtL.kept (ex := fun _ => False) (Kept.ofBelow k) kids h.kidsAt (fun _ _ e => e), h.own, h.dv, h.nodup⟩
theorem ListP.push {w0 w w6 : World} {s : ByteArray} {g cap : Nat} {v : Value} {kids : List MT} (h : ListP w0 w s v kids) {T : MT} (hT : T.At w s zeroI) {wb : World} (hh : ∀ x, T.has x → wb.heap.size ≤ x) (hkl : ∀ x, hasL kids x → x < wb.heap.size) (hvl : ∀ x, v.ownBlock = some x → x < wb.heap.size) (hn : T.blks.Nodup) (o : Obj)
    (hown : w6.ownsRow 0 139 1 (.slice (some ⟨g, 0, none⟩) (kids.length + 1) cap) (kids.length + 1) (ptrs (kids.map MT.root) ++ [.pointer (some ⟨T.root, 0, none⟩)]))
    (hg : (w.alloc o).grownBy w6 v.ownBlock) (hat : v.ownBlock = some g ∨ g = (w.alloc o).heap.size) (hw : w0.heap.size ≤ wb.heap.size) (hwb : wb.heap.size ≤ w.heap.size) :
    ListP w0 w6 s (.slice (some ⟨g, 0, none⟩) (kids.length + 1) cap) (kids ++ [T]) ∧ Kept (fun x => v.ownBlock = some x) w w6 := by
  have hk : Kept (fun x => v.ownBlock = some x) w w6 := ((Kept.refl _ _).alloc o).trans (Kept_grown (O := fun x => v.ownBlock = some x) hg (fun x e => e)) (fun _ _ e => e)
  have hgl : v.ownBlock = some g ∨ w.heap.size ≤ g := by
    rcases hat with e | e
    · exact .inl e
    · right; simp at e; omega
  refine ⟨⟨?_, ?_, ?_, ?_, ?_⟩, hk⟩
  · rw [List.map_append, List.length_append]
    have e : ptrs (kids.map MT.root ++ [T].map MT.root) = ptrs (kids.map MT.root) ++ [.pointer (some ⟨T.root, 0, none⟩)] := by simp [ptrs]
    rw [e]
    exact hown
  · rw [AtL_iff]
    intro y hy
    rw [List.mem_append, List.mem_singleton] at hy
    rcases hy with hy | hy
    · exact MT.At.kept hk y ((AtL_iff kids).1 h.kidsAt y hy) (fun x hx e => (h.own x ((hasL_iff kids x).2 ⟨y, hy, hx⟩)).2 e)
    · subst hy
      exact MT.At.kept hk y hT (fun x hx e => by have := hh x hx; have := hvl x e; omega)
  · intro x hx
    rw [hasL_iff] at hx
    obtain ⟨y, hy, hx⟩ := hx
    rw [List.mem_append, List.mem_singleton] at hy
    rcases hy with hy | hy
    · have hx2 := (hasL_iff kids x).2 ⟨y, hy, hx⟩
      refine ⟨(h.own x hx2).1, fun e => ?_⟩
      cases (Option.some.inj e : g = x)
      rcases hgl with e' | e'
      · exact (h.own _ hx2).2 e'
      · have := hkl _ hx2; omega
    · subst hy
      have := hh x hx
      refine ⟨by omega, fun e => ?_⟩
      cases (Option.some.inj e : g = x)
      rcases hgl with e' | e'
      · have := hvl _ e'; omega
      · have := MT.At.lt y hT _ hx; omega
  · intro x e
    cases (Option.some.inj e : g = x)
    rcases hgl with e' | e'
    · exact h.dv _ e'
    · omega
  · rw [blksL_append, List.nodup_append]
    refine ⟨h.nodup, by simpa [blksL] using hn, fun x hx y hy e => ?_⟩
    subst e
    have h1 := hkl x (blksL_has _ _ hx)
    have h2 := hh x (MT.blks_has T x (by simpa [blksL] using hy))
    omega
/-- Where 'Rules' stands. -/
structure RuInv (w wr : World) (s : ByteArray) (ts : List PT) (i p : Nat) (rest : List PT) (v : Value) (kids : List MT) : Prop where
  list : ListP w wr s v kids
  nt : ntL kids ++ rest.map PT.nt0 = ts.map PT.nt0
  at' : (rest = [] ∧ i = s.size + 1) ∨ ∃ t l q, rest = t :: l ∧ t.Sp s p q ∧ p ≤ i ∧ i ≤ q ∧ q ≤ s.size ∧ ((l = [] ∧ q = s.size) ∨ (l ≠ [] ∧ q < s.size ∧ peekI s q = 10 ∧ RSp s l (q + 1)))
  below : Below w.heap.size w wr
  few : kids.length ≤ i

set_option maxRecDepth 20000 in
set_option maxHeartbeats 3200000 in
theorem refRules_any (s : ByteArray) (ts : List PT) (w : World) (hs : s.size ≤ 120) (h : RSp s ts 0) :
    Calls Try.prog 75 #[.string s] w fun e w' => ∃ (v : Value) (kids : List MT), e = .returned v ∧ ListP w w' s v kids ∧ ntL kids = ts.map PT.nt0 ∧ Below w.heap.size w w' ∧ kids.length ≤ 200 := by
  obtain ⟨ii, hii, hz0, hz1, hz2⟩ := info_parts Try.infoP3
  have HS := hide h
  clear h
  go_enter Try.func75, Try.ntmps75
  go_wp2_with fail
  go_loopg [3, 4, 5] (s.size + 1) (fun G lv pv iv wr => ∃ (i p : Nat) (rest : List PT) (kids : List MT), pv = .int .i64 (p : Int) ∧ iv = .int .i64 (i : Int) ∧ G = s.size + 1 - i ∧ i ≤ s.size + 1 ∧ p ≤ s.size + 1 ∧ RuInv w wr s ts i p rest lv kids)
  case atStart =>
    refine ⟨0, 0, ts, [], rfl, rfl, rfl, by omega, by omega, ⟨World.ownsRow_nil _ _ _ _, by simp [AtL], fun x hx => by simp [hasL] at hx, fun x hx => by simp [Value.ownBlock] at hx, by simp [blksL]⟩, rfl, ?_, Below.refl _ _, by simp⟩
    cases ts with
    | nil => exact HS.out.elim
    | cons t l =>
      obtain ⟨q, h1, h2, h3⟩ := RSp.cases HS.out (by omega)
      exact .inr ⟨t, l, q, rfl, h1, Nat.le_refl _, by omega, h2, h3⟩
  case round =>
    obtain ⟨i, p, rest, kids, rfl, rfl, rfl, hi, hp, hI⟩ := hrel
    have hrow := hI.list.row
    obtain ⟨_, ad, acap, rfl, _⟩ := ownsRow_form hrow
    rcases hI.at' with ⟨rfl, rfl⟩ | ⟨t, l, q, rfl, hsp, hpi, hiq, hqs, hrest⟩
    · have e0 : decide (((s.size + 1 : Nat) : Int) ≤ (s.size : Int)) = false := by simp; omega
      have e0' : decide ((s.size : Int) + 1 ≤ (s.size : Int)) = false := by simp; omega
      have HI := hide hI
      clear hI hrow
      go_wp2_with fail
      go_ret
      have hI := HI.out
      exact ⟨_, kids, rfl, hI.list, by have := hI.nt; simpa using this, hI.below, by have := hI.few; omega⟩
    · have e0 : decide ((i : Int) ≤ (s.size : Int)) = true := by simp; omega
      by_cases hlt : i < q
      · -- inside a rule
        have his : i < s.size := by omega
        have e1 : ((i : Int) == (s.size : Int)) = false := by simp; omega
        have hnl := PT.sp_nl hsp i hpi hlt
        rw [peekI_at his] at hnl
        have e2 : (((s[i].toNat : Nat) : Int) == 10) = false := by simp; omega
        have i0 : (0 : Int) ≤ (i : Int) := by omega
        have i1 : (i : Int) < (s.size : Int) := by omega
        have HI := hide hI
        have HR := hide (And.intro hsp hrest)
        clear hI hrow hnl hsp hrest
        go_wp2_with fail
        go_roundg (s.size + 1 - (i + 1))
        case measure => omega
        case rel =>
          have hI := HI.out
          exact ⟨i + 1, p, t :: l, kids, rfl, by go_num, rfl, by omega, hp, hI.list, hI.nt, .inr ⟨t, l, q, rfl, HR.out.1, by omega, by omega, hqs, HR.out.2⟩, hI.below, by have := hI.few; omega⟩
      · obtain rfl : i = q := by omega
        have HX := hide (expr_all s hs t p i hsp hqs wr)
        have hf := hI.few
        have hzl : ∀ x, hasL kids x → x < wr.heap.size := AtL.lt kids hI.list.kidsAt
        have hzv := ownsRow_lt hrow
        have hwz := hI.below.size
        have HI := hide hI
        have HZ := hide (And.intro hzl hzv)
        have key : Hid (∀ (T : MT) (w1 w6 : World) (gg cap6 : Nat) (o : Obj), T.nt = t.nt [] [] → T.At w1 s zeroI → (∀ b, T.has b → wr.heap.size ≤ b) → T.blks.Nodup → Below wr.heap.size wr w1 →
            w6.ownsRow 0 139 1 (.slice (some ⟨gg, 0, none⟩) (kids.length + 1) cap6) (kids.length + 1) (ptrs (kids.map MT.root) ++ [.pointer (some ⟨T.root, 0, none⟩)]) → (w1.alloc o).grownBy w6 (Value.slice ad kids.length acap).ownBlock → ((Value.slice ad kids.length acap).ownBlock = some gg ∨ gg = (w1.alloc o).heap.size) →
            RuInv w w6 s ts (i + 1) (i + 1) l (.slice (some ⟨gg, 0, none⟩) (kids.length + 1) cap6) (kids ++ [T])) := by
          refine hide fun T w1 w6 gg cap6 o a1 a2 a3 a4 a5 a6 a7 a8 => ?_
          have hb1 := a5.size
          obtain ⟨q1, q2⟩ := (HI.out.list.below a5).push (T := T) (wb := wr) a2 a3 HZ.out.1 HZ.out.2 a4 o a6 a7 a8 hwz hb1
          refine ⟨q1, ?_, ?_, ?_, by have := hf; simp; omega⟩
          · rw [← HI.out.nt, ntL_snoc, a1]; simp [PT.nt0]
          · rcases hrest with ⟨rfl, e⟩ | ⟨h1, h2, h3, h4⟩
            · exact .inl ⟨rfl, by omega⟩
            · cases l with
              | nil => exact absurd rfl h1
              | cons u l =>
                obtain ⟨q', g1, g2, g3⟩ := RSp.cases h4 (by omega)
                exact .inr ⟨u, l, q', rfl, g1, Nat.le_refl _, PT.sp_le g1, g2, g3⟩
          · have hb2 : Below w.heap.size w w1 := Below_kept (ex := fun _ => False) HI.out.below (Kept.ofBelow a5) hwz (fun _ _ e => e)
            exact Below_kept hb2 q2 (by omega) (fun x hx e => by have := HI.out.list.dv x e; omega)
        have HRW : Hid (∀ w1, Below wr.heap.size wr w1 → w1.ownsRow 0 139 1 (.slice ad kids.length acap) kids.length (ptrs (kids.map MT.root))) := hide fun w1 hb => (HI.out.list.below hb).row
        have hc2 : (i = s.size) ∨ (i < s.size ∧ peekI s i = 10) := by
          rcases hrest with ⟨_, e⟩ | ⟨_, h2, h3, _⟩
          · exact .inl e
          · exact .inr ⟨h2, h3⟩
        clear hI hrow hsp hrest hzl hzv HI HZ
        rcases hc2 with rfl | ⟨his, h10⟩
        · have e1 : ((s.size : Int) == (s.size : Int)) = true := by simp
          go_wp2_with fail
          refine HX.out.mono ?_
          rintro e w1 ⟨T, rfl, b1, b2, b3, b4, b5⟩
          have HOL := hide (rowAlloc (HRW.out w1 b5) (.cells #[.pointer (some ⟨T.root, 0, none⟩)] 139))
          have HB := hide (And.intro b1 (And.intro b2 (And.intro b3 (And.intro b4 b5))))
          have zz := b5.size
          clear b1 b2 b3 b4 b5
          go_wp2_with (at_builtin; (refine wpList_append_lies _ (by rfl) _ _ _ (by rfl) 0 139 ii _ 1 8 Try.underlying108 hii hz0 hz1 hz2 rfl (by omega) (.slice ad kids.length acap) kids.length (ptrs (kids.map MT.root)) (by rfl) HOL.out ⟨w1.heap.size, 0, none⟩ 1 1 [.pointer (some ⟨T.root, 0, none⟩)] (by rfl) (by rfl) (World.news_of_block (cs := #[.pointer (some ⟨T.root, 0, none⟩)]) (t := 139) (fr := (0, 0)) (by have := heap_alloc_new w1 (.cells #[.pointer (some ⟨T.root, 0, none⟩)] 139); simpa using this)) (by simp [Value.oneCell']) (by omega) (by unfold maxLen; omega) (by omega) (by simp) (w1.heap.size + 1) (by simp) ?_))
          intro gg cap6 w6 hown6 hgrow6 hat6 hlt6
          obtain ⟨b1, b2, b3, b4, b5⟩ := HB.out
          have HH := hide (key.out T w1 w6 gg cap6 _ b1 b2 b3 b4 b5 hown6 hgrow6 (by simpa using hat6))
          clear b1 b2 b3 b4 b5 hown6 hgrow6 hat6 key HRW HOL HB
          go_wp2_with fail
          go_roundg (s.size + 1 - (s.size + 1))
          case measure => omega
          case rel => exact ⟨s.size + 1, s.size + 1, l, kids ++ [T], by go_num, by go_num, rfl, by omega, by omega, HH.out⟩
        · have e1 : ((i : Int) == (s.size : Int)) = false := by simp; omega
          rw [peekI_at his] at h10
          have e2 : (((s[i].toNat : Nat) : Int) == 10) = true := by simp; omega
          have i0 : (0 : Int) ≤ (i : Int) := by omega
          have i1 : (i : Int) < (s.size : Int) := by omega
          clear h10
          go_wp2_with fail
          refine HX.out.mono ?_
          rintro e w1 ⟨T, rfl, b1, b2, b3, b4, b5⟩
          have HOL := hide (rowAlloc (HRW.out w1 b5) (.cells #[.pointer (some ⟨T.root, 0, none⟩)] 139))
          have HB := hide (And.intro b1 (And.intro b2 (And.intro b3 (And.intro b4 b5))))
          have zz := b5.size
          clear b1 b2 b3 b4 b5
          go_wp2_with (at_builtin; (refine wpList_append_lies _ (by rfl) _ _ _ (by rfl) 0 139 ii _ 1 8 Try.underlying108 hii hz0 hz1 hz2 rfl (by omega) (.slice ad kids.length acap) kids.length (ptrs (kids.map MT.root)) (by rfl) HOL.out ⟨w1.heap.size, 0, none⟩ 1 1 [.pointer (some ⟨T.root, 0, none⟩)] (by rfl) (by rfl) (World.news_of_block (cs := #[.pointer (some ⟨T.root, 0, none⟩)]) (t := 139) (fr := (0, 0)) (by have := heap_alloc_new w1 (.cells #[.pointer (some ⟨T.root, 0, none⟩)] 139); simpa using this)) (by simp [Value.oneCell']) (by omega) (by unfold maxLen; omega) (by omega) (by simp) (w1.heap.size + 1) (by simp) ?_))
          intro gg cap6 w6 hown6 hgrow6 hat6 hlt6
          obtain ⟨b1, b2, b3, b4, b5⟩ := HB.out
          have HH := hide (key.out T w1 w6 gg cap6 _ b1 b2 b3 b4 b5 hown6 hgrow6 (by simpa using hat6))
          clear b1 b2 b3 b4 b5 hown6 hgrow6 hat6 key HRW HOL HB
          go_wp2_with fail
          go_roundg (s.size + 1 - (i + 1))
          case measure => omega
          case rel => exact ⟨i + 1, i + 1, l, kids ++ [T], by go_num, by go_num, rfl, by omega, by omega, HH.out⟩
end Go.Proofs.Ytcckhngbdoiikaa
