import Derived.Test.YtmgpdaemcbbikaaC46

namespace Go.Proofs.Ytmgpdaemcbbikaa
open Go.RowKit Go.Deep
set_option linter.unusedVariables false

/-- A list of rows of bools. -/
def BRows (w : World) (v : Value) (rows : List (List Bool)) (n : Nat) : Prop := ∃ vs : List Value, w.ownsRow 0 109 1 v rows.length vs ∧ vs.length = rows.length ∧ ∀ i, i < rows.length → ∃ b, vs[i]? = some (.slice (some ⟨b, 0, none⟩) n n) ∧ BRow w (.slice (some ⟨b, 0, none⟩) n n) (rows.getD i [])
theorem Try.infoBB3 : (Try.prog.info? 109).map (fun i => (i.zero, i.size, i.bytes)) = some (some (.slice none 0 0), 1, 24) := by kernel_rfl
/-- Writes into a list of rows of its own leave it as it is. -/
theorem brow_keptL {w w' : World} {b n cap k : Nat} {l : List Bool} {v : Value} {vs : List Value} (h : BRow w (.slice (some ⟨b, 0, none⟩) n cap) l) (kk : Kept (fun x => v.ownBlock = some x) w w') (hr : w.ownsRow 0 109 1 v k vs) : BRow w' (.slice (some ⟨b, 0, none⟩) n cap) l := by
  obtain ⟨cs, h1⟩ := brow_blk h
  exact h.kept kk (fun b' hb' e => by cases (Option.some.inj hb' : b = b'); exact ownsRow_ne hr h1 (by decide) e)
theorem Memo.keptL {c : MemoC} {A : Nat → Prop} {w w' : World} {v : Value} {k : Nat} {vs : List Value} (h : Memo c A w) (kk : Kept (fun x => v.ownBlock = some x) w w') (hr : w.ownsRow 0 109 1 v k vs) (hR : ∀ b, v.ownBlock = some b → ¬ c.M b) : Memo c A w' := by
  refine ⟨h.blk.kept kk (fun e => ownsRow_ne hr h.blk (by decide) e), h.nodes.kept kk (fun b hb' e => ?_), ?_, fun n hn => ?_, h.inj⟩
  · obtain ⟨_, ad, cap', e', ⟨h1, _⟩ | ⟨g, cur, h1, h2, _⟩⟩ := ownsRow_form h.nodes
    · rw [e', h1] at hb'; simp [Value.ownBlock] at hb'
    · rw [e', h1] at hb'; cases (Option.some.inj hb' : g = b); exact ownsRow_ne hr h2 (by decide) e
  · obtain ⟨cs, h1, h2⟩ := h.known
    exact ⟨cs, h1.kept kk (fun e => ownsRow_ne hr h1 (by decide) e), h2⟩
  · obtain ⟨cs, h1, h2, h3⟩ := h.rows n hn
    refine ⟨cs, h1.kept kk (fun e => hR _ e ⟨n, hn, rfl⟩), h2, fun p hp => ?_⟩
    rcases h3 p hp with e | ⟨b, e1, e2, e3⟩
    · exact .inl e
    · exact .inr ⟨b, e1, e2, brow_keptL e3 kk hr⟩
/-- The rows of the words of each rule from p on. -/
noncomputable def wordRows (c : MemoC) (tops : List Nat) (p : Nat) : List (List Bool) := tops.map (fun t => rowT (bytesN c.s) (c.tr t) p)

set_option maxRecDepth 20000 in
set_option maxHeartbeats 3200000 in
theorem words_any (c : MemoC) (tops : List Nat) (HO : ∀ t ∈ tops, OverC c t) (A : Nat → Prop) (w : World) (p : Nat) (hA : ∀ b, A b → b < w.heap.size) (hm : Memo c A w) (htv : IRow w c.tv (natsI tops)) (hp : p ≤ c.s.size) (htl : tops.length ≤ 2000000) :
    Calls Try.prog 34 #[.pointer (some ⟨c.wb, 0, none⟩), .int .i64 (p : Int)] w fun e w' => ∃ v, e = .returned v ∧ BRows w' v (wordRows c tops p) c.N ∧ Memo c A w' ∧ Kept c.M w w' ∧ IRow w' c.tv (natsI tops) := by
  obtain ⟨td, tcap, htve, htrow⟩ := htv.formN
  have HTE := hide htve
  have HM := hide hm
  have HOV := hide HO
  have HAA := hide hA
  have HTV := hide htv
  clear hm HO hA htv htve
  go_enter Try.func34, Try.ntmps34
  go_wp2_with fail
  go_loopg [5, 6] tops.length (fun G lv iv wr => ∃ (i : Nat) (vs : List Value), iv = .int .i64 (i : Int) ∧ i ≤ tops.length ∧ G = tops.length - i ∧ wr.ownsRow 0 109 1 lv i vs ∧ vs.length = i ∧ (∀ j, j < i → ∃ b, vs[j]? = some (.slice (some ⟨b, 0, none⟩) c.N c.N) ∧ BRow wr (.slice (some ⟨b, 0, none⟩) c.N c.N) (rowT (bytesN c.s) (c.tr (tops.getD j 0)) p)) ∧ (∀ b, lv.ownBlock = some b → w.heap.size ≤ b) ∧
    Memo c A wr ∧ Kept c.M w wr ∧ IRow wr c.tv (natsI tops))
  case atStart => exact ⟨0, [], rfl, by omega, rfl, World.ownsRow_nil _ _ _ _, rfl, fun j hj => by omega, fun b h => by simp [Value.ownBlock] at h, HM.out, Kept.refl _ _, HTV.out⟩
  case round =>
    obtain ⟨i, vs, rfl, hi, rfl, hL, hvl, hrows, hLo, hmm, hk, htr⟩ := hrel
    have s1 : wr.cell? ⟨c.wb, 1, none⟩ = some (.slice td tops.length tcap) := by rw [← HTE.out]; exact hmm.blk.cell 1
    obtain ⟨_, ld, lcap, rfl, hlrow⟩ := ownsRow_form hL
    by_cases hlt : i < tops.length
    · have e0 : decide ((i : Int) < (tops.length : Int)) = true := by simp; omega
      rcases htrow with h0 | ⟨tg, rfl⟩
      · omega
      have ct : wr.cell? ⟨tg, i, none⟩ = some (.int .i64 (tops.getD i 0 : Int)) := by have h9 := htr; rw [HTE.out] at h9; exact h9.cellN i hlt
      have i0 : (0 : Int) ≤ (i : Int) := by omega
      have i1 : (i : Int) < (tops.length : Int) := by omega
      have hmem : tops.getD i 0 ∈ tops := by rw [List.getD_eq_getElem?_getD, List.getElem?_eq_getElem hlt]; exact List.getElem_mem hlt
      have HO1 := hide (HOV.out _ hmem A wr p (fun b hb => by have := HAA.out b hb; have := hk.size; omega) hmm hp)
      generalize htt : tops.getD i 0 = t at ct HO1
      have HH : Hid (wr.ownsRow 0 109 1 (.slice ld i lcap) i vs ∧ vs.length = i ∧ (∀ j, j < i → ∃ b, vs[j]? = some (.slice (some ⟨b, 0, none⟩) c.N c.N) ∧ BRow wr (.slice (some ⟨b, 0, none⟩) c.N c.N) (rowT (bytesN c.s) (c.tr (tops.getD j 0)) p)) ∧ (∀ b, (Value.slice ld i lcap).ownBlock = some b → w.heap.size ≤ b) ∧ Memo c A wr ∧ Kept c.M w wr ∧ IRow wr c.tv (natsI tops) ∧ tops.getD i 0 = t) := ⟨hL, hvl, hrows, hLo, hmm, hk, htr, htt⟩
      clear hL hvl hrows hLo hmm hk htr htt hmem hlrow
      go_wp2_with fail
      refine HO1.out.mono ?_
      rintro e w1 ⟨b1, rfl, hnb1, hBR1, hm1, hk1⟩
      obtain ⟨q1, q2, q3, q4, q5, q6, q7, q8⟩ := HH.out
      have hLk : ∀ b, (Value.slice ld i lcap).ownBlock = some b → ¬ c.M b := fun b hb e => by
        have h1 := q4 b hb
        have h2 := HM.out.lt e
        omega
      have hL1 : w1.ownsRow 0 109 1 (.slice ld i lcap) i vs := ownsRow_kept q1 hk1 hLk
      have ht1 : IRow w1 c.tv (natsI tops) := q7.kept hk1 (fun b' hb' e => by obtain ⟨cs, h1⟩ := q5.type e; exact ownsRow_ne q7 h1 (by decide) hb')
      obtain ⟨ii, hii, hz0, hz1, hz2⟩ := info_parts Try.infoBB3
      have hol : (w1.alloc (.cells #[.slice (some ⟨b1, 0, none⟩) c.N c.N] 109)).ownsRow 0 109 1 (.slice ld i lcap) i vs := ownsRow_kept (ex := fun _ => False) hL1 (Kept.ofBelow (Below1 _ _)) (fun _ _ e => e)
      have HOL := hide hol
      have HH1 : Hid (BRow w1 (.slice (some ⟨b1, 0, none⟩) c.N c.N) (rowT (bytesN c.s) (c.tr t) p) ∧ Memo c A w1 ∧ Kept c.M w w1 ∧ IRow w1 c.tv (natsI tops) ∧ vs.length = i ∧ (∀ j, j < i → ∃ b, vs[j]? = some (.slice (some ⟨b, 0, none⟩) c.N c.N) ∧ BRow w1 (.slice (some ⟨b, 0, none⟩) c.N c.N) (rowT (bytesN c.s) (c.tr (tops.getD j 0)) p)) ∧ (∀ b, (Value.slice ld i lcap).ownBlock = some b → w.heap.size ≤ b) ∧ tops.getD i 0 = t) :=
        ⟨hBR1, hm1, q6.trans hk1 (fun i _ e => e), ht1, q2, fun j hj => by obtain ⟨b, h1, h2⟩ := q3 j hj; exact ⟨b, h1, q5.brow hk1 h2⟩, q4, q8⟩
      have zz := hk1.size
      have zz2 := q6.size
      clear q1 q2 q3 q4 q5 q6 q7 q8 hLk hL1 ht1 hol hBR1 hm1 hk1 hnb1 HH ct s1
      go_wp2_with (at_builtin; (refine wpList_append_lies _ (by rfl) _ _ _ (by rfl) 0 109 ii _ 1 24 Try.underlying61 hii hz0 hz1 hz2 rfl (by omega) (.slice ld i lcap) i vs (by rfl) HOL.out ⟨w1.heap.size, 0, none⟩ 1 1 [.slice (some ⟨b1, 0, none⟩) c.N c.N] (by rfl) (by rfl) (World.news_of_block (cs := #[.slice (some ⟨b1, 0, none⟩) c.N c.N]) (t := 109) (fr := (0, 0)) (by have := heap_alloc_new w1 (.cells #[.slice (some ⟨b1, 0, none⟩) c.N c.N] 109); simpa using this)) (by simp [Value.oneCell']) (by omega) (by unfold maxLen; omega) (by omega) (by simp) (w1.heap.size + 1) (by simp) ?_))
      intro gg cap6 w6 hown6 hgrow6 hat6 hlt6
      have hk6 : Kept (fun b => (Value.slice ld i lcap).ownBlock = some b) (w1.alloc (.cells #[.slice (some ⟨b1, 0, none⟩) c.N c.N] 109)) w6 := ⟨hgrow6.os, hgrow6.tape, hgrow6.output, hgrow6.size, fun k hk he => hgrow6.block k hk (fun e => he e.symm)⟩
      obtain ⟨t1, t2, t3, t4, t5, t6, t7, t8⟩ := HH1.out
      have hR : ∀ b, (Value.slice ld i lcap).ownBlock = some b → ¬ c.M b := fun b hb e => by
        have h1 := t7 b hb
        have h2 := HM.out.lt e
        omega
      have u1 : Memo c A w6 := (t2.below (Below1 _ _)).keptL hk6 HOL.out hR
      have u2 : Kept c.M w w6 := (t3.alloc _).trans hk6 (fun j hj e => by have := t7 j e; omega)
      have u3 : IRow w6 c.tv (natsI tops) := by
        have h9 := t4.below (Below1 w1 (.cells #[.slice (some ⟨b1, 0, none⟩) c.N c.N] 109))
        refine h9.kept hk6 (fun b' hb' e => ?_)
        obtain ⟨_, ad, cap', e', ⟨h1, _⟩ | ⟨g, cur, h1, h2, _⟩⟩ := ownsRow_form h9
        · rw [e', h1] at hb'; simp [Value.ownBlock] at hb'
        · rw [e', h1] at hb'; cases (Option.some.inj hb' : g = b'); exact ownsRow_ne HOL.out h2 (by decide) e
      have u4 : ∀ j, j < i + 1 → ∃ b, (vs ++ [.slice (some ⟨b1, 0, none⟩) c.N c.N])[j]? = some (.slice (some ⟨b, 0, none⟩) c.N c.N) ∧ BRow w6 (.slice (some ⟨b, 0, none⟩) c.N c.N) (rowT (bytesN c.s) (c.tr (tops.getD j 0)) p) := fun j hj => by
        by_cases e : j < i
        · obtain ⟨b, h1, h2⟩ := t6 j e
          exact ⟨b, by rw [List.getElem?_append_left (by omega)]; exact h1, brow_keptL (h2.below (Below1 _ _)) hk6 HOL.out⟩
        · have : j = i := by omega
          subst this
          exact ⟨b1, by rw [List.getElem?_append_right (by omega), t5]; simp, by rw [t8]; exact brow_keptL (t1.below (Below1 _ _)) hk6 HOL.out⟩
      have u5 : w.heap.size ≤ gg := by
        rcases hat6 with e | e
        · exact t7 gg e
        · omega
      have HHX : Hid (Memo c A w6 ∧ Kept c.M w w6 ∧ IRow w6 c.tv (natsI tops) ∧ (∀ j, j < i + 1 → ∃ b, (vs ++ [.slice (some ⟨b1, 0, none⟩) c.N c.N])[j]? = some (.slice (some ⟨b, 0, none⟩) c.N c.N) ∧ BRow w6 (.slice (some ⟨b, 0, none⟩) c.N c.N) (rowT (bytesN c.s) (c.tr (tops.getD j 0)) p)) ∧ w6.ownsRow 0 109 1 (.slice (some ⟨gg, 0, none⟩) (i + 1) cap6) (i + 1) (vs ++ [.slice (some ⟨b1, 0, none⟩) c.N c.N]) ∧ vs.length = i) := ⟨u1, u2, u3, u4, hown6, t5⟩
      clear t1 t2 t3 t4 t5 t6 t7 t8 u1 u2 u3 u4 hR hk6 hown6 hgrow6 hat6 HOL HH1
      go_wp2_with fail
      go_roundg (tops.length - (i + 1))
      case measure => omega
      case rel =>
        obtain ⟨u1, u2, u3, u4, u6, u7⟩ := HHX.out
        refine ⟨i + 1, vs ++ [.slice (some ⟨b1, 0, none⟩) c.N c.N], by go_num, by omega, rfl, by simpa using u6, by simp [u7], u4, fun b e => ?_, u1, u2, u3⟩
        cases (Option.some.inj e : gg = b)
        exact u5
    · have e0 : decide ((i : Int) < (tops.length : Int)) = false := by simp; omega
      obtain rfl : i = tops.length := by omega
      have HH : Hid (∃ v : Value, v = .slice ld tops.length lcap ∧ BRows wr v (wordRows c tops p) c.N ∧ Memo c A wr ∧ Kept c.M w wr ∧ IRow wr c.tv (natsI tops)) := by
        refine ⟨_, rfl, ⟨vs, ?_, by simp [wordRows, hvl], fun i hi => ?_⟩, hmm, hk, htr⟩
        · simpa [wordRows] using hL
        · have hi' : i < tops.length := by simpa [wordRows] using hi
          obtain ⟨b, h1, h2⟩ := hrows i hi'
          refine ⟨b, h1, ?_⟩
          have e9 : (wordRows c tops p).getD i [] = rowT (bytesN c.s) (c.tr (tops.getD i 0)) p := by simp [wordRows, hi']
          rw [e9]; exact h2
      clear hL hvl hrows hLo hmm hk htr
      go_wp2_with fail
      go_ret
      obtain ⟨v, rfl, h1⟩ := HH.out
      exact ⟨_, rfl, h1⟩
end Go.Proofs.Ytmgpdaemcbbikaa
