import Derived.Test.YtcckhngbdoiikaaM35
import Derived.Test.YtcckhngbdoiikaaM31
import Derived.Test.YtcckhngbdoiikaaM33
import Derived.Deep.RegionLaw
import Derived.IntWalk
import Derived.BigQuiet
import Derived.Deep.QuietTactic

namespace Go.Proofs.Ytcckhngbdoiikaa
set_option linter.unusedVariables false

theorem numberF_ok {g : Graph} {K : Nat} (ho : GOk g K) (hpos : 0 < g.rule.length) {cls : List Int} (hcl : cls.length = g.rule.length) (hc : ∀ x ∈ cls, 0 ≤ x ∧ x < (g.rule.length : Int)) (hst : Stable g K cls) {j k : Nat} (hj : j < (numberF g cls).rule.length) (hk : k < K) :
    stepK (numberF g cls) (j : Int) k = -1 ∨ ∃ j' : Nat, stepK (numberF g cls) (j : Int) k = (j' : Int) ∧ j' < (numberF g cls).rule.length := by
  have hj' : j < (visitF g cls).1.length := by simpa [numberF] using hj
  have hv := (visitF_inv ho hpos hcl hc).1
  have hF := hv.ok.ok _ (getD_mem (l := (visitF g cls).1) hj' 0)
  rcases number_step ho hpos hcl hc hst hj' (a := ((visitF g cls).1.getD j 0).toNat) (by omega) rfl hk with ⟨h1, _⟩ | ⟨j2, a2, h1, _, h3, _, _⟩
  · exact .inl h1
  · exact .inr ⟨j2, h1, by simpa [numberF] using h3⟩
/-- What holds of a lexer's graph. -/
structure LexG (kd : Nat → Nat) (g : Graph) : Prop where
  pos : 0 < g.rule.length
  len : g.next.length = g.rule.length
  step : ∀ j b, j < g.rule.length → b < 256 → stepK g (j : Int) (kd b) = -1 ∨ ∃ j' : Nat, stepK g (j : Int) (kd b) = (j' : Int) ∧ j' < g.rule.length
theorem build_lexG {R : RulesT} {kd : Nat → Nat} {g : Graph} (h : buildF R = some (kd, g)) : LexG kd g := by
  obtain ⟨g0, hg, rfl, rfl⟩ := buildF_some h
  obtain ⟨ho, hp, hn⟩ := exploreF_ok hg
  have ho' := pruneF_ok ho
  have hp' : 0 < (pruneF g0).rule.length := hp
  have hv := visitF_inv ho' hp' (mergeF_len _) (mergeF_bd _ hp')
  refine ⟨by simpa [numberF] using hv.1.pos.1, by simp [numberF], fun j b hj hb => ?_⟩
  exact numberF_ok ho' hp' (mergeF_len _) (mergeF_bd _ hp') (mergeF_stable ho' hp') hj (kindOf_get R.allow b 256 hb).1
theorem nextF_step {kd : Nat → Nat} {g : Graph} (h : LexG kd g) {j b : Nat} (hj : j < g.rule.length) (hb : b < 256) : nextF kd g (j : Int) (b : Int) = stepK g (j : Int) (kd b) := by
  unfold nextF stepK
  rw [if_neg (by rw [h.len]; omega), if_neg (by omega), Int.toNat_natCast, Int.toNat_natCast]
theorem ruleOf_acc {g : Graph} {j : Nat} (hj : j < g.rule.length) : ruleOfF g (j : Int) = accK g (j : Int) := by
  unfold ruleOfF accK
  rw [if_neg (by omega), if_neg (by omega)]
/-- The longest token that begins at fr. -/
def LongTok (ts : List Tree) (L : List Nat) (fr : Nat) (tok : TokT) : Prop :=
  tok.fr = fr ∧ ((tok.rule = -1 ∧ tok.tt = fr + 1 ∧ ∀ q, fr < q → q ≤ L.length → TokIs ts (seg L fr q) (-1)) ∨ (fr < tok.tt ∧ tok.tt ≤ L.length ∧ tok.rule ≠ -1 ∧ TokIs ts (seg L fr tok.tt) tok.rule ∧ ∀ q, tok.tt < q → q ≤ L.length → TokIs ts (seg L fr q) (-1)))
/-- What is known when the cut has gone up to p. -/
def SoFar (ts : List Tree) (L : List Nat) (fr p : Nat) (tok : TokT) : Prop :=
  tok.fr = fr ∧ ((tok.rule = -1 ∧ tok.tt = fr + 1 ∧ ∀ q, fr < q → q ≤ p → TokIs ts (seg L fr q) (-1)) ∨ (fr < tok.tt ∧ tok.tt ≤ p ∧ tok.rule ≠ -1 ∧ TokIs ts (seg L fr tok.tt) tok.rule ∧ ∀ q, tok.tt < q → q ≤ p → TokIs ts (seg L fr q) (-1)))
theorem seg_snoc {L : List Nat} {fr p : Nat} (h : fr ≤ p) (hp : p < L.length) : seg L fr (p + 1) = seg L fr p ++ [L[p]] := by
  rw [← seg_join h (Nat.le_succ p), seg_one hp]
theorem peek_bytes (s : ByteArray) (p : Nat) (h : p < s.size) (h9 : p < (bytesN s).length) : peekI s p = ((bytesN s)[p] : Int) ∧ (bytesN s)[p] < 256 := by
  rw [bytesN_get s p h h9]
  unfold peekI
  rw [dif_pos h]
  exact ⟨rfl, s[p].toNat_lt⟩
theorem cutLoop_long {ts : List Tree} {kd : Nat → Nat} {g : Graph} (hg : LexG kd g) (s : ByteArray) (hx : ∀ x ∈ bytesN s, x < 256) (ht : ∀ w, w ≠ [] → (∀ x ∈ w, x < 256) → TokIs ts w (accK g (runK g 0 (w.map kd)))) (fr : Nat) :
    ∀ (n p : Nat) (st : Nat) (tok : TokT), s.size < n + p → fr ≤ p → p ≤ s.size → st < g.rule.length → runK g 0 ((seg (bytesN s) fr p).map kd) = (st : Int) → SoFar ts (bytesN s) fr p tok → LongTok ts (bytesN s) fr (cutLoop kd g s fr n p (st : Int) tok)
  | 0, p, st, tok, hn, _, hp, _, _, _ => by omega
  | n + 1, p, st, tok, hn, hf, hp, hst, hrun, hs => by
    unfold cutLoop
    have hlen := bytesN_len s
    by_cases hlt : p < s.size
    · rw [if_pos hlt]
      have h9 : p < (bytesN s).length := by omega
      obtain ⟨hb1, hb2⟩ := peek_bytes s p hlt h9
      rw [hb1, nextF_step hg hst hb2]
      have hseg : seg (bytesN s) fr (p + 1) = seg (bytesN s) fr p ++ [(bytesN s)[p]] := seg_snoc hf h9
      have hrun2 : runK g 0 ((seg (bytesN s) fr (p + 1)).map kd) = stepK g (st : Int) (kd (bytesN s)[p]) := by
        rw [hseg, List.map_append]
        show List.foldl (stepK g) 0 _ = _
        rw [List.foldl_append]
        have : List.foldl (stepK g) 0 ((seg (bytesN s) fr p).map kd) = (st : Int) := hrun
        rw [this]; rfl
      have hmem : ∀ q, ∀ x ∈ seg (bytesN s) fr q, x < 256 := fun q x hx' => hx x (List.mem_of_mem_drop (List.mem_of_mem_take hx'))
      have hne : ∀ q, fr < q → q ≤ s.size → seg (bytesN s) fr q ≠ [] := fun q h1 h2 e => by have := seg_nil (L := bytesN s) (by omega) (by omega) e; omega
      rcases hg.step st (bytesN s)[p] hst hb2 with e | ⟨j, e, hj⟩
      · rw [e, if_pos rfl]
        -- nothing longer is a token
        have hdead : ∀ q, p < q → q ≤ s.size → TokIs ts (seg (bytesN s) fr q) (-1) := fun q h1 h2 => by
          have h3 := ht _ (hne q (by omega) h2) (hmem q)
          have h4 : seg (bytesN s) fr q = seg (bytesN s) fr (p + 1) ++ seg (bytesN s) (p + 1) q := (seg_join (by omega) (by omega)).symm
          have h5 : runK g 0 ((seg (bytesN s) fr q).map kd) = runK g (-1) ((seg (bytesN s) (p + 1) q).map kd) := by
            rw [h4, List.map_append]
            show List.foldl (stepK g) 0 _ = _
            rw [List.foldl_append]
            have : List.foldl (stepK g) 0 ((seg (bytesN s) fr (p + 1)).map kd) = -1 := hrun2.trans e
            rw [this]; rfl
          rw [h5, runK_dead g _ (-1) (by omega)] at h3
          have h6 : accK g (if (seg (bytesN s) (p + 1) q).map kd = [] then -1 else -1) = -1 := by split <;> rfl
          rw [h6] at h3
          exact h3
        obtain ⟨h1, h2⟩ := hs
        refine ⟨h1, ?_⟩
        rcases h2 with ⟨a, b, d⟩ | ⟨a, b, d, e', f⟩
        · refine .inl ⟨a, b, fun q h3 h4 => ?_⟩
          by_cases hq : q ≤ p
          · exact d q h3 hq
          · exact hdead q (by omega) (by omega)
        · refine .inr ⟨a, by omega, d, e', fun q h3 h4 => ?_⟩
          by_cases hq : q ≤ p
          · exact f q h3 hq
          · exact hdead q (by omega) (by omega)
      · rw [e, if_neg (by omega), ruleOf_acc hj]
        have htk := ht _ (hne (p + 1) (by omega) (by omega)) (hmem (p + 1))
        rw [hrun2, e] at htk
        refine cutLoop_long hg s hx ht fr n (p + 1) j _ (by omega) (by omega) (by omega) hj (hrun2.trans e) ?_
        obtain ⟨h1, h2⟩ := hs
        by_cases hr : accK g (j : Int) = -1
        · rw [if_pos hr]
          rw [hr] at htk
          refine ⟨h1, ?_⟩
          rcases h2 with ⟨a, b, d⟩ | ⟨a, b, d, e', f⟩
          · refine .inl ⟨a, b, fun q h3 h4 => ?_⟩
            by_cases hq : q ≤ p
            · exact d q h3 hq
            · rw [show q = p + 1 by omega]; exact htk
          · refine .inr ⟨a, by omega, d, e', fun q h3 h4 => ?_⟩
            by_cases hq : q ≤ p
            · exact f q h3 hq
            · rw [show q = p + 1 by omega]; exact htk
        · rw [if_neg hr]
          exact ⟨rfl, .inr ⟨by show fr < p + 1; omega, Nat.le_refl _, hr, htk, fun q h3 h4 => by exact absurd h4 (by show ¬ q ≤ p + 1; have h3' : p + 1 < q := h3; omega)⟩⟩
    · rw [if_neg hlt]
      have : p = s.size := by omega
      subst this
      obtain ⟨h1, h2⟩ := hs
      rw [← hlen] at h2
      exact ⟨h1, h2⟩
theorem nextTok_long {ts : List Tree} {kd : Nat → Nat} {g : Graph} (hg : LexG kd g) (s : ByteArray) (hx : ∀ x ∈ bytesN s, x < 256) (ht : ∀ w, w ≠ [] → (∀ x ∈ w, x < 256) → TokIs ts w (accK g (runK g 0 (w.map kd)))) (fr : Nat) (hf : fr ≤ s.size) : LongTok ts (bytesN s) fr (nextTok kd g s fr) := by
  refine cutLoop_long hg s hx ht fr _ fr 0 _ (by omega) (Nat.le_refl _) hf hg.pos ?_ ⟨rfl, .inl ⟨rfl, rfl, fun q h1 h2 => by omega⟩⟩
  rw [seg_self]; rfl
end Go.Proofs.Ytcckhngbdoiikaa

namespace Go.Proofs.Ytcckhngbdoiikaa
open Go.RowKit Go.Deep
set_option linter.unusedVariables false

def nilsA (n : Nat) : Array Value := (List.replicate n (Value.slice none 0 0)).toArray
theorem nilsA_made (n : Nat) : madeCells #[.slice none 0 0] n = nilsA n := by
  apply Array.toList_inj.1
  rw [toList_madeCells_one]
  simp [nilsA]
theorem makeNils (n : Nat) (hn : n ≤ 100000) (w : World) : (Instr.makeSlice 61 (.int .i64 (n : Int)) (.int .i64 (n : Int))).run Try.prog w = .ok (.slice (some ⟨w.heap.size, 0, none⟩) n n) (w.alloc (.cells (nilsA n) 119)) := by
  rw [run_make_row' (P := Try.prog) 61 119 (.slice none 0 0) 24 Try.underlying61 Try.infoBB3 rfl .i64 .i64 n (by omega) (by omega) w, nilsA_made]
theorem Try.infoBBB3 : (Try.prog.info? 61).map (fun i => (i.zero, i.size, i.bytes)) = some (some (.slice none 0 0), 1, 24) := by kernel_rfl
/-- The rows made so far. -/
structure Begun (w : World) (h N : Nat) (kv : Value) (R : Nat → Nat) (i : Nat) : Prop where
  row : ∃ vs : List Value, w.ownsRow 0 61 1 kv i vs ∧ vs.length = i ∧ ∀ j, j < i → vs[j]? = some (.slice (some ⟨R j, 0, none⟩) N N)
  each : ∀ j, j < i → Blk w (R j) (nilsA N) 119 ∧ h < R j
  inj : ∀ j k, j < i → k < i → R j = R k → j = k
  own : ∀ b, kv.ownBlock = some b → h < b

set_option maxRecDepth 20000 in
set_option maxHeartbeats 1600000 in
theorem begun_any (av tv : Value) (all : List NodeT) (s : ByteArray) (w : World) (ha : NodeRow w av all) (tops : List Nat) (ht : IRow w tv (natsI tops)) (hs : s.size ≤ 50000) (hl : all.length ≤ 2000000) :
    Calls Try.prog 34 #[.agg #[av, tv], .string s] w fun e w' => ∃ kv R, e = .returned (.pointer (some ⟨w.heap.size + 1, 0, none⟩)) ∧ Below w.heap.size w w' ∧ Blk w' (w.heap.size + 1) #[av, tv, .string s, kv] 128 ∧ Begun w' (w.heap.size + 1) (s.size + 1) kv R all.length := by
  obtain ⟨ad, acap, rfl, harow⟩ := ha.form
  obtain ⟨td, tcap, rfl, _⟩ := ht.formN
  clear ht
  obtain ⟨N, hN⟩ : ∃ N, N = s.size + 1 := ⟨_, rfl⟩
  have hN1 : (s.size : Int) + 1 = (N : Int) := by omega
  have hN2 : N ≤ 50001 := by omega
  have hmk := makeNils N (by omega)
  rw [← hN]
  have HA := hide ha
  clear ha hN
  go_enter Try.func34, Try.ntmps34
  go_wp2_with fail
  go_loopg [6] all.length (fun G iv wr => ∃ (i : Nat) (kv : Value) (R : Nat → Nat), iv = .int .i64 (i : Int) ∧ i ≤ all.length ∧ G = all.length - i ∧ Below w.heap.size w wr ∧ Blk wr w.heap.size #[.slice ad all.length acap, .slice td tops.length tcap] 42 ∧ Blk wr (w.heap.size + 1) #[.slice ad all.length acap, .slice td tops.length tcap, .string s, kv] 128 ∧ Begun wr (w.heap.size + 1) N kv R i)
  case atStart => exact ⟨0, .slice none 0 0, fun _ => 0, rfl, by omega, rfl, Below2 _ _ _, (Blk.new _ _ _).alloc _, Blk.at1 _ _ _ _, ⟨[], World.ownsRow_nil _ _ _ _, rfl, fun j hj => by omega⟩, fun j hj => by omega, fun j k hj => by omega, fun b h => by simp [Value.ownBlock] at h⟩
  case round =>
    obtain ⟨i, kv, R, rfl, hi, rfl, hb, hZ, hW, hB⟩ := hrel
    have z0 : wr.cell? ⟨w.heap.size, 0, none⟩ = some (.slice ad all.length acap) := hZ.cell 0
    by_cases hlt : i < all.length
    · have e0 : decide ((i : Int) < (all.length : Int)) = true := by simp; omega
      obtain ⟨vs, hrow, hvl, hvs⟩ := hB.row
      obtain ⟨_, kd9, kcap, rfl, _⟩ := ownsRow_form hrow
      have k2 : wr.cell? ⟨w.heap.size + 1, 3, none⟩ = some (.slice kd9 i kcap) := hW.cell 3
      have kf := hW.frozen 3
      have zW := hW.lt
      obtain ⟨ii, hii, hz0, hz1, hz2⟩ := info_parts Try.infoBBB3
      have hk1 : Kept (fun _ => False) wr ((wr.alloc (.cells (nilsA N) 119)).alloc (.cells #[.slice (some ⟨wr.heap.size, 0, none⟩) N N] 61)).drew := (((Kept.refl _ _).alloc _).alloc _).drew
      have hol := ownsRow_kept hrow hk1 (fun _ _ e => e)
      have HOL := hide hol
      have hnk : (Value.slice kd9 i kcap).ownBlock ≠ some (w.heap.size + 1) := fun e => by have := hB.own _ e; omega
      have hnk2 : some (w.heap.size + 1) ≠ (Value.slice kd9 i kcap).ownBlock := Ne.symm hnk
      have HH : Hid (Below w.heap.size w wr ∧ Blk wr w.heap.size #[.slice ad all.length acap, .slice td tops.length tcap] 42 ∧ Blk wr (w.heap.size + 1) #[.slice ad all.length acap, .slice td tops.length tcap, .string s, .slice kd9 i kcap] 128 ∧ Begun wr (w.heap.size + 1) N (.slice kd9 i kcap) R i ∧ vs.length = i ∧ ∀ j, j < i → vs[j]? = some (.slice (some ⟨R j, 0, none⟩) N N)) := ⟨hb, hZ, hW, hB, hvl, hvs⟩
      have hW2 := hW.kept hk1 (fun e => e)
      have cW2 : ((wr.alloc (.cells (nilsA N) 119)).alloc (.cells #[.slice (some ⟨wr.heap.size, 0, none⟩) N N] 61)).drew.cell? ⟨w.heap.size + 1, 3, none⟩ = some (.slice kd9 i kcap) := hW2.cell 3
      have fW2 := hW2.frozen 3
      have CW2 := hide cW2
      have FW2 := hide fW2
      have hnw : ((wr.alloc (.cells (nilsA N) 119)).alloc (.cells #[.slice (some ⟨wr.heap.size, 0, none⟩) N N] 61)).drew.heap[wr.heap.size + 1]? = some (.cells #[.slice (some ⟨wr.heap.size, 0, none⟩) N N] 61 (0, 0)) := by
        have h9 := heap_alloc_new (wr.alloc (.cells (nilsA N) 119)) (.cells #[.slice (some ⟨wr.heap.size, 0, none⟩) N N] 61)
        have e9 : (wr.alloc (.cells (nilsA N) 119)).heap.size = wr.heap.size + 1 := by simp
        rw [e9] at h9
        exact h9
      have HNW := hide hnw
      clear hnw
      have zW1 : w.heap.size < wr.heap.size := by omega
      have zW2 : w.heap.size + 1 < wr.heap.size + 1 := by omega
      have hzl : w.heap.size + 1 < ((wr.alloc (.cells (nilsA N) 119)).alloc (.cells #[.slice (some ⟨wr.heap.size, 0, none⟩) N N] 61)).drew.heap.size := by simp; omega
      have HZL := hide hzl
      have h63 : i + 1 ≤ maxLen := by unfold maxLen; omega
      have hby : (i + 1) * 24 ≤ 140737488355328 := by omega
      have H63 := hide h63
      have HBY := hide hby
      clear hb hZ hW hB hrow hvl hvs hk1 hol hnk hW2 cW2 fW2 hzl h63 hby
      have hwN : IntKind.i64.wrap (N : Int) = (N : Int) := (Go.IntWalk.i64_left _).trans (by unfold wrap64; omega)
      go_wp2_with fail
      go_region_law ((refine step_append_lies _ (by rfl) _ _ _ (by rfl) 0 61 ii _ 1 24 Try.underlying126 hii hz0 hz1 hz2 rfl (Nat.one_pos) (.slice kd9 i kcap) i vs (by rfl) HOL.out ⟨wr.heap.size + 1, 0, none⟩ 1 1 [.slice (some ⟨wr.heap.size, 0, none⟩) N N] (by rfl) (by rfl) (World.news_of_block (cs := #[.slice (some ⟨wr.heap.size, 0, none⟩) N N]) (t := 61) (fr := (0, 0)) HNW.out) (by simp [Value.oneCell']) (Nat.one_pos) H63.out HBY.out (Nat.zero_le _) (wr.heap.size + 1 + 1) (by simp) ?_; intro gg cap6 w6 hown6 hgrow6 hat6 hlt6; have cg3 := (hgrow6.cell_far ⟨w.heap.size + 1, 3, none⟩ HZL.out hnk2).trans CW2.out; have fg3 := (hgrow6.frozen_far ⟨w.heap.size + 1, 3, none⟩ HZL.out hnk2).trans FW2.out))
      all_goals
        clear hwN
        have HG6 : Hid (w6.ownsRow 0 61 1 (.slice (some ⟨gg, 0, none⟩) (i + 1) cap6) (i + 1) (vs ++ [.slice (some ⟨wr.heap.size, 0, none⟩) N N]) ∧ Kept (fun b => (Value.slice kd9 i kcap).ownBlock = some b) ((wr.alloc (.cells (nilsA N) 119)).alloc (.cells #[.slice (some ⟨wr.heap.size, 0, none⟩) N N] 61)).drew w6 ∧ ((Value.slice kd9 i kcap).ownBlock = some gg ∨ gg = wr.heap.size + 1 + 1)) := ⟨hown6, ⟨hgrow6.os, hgrow6.tape, hgrow6.output, hgrow6.size, fun k hk he => hgrow6.block k hk (fun e => he e.symm)⟩, hat6⟩
        clear hown6 hgrow6 hat6
        go_wp2_with fail
        go_roundg (all.length - (i + 1))
        case measure => omega
        case rel =>
          obtain ⟨g1, g2, g3⟩ := HG6.out
          obtain ⟨q1, q2, q3, q4, q5, q6⟩ := HH.out
          have k1 : Kept (fun _ => False) wr ((wr.alloc (.cells (nilsA N) 119)).alloc (.cells #[.slice (some ⟨wr.heap.size, 0, none⟩) N N] 61)).drew := (((Kept.refl _ _).alloc _).alloc _).drew
          have k9 : Kept (fun b => b = w.heap.size + 1) w6 (w6.setCell ⟨w.heap.size + 1, 3, none⟩ (.slice (some ⟨gg, 0, none⟩) (i + 1) cap6)) := Kept.setCell (ex := fun b => b = w.heap.size + 1) (p := ⟨w.heap.size + 1, 3, none⟩) (Kept.refl _ _) (fun _ => rfl) _
          have ownlt : ∀ b, (Value.slice kd9 i kcap).ownBlock = some b → w.heap.size + 1 < b := q4.own
          have hgg : w.heap.size + 1 < gg := by rcases g3 with e | e; exact ownlt gg e; omega
          have hrow9 := HOL.out
          refine ⟨i + 1, .slice (some ⟨gg, 0, none⟩) (i + 1) cap6, fun j => if j = i then wr.heap.size else R j, by go_num, by omega, rfl, ?_, ?_, ?_, ⟨⟨vs ++ [.slice (some ⟨wr.heap.size, 0, none⟩) N N], ?_, by simp [q5], fun j hj => ?_⟩, fun j hj => ?_, fun j k hj hk he => ?_, fun b hb => ?_⟩⟩
          · have b2 : Below w.heap.size w ((wr.alloc (.cells (nilsA N) 119)).alloc (.cells #[.slice (some ⟨wr.heap.size, 0, none⟩) N N] 61)).drew := q1.trans ⟨k1.os, k1.tape, k1.output, k1.size, fun b hb => k1.block b (by have := q1.size; omega) (fun e => e)⟩
            have b3 : Below w.heap.size w w6 := b2.trans ⟨g2.os, g2.tape, g2.output, g2.size, fun b hb => g2.block b (by have := b2.size; omega) (fun e => by have := ownlt b e; omega)⟩
            exact b3.setCell (p := ⟨w.heap.size + 1, 3, none⟩) (by simp) _
          · exact ((q2.kept k1 (fun e => e)).kept g2 (fun e => by have := ownlt _ e; omega)).kept k9 (by omega)
          · exact ((q3.kept k1 (fun e => e)).kept g2 (fun e => by have := ownlt _ e; omega)).set 3 _
          · exact ownsRow_kept g1 k9 (fun b hb e => by cases (Option.some.inj hb : gg = b); omega)
          · by_cases e : j < i
            · rw [if_neg (by omega), List.getElem?_append_left (by omega)]; exact q6 j e
            · have : j = i := by omega
              subst this
              rw [if_pos rfl, List.getElem?_append_right (by omega), q5]; simp
          · by_cases e : j < i
            · simp only [if_neg (show ¬ j = i by omega)]
              obtain ⟨r1, r2⟩ := q4.each j e
              exact ⟨((r1.kept k1 (fun e => e)).kept g2 (fun e => ownsRow_ne hrow9 (r1.kept k1 (fun e => e)) (by decide) e)).kept k9 (by omega), r2⟩
            · have : j = i := by omega
              subst this
              simp only [if_true]
              have r1 : Blk ((wr.alloc (.cells (nilsA N) 119)).alloc (.cells #[.slice (some ⟨wr.heap.size, 0, none⟩) N N] 61)).drew wr.heap.size (nilsA N) 119 := ((Blk.new wr _ _).alloc _)
              exact ⟨(r1.kept g2 (fun e => ownsRow_ne hrow9 r1 (by decide) e)).kept k9 (by omega), by omega⟩
          · have hRlt : ∀ j, j < i → R j < wr.heap.size := fun j hj => (q4.each j hj).1.lt
            by_cases e1 : j = i <;> by_cases e2 : k = i
            · omega
            · have := hRlt k (by omega); simp only [if_pos e1, if_neg e2] at he; omega
            · have := hRlt j (by omega); simp only [if_neg e1, if_pos e2] at he; omega
            · simp only [if_neg e1, if_neg e2] at he; exact q4.inj j k (by omega) (by omega) he
          · cases (Option.some.inj hb : gg = b); exact hgg
    · have e0 : decide ((i : Int) < (all.length : Int)) = false := by simp; omega
      obtain rfl : i = all.length := by omega
      have HH : Hid (Below w.heap.size w wr ∧ Blk wr (w.heap.size + 1) #[.slice ad all.length acap, .slice td tops.length tcap, .string s, kv] 128 ∧ Begun wr (w.heap.size + 1) N kv R all.length) := ⟨hb, hW, hB⟩
      clear hb hZ hW hB
      go_wp2_with fail
      go_ret
      exact ⟨kv, R, rfl, HH.out⟩
end Go.Proofs.Ytcckhngbdoiikaa

namespace Go.Proofs.Ytcckhngbdoiikaa
open Go.RowKit Go.Deep
set_option linter.unusedVariables false

/-- The tokens of a cut from a place on. -/
def TokChain (kd : Nat → Nat) (g : Graph) (s : ByteArray) : Nat → List TokT → Prop
  | p, [] => p = s.size
  | p, t :: r => p < s.size ∧ t = nextTok kd g s p ∧ TokChain kd g s t.tt r
theorem allTok_chain (kd : Nat → Nat) (g : Graph) (s : ByteArray) : ∀ (n p : Nat) (acc : List TokT), p ≤ s.size → s.size < n + p → ∃ l, allTok kd g s n p acc = acc ++ l ∧ TokChain kd g s p l
  | 0, p, acc, hp, hn => by omega
  | n + 1, p, acc, hp, hn => by
    unfold allTok
    by_cases hlt : p < s.size
    · rw [if_pos hlt]
      obtain ⟨h1, h2, h3⟩ := nextTok_pos kd g s p hlt
      obtain ⟨l, h4, h5⟩ := allTok_chain kd g s n (nextTok kd g s p).tt (acc ++ [nextTok kd g s p]) h2 (by omega)
      exact ⟨nextTok kd g s p :: l, by rw [h4]; simp, hlt, rfl, h5⟩
    · rw [if_neg hlt]
      exact ⟨[], by simp, by show p = s.size; omega⟩
theorem cutF_chain (kd : Nat → Nat) (g : Graph) (s : ByteArray) : TokChain kd g s 0 (cutF kd g s) := by
  obtain ⟨l, h1, h2⟩ := allTok_chain kd g s (s.size + 1) 0 [] (Nat.zero_le _) (by omega)
  unfold cutF
  rw [h1]
  simpa using h2
theorem TokChain.len {kd : Nat → Nat} {g : Graph} {s : ByteArray} : ∀ {l : List TokT} {p : Nat}, TokChain kd g s p l → l.length + p ≤ s.size
  | [], p, h => by have : p = s.size := h; simp; omega
  | t :: r, p, ⟨h1, h2, h3⟩ => by
    have := TokChain.len h3
    have h4 := (nextTok_pos kd g s p h1).1
    rw [← h2] at h4
    simp
    omega
/-- What 'begins' tells. -/
def Begins (rows : List (List Bool)) (N p : Nat) (q : Nat) (r : Int) : Prop :=
  (q = p ∧ r = -1 ∧ ∀ q', p < q' → q' < N → ∀ i, i < rows.length → (rows.getD i []).getD q' false = false) ∨
  (p < q ∧ q < N ∧ ∃ i, i < rows.length ∧ r = (i : Int) ∧ (rows.getD i []).getD q false = true ∧ (∀ j, j < i → (rows.getD j []).getD q false = false) ∧ ∀ q', q < q' → q' < N → ∀ j, j < rows.length → (rows.getD j []).getD q' false = false)
theorem word_row (c : MemoC) (trs : List Tree) (tops : List Nat) (hc : ∀ t, c.tr t = trs.getD t treeD) (p q i : Nat) (hi : i < tops.length) (hi' : i < (topTrees trs tops).length) (hpq : p ≤ q) (hq : q ≤ (bytesN c.s).length) :
    ((wordRows c tops p).getD i []).getD q false = true ↔ ((topTrees trs tops)[i]).Word (seg (bytesN c.s) p q) := by
  have e9 : (wordRows c tops p).getD i [] = rowT (bytesN c.s) (c.tr (tops.getD i 0)) p := by simp [wordRows, hi]
  have e8 : (topTrees trs tops)[i] = c.tr (tops.getD i 0) := by simp [topTrees, hc, hi]
  rw [e9, e8, rowW_getD]
  unfold EndsW
  exact ⟨fun h => h.2.2, fun h => ⟨hpq, hq, h⟩⟩
theorem long_begins (c : MemoC) (trs : List Tree) (tops : List Nat) (hc : ∀ t, c.tr t = trs.getD t treeD) (p q : Nat) (r : Int) (tok : TokT) (hl : LongTok (topTrees trs tops) (bytesN c.s) p tok) (hb : Begins (wordRows c tops p) c.N p q r) :
    tok.fr = p ∧ ((r = -1 ∧ tok.rule = -1 ∧ tok.tt = p + 1) ∨ (r ≠ -1 ∧ tok.rule = r ∧ tok.tt = q)) := by
  have hlen : (topTrees trs tops).length = tops.length := by simp [topTrees]
  have hwl : (wordRows c tops p).length = tops.length := by simp [wordRows]
  have hN : c.N = (bytesN c.s).length + 1 := by unfold MemoC.N; rw [bytesN_len]
  have hno : ∀ q', p < q' → q' ≤ (bytesN c.s).length → (∀ i, i < (wordRows c tops p).length → ((wordRows c tops p).getD i []).getD q' false = false) → ∀ x, TokIs (topTrees trs tops) (seg (bytesN c.s) p q') x → x = -1 := by
    intro q' h1 h2 h3 x hx
    rcases hx with ⟨h4, _⟩ | ⟨i, hi, h4, h5, _⟩
    · exact h4
    · have h6 := h3 i (by omega)
      have h7 := (word_row c trs tops hc p q' i (by omega) hi (by omega) h2).2 h5
      rw [h6] at h7
      cases h7
  refine ⟨hl.1, ?_⟩
  rcases hb with ⟨h1, h2, h3⟩ | ⟨h1, h2, i, hi, h3, h4, h5, h6⟩
  · left
    refine ⟨h2, ?_⟩
    rcases hl.2 with ⟨a, b, _⟩ | ⟨a, b, d, e, _⟩
    · exact ⟨a, b⟩
    · exact absurd (hno tok.tt a b (h3 tok.tt a (by omega)) tok.rule e) d
  · right
    have hq : q ≤ (bytesN c.s).length := by omega
    have hi' : i < (topTrees trs tops).length := by omega
    have htk : TokIs (topTrees trs tops) (seg (bytesN c.s) p q) (i : Int) := by
      refine .inr ⟨i, hi', rfl, (word_row c trs tops hc p q i (by omega) hi' (by omega) hq).1 h4, fun j hj hw => ?_⟩
      have h7 := (word_row c trs tops hc p q j (by omega) (by omega) (by omega) hq).2 hw
      rw [h5 j hj] at h7
      cases h7
    refine ⟨by omega, ?_⟩
    rcases hl.2 with ⟨a, b, d⟩ | ⟨a, b, d, e, f⟩
    · have := (d q h1 hq).one htk
      omega
    · rcases Nat.lt_trichotomy tok.tt q with h | h | h
      · have := (f q h hq).one htk
        omega
      · rw [← h] at htk
        exact ⟨by rw [e.one htk, h3], h⟩
      · exact absurd (hno tok.tt a b (h6 tok.tt h (by omega)) tok.rule e) d
/-- What was begun is what was found so far: nothing. -/
theorem Memo.ofBegun {w : World} {h : Nat} {kv : Value} {R : Nat → Nat} {av tv : Value} {all : List NodeT} {s : ByteArray} {wb : Nat} (tr : Nat → Tree) (hpos : 0 < all.length) (hb : Blk w wb #[av, tv, .string s, kv] 128) (ha : NodeRow w av all) (hB : Begun w h (s.size + 1) kv R all.length) :
    ∃ kg kcap, kv = .slice (some ⟨kg, 0, none⟩) all.length kcap ∧ ∀ A, Memo ⟨wb, kg, kcap, R, av, tv, s, all, tr⟩ A w := by
  obtain ⟨vs, hrow, hvl, hvs⟩ := hB.row
  obtain ⟨_, ad, cap, rfl, ⟨h1, h2⟩ | ⟨kg, cur, rfl, h2, h3, h4, h5, h6⟩⟩ := ownsRow_form hrow
  · omega
  refine ⟨kg, cap, rfl, fun A => ⟨hb, ha, ⟨cur, h2, fun n hn => ?_⟩, fun n hn => ?_, hB.inj⟩⟩
  · have hn' : n < all.length := hn
    have h7 : cur.toList[n]? = vs[n]? := by
      rw [← h6, List.getElem?_take, if_pos (by omega)]
    rw [← Array.getElem?_toList, h7]
    exact hvs n hn
  · refine ⟨nilsA (s.size + 1), (hB.each n hn).1, by simp [nilsA, MemoC.N], fun p hp => .inl ?_⟩
    have hp' : p < s.size + 1 := Nat.lt_succ_of_le hp
    simp [nilsA, hp']
end Go.Proofs.Ytcckhngbdoiikaa

namespace Go.Proofs.Ytcckhngbdoiikaa
open Go.RowKit Go.Deep
set_option linter.unusedVariables false

set_option maxRecDepth 20000 in
set_option maxHeartbeats 1600000 in
theorem begins_any (rows : List (List Bool)) (N p : Nat) (v : Value) (w : World) (h : BRows w v rows N) (hN2 : N ≤ 100000) (hp : p < N) (hrl : rows.length ≤ 2000000) (hrn : ∀ i, i < rows.length → (rows.getD i []).length = N) :
    Calls Try.prog 36 #[v, .int .i64 (p : Int)] w fun e w' => ∃ (q : Nat) (r : Int), e = .returned (.tuple #[.int .i64 (q : Int), .int .i64 r]) ∧ Begins rows N p q r ∧ Below w.heap.size w w' := by
  obtain ⟨vs, hrow, hvl, hvs⟩ := h
  obtain ⟨_, ad, cap, rfl, hform⟩ := ownsRow_form hrow
  have HROW := hide hrow
  have HVS := hide hvs
  have HRN := hide hrn
  have HVL := hide hvl
  clear hrow hvs hrn hvl
  by_cases h0 : rows.length = 0
  · have e0 : ((rows.length : Int) == 0) = true := by simp [h0]
    clear hform
    go_enter Try.func36, Try.ntmps36
    go_wp2_with fail
    go_ret2
    exact ⟨p, -1, rfl, .inl ⟨rfl, rfl, fun q' _ _ i hi => by omega⟩, Below.refl _ _⟩
  · have e0 : ((rows.length : Int) == 0) = false := by simp [h0]
    rcases hform with ⟨_, h9⟩ | ⟨g, cur, rfl, _⟩
    · omega
    have hcell : ∀ i, i < rows.length → ∃ b, w.cell? ⟨g, i, none⟩ = some (.slice (some ⟨b, 0, none⟩) N N) ∧ BRow w (.slice (some ⟨b, 0, none⟩) N N) (rows.getD i []) := fun i hi => by
      obtain ⟨b, h1, h2⟩ := HVS.out i hi
      exact ⟨b, by rw [ownsRow_cell HROW.out i (by omega)]; exact h1, h2⟩
    have HC := hide hcell
    obtain ⟨b0, c0, _⟩ := hcell 0 (by omega)
    have r0 : (0 : Int) < (rows.length : Int) := by omega
    clear hcell
    go_enter Try.func36, Try.ntmps36
    go_wp2_with fail
    go_loopg [6] (N - 1 - p) (fun G qv wr => ∃ q : Nat, qv = .int .i64 (q : Int) ∧ p ≤ q ∧ q < N ∧ G = q - p ∧ wr = w ∧ ∀ q', q < q' → q' < N → ∀ i, i < rows.length → (rows.getD i []).getD q' false = false)
    case atStart => exact ⟨N - 1, by go_num, by omega, by omega, rfl, rfl, fun q' h1 h2 => by omega⟩
    case round =>
      obtain ⟨q, rfl, hpq, hqN, rfl, rfl, hno⟩ := hrel
      have HNO := hide hno
      clear hno
      by_cases hlt : p < q
      · have e1 : decide ((p : Int) < (q : Int)) = true := by simp; omega
        go_wp2_with fail
        go_loopg [7] rows.length (fun G iv wi => ∃ i : Nat, iv = .int .i64 (i : Int) ∧ i ≤ rows.length ∧ G = rows.length - i ∧ wi = wr ∧ ∀ j, j < i → (rows.getD j []).getD q false = false)
        case atStart => exact ⟨0, rfl, by omega, rfl, rfl, fun j hj => by omega⟩
        case round =>
          obtain ⟨i, rfl, hi, rfl, rfl, hnj⟩ := hrel
          have HNJ := hide hnj
          clear hnj
          by_cases hli : i < rows.length
          · have e2 : decide ((i : Int) < (rows.length : Int)) = true := by simp; omega
            obtain ⟨b, c1, hB⟩ := HC.out i hli
            have c2 := hB.cellD q (by rw [HRN.out i hli]; exact hqN)
            have HHB := hide (show (rows.getD i []).getD q false = (rows.getD i []).getD q false from rfl)
            generalize hv : (rows.getD i []).getD q false = bv at c2
            have HV := hide hv
            have i0 : (0 : Int) ≤ (i : Int) := by omega
            have i1 : (i : Int) < (rows.length : Int) := by omega
            have q0 : (0 : Int) ≤ (q : Int) := by omega
            have q1 : (q : Int) < (N : Int) := by omega
            clear hv hB HHB
            cases bv with
            | true =>
              go_wp2_with fail
              go_ret2
              exact ⟨q, (i : Int), rfl, .inr ⟨hlt, hqN, i, hli, rfl, HV.out, HNJ.out, HNO.out⟩, Below.refl _ _⟩
            | false =>
              go_wp2_with fail
              go_roundg (rows.length - (i + 1))
              case measure => omega
              case rel =>
                refine ⟨i + 1, by go_num, by omega, rfl, rfl, fun j hj => ?_⟩
                by_cases e : j < i
                · exact HNJ.out j e
                · rw [show j = i by omega]; exact HV.out
          · have e2 : decide ((i : Int) < (rows.length : Int)) = false := by simp; omega
            obtain rfl : i = rows.length := by omega
            go_wp2_with fail
            go_roundg (q - 1 - p)
            case measure => omega
            case rel =>
              refine ⟨q - 1, by go_num, by omega, by omega, rfl, rfl, fun q' h1 h2 j hj => ?_⟩
              by_cases e : q < q'
              · exact HNO.out q' e h2 j hj
              · rw [show q' = q by omega]; exact HNJ.out j hj
      · have e1 : decide ((p : Int) < (q : Int)) = false := by simp; omega
        obtain rfl : q = p := by omega
        go_wp2_with fail
        go_ret2
        exact ⟨q, -1, rfl, .inl ⟨rfl, rfl, HNO.out⟩, Below.refl _ _⟩
end Go.Proofs.Ytcckhngbdoiikaa

namespace Go.Proofs.Ytcckhngbdoiikaa
open Go.RowKit Go.Deep
set_option linter.unusedVariables false

/-- Tokens that lie side by side. -/
def SideBy : Nat → List TokT → Nat → Prop
  | p, [], n => p = n
  | p, t :: r, n => t.fr = p ∧ p < t.tt ∧ -1 ≤ t.rule ∧ (t.rule = -1 → t.tt = p + 1) ∧ t.tt ≤ n ∧ SideBy t.tt r n
theorem TokChain.side {ts : List Tree} {kd : Nat → Nat} {g : Graph} {s : ByteArray} (hl : ∀ p, p < s.size → LongTok ts (bytesN s) p (nextTok kd g s p)) : ∀ {l : List TokT} {p : Nat}, TokChain kd g s p l → SideBy p l s.size
  | [], p, h => h
  | t :: r, p, ⟨h1, h2, h3⟩ => by
    have h4 := hl p h1
    obtain ⟨a, b, c⟩ := nextTok_pos kd g s p h1
    rw [← h2] at h4 a b c
    refine ⟨c, a, ?_, ?_, b, TokChain.side hl h3⟩
    · rcases h4.2 with ⟨e, _⟩ | ⟨_, _, _, e, _⟩
      · omega
      · rcases e with ⟨e, _⟩ | ⟨i, _, e, _⟩ <;> omega
    · intro e
      rcases h4.2 with ⟨_, e2, _⟩ | ⟨_, _, e2, _⟩
      · exact e2
      · exact absurd e e2

set_option maxRecDepth 20000 in
set_option maxHeartbeats 1600000 in
theorem beside_any (l : List TokT) (n : Nat) (v : Value) (w : World) (h : TokRow w v l) (hs : SideBy 0 l n) (hn : n ≤ 100000) (hll : l.length ≤ 100000) :
    Calls Try.prog 33 #[v, .int .i64 (n : Int)] w fun e w' => e = .returned (.bool true) ∧ Below w.heap.size w w' := by
  obtain ⟨ad, cap, rfl, hrow⟩ := h.form
  have HT := hide h
  have HS := hide hs
  clear h hs
  go_enter Try.func33, Try.ntmps33
  go_wp2_with fail
  go_loopg [5, 6] l.length (fun G pv iv wr => ∃ (p i : Nat), pv = .int .i64 (p : Int) ∧ iv = .int .i64 (i : Int) ∧ i ≤ l.length ∧ G = l.length - i ∧ p ≤ n ∧ SideBy p (l.drop i) n ∧ Below w.heap.size w wr)
  case atStart => exact ⟨0, 0, rfl, rfl, by omega, rfl, by omega, HS.out, Below.refl _ _⟩
  case round =>
    obtain ⟨p, i, rfl, rfl, hi, rfl, hp, hsd, hb⟩ := hrel
    by_cases hlt : i < l.length
    · have e0 : decide ((i : Int) < (l.length : Int)) = true := by simp; omega
      rcases hrow with h0 | ⟨tg, rfl⟩
      · omega
      obtain ⟨g0, g1, g2⟩ := toksC_get l i hlt
      have hT := HT.out.below hb
      have c0 := (ownsRow_cell hT (i * 3) (by omega)).trans g0
      have c1 := (ownsRow_cell hT (i * 3 + 1) (by omega)).trans g1
      have c2 := (ownsRow_cell hT (i * 3 + 2) (by omega)).trans g2
      rw [List.drop_eq_getElem_cons hlt] at hsd
      obtain ⟨s1, s2, s3, s4, s5, s6⟩ := hsd
      generalize l[i] = t at c0 c1 c2 s1 s2 s3 s4 s5 s6
      obtain ⟨tr, tf, ttt⟩ := t
      simp only at c0 c1 c2 s1 s2 s3 s4 s5 s6
      subst s1
      have e1 : ((tf : Int) != (tf : Int)) = false := by simp
      have e2 : decide ((ttt : Int) ≤ (tf : Int)) = false := by simp; omega
      have e3 : decide (tr < (-1 : Int)) = false := by simp; omega
      have i0 : (0 : Int) ≤ (i : Int) := by omega
      have i1 : (i : Int) < (l.length : Int) := by omega
      have HSD := hide s6
      have HB := hide hb
      by_cases hr : tr = -1
      · subst hr
        have s7 := s4 rfl
        subst s7
        clear s4 s6 g0 g1 g2 hT hb e3 s3
        have e5 : (((tf + 1 : Nat) : Int) != (tf : Int) + 1) = false := by simp
        go_wp2_with fail
        go_roundg (l.length - (i + 1))
        case measure => omega
        case rel => exact ⟨tf + 1, i + 1, by go_num, by go_num, by omega, rfl, by omega, HSD.out, HB.out⟩
      · have e4 : (tr == -1) = false := by simp [hr]
        clear s4 s6 g0 g1 g2 hT hb
        go_wp2_with fail
        go_roundg (l.length - (i + 1))
        case measure => omega
        case rel => exact ⟨ttt, i + 1, by go_num, by go_num, by omega, rfl, by omega, HSD.out, HB.out⟩
    · have e0 : decide ((i : Int) < (l.length : Int)) = false := by simp; omega
      obtain rfl : i = l.length := by omega
      rw [List.drop_length] at hsd
      have hpn : p = n := hsd
      subst hpn
      have HB := hide hb
      clear hb hsd
      go_wp2_with fail
      go_ret
      exact ⟨rfl, HB.out⟩
end Go.Proofs.Ytcckhngbdoiikaa
