import Derived.Test.YtmgpdaemcbbikaaB43
import Derived.Test.YtmgpdaemcbbikaaB37
import Derived.Test.YtmgpdaemcbbikaaB40
import Derived.Test.YtmgpdaemcbbikaaB35
import Derived.Test.YtmgpdaemcbbikaaB42
import Derived.Deep.RegionLaw
import Derived.IntWalk

namespace Go.Proofs.Ytmgpdaemcbbikaa
set_option linter.unusedVariables false

theorem joinT_snoc (x : List Nat) : ∀ l : List (List Nat), joinT (l ++ [x]) = if l = [] then x else joinT l ++ [10] ++ x
  | [] => rfl
  | [a] => rfl
  | a :: b :: r => by
    have ih := joinT_snoc x (b :: r)
    rw [if_neg (by simp)] at ih
    show a ++ [10] ++ joinT ((b :: r) ++ [x]) = _
    rw [ih, if_neg (by simp)]
    show _ = (a ++ [10] ++ joinT (b :: r)) ++ [10] ++ x
    simp
theorem placesAll_snoc (x : Tree) : ∀ l : List Tree, placesAll (l ++ [x]) = placesAll l + x.places
  | [] => by simp [placesAll]
  | a :: l => by simp [placesAll, placesAll_snoc x l]; omega
/-- The trees on the pile. -/
def topTrees (trs : List Tree) (tops : List Nat) : List Tree := tops.map (fun t => trs.getD t treeD)
theorem spellK_trees {all : List NodeT} {trs : List Tree} {tops : List Nat} (hf : ∀ n, n < all.length → NFit all trs n) (ht : ∀ k, k < tops.length → tops.getD k 0 < all.length) :
    ∀ k, k ≤ tops.length → spellK all tops k = (bytesOf (joinT (((topTrees trs tops).take k).map Tree.spell)), placesAll ((topTrees trs tops).take k))
  | 0, _ => rfl
  | k + 1, hk => by
    have ih := spellK_trees hf ht k (by omega)
    have f := hf _ (ht k (by omega))
    have e : (topTrees trs tops).take (k + 1) = (topTrees trs tops).take k ++ [trs.getD (tops.getD k 0) treeD] := by
      have hlt : k < (topTrees trs tops).length := by simp [topTrees]; omega
      rw [List.take_succ_eq_append_getElem hlt]
      simp [topTrees, show k < tops.length by omega]
    unfold spellK
    rw [ih, e, placesAll_snoc, List.map_append, List.map_cons, List.map_nil, joinT_snoc, f.text, f.places]
    have g10 : (⟨#[10]⟩ : ByteArray) = bytesOf [10] := rfl
    by_cases h0 : 0 < k
    · have hne : ((topTrees trs tops).take k).map Tree.spell ≠ [] := by
        intro e9
        have h9 : (((topTrees trs tops).take k).map Tree.spell).length = k := by simp [topTrees]; omega
        rw [e9] at h9
        simp at h9
        omega
      rw [if_pos h0, if_neg hne]
      simp only [g10, bytesOf_append]
    · have : k = 0 := by omega
      subst this
      rfl
theorem byteT_lt {b : Nat} (h : b < 256) : ∀ x ∈ byteT b, x < 256 := by
  unfold byteT
  intro x hx
  split at hx
  · simp at hx; omega
  · split at hx
    · simp at hx; omega
    · simp at hx; omega
theorem spell_lt : ∀ t : Tree, t.ok → ∀ x ∈ t.spell, x < 256
  | .leaf k a b, h, x, hx => by
    obtain ⟨h1, h2, _⟩ := h
    unfold Tree.spell leafT at hx
    have ba := byteT_lt h1
    have bb := byteT_lt h2
    split at hx
    · simp at hx; omega
    · split at hx
      · simp at hx
        rcases hx with e | e | e | e | e
        · omega
        · exact ba x e
        · omega
        · exact bb x e
        · omega
      · split at hx
        · simp at hx
          rcases hx with e | e | e | e | e | e
          · omega
          · omega
          · exact ba x e
          · omega
          · exact bb x e
          · omega
        · exact ba x hx
  | .row l r, h, x, hx => by
    simp [Tree.spell] at hx
    rcases hx with e | e | e | e
    · omega
    · exact spell_lt l h.1 x e
    · exact spell_lt r h.2 x e
    · omega
  | .or l r, h, x, hx => by
    simp [Tree.spell] at hx
    rcases hx with e | e | e | e | e
    · omega
    · exact spell_lt l h.1 x e
    · omega
    · exact spell_lt r h.2 x e
    · omega
  | .star l, h, x, hx => by
    simp [Tree.spell] at hx
    rcases hx with e | e | e | e
    · omega
    · exact spell_lt l h x e
    · omega
    · omega
  | .plus l, h, x, hx => by
    simp [Tree.spell] at hx
    rcases hx with e | e | e | e
    · omega
    · exact spell_lt l h x e
    · omega
    · omega
  | .maybe l, h, x, hx => by
    simp [Tree.spell] at hx
    rcases hx with e | e | e | e
    · omega
    · exact spell_lt l h x e
    · omega
    · omega
theorem join_lt : ∀ ts : List Tree, (∀ t ∈ ts, t.ok) → ∀ x ∈ joinT (ts.map Tree.spell), x < 256
  | [], _, x, hx => by simp [joinT] at hx
  | [t], h, x, hx => spell_lt t (h t (by simp)) x hx
  | t :: u :: r, h, x, hx => by
    have hx' : x ∈ t.spell ++ [10] ++ joinT ((u :: r).map Tree.spell) := hx
    simp only [List.mem_append, List.mem_singleton] at hx'
    rcases hx' with (e | e) | e
    · exact spell_lt t (h t (by simp)) x e
    · omega
    · exact join_lt (u :: r) (fun t ht => h t (by simp at ht ⊢; right; exact ht)) x e
theorem bytesOf_lies (L : List Nat) (h : ∀ x ∈ L, x < 256) : Lies (bytesOf L) 0 L := fun i hi => by
  rw [Nat.zero_add]
  have hlt : i < (bytesOf L).size := by rw [bytesOf_size]; exact hi
  unfold peekI
  rw [dif_pos hlt]
  have hx := h L[i] (List.getElem_mem hi)
  have e9 : (bytesOf L).data[i]? = some (UInt8.ofNat L[i]) := by simp [bytesOf, hi]
  have e : (bytesOf L)[i] = UInt8.ofNat L[i] := by
    have h9 : (bytesOf L).data[i]? = some (bytesOf L)[i] := by rw [Array.getElem?_eq_getElem (show i < (bytesOf L).data.size from hlt)]; rfl
    rw [h9] at e9
    exact Option.some.inj e9
  rw [e]
  simp
  omega
/-- The rule text of trees that is not too long: all of it is read, as these trees. -/
theorem read_trees (ts : List Tree) (hts : ts ≠ []) (hk : ∀ t ∈ ts, t.ok) : allF (bytesOf (joinT (ts.map Tree.spell))) = (true, (bytesOf (joinT (ts.map Tree.spell))).size, glushAll ts RulesT.new) :=
  all_spell ts hts hk (bytesOf_lies _ (join_lt ts hk)) (by rw [bytesOf_size])
theorem new_trees (ts : List Tree) (hts : ts ≠ []) (hk : ∀ t ∈ ts, t.ok) :
    (newF (bytesOf (joinT (ts.map Tree.spell))) = .bad 1 0 ∧ 120 < (bytesOf (joinT (ts.map Tree.spell))).size) ∨
    (newF (bytesOf (joinT (ts.map Tree.spell))) = .bad 3 0 ∧ (bytesOf (joinT (ts.map Tree.spell))).size ≤ 120 ∧ 5 < placesAll ts) ∨
    ((bytesOf (joinT (ts.map Tree.spell))).size ≤ 120 ∧ ∃ kd g, newF (bytesOf (joinT (ts.map Tree.spell))) = .lexer kd g ∧ buildF (glushAll ts RulesT.new) = some (kd, g) ∧ placesAll ts ≤ 128) := by
  have hr := read_trees ts hts hk
  have hgd := allF_good (bytesOf (joinT (ts.map Tree.spell)))
  rw [hr] at hgd
  generalize bytesOf (joinT (ts.map Tree.spell)) = s at hr hgd
  have hpl := glushAll_len ts RulesT.new
  have h0 : RulesT.new.follow.length = 0 := rfl
  unfold newF
  by_cases hz : 120 < s.size
  · exact .inl ⟨by rw [if_pos hz], hz⟩
  · right
    rw [if_neg hz, hr]
    simp only [Bool.true_eq_false, if_false]
    cases hb : buildF (glushAll ts RulesT.new) with
    | none =>
      refine .inl ⟨rfl, by omega, ?_⟩
      refine Classical.byContradiction fun h5 => ?_
      exact build_few (by omega) hb
    | some x =>
      obtain ⟨kd, g⟩ := x
      exact .inr ⟨by omega, kd, g, rfl, rfl, by have := hgd.2.1; simp only at this; omega⟩
/-- Its lexer: along a text it stands in a state of the text's rule. -/
theorem lexer_tok {ts : List Tree} {kd : Nat → Nat} {g : Graph} (h : buildF (glushAll ts RulesT.new) = some (kd, g)) (hp : placesAll ts ≤ 128) (w : List Nat) (hw : w ≠ []) (hx : ∀ x ∈ w, x < 256) : TokIs ts w (accK g (runK g 0 (w.map kd))) := by
  rw [build_acc h w hx]
  exact rule_tok (rules_inv ts hp) w hw
end Go.Proofs.Ytmgpdaemcbbikaa

namespace Go.Proofs.Ytmgpdaemcbbikaa
set_option linter.unusedVariables false

theorem numberF_ok {g : Graph} {K : Nat} (ho : GOk g K) (hpos : 0 < g.rule.length) {cls : List Int} (hcl : cls.length = g.rule.length) (hc : ∀ x ∈ cls, 0 ≤ x ∧ x < (g.rule.length : Int)) (hst : Stable g K cls) {j k : Nat} (hj : j < (numberF g cls).rule.length) (hk : k < K) :
    stepK (numberF g cls) (j : Int) k = -1 ∨ ∃ j' : Nat, stepK (numberF g cls) (j : Int) k = (j' : Int) ∧ j' < (numberF g cls).rule.length := by
  have hj' : j < (visitF g cls).1.length := by simpa [numberF] using hj
  have hv := (visitF_inv ho hpos hcl hc).1
  have hF := hv.ok.ok _ (getD_mem (l := (visitF g cls).1) hj' 0)
  rcases number_step ho hpos hcl hc hst hj' (a := ((visitF g cls).1.getD j 0).toNat) (by omega) rfl hk with ⟨h1, _⟩ | ⟨j2, a2, h1, _, h3, _, _⟩
  · exact .inl h1
  · exact .inr ⟨j2, h1, by simpa [numberF] using h3⟩
/-- What holds of a lexer's graph. -/
structure LexG (kd : Nat → Nat) (g : Graph) : Prop where
  pos : 0 < g.rule.length
  len : g.next.length = g.rule.length
  step : ∀ j b, j < g.rule.length → b < 256 → stepK g (j : Int) (kd b) = -1 ∨ ∃ j' : Nat, stepK g (j : Int) (kd b) = (j' : Int) ∧ j' < g.rule.length
theorem build_lexG {R : RulesT} {kd : Nat → Nat} {g : Graph} (h : buildF R = some (kd, g)) : LexG kd g := by
  obtain ⟨g0, hg, rfl, rfl⟩ := buildF_some h
  obtain ⟨ho, hp, hn⟩ := exploreF_ok hg
  have ho' := pruneF_ok ho
  have hp' : 0 < (pruneF g0).rule.length := hp
  have hv := visitF_inv ho' hp' (mergeF_len _) (mergeF_bd _ hp')
  refine ⟨by simpa [numberF] using hv.1.pos.1, by simp [numberF], fun j b hj hb => ?_⟩
  exact numberF_ok ho' hp' (mergeF_len _) (mergeF_bd _ hp') (mergeF_stable ho' hp') hj (kindOf_get R.allow b 256 hb).1
theorem nextF_step {kd : Nat → Nat} {g : Graph} (h : LexG kd g) {j b : Nat} (hj : j < g.rule.length) (hb : b < 256) : nextF kd g (j : Int) (b : Int) = stepK g (j : Int) (kd b) := by
  unfold nextF stepK
  rw [if_neg (by rw [h.len]; omega), if_neg (by omega), Int.toNat_natCast, Int.toNat_natCast]
theorem ruleOf_acc {g : Graph} {j : Nat} (hj : j < g.rule.length) : ruleOfF g (j : Int) = accK g (j : Int) := by
  unfold ruleOfF accK
  rw [if_neg (by omega), if_neg (by omega)]
/-- The longest token that begins at fr. -/
def LongTok (ts : List Tree) (L : List Nat) (fr : Nat) (tok : TokT) : Prop :=
  tok.fr = fr ∧ ((tok.rule = -1 ∧ tok.tt = fr + 1 ∧ ∀ q, fr < q → q ≤ L.length → TokIs ts (seg L fr q) (-1)) ∨ (fr < tok.tt ∧ tok.tt ≤ L.length ∧ tok.rule ≠ -1 ∧ TokIs ts (seg L fr tok.tt) tok.rule ∧ ∀ q, tok.tt < q → q ≤ L.length → TokIs ts (seg L fr q) (-1)))
/-- What is known when the cut has gone up to p. -/
def SoFar (ts : List Tree) (L : List Nat) (fr p : Nat) (tok : TokT) : Prop :=
  tok.fr = fr ∧ ((tok.rule = -1 ∧ tok.tt = fr + 1 ∧ ∀ q, fr < q → q ≤ p → TokIs ts (seg L fr q) (-1)) ∨ (fr < tok.tt ∧ tok.tt ≤ p ∧ tok.rule ≠ -1 ∧ TokIs ts (seg L fr tok.tt) tok.rule ∧ ∀ q, tok.tt < q → q ≤ p → TokIs ts (seg L fr q) (-1)))
theorem seg_snoc {L : List Nat} {fr p : Nat} (h : fr ≤ p) (hp : p < L.length) : seg L fr (p + 1) = seg L fr p ++ [L[p]] := by
  rw [← seg_join h (Nat.le_succ p), seg_one hp]
theorem peek_bytes (s : ByteArray) (p : Nat) (h : p < s.size) (h9 : p < (bytesN s).length) : peekI s p = ((bytesN s)[p] : Int) ∧ (bytesN s)[p] < 256 := by
  rw [bytesN_get s p h h9]
  unfold peekI
  rw [dif_pos h]
  exact ⟨rfl, s[p].toNat_lt⟩
theorem cutLoop_long {ts : List Tree} {kd : Nat → Nat} {g : Graph} (hg : LexG kd g) (s : ByteArray) (hx : ∀ x ∈ bytesN s, x < 256) (ht : ∀ w, w ≠ [] → (∀ x ∈ w, x < 256) → TokIs ts w (accK g (runK g 0 (w.map kd)))) (fr : Nat) :
    ∀ (n p : Nat) (st : Nat) (tok : TokT), s.size < n + p → fr ≤ p → p ≤ s.size → st < g.rule.length → runK g 0 ((seg (bytesN s) fr p).map kd) = (st : Int) → SoFar ts (bytesN s) fr p tok → LongTok ts (bytesN s) fr (cutLoop kd g s fr n p (st : Int) tok)
  | 0, p, st, tok, hn, _, hp, _, _, _ => by omega
  | n + 1, p, st, tok, hn, hf, hp, hst, hrun, hs => by
    unfold cutLoop
    have hlen := bytesN_len s
    by_cases hlt : p < s.size
    · rw [if_pos hlt]
      have h9 : p < (bytesN s).length := by omega
      obtain ⟨hb1, hb2⟩ := peek_bytes s p hlt h9
      rw [hb1, nextF_step hg hst hb2]
      have hseg : seg (bytesN s) fr (p + 1) = seg (bytesN s) fr p ++ [(bytesN s)[p]] := seg_snoc hf h9
      have hrun2 : runK g 0 ((seg (bytesN s) fr (p + 1)).map kd) = stepK g (st : Int) (kd (bytesN s)[p]) := by
        rw [hseg, List.map_append]
        show List.foldl (stepK g) 0 _ = _
        rw [List.foldl_append]
        have : List.foldl (stepK g) 0 ((seg (bytesN s) fr p).map kd) = (st : Int) := hrun
        rw [this]; rfl
      have hmem : ∀ q, ∀ x ∈ seg (bytesN s) fr q, x < 256 := fun q x hx' => hx x (List.mem_of_mem_drop (List.mem_of_mem_take hx'))
      have hne : ∀ q, fr < q → q ≤ s.size → seg (bytesN s) fr q ≠ [] := fun q h1 h2 e => by have := seg_nil (L := bytesN s) (by omega) (by omega) e; omega
      rcases hg.step st (bytesN s)[p] hst hb2 with e | ⟨j, e, hj⟩
      · rw [e, if_pos rfl]
        -- nothing longer is a token
        have hdead : ∀ q, p < q → q ≤ s.size → TokIs ts (seg (bytesN s) fr q) (-1) := fun q h1 h2 => by
          have h3 := ht _ (hne q (by omega) h2) (hmem q)
          have h4 : seg (bytesN s) fr q = seg (bytesN s) fr (p + 1) ++ seg (bytesN s) (p + 1) q := (seg_join (by omega) (by omega)).symm
          have h5 : runK g 0 ((seg (bytesN s) fr q).map kd) = runK g (-1) ((seg (bytesN s) (p + 1) q).map kd) := by
            rw [h4, List.map_append]
            show List.foldl (stepK g) 0 _ = _
            rw [List.foldl_append]
            have : List.foldl (stepK g) 0 ((seg (bytesN s) fr (p + 1)).map kd) = -1 := hrun2.trans e
            rw [this]; rfl
          rw [h5, runK_dead g _ (-1) (by omega)] at h3
          have h6 : accK g (if (seg (bytesN s) (p + 1) q).map kd = [] then -1 else -1) = -1 := by split <;> rfl
          rw [h6] at h3
          exact h3
        obtain ⟨h1, h2⟩ := hs
        refine ⟨h1, ?_⟩
        rcases h2 with ⟨a, b, d⟩ | ⟨a, b, d, e', f⟩
        · refine .inl ⟨a, b, fun q h3 h4 => ?_⟩
          by_cases hq : q ≤ p
          · exact d q h3 hq
          · exact hdead q (by omega) (by omega)
        · refine .inr ⟨a, by omega, d, e', fun q h3 h4 => ?_⟩
          by_cases hq : q ≤ p
          · exact f q h3 hq
          · exact hdead q (by omega) (by omega)
      · rw [e, if_neg (by omega), ruleOf_acc hj]
        have htk := ht _ (hne (p + 1) (by omega) (by omega)) (hmem (p + 1))
        rw [hrun2, e] at htk
        refine cutLoop_long hg s hx ht fr n (p + 1) j _ (by omega) (by omega) (by omega) hj (hrun2.trans e) ?_
        obtain ⟨h1, h2⟩ := hs
        by_cases hr : accK g (j : Int) = -1
        · rw [if_pos hr]
          rw [hr] at htk
          refine ⟨h1, ?_⟩
          rcases h2 with ⟨a, b, d⟩ | ⟨a, b, d, e', f⟩
          · refine .inl ⟨a, b, fun q h3 h4 => ?_⟩
            by_cases hq : q ≤ p
            · exact d q h3 hq
            · rw [show q = p + 1 by omega]; exact htk
          · refine .inr ⟨a, by omega, d, e', fun q h3 h4 => ?_⟩
            by_cases hq : q ≤ p
            · exact f q h3 hq
            · rw [show q = p + 1 by omega]; exact htk
        · rw [if_neg hr]
          exact ⟨rfl, .inr ⟨by show fr < p + 1; omega, Nat.le_refl _, hr, htk, fun q h3 h4 => by exact absurd h4 (by show ¬ q ≤ p + 1; have h3' : p + 1 < q := h3; omega)⟩⟩
    · rw [if_neg hlt]
      have : p = s.size := by omega
      subst this
      obtain ⟨h1, h2⟩ := hs
      rw [← hlen] at h2
      exact ⟨h1, h2⟩
theorem nextTok_long {ts : List Tree} {kd : Nat → Nat} {g : Graph} (hg : LexG kd g) (s : ByteArray) (hx : ∀ x ∈ bytesN s, x < 256) (ht : ∀ w, w ≠ [] → (∀ x ∈ w, x < 256) → TokIs ts w (accK g (runK g 0 (w.map kd)))) (fr : Nat) (hf : fr ≤ s.size) : LongTok ts (bytesN s) fr (nextTok kd g s fr) := by
  refine cutLoop_long hg s hx ht fr _ fr 0 _ (by omega) (Nat.le_refl _) hf hg.pos ?_ ⟨rfl, .inl ⟨rfl, rfl, fun q h1 h2 => by omega⟩⟩
  rw [seg_self]; rfl
end Go.Proofs.Ytmgpdaemcbbikaa

namespace Go.Proofs.Ytmgpdaemcbbikaa
open Go.RowKit Go.Deep
set_option linter.unusedVariables false

def nilsA (n : Nat) : Array Value := (List.replicate n (Value.slice none 0 0)).toArray
theorem nilsA_made (n : Nat) : madeCells #[.slice none 0 0] n = nilsA n := by
  apply Array.toList_inj.1
  rw [toList_madeCells_one]
  simp [nilsA]
theorem makeNils (n : Nat) (hn : n ≤ 100000) (w : World) : (Instr.makeSlice 61 (.int .i64 (n : Int)) (.int .i64 (n : Int))).run Try.prog w = .ok (.slice (some ⟨w.heap.size, 0, none⟩) n n) (w.alloc (.cells (nilsA n) 109)) := by
  rw [run_make_row' (P := Try.prog) 61 109 (.slice none 0 0) 24 Try.underlying61 Try.infoBB3 rfl .i64 .i64 n (by omega) (by omega) w, nilsA_made]
theorem Try.infoBBB3 : (Try.prog.info? 61).map (fun i => (i.zero, i.size, i.bytes)) = some (some (.slice none 0 0), 1, 24) := by kernel_rfl
/-- The rows made so far. -/
structure Begun (w : World) (h N : Nat) (kv : Value) (R : Nat → Nat) (i : Nat) : Prop where
  row : ∃ vs : List Value, w.ownsRow 0 61 1 kv i vs ∧ vs.length = i ∧ ∀ j, j < i → vs[j]? = some (.slice (some ⟨R j, 0, none⟩) N N)
  each : ∀ j, j < i → Blk w (R j) (nilsA N) 109 ∧ h < R j
  inj : ∀ j k, j < i → k < i → R j = R k → j = k
  own : ∀ b, kv.ownBlock = some b → h < b

set_option maxRecDepth 20000 in
set_option maxHeartbeats 1600000 in
theorem begun_any (av tv : Value) (all : List NodeT) (s : ByteArray) (w : World) (ha : NodeRow w av all) (tops : List Nat) (ht : IRow w tv (natsI tops)) (hs : s.size ≤ 50000) (hl : all.length ≤ 2000000) :
    Calls Try.prog 33 #[.agg #[av, tv], .string s] w fun e w' => ∃ kv R, e = .returned (.pointer (some ⟨w.heap.size + 1, 0, none⟩)) ∧ Below w.heap.size w w' ∧ Blk w' (w.heap.size + 1) #[av, tv, .string s, kv] 120 ∧ Begun w' (w.heap.size + 1) (s.size + 1) kv R all.length := by
  obtain ⟨ad, acap, rfl, harow⟩ := ha.form
  obtain ⟨td, tcap, rfl, _⟩ := ht.formN
  clear ht
  obtain ⟨N, hN⟩ : ∃ N, N = s.size + 1 := ⟨_, rfl⟩
  have hN1 : (s.size : Int) + 1 = (N : Int) := by omega
  have hN2 : N ≤ 50001 := by omega
  have hmk := makeNils N (by omega)
  rw [← hN]
  have HA := hide ha
  clear ha hN
  go_enter Try.func33, Try.ntmps33
  go_wp2_with fail
  go_loopg [6] all.length (fun G iv wr => ∃ (i : Nat) (kv : Value) (R : Nat → Nat), iv = .int .i64 (i : Int) ∧ i ≤ all.length ∧ G = all.length - i ∧ Below w.heap.size w wr ∧ Blk wr w.heap.size #[.slice ad all.length acap, .slice td tops.length tcap] 42 ∧ Blk wr (w.heap.size + 1) #[.slice ad all.length acap, .slice td tops.length tcap, .string s, kv] 120 ∧ Begun wr (w.heap.size + 1) N kv R i)
  case atStart => exact ⟨0, .slice none 0 0, fun _ => 0, rfl, by omega, rfl, Below2 _ _ _, (Blk.new _ _ _).alloc _, Blk.at1 _ _ _ _, ⟨[], World.ownsRow_nil _ _ _ _, rfl, fun j hj => by omega⟩, fun j hj => by omega, fun j k hj => by omega, fun b h => by simp [Value.ownBlock] at h⟩
  case round =>
    obtain ⟨i, kv, R, rfl, hi, rfl, hb, hZ, hW, hB⟩ := hrel
    have z0 : wr.cell? ⟨w.heap.size, 0, none⟩ = some (.slice ad all.length acap) := hZ.cell 0
    by_cases hlt : i < all.length
    · have e0 : decide ((i : Int) < (all.length : Int)) = true := by simp; omega
      obtain ⟨vs, hrow, hvl, hvs⟩ := hB.row
      obtain ⟨_, kd9, kcap, rfl, _⟩ := ownsRow_form hrow
      have k2 : wr.cell? ⟨w.heap.size + 1, 3, none⟩ = some (.slice kd9 i kcap) := hW.cell 3
      have kf := hW.frozen 3
      have zW := hW.lt
      obtain ⟨ii, hii, hz0, hz1, hz2⟩ := info_parts Try.infoBBB3
      have hk1 : Kept (fun _ => False) wr ((wr.alloc (.cells (nilsA N) 109)).alloc (.cells #[.slice (some ⟨wr.heap.size, 0, none⟩) N N] 61)).drew := (((Kept.refl _ _).alloc _).alloc _).drew
      have hol := ownsRow_kept hrow hk1 (fun _ _ e => e)
      have HOL := hide hol
      have hnk : (Value.slice kd9 i kcap).ownBlock ≠ some (w.heap.size + 1) := fun e => by have := hB.own _ e; omega
      have hnk2 : some (w.heap.size + 1) ≠ (Value.slice kd9 i kcap).ownBlock := Ne.symm hnk
      have HH : Hid (Below w.heap.size w wr ∧ Blk wr w.heap.size #[.slice ad all.length acap, .slice td tops.length tcap] 42 ∧ Blk wr (w.heap.size + 1) #[.slice ad all.length acap, .slice td tops.length tcap, .string s, .slice kd9 i kcap] 120 ∧ Begun wr (w.heap.size + 1) N (.slice kd9 i kcap) R i ∧ vs.length = i ∧ ∀ j, j < i → vs[j]? = some (.slice (some ⟨R j, 0, none⟩) N N)) := ⟨hb, hZ, hW, hB, hvl, hvs⟩
      have hW2 := hW.kept hk1 (fun e => e)
      have cW2 : ((wr.alloc (.cells (nilsA N) 109)).alloc (.cells #[.slice (some ⟨wr.heap.size, 0, none⟩) N N] 61)).drew.cell? ⟨w.heap.size + 1, 3, none⟩ = some (.slice kd9 i kcap) := hW2.cell 3
      have fW2 := hW2.frozen 3
      have CW2 := hide cW2
      have FW2 := hide fW2
      have hnw : ((wr.alloc (.cells (nilsA N) 109)).alloc (.cells #[.slice (some ⟨wr.heap.size, 0, none⟩) N N] 61)).drew.heap[wr.heap.size + 1]? = some (.cells #[.slice (some ⟨wr.heap.size, 0, none⟩) N N] 61 (0, 0)) := by
        have h9 := heap_alloc_new (wr.alloc (.cells (nilsA N) 109)) (.cells #[.slice (some ⟨wr.heap.size, 0, none⟩) N N] 61)
        have e9 : (wr.alloc (.cells (nilsA N) 109)).heap.size = wr.heap.size + 1 := by simp
        rw [e9] at h9
        exact h9
      have HNW := hide hnw
      clear hnw
      have zW1 : w.heap.size < wr.heap.size := by omega
      have zW2 : w.heap.size + 1 < wr.heap.size + 1 := by omega
      have hzl : w.heap.size + 1 < ((wr.alloc (.cells (nilsA N) 109)).alloc (.cells #[.slice (some ⟨wr.heap.size, 0, none⟩) N N] 61)).drew.heap.size := by simp; omega
      have HZL := hide hzl
      have h63 : i + 1 ≤ maxLen := by unfold maxLen; omega
      have hby : (i + 1) * 24 ≤ 140737488355328 := by omega
      have H63 := hide h63
      have HBY := hide hby
      clear hb hZ hW hB hrow hvl hvs hk1 hol hnk hW2 cW2 fW2 hzl h63 hby
      have hwN : IntKind.i64.wrap (N : Int) = (N : Int) := (Go.IntWalk.i64_left _).trans (by unfold wrap64; omega)
      go_wp2_with fail
      go_region_law ((refine step_append_lies _ (by rfl) _ _ _ (by rfl) 0 61 ii _ 1 24 Try.underlying118 hii hz0 hz1 hz2 rfl (Nat.one_pos) (.slice kd9 i kcap) i vs (by rfl) HOL.out ⟨wr.heap.size + 1, 0, none⟩ 1 1 [.slice (some ⟨wr.heap.size, 0, none⟩) N N] (by rfl) (by rfl) (World.news_of_block (cs := #[.slice (some ⟨wr.heap.size, 0, none⟩) N N]) (t := 61) (fr := (0, 0)) HNW.out) (by simp [Value.oneCell']) (Nat.one_pos) H63.out HBY.out (Nat.zero_le _) (wr.heap.size + 1 + 1) (by simp) ?_; intro gg cap6 w6 hown6 hgrow6 hat6 hlt6; have cg3 := (hgrow6.cell_far ⟨w.heap.size + 1, 3, none⟩ HZL.out hnk2).trans CW2.out; have fg3 := (hgrow6.frozen_far ⟨w.heap.size + 1, 3, none⟩ HZL.out hnk2).trans FW2.out))
      all_goals
        clear hwN
        have HG6 : Hid (w6.ownsRow 0 61 1 (.slice (some ⟨gg, 0, none⟩) (i + 1) cap6) (i + 1) (vs ++ [.slice (some ⟨wr.heap.size, 0, none⟩) N N]) ∧ Kept (fun b => (Value.slice kd9 i kcap).ownBlock = some b) ((wr.alloc (.cells (nilsA N) 109)).alloc (.cells #[.slice (some ⟨wr.heap.size, 0, none⟩) N N] 61)).drew w6 ∧ ((Value.slice kd9 i kcap).ownBlock = some gg ∨ gg = wr.heap.size + 1 + 1)) := ⟨hown6, ⟨hgrow6.os, hgrow6.tape, hgrow6.output, hgrow6.size, fun k hk he => hgrow6.block k hk (fun e => he e.symm)⟩, hat6⟩
        clear hown6 hgrow6 hat6
        go_wp2_with fail
        go_roundg (all.length - (i + 1))
        case measure => omega
        case rel =>
          obtain ⟨g1, g2, g3⟩ := HG6.out
          obtain ⟨q1, q2, q3, q4, q5, q6⟩ := HH.out
          have k1 : Kept (fun _ => False) wr ((wr.alloc (.cells (nilsA N) 109)).alloc (.cells #[.slice (some ⟨wr.heap.size, 0, none⟩) N N] 61)).drew := (((Kept.refl _ _).alloc _).alloc _).drew
          have k9 : Kept (fun b => b = w.heap.size + 1) w6 (w6.setCell ⟨w.heap.size + 1, 3, none⟩ (.slice (some ⟨gg, 0, none⟩) (i + 1) cap6)) := Kept.setCell (ex := fun b => b = w.heap.size + 1) (p := ⟨w.heap.size + 1, 3, none⟩) (Kept.refl _ _) (fun _ => rfl) _
          have ownlt : ∀ b, (Value.slice kd9 i kcap).ownBlock = some b → w.heap.size + 1 < b := q4.own
          have hgg : w.heap.size + 1 < gg := by rcases g3 with e | e; exact ownlt gg e; omega
          have hrow9 := HOL.out
          refine ⟨i + 1, .slice (some ⟨gg, 0, none⟩) (i + 1) cap6, fun j => if j = i then wr.heap.size else R j, by go_num, by omega, rfl, ?_, ?_, ?_, ⟨⟨vs ++ [.slice (some ⟨wr.heap.size, 0, none⟩) N N], ?_, by simp [q5], fun j hj => ?_⟩, fun j hj => ?_, fun j k hj hk he => ?_, fun b hb => ?_⟩⟩
          · have b2 : Below w.heap.size w ((wr.alloc (.cells (nilsA N) 109)).alloc (.cells #[.slice (some ⟨wr.heap.size, 0, none⟩) N N] 61)).drew := q1.trans ⟨k1.os, k1.tape, k1.output, k1.size, fun b hb => k1.block b (by have := q1.size; omega) (fun e => e)⟩
            have b3 : Below w.heap.size w w6 := b2.trans ⟨g2.os, g2.tape, g2.output, g2.size, fun b hb => g2.block b (by have := b2.size; omega) (fun e => by have := ownlt b e; omega)⟩
            exact b3.setCell (p := ⟨w.heap.size + 1, 3, none⟩) (by simp) _
          · exact ((q2.kept k1 (fun e => e)).kept g2 (fun e => by have := ownlt _ e; omega)).kept k9 (by omega)
          · exact ((q3.kept k1 (fun e => e)).kept g2 (fun e => by have := ownlt _ e; omega)).set 3 _
          · exact ownsRow_kept g1 k9 (fun b hb e => by cases (Option.some.inj hb : gg = b); omega)
          · by_cases e : j < i
            · rw [if_neg (by omega), List.getElem?_append_left (by omega)]; exact q6 j e
            · have : j = i := by omega
              subst this
              rw [if_pos rfl, List.getElem?_append_right (by omega), q5]; simp
          · by_cases e : j < i
            · simp only [if_neg (show ¬ j = i by omega)]
              obtain ⟨r1, r2⟩ := q4.each j e
              exact ⟨((r1.kept k1 (fun e => e)).kept g2 (fun e => ownsRow_ne hrow9 (r1.kept k1 (fun e => e)) (by decide) e)).kept k9 (by omega), r2⟩
            · have : j = i := by omega
              subst this
              simp only [if_true]
              have r1 : Blk ((wr.alloc (.cells (nilsA N) 109)).alloc (.cells #[.slice (some ⟨wr.heap.size, 0, none⟩) N N] 61)).drew wr.heap.size (nilsA N) 109 := ((Blk.new wr _ _).alloc _)
              exact ⟨(r1.kept g2 (fun e => ownsRow_ne hrow9 r1 (by decide) e)).kept k9 (by omega), by omega⟩
          · have hRlt : ∀ j, j < i → R j < wr.heap.size := fun j hj => (q4.each j hj).1.lt
            by_cases e1 : j = i <;> by_cases e2 : k = i
            · omega
            · have := hRlt k (by omega); simp only [if_pos e1, if_neg e2] at he; omega
            · have := hRlt j (by omega); simp only [if_neg e1, if_pos e2] at he; omega
            · simp only [if_neg e1, if_neg e2] at he; exact q4.inj j k (by omega) (by omega) he
          · cases (Option.some.inj hb : gg = b); exact hgg
    · have e0 : decide ((i : Int) < (all.length : Int)) = false := by simp; omega
      obtain rfl : i = all.length := by omega
      have HH : Hid (Below w.heap.size w wr ∧ Blk wr (w.heap.size + 1) #[.slice ad all.length acap, .slice td tops.length tcap, .string s, kv] 120 ∧ Begun wr (w.heap.size + 1) N kv R all.length) := ⟨hb, hW, hB⟩
      clear hb hZ hW hB
      go_wp2_with fail
      go_ret
      exact ⟨kv, R, rfl, HH.out⟩
end Go.Proofs.Ytmgpdaemcbbikaa
