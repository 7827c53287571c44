import Derived.Test.YtmgpdaemcbbikaaB44
import Derived.BigQuiet
import Derived.Deep.QuietTactic

namespace Go.Proofs.Ytmgpdaemcbbikaa
open Go.RowKit Go.Deep
set_option linter.unusedVariables false

/-- The tokens of a cut from a place on. -/
def TokChain (kd : Nat → Nat) (g : Graph) (s : ByteArray) : Nat → List TokT → Prop
  | p, [] => p = s.size
  | p, t :: r => p < s.size ∧ t = nextTok kd g s p ∧ TokChain kd g s t.tt r
theorem allTok_chain (kd : Nat → Nat) (g : Graph) (s : ByteArray) : ∀ (n p : Nat) (acc : List TokT), p ≤ s.size → s.size < n + p → ∃ l, allTok kd g s n p acc = acc ++ l ∧ TokChain kd g s p l
  | 0, p, acc, hp, hn => by omega
  | n + 1, p, acc, hp, hn => by
    unfold allTok
    by_cases hlt : p < s.size
    · rw [if_pos hlt]
      obtain ⟨h1, h2, h3⟩ := nextTok_pos kd g s p hlt
      obtain ⟨l, h4, h5⟩ := allTok_chain kd g s n (nextTok kd g s p).tt (acc ++ [nextTok kd g s p]) h2 (by omega)
      exact ⟨nextTok kd g s p :: l, by rw [h4]; simp, hlt, rfl, h5⟩
    · rw [if_neg hlt]
      exact ⟨[], by simp, by show p = s.size; omega⟩
theorem cutF_chain (kd : Nat → Nat) (g : Graph) (s : ByteArray) : TokChain kd g s 0 (cutF kd g s) := by
  obtain ⟨l, h1, h2⟩ := allTok_chain kd g s (s.size + 1) 0 [] (Nat.zero_le _) (by omega)
  unfold cutF
  rw [h1]
  simpa using h2
theorem TokChain.len {kd : Nat → Nat} {g : Graph} {s : ByteArray} : ∀ {l : List TokT} {p : Nat}, TokChain kd g s p l → l.length + p ≤ s.size
  | [], p, h => by have : p = s.size := h; simp; omega
  | t :: r, p, ⟨h1, h2, h3⟩ => by
    have := TokChain.len h3
    have h4 := (nextTok_pos kd g s p h1).1
    rw [← h2] at h4
    simp
    omega
/-- What 'begins' tells. -/
def Begins (rows : List (List Bool)) (N p : Nat) (q : Nat) (r : Int) : Prop :=
  (q = p ∧ r = -1 ∧ ∀ q', p < q' → q' < N → ∀ i, i < rows.length → (rows.getD i []).getD q' false = false) ∨
  (p < q ∧ q < N ∧ ∃ i, i < rows.length ∧ r = (i : Int) ∧ (rows.getD i []).getD q false = true ∧ (∀ j, j < i → (rows.getD j []).getD q false = false) ∧ ∀ q', q < q' → q' < N → ∀ j, j < rows.length → (rows.getD j []).getD q' false = false)
theorem word_row (c : MemoC) (trs : List Tree) (tops : List Nat) (hc : ∀ t, c.tr t = trs.getD t treeD) (p q i : Nat) (hi : i < tops.length) (hi' : i < (topTrees trs tops).length) (hpq : p ≤ q) (hq : q ≤ (bytesN c.s).length) :
    ((wordRows c tops p).getD i []).getD q false = true ↔ ((topTrees trs tops)[i]).Word (seg (bytesN c.s) p q) := by
  have e9 : (wordRows c tops p).getD i [] = rowT (bytesN c.s) (c.tr (tops.getD i 0)) p := by simp [wordRows, hi]
  have e8 : (topTrees trs tops)[i] = c.tr (tops.getD i 0) := by simp [topTrees, hc, hi]
  rw [e9, e8, rowW_getD]
  unfold EndsW
  exact ⟨fun h => h.2.2, fun h => ⟨hpq, hq, h⟩⟩
theorem long_begins (c : MemoC) (trs : List Tree) (tops : List Nat) (hc : ∀ t, c.tr t = trs.getD t treeD) (p q : Nat) (r : Int) (tok : TokT) (hl : LongTok (topTrees trs tops) (bytesN c.s) p tok) (hb : Begins (wordRows c tops p) c.N p q r) :
    tok.fr = p ∧ ((r = -1 ∧ tok.rule = -1 ∧ tok.tt = p + 1) ∨ (r ≠ -1 ∧ tok.rule = r ∧ tok.tt = q)) := by
  have hlen : (topTrees trs tops).length = tops.length := by simp [topTrees]
  have hwl : (wordRows c tops p).length = tops.length := by simp [wordRows]
  have hN : c.N = (bytesN c.s).length + 1 := by unfold MemoC.N; rw [bytesN_len]
  have hno : ∀ q', p < q' → q' ≤ (bytesN c.s).length → (∀ i, i < (wordRows c tops p).length → ((wordRows c tops p).getD i []).getD q' false = false) → ∀ x, TokIs (topTrees trs tops) (seg (bytesN c.s) p q') x → x = -1 := by
    intro q' h1 h2 h3 x hx
    rcases hx with ⟨h4, _⟩ | ⟨i, hi, h4, h5, _⟩
    · exact h4
    · have h6 := h3 i (by omega)
      have h7 := (word_row c trs tops hc p q' i (by omega) hi (by omega) h2).2 h5
      rw [h6] at h7
      cases h7
  refine ⟨hl.1, ?_⟩
  rcases hb with ⟨h1, h2, h3⟩ | ⟨h1, h2, i, hi, h3, h4, h5, h6⟩
  · left
    refine ⟨h2, ?_⟩
    rcases hl.2 with ⟨a, b, _⟩ | ⟨a, b, d, e, _⟩
    · exact ⟨a, b⟩
    · exact absurd (hno tok.tt a b (h3 tok.tt a (by omega)) tok.rule e) d
  · right
    have hq : q ≤ (bytesN c.s).length := by omega
    have hi' : i < (topTrees trs tops).length := by omega
    have htk : TokIs (topTrees trs tops) (seg (bytesN c.s) p q) (i : Int) := by
      refine .inr ⟨i, hi', rfl, (word_row c trs tops hc p q i (by omega) hi' (by omega) hq).1 h4, fun j hj hw => ?_⟩
      have h7 := (word_row c trs tops hc p q j (by omega) (by omega) (by omega) hq).2 hw
      rw [h5 j hj] at h7
      cases h7
    refine ⟨by omega, ?_⟩
    rcases hl.2 with ⟨a, b, d⟩ | ⟨a, b, d, e, f⟩
    · have := (d q h1 hq).one htk
      omega
    · rcases Nat.lt_trichotomy tok.tt q with h | h | h
      · have := (f q h hq).one htk
        omega
      · rw [← h] at htk
        exact ⟨by rw [e.one htk, h3], h⟩
      · exact absurd (hno tok.tt a b (h6 tok.tt h (by omega)) tok.rule e) d
/-- What was begun is what was found so far: nothing. -/
theorem Memo.ofBegun {w : World} {h : Nat} {kv : Value} {R : Nat → Nat} {av tv : Value} {all : List NodeT} {s : ByteArray} {wb : Nat} (tr : Nat → Tree) (hpos : 0 < all.length) (hb : Blk w wb #[av, tv, .string s, kv] 120) (ha : NodeRow w av all) (hB : Begun w h (s.size + 1) kv R all.length) :
    ∃ kg kcap, kv = .slice (some ⟨kg, 0, none⟩) all.length kcap ∧ ∀ A, Memo ⟨wb, kg, kcap, R, av, tv, s, all, tr⟩ A w := by
  obtain ⟨vs, hrow, hvl, hvs⟩ := hB.row
  obtain ⟨_, ad, cap, rfl, ⟨h1, h2⟩ | ⟨kg, cur, rfl, h2, h3, h4, h5, h6⟩⟩ := ownsRow_form hrow
  · omega
  refine ⟨kg, cap, rfl, fun A => ⟨hb, ha, ⟨cur, h2, fun n hn => ?_⟩, fun n hn => ?_, hB.inj⟩⟩
  · have hn' : n < all.length := hn
    have h7 : cur.toList[n]? = vs[n]? := by
      rw [← h6, List.getElem?_take, if_pos (by omega)]
    rw [← Array.getElem?_toList, h7]
    exact hvs n hn
  · refine ⟨nilsA (s.size + 1), (hB.each n hn).1, by simp [nilsA, MemoC.N], fun p hp => .inl ?_⟩
    have hp' : p < s.size + 1 := Nat.lt_succ_of_le hp
    simp [nilsA, hp']
end Go.Proofs.Ytmgpdaemcbbikaa

namespace Go.Proofs.Ytmgpdaemcbbikaa
open Go.RowKit Go.Deep
set_option linter.unusedVariables false

set_option maxRecDepth 20000 in
set_option maxHeartbeats 1600000 in
theorem begins_any (rows : List (List Bool)) (N p : Nat) (v : Value) (w : World) (h : BRows w v rows N) (hN2 : N ≤ 100000) (hp : p < N) (hrl : rows.length ≤ 2000000) (hrn : ∀ i, i < rows.length → (rows.getD i []).length = N) :
    Calls Try.prog 35 #[v, .int .i64 (p : Int)] w fun e w' => ∃ (q : Nat) (r : Int), e = .returned (.tuple #[.int .i64 (q : Int), .int .i64 r]) ∧ Begins rows N p q r ∧ Below w.heap.size w w' := by
  obtain ⟨vs, hrow, hvl, hvs⟩ := h
  obtain ⟨_, ad, cap, rfl, hform⟩ := ownsRow_form hrow
  have HROW := hide hrow
  have HVS := hide hvs
  have HRN := hide hrn
  have HVL := hide hvl
  clear hrow hvs hrn hvl
  by_cases h0 : rows.length = 0
  · have e0 : ((rows.length : Int) == 0) = true := by simp [h0]
    clear hform
    go_enter Try.func35, Try.ntmps35
    go_wp2_with fail
    go_ret2
    exact ⟨p, -1, rfl, .inl ⟨rfl, rfl, fun q' _ _ i hi => by omega⟩, Below.refl _ _⟩
  · have e0 : ((rows.length : Int) == 0) = false := by simp [h0]
    rcases hform with ⟨_, h9⟩ | ⟨g, cur, rfl, _⟩
    · omega
    have hcell : ∀ i, i < rows.length → ∃ b, w.cell? ⟨g, i, none⟩ = some (.slice (some ⟨b, 0, none⟩) N N) ∧ BRow w (.slice (some ⟨b, 0, none⟩) N N) (rows.getD i []) := fun i hi => by
      obtain ⟨b, h1, h2⟩ := HVS.out i hi
      exact ⟨b, by rw [ownsRow_cell HROW.out i (by omega)]; exact h1, h2⟩
    have HC := hide hcell
    obtain ⟨b0, c0, _⟩ := hcell 0 (by omega)
    have r0 : (0 : Int) < (rows.length : Int) := by omega
    clear hcell
    go_enter Try.func35, Try.ntmps35
    go_wp2_with fail
    go_loopg [6] (N - 1 - p) (fun G qv wr => ∃ q : Nat, qv = .int .i64 (q : Int) ∧ p ≤ q ∧ q < N ∧ G = q - p ∧ wr = w ∧ ∀ q', q < q' → q' < N → ∀ i, i < rows.length → (rows.getD i []).getD q' false = false)
    case atStart => exact ⟨N - 1, by go_num, by omega, by omega, rfl, rfl, fun q' h1 h2 => by omega⟩
    case round =>
      obtain ⟨q, rfl, hpq, hqN, rfl, rfl, hno⟩ := hrel
      have HNO := hide hno
      clear hno
      by_cases hlt : p < q
      · have e1 : decide ((p : Int) < (q : Int)) = true := by simp; omega
        go_wp2_with fail
        go_loopg [7] rows.length (fun G iv wi => ∃ i : Nat, iv = .int .i64 (i : Int) ∧ i ≤ rows.length ∧ G = rows.length - i ∧ wi = wr ∧ ∀ j, j < i → (rows.getD j []).getD q false = false)
        case atStart => exact ⟨0, rfl, by omega, rfl, rfl, fun j hj => by omega⟩
        case round =>
          obtain ⟨i, rfl, hi, rfl, rfl, hnj⟩ := hrel
          have HNJ := hide hnj
          clear hnj
          by_cases hli : i < rows.length
          · have e2 : decide ((i : Int) < (rows.length : Int)) = true := by simp; omega
            obtain ⟨b, c1, hB⟩ := HC.out i hli
            have c2 := hB.cellD q (by rw [HRN.out i hli]; exact hqN)
            have HHB := hide (show (rows.getD i []).getD q false = (rows.getD i []).getD q false from rfl)
            generalize hv : (rows.getD i []).getD q false = bv at c2
            have HV := hide hv
            have i0 : (0 : Int) ≤ (i : Int) := by omega
            have i1 : (i : Int) < (rows.length : Int) := by omega
            have q0 : (0 : Int) ≤ (q : Int) := by omega
            have q1 : (q : Int) < (N : Int) := by omega
            clear hv hB HHB
            cases bv with
            | true =>
              go_wp2_with fail
              go_ret2
              exact ⟨q, (i : Int), rfl, .inr ⟨hlt, hqN, i, hli, rfl, HV.out, HNJ.out, HNO.out⟩, Below.refl _ _⟩
            | false =>
              go_wp2_with fail
              go_roundg (rows.length - (i + 1))
              case measure => omega
              case rel =>
                refine ⟨i + 1, by go_num, by omega, rfl, rfl, fun j hj => ?_⟩
                by_cases e : j < i
                · exact HNJ.out j e
                · rw [show j = i by omega]; exact HV.out
          · have e2 : decide ((i : Int) < (rows.length : Int)) = false := by simp; omega
            obtain rfl : i = rows.length := by omega
            go_wp2_with fail
            go_roundg (q - 1 - p)
            case measure => omega
            case rel =>
              refine ⟨q - 1, by go_num, by omega, by omega, rfl, rfl, fun q' h1 h2 j hj => ?_⟩
              by_cases e : q < q'
              · exact HNO.out q' e h2 j hj
              · rw [show q' = q by omega]; exact HNJ.out j hj
      · have e1 : decide ((p : Int) < (q : Int)) = false := by simp; omega
        obtain rfl : q = p := by omega
        go_wp2_with fail
        go_ret2
        exact ⟨q, -1, rfl, .inl ⟨rfl, rfl, HNO.out⟩, Below.refl _ _⟩
end Go.Proofs.Ytmgpdaemcbbikaa

namespace Go.Proofs.Ytmgpdaemcbbikaa
open Go.RowKit Go.Deep
set_option linter.unusedVariables false

/-- Tokens that lie side by side. -/
def SideBy : Nat → List TokT → Nat → Prop
  | p, [], n => p = n
  | p, t :: r, n => t.fr = p ∧ p < t.tt ∧ -1 ≤ t.rule ∧ (t.rule = -1 → t.tt = p + 1) ∧ t.tt ≤ n ∧ SideBy t.tt r n
theorem TokChain.side {ts : List Tree} {kd : Nat → Nat} {g : Graph} {s : ByteArray} (hl : ∀ p, p < s.size → LongTok ts (bytesN s) p (nextTok kd g s p)) : ∀ {l : List TokT} {p : Nat}, TokChain kd g s p l → SideBy p l s.size
  | [], p, h => h
  | t :: r, p, ⟨h1, h2, h3⟩ => by
    have h4 := hl p h1
    obtain ⟨a, b, c⟩ := nextTok_pos kd g s p h1
    rw [← h2] at h4 a b c
    refine ⟨c, a, ?_, ?_, b, TokChain.side hl h3⟩
    · rcases h4.2 with ⟨e, _⟩ | ⟨_, _, _, e, _⟩
      · omega
      · rcases e with ⟨e, _⟩ | ⟨i, _, e, _⟩ <;> omega
    · intro e
      rcases h4.2 with ⟨_, e2, _⟩ | ⟨_, _, e2, _⟩
      · exact e2
      · exact absurd e e2

set_option maxRecDepth 20000 in
set_option maxHeartbeats 1600000 in
theorem beside_any (l : List TokT) (n : Nat) (v : Value) (w : World) (h : TokRow w v l) (hs : SideBy 0 l n) (hn : n ≤ 100000) (hll : l.length ≤ 100000) :
    Calls Try.prog 32 #[v, .int .i64 (n : Int)] w fun e w' => e = .returned (.bool true) ∧ Below w.heap.size w w' := by
  obtain ⟨ad, cap, rfl, hrow⟩ := h.form
  have HT := hide h
  have HS := hide hs
  clear h hs
  go_enter Try.func32, Try.ntmps32
  go_wp2_with fail
  go_loopg [5, 6] l.length (fun G pv iv wr => ∃ (p i : Nat), pv = .int .i64 (p : Int) ∧ iv = .int .i64 (i : Int) ∧ i ≤ l.length ∧ G = l.length - i ∧ p ≤ n ∧ SideBy p (l.drop i) n ∧ Below w.heap.size w wr)
  case atStart => exact ⟨0, 0, rfl, rfl, by omega, rfl, by omega, HS.out, Below.refl _ _⟩
  case round =>
    obtain ⟨p, i, rfl, rfl, hi, rfl, hp, hsd, hb⟩ := hrel
    by_cases hlt : i < l.length
    · have e0 : decide ((i : Int) < (l.length : Int)) = true := by simp; omega
      rcases hrow with h0 | ⟨tg, rfl⟩
      · omega
      obtain ⟨g0, g1, g2⟩ := toksC_get l i hlt
      have hT := HT.out.below hb
      have c0 := (ownsRow_cell hT (i * 3) (by omega)).trans g0
      have c1 := (ownsRow_cell hT (i * 3 + 1) (by omega)).trans g1
      have c2 := (ownsRow_cell hT (i * 3 + 2) (by omega)).trans g2
      rw [List.drop_eq_getElem_cons hlt] at hsd
      obtain ⟨s1, s2, s3, s4, s5, s6⟩ := hsd
      generalize l[i] = t at c0 c1 c2 s1 s2 s3 s4 s5 s6
      obtain ⟨tr, tf, ttt⟩ := t
      simp only at c0 c1 c2 s1 s2 s3 s4 s5 s6
      subst s1
      have e1 : ((tf : Int) != (tf : Int)) = false := by simp
      have e2 : decide ((ttt : Int) ≤ (tf : Int)) = false := by simp; omega
      have e3 : decide (tr < (-1 : Int)) = false := by simp; omega
      have i0 : (0 : Int) ≤ (i : Int) := by omega
      have i1 : (i : Int) < (l.length : Int) := by omega
      have HSD := hide s6
      have HB := hide hb
      by_cases hr : tr = -1
      · subst hr
        have s7 := s4 rfl
        subst s7
        clear s4 s6 g0 g1 g2 hT hb e3 s3
        have e5 : (((tf + 1 : Nat) : Int) != (tf : Int) + 1) = false := by simp
        go_wp2_with fail
        go_roundg (l.length - (i + 1))
        case measure => omega
        case rel => exact ⟨tf + 1, i + 1, by go_num, by go_num, by omega, rfl, by omega, HSD.out, HB.out⟩
      · have e4 : (tr == -1) = false := by simp [hr]
        clear s4 s6 g0 g1 g2 hT hb
        go_wp2_with fail
        go_roundg (l.length - (i + 1))
        case measure => omega
        case rel => exact ⟨ttt, i + 1, by go_num, by go_num, by omega, rfl, by omega, HSD.out, HB.out⟩
    · have e0 : decide ((i : Int) < (l.length : Int)) = false := by simp; omega
      obtain rfl : i = l.length := by omega
      rw [List.drop_length] at hsd
      have hpn : p = n := hsd
      subst hpn
      have HB := hide hb
      clear hb hsd
      go_wp2_with fail
      go_ret
      exact ⟨rfl, HB.out⟩
end Go.Proofs.Ytmgpdaemcbbikaa

namespace Go.Proofs.Ytmgpdaemcbbikaa
set_option linter.unusedVariables false

structure Fitted (all : List NodeT) (tops : List Nat) (trs : List Tree) : Prop where
  len : trs.length = all.length
  fit : ∀ n, n < all.length → NFit all trs n
  ne : tops ≠ []
  into : ∀ k, k < tops.length → tops.getD k 0 < all.length
theorem builtFold_ne : ∀ (ops : List OpT) (st : List NodeT × List Nat), st.2 ≠ [] → (builtFold ops st).2 ≠ []
  | [], st, h => h
  | o :: r, st, h => builtFold_ne r (builtStep st o) (by simp [builtStep])
theorem built_fit (ops : List OpT) : ∃ i trs, i ≤ ops.length + 1 ∧ BInv i (builtF ops) ∧ Fitted (builtF ops).1 (builtF ops).2 trs := by
  cases ops with
  | nil =>
    have e : builtF [] = ([nodeA], [0]) := rfl
    rw [e]
    refine ⟨1, [.leaf 0 97 0], by simp, ⟨fun t ht => by simp at ht; simp [ht], by simp, rfl, by decide, fun x hx => by simp at hx; subst hx; decide⟩, ⟨rfl, fun n hn => ?_, by simp, fun k hk => ?_⟩⟩
    · have : n = 0 := by simpa using hn
      subst this
      exact NFit.last (all := []) (trs := []) rfl nodeA (.leaf 0 97 0) rfl rfl ⟨by omega, by omega, fun h => by omega⟩ (.inr (.inr (.inr (.inr (.inr ⟨by decide, rfl⟩)))))
    · have : k = 0 := by simpa using hk
      subst this
      decide
  | cons o r =>
    obtain ⟨h1, h2, h3⟩ := fold_fit (o :: r) 0 [] ([], []) ⟨fun t ht => by simp at ht, by simp, rfl, by simp, fun x hx => by simp at hx⟩ rfl (fun n hn => by simp at hn)
    have hne : (builtFold (o :: r) ([], [])).2 ≠ [] := builtFold_ne r (builtStep ([], []) o) (by simp [builtStep])
    have e : builtF (o :: r) = builtFold (o :: r) ([], []) := by
      unfold builtF
      rw [if_neg (fun e => hne (List.eq_nil_of_length_eq_zero e))]
    rw [e]
    exact ⟨0 + (o :: r).length, _, by omega, h1, h2, h3, hne, fun k hk => h1.tops _ (by simp [hk])⟩
theorem Fitted.tree {all : List NodeT} {tops : List Nat} {trs : List Tree} (h : Fitted all tops trs) : topTrees trs tops ≠ [] ∧ (∀ t ∈ topTrees trs tops, t.ok) ∧ spellK all tops tops.length = (bytesOf (joinT ((topTrees trs tops).map Tree.spell)), placesAll (topTrees trs tops)) := by
  refine ⟨fun e => h.ne ?_, fun t ht => ?_, ?_⟩
  · have : (topTrees trs tops).length = 0 := by rw [e]; rfl
    simp [topTrees] at this
    exact this
  · simp only [topTrees, List.mem_map] at ht
    obtain ⟨k, hk, rfl⟩ := ht
    obtain ⟨j, hj, rfl⟩ := List.getElem_of_mem hk
    have h1 := h.into j hj
    have h2 : tops.getD j 0 = tops[j] := by simp [hj]
    rw [h2] at h1
    exact (h.fit _ h1).ok
  · have h1 := spellK_trees h.fit h.into tops.length (Nat.le_refl _)
    rw [h1, List.take_of_length_le (by simp [topTrees])]
/-- The premise of 'given', and what its lexer is. -/
theorem Fitted.given {all : List NodeT} {tops : List Nat} {trs : List Tree} (h : Fitted all tops trs) :
    (newF (spellK all tops tops.length).1 = .bad 1 0 ∧ 120 < (spellK all tops tops.length).1.size) ∨ (newF (spellK all tops tops.length).1 = .bad 3 0 ∧ (spellK all tops tops.length).1.size ≤ 120 ∧ 5 < (spellK all tops tops.length).2) ∨ ((spellK all tops tops.length).1.size ≤ 120 ∧ ∃ kd g, newF (spellK all tops tops.length).1 = .lexer kd g) := by
  obtain ⟨h1, h2, h3⟩ := h.tree
  rw [h3]
  rcases new_trees (topTrees trs tops) h1 h2 with e | e | ⟨e1, kd, g, e2, _⟩
  · exact .inl e
  · exact .inr (.inl e)
  · exact .inr (.inr ⟨e1, kd, g, e2⟩)
/-- Its lexer cuts off the longest tokens. -/
theorem Fitted.long {all : List NodeT} {tops : List Nat} {trs : List Tree} (h : Fitted all tops trs) {kd : Nat → Nat} {g : Graph} (hn : newF (spellK all tops tops.length).1 = .lexer kd g) (s : ByteArray) (p : Nat) (hp : p ≤ s.size) : LongTok (topTrees trs tops) (bytesN s) p (nextTok kd g s p) := by
  obtain ⟨h1, h2, h3⟩ := h.tree
  rw [h3] at hn
  rcases new_trees (topTrees trs tops) h1 h2 with ⟨e, _⟩ | ⟨e, _⟩ | ⟨_, kd', g', e2, e3, e4⟩
  · rw [e] at hn; cases hn
  · rw [e] at hn; cases hn
  · rw [e2] at hn
    injection hn with a b
    subst a b
    refine nextTok_long (build_lexG e3) s (fun x hx => ?_) (fun w hw hx => lexer_tok e3 e4 w hw hx) p hp
    simp only [bytesN, List.mem_map] at hx
    obtain ⟨b, _, rfl⟩ := hx
    exact b.toNat_lt
theorem Fitted.nodes {all : List NodeT} {tops : List Nat} {trs : List Tree} (h : Fitted all tops trs) (c : MemoC) (hc : c.all = all) (ht : ∀ t, c.tr t = trs.getD t treeD) (n : Nat) (hn : n < c.all.length) : NodeFits c n := by
  subst hc
  refine ⟨_, rfl, ?_⟩
  have := (h.fit n hn).form
  simp only at this
  simp only [ht]
  exact this
end Go.Proofs.Ytmgpdaemcbbikaa
