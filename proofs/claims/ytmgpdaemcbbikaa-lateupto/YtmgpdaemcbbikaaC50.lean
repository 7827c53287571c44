import Derived.Test.YtmgpdaemcbbikaaC49
import Derived.BigQuiet
import Derived.Deep.QuietTactic
import Derived.Test.YtmgpdaemcbbikaaC37

namespace Go.Proofs.Ytmgpdaemcbbikaa
open Go.RowKit Go.Deep
set_option linter.unusedVariables false

set_option maxRecDepth 20000 in
set_option maxHeartbeats 1600000 in
theorem begins_any (rows : List (List Bool)) (N p : Nat) (v : Value) (w : World) (h : BRows w v rows N) (hN2 : N ≤ 100000) (hp : p < N) (hrl : rows.length ≤ 2000000) (hrn : ∀ i, i < rows.length → (rows.getD i []).length = N) :
    Calls Try.prog 35 #[v, .int .i64 (p : Int)] w fun e w' => ∃ (q : Nat) (r : Int), e = .returned (.tuple #[.int .i64 (q : Int), .int .i64 r]) ∧ Begins rows N p q r ∧ Below w.heap.size w w' := by
  obtain ⟨vs, hrow, hvl, hvs⟩ := h
  obtain ⟨_, ad, cap, rfl, hform⟩ := ownsRow_form hrow
  have HROW := hide hrow
  have HVS := hide hvs
  have HRN := hide hrn
  have HVL := hide hvl
  clear hrow hvs hrn hvl
  by_cases h0 : rows.length = 0
  · have e0 : ((rows.length : Int) == 0) = true := by simp [h0]
    clear hform
    go_enter Try.func35, Try.ntmps35
    go_wp2_with fail
    go_ret2
    exact ⟨p, -1, rfl, .inl ⟨rfl, rfl, fun q' _ _ i hi => by omega⟩, Below.refl _ _⟩
  · have e0 : ((rows.length : Int) == 0) = false := by simp [h0]
    rcases hform with ⟨_, h9⟩ | ⟨g, cur, rfl, _⟩
    · omega
    have hcell : ∀ i, i < rows.length → ∃ b, w.cell? ⟨g, i, none⟩ = some (.slice (some ⟨b, 0, none⟩) N N) ∧ BRow w (.slice (some ⟨b, 0, none⟩) N N) (rows.getD i []) := fun i hi => by
      obtain ⟨b, h1, h2⟩ := HVS.out i hi
      exact ⟨b, by rw [ownsRow_cell HROW.out i (by omega)]; exact h1, h2⟩
    have HC := hide hcell
    obtain ⟨b0, c0, _⟩ := hcell 0 (by omega)
    have r0 : (0 : Int) < (rows.length : Int) := by omega
    clear hcell
    go_enter Try.func35, Try.ntmps35
    go_wp2_with fail
    go_loopg [6] (N - 1 - p) (fun G qv wr => ∃ q : Nat, qv = .int .i64 (q : Int) ∧ p ≤ q ∧ q < N ∧ G = q - p ∧ wr = w ∧ ∀ q', q < q' → q' < N → ∀ i, i < rows.length → (rows.getD i []).getD q' false = false)
    case atStart => exact ⟨N - 1, by go_num, by omega, by omega, rfl, rfl, fun q' h1 h2 => by omega⟩
    case round =>
      obtain ⟨q, rfl, hpq, hqN, rfl, rfl, hno⟩ := hrel
      have HNO := hide hno
      clear hno
      by_cases hlt : p < q
      · have e1 : decide ((p : Int) < (q : Int)) = true := by simp; omega
        go_wp2_with fail
        go_loopg [7] rows.length (fun G iv wi => ∃ i : Nat, iv = .int .i64 (i : Int) ∧ i ≤ rows.length ∧ G = rows.length - i ∧ wi = wr ∧ ∀ j, j < i → (rows.getD j []).getD q false = false)
        case atStart => exact ⟨0, rfl, by omega, rfl, rfl, fun j hj => by omega⟩
        case round =>
          obtain ⟨i, rfl, hi, rfl, rfl, hnj⟩ := hrel
          have HNJ := hide hnj
          clear hnj
          by_cases hli : i < rows.length
          · have e2 : decide ((i : Int) < (rows.length : Int)) = true := by simp; omega
            obtain ⟨b, c1, hB⟩ := HC.out i hli
            have c2 := hB.cellD q (by rw [HRN.out i hli]; exact hqN)
            have HHB := hide (show (rows.getD i []).getD q false = (rows.getD i []).getD q false from rfl)
            generalize hv : (rows.getD i []).getD q false = bv at c2
            have HV := hide hv
            have i0 : (0 : Int) ≤ (i : Int) := by omega
            have i1 : (i : Int) < (rows.length : Int) := by omega
            have q0 : (0 : Int) ≤ (q : Int) := by omega
            have q1 : (q : Int) < (N : Int) := by omega
            clear hv hB HHB
            cases bv with
            | true =>
              go_wp2_with fail
              go_ret2
              exact ⟨q, (i : Int), rfl, .inr ⟨hlt, hqN, i, hli, rfl, HV.out, HNJ.out, HNO.out⟩, Below.refl _ _⟩
            | false =>
              go_wp2_with fail
              go_roundg (rows.length - (i + 1))
              case measure => omega
              case rel =>
                refine ⟨i + 1, by go_num, by omega, rfl, rfl, fun j hj => ?_⟩
                by_cases e : j < i
                · exact HNJ.out j e
                · rw [show j = i by omega]; exact HV.out
          · have e2 : decide ((i : Int) < (rows.length : Int)) = false := by simp; omega
            obtain rfl : i = rows.length := by omega
            go_wp2_with fail
            go_roundg (q - 1 - p)
            case measure => omega
            case rel =>
              refine ⟨q - 1, by go_num, by omega, by omega, rfl, rfl, fun q' h1 h2 j hj => ?_⟩
              by_cases e : q < q'
              · exact HNO.out q' e h2 j hj
              · rw [show q' = q by omega]; exact HNJ.out j hj
      · have e1 : decide ((p : Int) < (q : Int)) = false := by simp; omega
        obtain rfl : q = p := by omega
        go_wp2_with fail
        go_ret2
        exact ⟨q, -1, rfl, .inl ⟨rfl, rfl, HNO.out⟩, Below.refl _ _⟩
end Go.Proofs.Ytmgpdaemcbbikaa

namespace Go.Proofs.Ytmgpdaemcbbikaa
open Go.RowKit Go.Deep
set_option linter.unusedVariables false

/-- Tokens that lie side by side. -/
def SideBy : Nat → List TokT → Nat → Prop
  | p, [], n => p = n
  | p, t :: r, n => t.fr = p ∧ p < t.tt ∧ -1 ≤ t.rule ∧ (t.rule = -1 → t.tt = p + 1) ∧ t.tt ≤ n ∧ SideBy t.tt r n
theorem TokChain.side {ts : List Tree} {kd : Nat → Nat} {g : Graph} {s : ByteArray} (hl : ∀ p, p < s.size → LongTok ts (bytesN s) p (nextTok kd g s p)) : ∀ {l : List TokT} {p : Nat}, TokChain kd g s p l → SideBy p l s.size
  | [], p, h => h
  | t :: r, p, ⟨h1, h2, h3⟩ => by
    have h4 := hl p h1
    obtain ⟨a, b, c⟩ := nextTok_pos kd g s p h1
    rw [← h2] at h4 a b c
    refine ⟨c, a, ?_, ?_, b, TokChain.side hl h3⟩
    · rcases h4.2 with ⟨e, _⟩ | ⟨_, _, _, e, _⟩
      · omega
      · rcases e with ⟨e, _⟩ | ⟨i, _, e, _⟩ <;> omega
    · intro e
      rcases h4.2 with ⟨_, e2, _⟩ | ⟨_, _, e2, _⟩
      · exact e2
      · exact absurd e e2

set_option maxRecDepth 20000 in
set_option maxHeartbeats 1600000 in
theorem beside_any (l : List TokT) (n : Nat) (v : Value) (w : World) (h : TokRow w v l) (hs : SideBy 0 l n) (hn : n ≤ 100000) (hll : l.length ≤ 100000) :
    Calls Try.prog 32 #[v, .int .i64 (n : Int)] w fun e w' => e = .returned (.bool true) ∧ Below w.heap.size w w' := by
  obtain ⟨ad, cap, rfl, hrow⟩ := h.form
  have HT := hide h
  have HS := hide hs
  clear h hs
  go_enter Try.func32, Try.ntmps32
  go_wp2_with fail
  go_loopg [5, 6] l.length (fun G pv iv wr => ∃ (p i : Nat), pv = .int .i64 (p : Int) ∧ iv = .int .i64 (i : Int) ∧ i ≤ l.length ∧ G = l.length - i ∧ p ≤ n ∧ SideBy p (l.drop i) n ∧ Below w.heap.size w wr)
  case atStart => exact ⟨0, 0, rfl, rfl, by omega, rfl, by omega, HS.out, Below.refl _ _⟩
  case round =>
    obtain ⟨p, i, rfl, rfl, hi, rfl, hp, hsd, hb⟩ := hrel
    by_cases hlt : i < l.length
    · have e0 : decide ((i : Int) < (l.length : Int)) = true := by simp; omega
      rcases hrow with h0 | ⟨tg, rfl⟩
      · omega
      obtain ⟨g0, g1, g2⟩ := toksC_get l i hlt
      have hT := HT.out.below hb
      have c0 := (ownsRow_cell hT (i * 3) (by omega)).trans g0
      have c1 := (ownsRow_cell hT (i * 3 + 1) (by omega)).trans g1
      have c2 := (ownsRow_cell hT (i * 3 + 2) (by omega)).trans g2
      rw [List.drop_eq_getElem_cons hlt] at hsd
      obtain ⟨s1, s2, s3, s4, s5, s6⟩ := hsd
      generalize l[i] = t at c0 c1 c2 s1 s2 s3 s4 s5 s6
      obtain ⟨tr, tf, ttt⟩ := t
      simp only at c0 c1 c2 s1 s2 s3 s4 s5 s6
      subst s1
      have e1 : ((tf : Int) != (tf : Int)) = false := by simp
      have e2 : decide ((ttt : Int) ≤ (tf : Int)) = false := by simp; omega
      have e3 : decide (tr < (-1 : Int)) = false := by simp; omega
      have i0 : (0 : Int) ≤ (i : Int) := by omega
      have i1 : (i : Int) < (l.length : Int) := by omega
      have HSD := hide s6
      have HB := hide hb
      by_cases hr : tr = -1
      · subst hr
        have s7 := s4 rfl
        subst s7
        clear s4 s6 g0 g1 g2 hT hb e3 s3
        have e5 : (((tf + 1 : Nat) : Int) != (tf : Int) + 1) = false := by simp
        go_wp2_with fail
        go_roundg (l.length - (i + 1))
        case measure => omega
        case rel => exact ⟨tf + 1, i + 1, by go_num, by go_num, by omega, rfl, by omega, HSD.out, HB.out⟩
      · have e4 : (tr == -1) = false := by simp [hr]
        clear s4 s6 g0 g1 g2 hT hb
        go_wp2_with fail
        go_roundg (l.length - (i + 1))
        case measure => omega
        case rel => exact ⟨ttt, i + 1, by go_num, by go_num, by omega, rfl, by omega, HSD.out, HB.out⟩
    · have e0 : decide ((i : Int) < (l.length : Int)) = false := by simp; omega
      obtain rfl : i = l.length := by omega
      rw [List.drop_length] at hsd
      have hpn : p = n := hsd
      subst hpn
      have HB := hide hb
      clear hb hsd
      go_wp2_with fail
      go_ret
      exact ⟨rfl, HB.out⟩
end Go.Proofs.Ytmgpdaemcbbikaa

namespace Go.Proofs.Ytmgpdaemcbbikaa
open Go.RowKit Go.Deep
set_option linter.unusedVariables false

/-- What the steps come to: their nodes, their trees. -/
theorem spell_ok {i : Nat} {st : List NodeT × List Nat} (h : BInv i st) (hi : i ≤ 1048577) : SpellOk st.1 st.2 := by
  have h1 : ∀ k, k ≤ st.2.length → (spellK st.1 st.2 k).1.size ≤ ((st.2.take k).map (fun t => (st.1.getD t nodeD).text.size)).sum + k ∧ (spellK st.1 st.2 k).2 ≤ ((st.2.take k).map (fun t => (st.1.getD t nodeD).text.size)).sum := by
    intro k
    induction k with
    | zero => intro _; exact ⟨Nat.zero_le _, Nat.zero_le _⟩
    | succ k ih =>
      intro hk
      obtain ⟨a, b⟩ := ih (by omega)
      have hlt : k < st.2.length := by omega
      have e : (st.2.take (k + 1)).map (fun t => (st.1.getD t nodeD).text.size) = (st.2.take k).map (fun t => (st.1.getD t nodeD).text.size) ++ [(st.1.getD (st.2.getD k 0) nodeD).text.size] := by
        rw [List.take_succ_eq_append_getElem hlt, List.map_append, List.map_cons, List.map_nil]
        have e9 : st.2.getD k 0 = st.2[k] := by simp [hlt]
        rw [e9]
      have hpl : (st.1.getD (st.2.getD k 0) nodeD).places ≤ (st.1.getD (st.2.getD k 0) nodeD).text.size := by
        have h3 : st.2.getD k 0 < st.1.length := h.tops _ (by simp [hlt])
        exact h.pl _ (by rw [List.getD_eq_getElem?_getD, List.getElem?_eq_getElem h3]; exact List.getElem_mem h3)
      rw [e, List.sum_append]
      unfold spellK
      have e1 : (⟨#[10]⟩ : ByteArray).size = 1 := rfl
      constructor
      · simp only [ByteArray.size_append, List.sum_cons, List.sum_nil]
        split
        · simp only [ByteArray.size_append]; omega
        · omega
      · simp only [List.sum_cons, List.sum_nil]
        omega
  have hsum := h.sum
  have hlen := h.len
  have hall := h.all
  refine ⟨fun k hk => h.tops _ (by simp [hk]), fun k hk => ?_, fun k hk => ?_, by omega⟩
  · obtain ⟨a, b⟩ := h1 k hk
    have h4 := sum_take_le (st.2.map (fun t => (st.1.getD t nodeD).text.size)) k
    rw [← List.map_take] at h4
    omega
  · obtain ⟨a, b, c⟩ := h.text hk
    omega

set_option maxRecDepth 20000 in
set_option maxHeartbeats 6400000 in
theorem longest_x (CU : ∀ w : World, Calls Try.prog 30 #[] w fun e w' => e = .returned (.bool true) ∧ Below w.heap.size w w')
  (BU : ∀ (ops : List OpT) (v : Value) (w : World) (h : OpsAt w v ops), Calls Try.prog 21 #[v] w fun e w' => ∃ av tv, e = .returned (.agg #[av, tv]) ∧ NodeRow w' av (builtF ops).1 ∧ IRow w' tv (natsI (builtF ops).2) ∧ Below w.heap.size w w')
  (SP : ∀ (pb : Nat) (kd : Nat → Nat) (g : Graph) (s : ByteArray) (w : World) (h : LexAt w pb kd g) (ho : LexOk kd g) (hs : s.size ≤ maxLen), Calls Try.prog 31 #[.pointer (some ⟨pb, 0, none⟩), .string s] w fun e w' => Below w.heap.size w w' ∧
      ((4096 < s.size ∧ e = .returned (.tuple #[.slice none 0 0, .int .i64 5])) ∨ (s.size ≤ 4096 ∧ ∃ v, e = .returned (.tuple #[v, .int .i64 0]) ∧ TokRow w' v (cutF kd g s) ∧ ∀ b, v.ownBlock = some b → w.heap.size ≤ b)))
  (ops : List OpT) (v : Value) (s : ByteArray) (W : World) (h : OpsAt W v ops) (hs : s.size ≤ 1048576) :
    Calls Try.prog 8 #[v, .string s] W fun e W' => e = .returned (.bool true) ∧ Below W.heap.size W W' := by
  obtain ⟨i0, trs, hi0, hinv, hfit⟩ := built_fit ops
  have hfew := h.few
  have hso := spell_ok hinv (by omega)
  have hall := hinv.all
  have hlen := hinv.len
  have HCU := hide CU
  have HSP := hide SP
  have HBU := hide (fun (w : World) (hb : Below W.heap.size W w) => BU ops v w (h.below hb))
  obtain ⟨⟨od, ocap, rfl, _⟩, _, _⟩ := h
  clear CU BU SP hinv
  generalize builtF ops = st at HBU hso hfit hall hlen
  obtain ⟨all, tops⟩ := st
  simp only at HBU hso hfit hall hlen
  have hal : all.length ≤ 1048577 := by omega
  have htl : tops.length ≤ 1048577 := by omega
  have HSO := hide hso
  have HFIT := hide hfit
  clear hso hfit hall hlen hi0
  go_enter Try.func8, Try.ntmps8
  go_wp2_with fail
  refine (HCU.out _).mono ?_
  rintro e w1 ⟨rfl, hb1⟩
  have HB1 := hide hb1
  clear hb1
  go_wp2_with fail
  refine (HBU.out _ HB1.out).mono ?_
  rintro e w2 ⟨av, tv, rfl, ha, ht, hb2⟩
  obtain ⟨ad, acap, rfl, harow⟩ := ha.form
  obtain ⟨td, tcap, rfl, htrow⟩ := ht.formN
  obtain ⟨w2', hw2⟩ : ∃ w2' : World, w2.alloc (.cells #[.slice ad all.length acap, .slice td tops.length tcap] 42) = w2' := ⟨_, rfl⟩
  have hbb : Below W.heap.size W w2' := by rw [← hw2]; exact (HB1.out.trans (hb2.mono HB1.out.size)).alloc (by have := HB1.out.size; have := hb2.size; omega) _
  have hrb : Blk w2' w2.heap.size #[.slice ad all.length acap, .slice td tops.length tcap] 42 := by rw [← hw2]; exact Blk.new _ _ _
  have ha' : NodeRow w2' (.slice ad all.length acap) all := by rw [← hw2]; exact ha.below (Below1 _ _)
  have ht' : IRow w2' (.slice td tops.length tcap) (natsI tops) := by rw [← hw2]; exact ht.below (Below1 _ _)
  have HGI := hide (given_any all tops _ _ w2' ha' ht' HSO.out HFIT.out.given)
  have HB2 : Hid (NodeRow w2' (.slice ad all.length acap) all ∧ IRow w2' (.slice td tops.length tcap) (natsI tops) ∧ Below W.heap.size W w2' ∧ Blk w2' w2.heap.size #[.slice ad all.length acap, .slice td tops.length tcap] 42) := ⟨ha', ht', hbb, hrb⟩
  have r0 := hrb.cell 0
  have r1 := hrb.cell 1
  clear ha ht hb2 ha' ht' hbb hrb
  go_wp2_with fail
  try rw [hw2]
  clear hw2
  refine HGI.out.mono ?_
  rintro e w3 ⟨hb3, hres⟩
  have HB3 : Hid (NodeRow w3 (.slice ad all.length acap) all ∧ IRow w3 (.slice td tops.length tcap) (natsI tops) ∧ Below W.heap.size W w3 ∧ Blk w3 w2.heap.size #[.slice ad all.length acap, .slice td tops.length tcap] 42) :=
    ⟨HB2.out.1.below hb3, HB2.out.2.1.below hb3, HB2.out.2.2.1.trans (hb3.mono HB2.out.2.2.1.size), HB2.out.2.2.2.below hb3⟩
  clear hb3 HB2 HGI r0 r1
  rcases hres with ⟨kd, g, pb, hnw, rfl, hL⟩ | rfl
  · have hLT := fun (p : Nat) (hp : p ≤ s.size) => HFIT.out.long hnw s p hp
    have HLT := hide hLT
    have HSP1 := hide (HSP.out pb kd g s w3 hL (newF_lexOk hnw).1 (by unfold maxLen; omega))
    clear hLT hnw HSP hL
    go_wp2_with fail
    refine HSP1.out.mono ?_
    rintro e w4 ⟨hb4, hres⟩
    have HB4 : Hid (NodeRow w4 (.slice ad all.length acap) all ∧ IRow w4 (.slice td tops.length tcap) (natsI tops) ∧ Below W.heap.size W w4 ∧ Blk w4 w2.heap.size #[.slice ad all.length acap, .slice td tops.length tcap] 42) :=
      ⟨HB3.out.1.below hb4, HB3.out.2.1.below hb4, HB3.out.2.2.1.trans (hb4.mono HB3.out.2.2.1.size), HB3.out.2.2.2.below hb4⟩
    have z34 := hb4.size
    clear hb4 HB3 HSP1
    rcases hres with ⟨hz, rfl⟩ | ⟨hz, lv, rfl, hT, hv⟩
    · have e1 : decide ((4096 : Int) < (s.size : Int)) = true := by simp; omega
      go_wp2_with fail
      go_ret
      exact ⟨rfl, HB4.out.2.2.1⟩
    · have e1 : decide ((4096 : Int) < (s.size : Int)) = false := by simp; omega
      have hch := cutF_chain kd g s
      have hcl := hch.len
      have HT := hide hT
      generalize cutF kd g s = l at hT HT hch hcl
      obtain ⟨ld, lcap, rfl, hlrow⟩ := hT.form
      have HCH := hide hch
      clear hT hv hch
      by_cases h300 : 300 < s.size
      · have e2 : decide ((300 : Int) < (s.size : Int)) = true := by simp; omega
        have HBS := hide (beside_any l s.size _ w4 HT.out (HCH.out.side (fun p hp => HLT.out p (by omega))) (by omega) (by omega))
        go_wp2_with fail
        refine HBS.out.mono ?_
        rintro e w5 ⟨rfl, hb5⟩
        have HB5 := hide (HB4.out.2.2.1.trans (hb5.mono HB4.out.2.2.1.size))
        clear hb5
        go_wp2_with fail
        go_ret
        exact ⟨rfl, HB5.out⟩
      · have e2 : decide ((300 : Int) < (s.size : Int)) = false := by simp; omega
        have HBG := hide (begun_any (.slice ad all.length acap) (.slice td tops.length tcap) all s w4 HB4.out.1 tops HB4.out.2.1 (by omega) (by omega))
        have c0 := HB4.out.2.2.2.cell 0
        have c1 := HB4.out.2.2.2.cell 1
        go_wp2_with fail
        refine HBG.out.mono ?_
        rintro e w5 ⟨kv, R, rfl, hb5, hwb, hbg⟩
        have hpos : 0 < all.length := by
          have h9 := HFIT.out.ne
          have h8 := HFIT.out.into 0 (List.length_pos_iff.2 h9)
          omega
        obtain ⟨kg, kcap, rfl, hM⟩ := Memo.ofBegun (fun t => trs.getD t treeD) hpos hwb (HB4.out.1.below hb5) hbg
        have hM0 := hM (fun _ => False)
        have HMC : Hid (Memo ⟨w4.heap.size + 1, kg, kcap, R, .slice ad all.length acap, .slice td tops.length tcap, s, all, fun t => trs.getD t treeD⟩ (fun _ => False) w5 ∧ IRow w5 (.slice td tops.length tcap) (natsI tops) ∧ TokRow w5 (.slice ld l.length lcap) l ∧ Below W.heap.size W w5) := ⟨hM0, HB4.out.2.1.below hb5, HT.out.below hb5, HB4.out.2.2.1.trans (hb5.mono HB4.out.2.2.1.size)⟩
        obtain ⟨c, hc⟩ : ∃ c : MemoC, c = ⟨w4.heap.size + 1, kg, kcap, R, .slice ad all.length acap, .slice td tops.length tcap, s, all, fun t => trs.getD t treeD⟩ := ⟨_, rfl⟩
        have HM : Hid (Memo c (fun _ => False) w5 ∧ IRow w5 c.tv (natsI tops) ∧ TokRow w5 (.slice ld l.length lcap) l ∧ Below W.heap.size W w5) := by rw [hc]; exact HMC.out
        have hcs : c.s = s := by rw [hc]
        have hcw : c.wb = w4.heap.size + 1 := by rw [hc]
        have hca : c.all = all := by rw [hc]
        have hct : ∀ t, c.tr t = trs.getD t treeD := by rw [hc]; intro t; rfl
        have hOV : ∀ t ∈ tops, OverC c t := fun t ht => by
          obtain ⟨j, hj, rfl⟩ := List.getElem_of_mem ht
          have h9 := HFIT.out.into j hj
          have e9 : tops.getD j 0 = tops[j] := by simp [hj]
          rw [e9] at h9
          exact overs c (by rw [hcs]; omega) (fun n hn => HFIT.out.nodes c hca hct n hn) _ (by rw [hca]; exact h9)
        have hRM : ∀ b, c.M b → W.heap.size ≤ b := by
          rintro b ⟨n, hn, rfl⟩
          rw [hca] at hn
          have h9 := (hbg.each n hn).2
          have h8 := HB4.out.2.2.1.size
          rw [hc]
          show W.heap.size ≤ R n
          omega
        have HRM := hide hRM
        have hcN : c.N = s.size + 1 := by unfold MemoC.N; rw [hcs]
        have hcN2 : c.N ≤ 301 := by omega
        have HCN := hide hcN
        clear hRM hcN
        have HOV := hide hOV
        have HCS := hide hcs
        have HCT := hide hct
        have hbp : ∃ B, Below W.heap.size W w5 ∧ B = w5 := ⟨w5, HM.out.2.2.2, rfl⟩
        rw [← hcw]
        clear hM hM0 HMC hwb hbg hb5 hOV hcs hct hca hc c0 c1 HB4 HBG HT hbp hcw
        go_wp2_with fail
        go_loopg [12, 14] l.length (fun G pv iv wr => ∃ (p i : Nat), pv = .int .i64 (p : Int) ∧ iv = .int .i64 (i : Int) ∧ i ≤ l.length ∧ G = l.length - i ∧ p ≤ s.size ∧ TokChain kd g s p (l.drop i) ∧ Memo c (fun _ => False) wr ∧ IRow wr c.tv (natsI tops) ∧ TokRow wr (.slice ld l.length lcap) l ∧ Below W.heap.size W wr)
        case atStart => exact ⟨0, 0, rfl, rfl, by omega, rfl, by omega, HCH.out, HM.out.1, HM.out.2.1, HM.out.2.2.1, HM.out.2.2.2⟩
        case round =>
          obtain ⟨p, i, rfl, rfl, hi, rfl, hp, hch, hm, htr, hTr, hbw⟩ := hrel
          clear HM HCH
          by_cases hlt : i < l.length
          · have e3 : decide ((i : Int) < (l.length : Int)) = true := by simp; omega
            rcases hlrow with h0 | ⟨lg, rfl⟩
            · omega
            rw [List.drop_eq_getElem_cons hlt] at hch
            obtain ⟨hps, htk, hch'⟩ := hch
            obtain ⟨g0, g1, g2⟩ := toksC_get l i hlt
            have HCH := hide hch'
            have hlong := HLT.out p (by omega)
            rw [← htk] at hlong
            have e4 : decide ((s.size : Int) ≤ (p : Int)) = false := by simp; omega
            have HWD := hide (words_any c tops HOV.out (fun _ => False) wr p (fun b hb => hb.elim) hm htr (by rw [HCS.out]; omega) (by omega))
            have HHW : Hid (Memo c (fun _ => False) wr ∧ TokRow wr (.slice (some ⟨lg, 0, none⟩) l.length lcap) l ∧ Below W.heap.size W wr) := ⟨hm, hTr, hbw⟩
            have HLG := hide hlong
            have HTC := hide (And.intro g0 (And.intro g1 g2))
            have HTP := hide (nextTok_pos kd g s p hps)
            have HTK := hide htk
            clear hm htr hTr hbw hch' hlong g0 g1 g2 htk
            go_wp2_with fail
            refine HWD.out.mono ?_
            rintro e w6 ⟨rv, rfl, hrows, hm6, hk6, ht6⟩
            have hT6 : TokRow w6 (.slice (some ⟨lg, 0, none⟩) l.length lcap) l := HHW.out.2.1.kept hk6 (fun b hb e => by obtain ⟨cs, h1⟩ := HHW.out.1.type e; exact ownsRow_ne HHW.out.2.1 h1 (by decide) hb)
            have hb6 : Below W.heap.size W w6 := HHW.out.2.2.trans ⟨hk6.os, hk6.tape, hk6.output, hk6.size, fun b hb => hk6.block b (by have := HHW.out.2.2.size; omega) (fun e => by have := HRM.out b e; omega)⟩
            have hrl : (wordRows c tops p).length = tops.length := by simp [wordRows]
            have HBE := hide (begins_any (wordRows c tops p) c.N p rv w6 hrows (by omega) (by rw [HCN.out]; omega) (by rw [hrl]; omega) (fun j hj => by
              have hj' : j < tops.length := by omega
              have e9 : (wordRows c tops p).getD j [] = rowT (bytesN c.s) (c.tr (tops.getD j 0)) p := by simp [wordRows, hj']
              rw [e9, rowT_len]))
            obtain ⟨vs, hrw, hvl, _⟩ := hrows
            obtain ⟨_, rd, rcap, rfl, _⟩ := ownsRow_form hrw
            have HH6 : Hid (Memo c (fun _ => False) w6 ∧ IRow w6 c.tv (natsI tops) ∧ TokRow w6 (.slice (some ⟨lg, 0, none⟩) l.length lcap) l ∧ Below W.heap.size W w6) := ⟨hm6, ht6, hT6, hb6⟩
            clear hm6 hk6 ht6 hT6 hb6 hvl hrw hrl HHW HWD
            go_wp2_with fail
            refine HBE.out.mono ?_
            rintro e w7 ⟨q, r, rfl, hbe, hb7⟩
            have HH7 : Hid (Memo c (fun _ => False) w7 ∧ IRow w7 c.tv (natsI tops) ∧ TokRow w7 (.slice (some ⟨lg, 0, none⟩) l.length lcap) l ∧ Below W.heap.size W w7) := ⟨HH6.out.1.below hb7, HH6.out.2.1.below hb7, HH6.out.2.2.1.below hb7, HH6.out.2.2.2.trans (hb7.mono HH6.out.2.2.2.size)⟩
            have hlb := long_begins c trs tops HCT.out p q r l[i] (by rw [HCS.out]; exact HLG.out) hbe
            have k0 := (ownsRow_cell HH7.out.2.2.1 (i * 3) (by omega)).trans HTC.out.1
            have k1 := (ownsRow_cell HH7.out.2.2.1 (i * 3 + 1) (by omega)).trans HTC.out.2.1
            have k2 := (ownsRow_cell HH7.out.2.2.1 (i * 3 + 2) (by omega)).trans HTC.out.2.2
            have hpos := HTP.out
            rw [← HTK.out] at hpos
            have hch2 := HCH.out
            clear hb7 HH6 HBE hbe HTC HLG HTP HCH HTK
            generalize l[i] = t at hlb k0 k1 k2 hpos hch2
            obtain ⟨tr, tf, ttt⟩ := t
            simp only at hlb k0 k1 k2 hpos hch2
            obtain ⟨rfl, hlb⟩ := hlb
            have HCH := hide hch2
            have hq2 := hpos.2.1
            have i0' : (0 : Int) ≤ (i : Int) := by omega
            have i1' : (i : Int) < (l.length : Int) := by omega
            clear hpos hch2
            rcases hlb with ⟨rfl, rfl, rfl⟩ | ⟨hr, rfl, rfl⟩
            · go_wp2_with fail
              go_roundg (l.length - (i + 1))
              case measure => omega
              case rel => exact ⟨tf + 1, i + 1, by go_num, by go_num, by omega, rfl, hq2, HCH.out, HH7.out.1, HH7.out.2.1, HH7.out.2.2.1, HH7.out.2.2.2⟩
            · have e5 : (tr == -1) = false := by simp [hr]
              go_wp2_with fail
              go_roundg (l.length - (i + 1))
              case measure => omega
              case rel => exact ⟨ttt, i + 1, rfl, by go_num, by omega, rfl, hq2, HCH.out, HH7.out.1, HH7.out.2.1, HH7.out.2.2.1, HH7.out.2.2.2⟩
          · have e3 : decide ((i : Int) < (l.length : Int)) = false := by simp; omega
            obtain rfl : i = l.length := by omega
            rw [List.drop_length] at hch
            have hpn : p = s.size := hch
            subst hpn
            have HBW := hide hbw
            clear hbw hm htr hTr hch
            go_wp2_with fail
            go_ret
            exact ⟨rfl, HBW.out⟩
  · go_wp2_with fail
    go_ret
    exact ⟨rfl, HB3.out.2.2.1⟩
end Go.Proofs.Ytmgpdaemcbbikaa
