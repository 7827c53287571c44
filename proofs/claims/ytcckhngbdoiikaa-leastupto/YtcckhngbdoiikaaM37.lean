import Derived.Test.YtcckhngbdoiikaaM36
import Derived.Test.YtcckhngbdoiikaaM32

namespace Go.Proofs.Ytcckhngbdoiikaa
set_option linter.unusedVariables false

structure Fitted (all : List NodeT) (tops : List Nat) (trs : List Tree) : Prop where
  len : trs.length = all.length
  fit : ∀ n, n < all.length → NFit all trs n
  ne : tops ≠ []
  into : ∀ k, k < tops.length → tops.getD k 0 < all.length
theorem builtFold_ne : ∀ (ops : List OpT) (st : List NodeT × List Nat), st.2 ≠ [] → (builtFold ops st).2 ≠ []
  | [], st, h => h
  | o :: r, st, h => builtFold_ne r (builtStep st o) (by simp [builtStep])
theorem built_fit (ops : List OpT) : ∃ i trs, i ≤ ops.length + 1 ∧ BInv i (builtF ops) ∧ Fitted (builtF ops).1 (builtF ops).2 trs := by
  cases ops with
  | nil =>
    have e : builtF [] = ([nodeA], [0]) := rfl
    rw [e]
    refine ⟨1, [.leaf 0 97 0], by simp, ⟨fun t ht => by simp at ht; simp [ht], by simp, rfl, by decide, fun x hx => by simp at hx; subst hx; decide⟩, ⟨rfl, fun n hn => ?_, by simp, fun k hk => ?_⟩⟩
    · have : n = 0 := by simpa using hn
      subst this
      exact NFit.last (all := []) (trs := []) rfl nodeA (.leaf 0 97 0) rfl rfl ⟨by omega, by omega, fun h => by omega⟩ (.inr (.inr (.inr (.inr (.inr ⟨by decide, rfl⟩)))))
    · have : k = 0 := by simpa using hk
      subst this
      decide
  | cons o r =>
    obtain ⟨h1, h2, h3⟩ := fold_fit (o :: r) 0 [] ([], []) ⟨fun t ht => by simp at ht, by simp, rfl, by simp, fun x hx => by simp at hx⟩ rfl (fun n hn => by simp at hn)
    have hne : (builtFold (o :: r) ([], [])).2 ≠ [] := builtFold_ne r (builtStep ([], []) o) (by simp [builtStep])
    have e : builtF (o :: r) = builtFold (o :: r) ([], []) := by
      unfold builtF
      rw [if_neg (fun e => hne (List.eq_nil_of_length_eq_zero e))]
    rw [e]
    exact ⟨0 + (o :: r).length, _, by omega, h1, h2, h3, hne, fun k hk => h1.tops _ (by simp [hk])⟩
theorem Fitted.tree {all : List NodeT} {tops : List Nat} {trs : List Tree} (h : Fitted all tops trs) : topTrees trs tops ≠ [] ∧ (∀ t ∈ topTrees trs tops, t.ok) ∧ spellK all tops tops.length = (bytesOf (joinT ((topTrees trs tops).map Tree.spell)), placesAll (topTrees trs tops)) := by
  refine ⟨fun e => h.ne ?_, fun t ht => ?_, ?_⟩
  · have : (topTrees trs tops).length = 0 := by rw [e]; rfl
    simp [topTrees] at this
    exact this
  · simp only [topTrees, List.mem_map] at ht
    obtain ⟨k, hk, rfl⟩ := ht
    obtain ⟨j, hj, rfl⟩ := List.getElem_of_mem hk
    have h1 := h.into j hj
    have h2 : tops.getD j 0 = tops[j] := by simp [hj]
    rw [h2] at h1
    exact (h.fit _ h1).ok
  · have h1 := spellK_trees h.fit h.into tops.length (Nat.le_refl _)
    rw [h1, List.take_of_length_le (by simp [topTrees])]
/-- The premise of 'given', and what its lexer is. -/
theorem Fitted.given {all : List NodeT} {tops : List Nat} {trs : List Tree} (h : Fitted all tops trs) :
    (newF (spellK all tops tops.length).1 = .bad 1 0 ∧ 120 < (spellK all tops tops.length).1.size) ∨ (newF (spellK all tops tops.length).1 = .bad 3 0 ∧ (spellK all tops tops.length).1.size ≤ 120 ∧ 5 < (spellK all tops tops.length).2) ∨ ((spellK all tops tops.length).1.size ≤ 120 ∧ ∃ kd g, newF (spellK all tops tops.length).1 = .lexer kd g) := by
  obtain ⟨h1, h2, h3⟩ := h.tree
  rw [h3]
  rcases new_trees (topTrees trs tops) h1 h2 with e | e | ⟨e1, kd, g, e2, _⟩
  · exact .inl e
  · exact .inr (.inl e)
  · exact .inr (.inr ⟨e1, kd, g, e2⟩)
/-- Its lexer cuts off the longest tokens. -/
theorem Fitted.long {all : List NodeT} {tops : List Nat} {trs : List Tree} (h : Fitted all tops trs) {kd : Nat → Nat} {g : Graph} (hn : newF (spellK all tops tops.length).1 = .lexer kd g) (s : ByteArray) (p : Nat) (hp : p ≤ s.size) : LongTok (topTrees trs tops) (bytesN s) p (nextTok kd g s p) := by
  obtain ⟨h1, h2, h3⟩ := h.tree
  rw [h3] at hn
  rcases new_trees (topTrees trs tops) h1 h2 with ⟨e, _⟩ | ⟨e, _⟩ | ⟨_, kd', g', e2, e3, e4⟩
  · rw [e] at hn; cases hn
  · rw [e] at hn; cases hn
  · rw [e2] at hn
    injection hn with a b
    subst a b
    refine nextTok_long (build_lexG e3) s (fun x hx => ?_) (fun w hw hx => lexer_tok e3 e4 w hw hx) p hp
    simp only [bytesN, List.mem_map] at hx
    obtain ⟨b, _, rfl⟩ := hx
    exact b.toNat_lt
theorem Fitted.nodes {all : List NodeT} {tops : List Nat} {trs : List Tree} (h : Fitted all tops trs) (c : MemoC) (hc : c.all = all) (ht : ∀ t, c.tr t = trs.getD t treeD) (n : Nat) (hn : n < c.all.length) : NodeFits c n := by
  subst hc
  refine ⟨_, rfl, ?_⟩
  have := (h.fit n hn).form
  simp only at this
  simp only [ht]
  exact this
end Go.Proofs.Ytcckhngbdoiikaa

namespace Go.Proofs.Ytcckhngbdoiikaa
open Go.RowKit Go.Deep
set_option linter.unusedVariables false

/-- What the steps come to: their nodes, their trees. -/
theorem spell_ok {i : Nat} {st : List NodeT × List Nat} (h : BInv i st) (hi : i ≤ 1048577) : SpellOk st.1 st.2 := by
  have h1 : ∀ k, k ≤ st.2.length → (spellK st.1 st.2 k).1.size ≤ ((st.2.take k).map (fun t => (st.1.getD t nodeD).text.size)).sum + k ∧ (spellK st.1 st.2 k).2 ≤ ((st.2.take k).map (fun t => (st.1.getD t nodeD).text.size)).sum := by
    intro k
    induction k with
    | zero => intro _; exact ⟨Nat.zero_le _, Nat.zero_le _⟩
    | succ k ih =>
      intro hk
      obtain ⟨a, b⟩ := ih (by omega)
      have hlt : k < st.2.length := by omega
      have e : (st.2.take (k + 1)).map (fun t => (st.1.getD t nodeD).text.size) = (st.2.take k).map (fun t => (st.1.getD t nodeD).text.size) ++ [(st.1.getD (st.2.getD k 0) nodeD).text.size] := by
        rw [List.take_succ_eq_append_getElem hlt, List.map_append, List.map_cons, List.map_nil]
        have e9 : st.2.getD k 0 = st.2[k] := by simp [hlt]
        rw [e9]
      have hpl : (st.1.getD (st.2.getD k 0) nodeD).places ≤ (st.1.getD (st.2.getD k 0) nodeD).text.size := by
        have h3 : st.2.getD k 0 < st.1.length := h.tops _ (by simp [hlt])
        exact h.pl _ (by rw [List.getD_eq_getElem?_getD, List.getElem?_eq_getElem h3]; exact List.getElem_mem h3)
      rw [e, List.sum_append]
      unfold spellK
      have e1 : (⟨#[10]⟩ : ByteArray).size = 1 := rfl
      constructor
      · simp only [ByteArray.size_append, List.sum_cons, List.sum_nil]
        split
        · simp only [ByteArray.size_append]; omega
        · omega
      · simp only [List.sum_cons, List.sum_nil]
        omega
  have hsum := h.sum
  have hlen := h.len
  have hall := h.all
  refine ⟨fun k hk => h.tops _ (by simp [hk]), fun k hk => ?_, fun k hk => ?_, by omega⟩
  · obtain ⟨a, b⟩ := h1 k hk
    have h4 := sum_take_le (st.2.map (fun t => (st.1.getD t nodeD).text.size)) k
    rw [← List.map_take] at h4
    omega
  · obtain ⟨a, b, c⟩ := h.text hk
    omega

set_option maxRecDepth 20000 in
set_option maxHeartbeats 6400000 in
theorem longest_x (CU : ∀ w : World, Calls Try.prog 31 #[] w fun e w' => e = .returned (.bool true) ∧ Below w.heap.size w w')
  (BU : ∀ (ops : List OpT) (v : Value) (w : World) (h : OpsAt w v ops), Calls Try.prog 22 #[v] w fun e w' => ∃ av tv, e = .returned (.agg #[av, tv]) ∧ NodeRow w' av (builtF ops).1 ∧ IRow w' tv (natsI (builtF ops).2) ∧ Below w.heap.size w w')
  (SP : ∀ (pb : Nat) (kd : Nat → Nat) (g : Graph) (s : ByteArray) (w : World) (h : LexAt w pb kd g) (ho : LexOk kd g) (hs : s.size ≤ maxLen), Calls Try.prog 32 #[.pointer (some ⟨pb, 0, none⟩), .string s] w fun e w' => Below w.heap.size w w' ∧
      ((4096 < s.size ∧ e = .returned (.tuple #[.slice none 0 0, .int .i64 5])) ∨ (s.size ≤ 4096 ∧ ∃ v, e = .returned (.tuple #[v, .int .i64 0]) ∧ TokRow w' v (cutF kd g s) ∧ ∀ b, v.ownBlock = some b → w.heap.size ≤ b)))
  (ops : List OpT) (v : Value) (s : ByteArray) (W : World) (h : OpsAt W v ops) (hs : s.size ≤ 1048576) :
    Calls Try.prog 8 #[v, .string s] W fun e W' => e = .returned (.bool true) ∧ Below W.heap.size W W' := by
  obtain ⟨i0, trs, hi0, hinv, hfit⟩ := built_fit ops
  have hfew := h.few
  have hso := spell_ok hinv (by omega)
  have hall := hinv.all
  have hlen := hinv.len
  have HCU := hide CU
  have HSP := hide SP
  have HBU := hide (fun (w : World) (hb : Below W.heap.size W w) => BU ops v w (h.below hb))
  obtain ⟨⟨od, ocap, rfl, _⟩, _, _⟩ := h
  clear CU BU SP hinv
  generalize builtF ops = st at HBU hso hfit hall hlen
  obtain ⟨all, tops⟩ := st
  simp only at HBU hso hfit hall hlen
  have hal : all.length ≤ 1048577 := by omega
  have htl : tops.length ≤ 1048577 := by omega
  have HSO := hide hso
  have HFIT := hide hfit
  clear hso hfit hall hlen hi0
  go_enter Try.func8, Try.ntmps8
  go_wp2_with fail
  refine (HCU.out _).mono ?_
  rintro e w1 ⟨rfl, hb1⟩
  have HB1 := hide hb1
  clear hb1
  go_wp2_with fail
  refine (HBU.out _ HB1.out).mono ?_
  rintro e w2 ⟨av, tv, rfl, ha, ht, hb2⟩
  obtain ⟨ad, acap, rfl, harow⟩ := ha.form
  obtain ⟨td, tcap, rfl, htrow⟩ := ht.formN
  obtain ⟨w2', hw2⟩ : ∃ w2' : World, w2.alloc (.cells #[.slice ad all.length acap, .slice td tops.length tcap] 42) = w2' := ⟨_, rfl⟩
  have hbb : Below W.heap.size W w2' := by rw [← hw2]; exact (HB1.out.trans (hb2.mono HB1.out.size)).alloc (by have := HB1.out.size; have := hb2.size; omega) _
  have hrb : Blk w2' w2.heap.size #[.slice ad all.length acap, .slice td tops.length tcap] 42 := by rw [← hw2]; exact Blk.new _ _ _
  have ha' : NodeRow w2' (.slice ad all.length acap) all := by rw [← hw2]; exact ha.below (Below1 _ _)
  have ht' : IRow w2' (.slice td tops.length tcap) (natsI tops) := by rw [← hw2]; exact ht.below (Below1 _ _)
  have HGI := hide (given_any all tops _ _ w2' ha' ht' HSO.out HFIT.out.given)
  have HB2 : Hid (NodeRow w2' (.slice ad all.length acap) all ∧ IRow w2' (.slice td tops.length tcap) (natsI tops) ∧ Below W.heap.size W w2' ∧ Blk w2' w2.heap.size #[.slice ad all.length acap, .slice td tops.length tcap] 42) := ⟨ha', ht', hbb, hrb⟩
  have r0 := hrb.cell 0
  have r1 := hrb.cell 1
  clear ha ht hb2 ha' ht' hbb hrb
  go_wp2_with fail
  try rw [hw2]
  clear hw2
  refine HGI.out.mono ?_
  rintro e w3 ⟨hb3, hres⟩
  have HB3 : Hid (NodeRow w3 (.slice ad all.length acap) all ∧ IRow w3 (.slice td tops.length tcap) (natsI tops) ∧ Below W.heap.size W w3 ∧ Blk w3 w2.heap.size #[.slice ad all.length acap, .slice td tops.length tcap] 42) :=
    ⟨HB2.out.1.below hb3, HB2.out.2.1.below hb3, HB2.out.2.2.1.trans (hb3.mono HB2.out.2.2.1.size), HB2.out.2.2.2.below hb3⟩
  clear hb3 HB2 HGI r0 r1
  rcases hres with ⟨kd, g, pb, hnw, rfl, hL⟩ | rfl
  · have hLT := fun (p : Nat) (hp : p ≤ s.size) => HFIT.out.long hnw s p hp
    have HLT := hide hLT
    have HSP1 := hide (HSP.out pb kd g s w3 hL (newF_lexOk hnw).1 (by unfold maxLen; omega))
    clear hLT hnw HSP hL
    go_wp2_with fail
    refine HSP1.out.mono ?_
    rintro e w4 ⟨hb4, hres⟩
    have HB4 : Hid (NodeRow w4 (.slice ad all.length acap) all ∧ IRow w4 (.slice td tops.length tcap) (natsI tops) ∧ Below W.heap.size W w4 ∧ Blk w4 w2.heap.size #[.slice ad all.length acap, .slice td tops.length tcap] 42) :=
      ⟨HB3.out.1.below hb4, HB3.out.2.1.below hb4, HB3.out.2.2.1.trans (hb4.mono HB3.out.2.2.1.size), HB3.out.2.2.2.below hb4⟩
    have z34 := hb4.size
    clear hb4 HB3 HSP1
    rcases hres with ⟨hz, rfl⟩ | ⟨hz, lv, rfl, hT, hv⟩
    · have e1 : decide ((4096 : Int) < (s.size : Int)) = true := by simp; omega
      go_wp2_with fail
      go_ret
      exact ⟨rfl, HB4.out.2.2.1⟩
    · have e1 : decide ((4096 : Int) < (s.size : Int)) = false := by simp; omega
      have hch := cutF_chain kd g s
      have hcl := hch.len
      have HT := hide hT
      generalize cutF kd g s = l at hT HT hch hcl
      obtain ⟨ld, lcap, rfl, hlrow⟩ := hT.form
      have HCH := hide hch
      clear hT hv hch
      by_cases h300 : 300 < s.size
      · have e2 : decide ((300 : Int) < (s.size : Int)) = true := by simp; omega
        have HBS := hide (beside_any l s.size _ w4 HT.out (HCH.out.side (fun p hp => HLT.out p (by omega))) (by omega) (by omega))
        go_wp2_with fail
        refine HBS.out.mono ?_
        rintro e w5 ⟨rfl, hb5⟩
        have HB5 := hide (HB4.out.2.2.1.trans (hb5.mono HB4.out.2.2.1.size))
        clear hb5
        go_wp2_with fail
        go_ret
        exact ⟨rfl, HB5.out⟩
      · have e2 : decide ((300 : Int) < (s.size : Int)) = false := by simp; omega
        have HBG := hide (begun_any (.slice ad all.length acap) (.slice td tops.length tcap) all s w4 HB4.out.1 tops HB4.out.2.1 (by omega) (by omega))
        have c0 := HB4.out.2.2.2.cell 0
        have c1 := HB4.out.2.2.2.cell 1
        go_wp2_with fail
        refine HBG.out.mono ?_
        rintro e w5 ⟨kv, R, rfl, hb5, hwb, hbg⟩
        have hpos : 0 < all.length := by
          have h9 := HFIT.out.ne
          have h8 := HFIT.out.into 0 (List.length_pos_iff.2 h9)
          omega
        obtain ⟨kg, kcap, rfl, hM⟩ := Memo.ofBegun (fun t => trs.getD t treeD) hpos hwb (HB4.out.1.below hb5) hbg
        have hM0 := hM (fun _ => False)
        have HMC : Hid (Memo ⟨w4.heap.size + 1, kg, kcap, R, .slice ad all.length acap, .slice td tops.length tcap, s, all, fun t => trs.getD t treeD⟩ (fun _ => False) w5 ∧ IRow w5 (.slice td tops.length tcap) (natsI tops) ∧ TokRow w5 (.slice ld l.length lcap) l ∧ Below W.heap.size W w5) := ⟨hM0, HB4.out.2.1.below hb5, HT.out.below hb5, HB4.out.2.2.1.trans (hb5.mono HB4.out.2.2.1.size)⟩
        obtain ⟨c, hc⟩ : ∃ c : MemoC, c = ⟨w4.heap.size + 1, kg, kcap, R, .slice ad all.length acap, .slice td tops.length tcap, s, all, fun t => trs.getD t treeD⟩ := ⟨_, rfl⟩
        have HM : Hid (Memo c (fun _ => False) w5 ∧ IRow w5 c.tv (natsI tops) ∧ TokRow w5 (.slice ld l.length lcap) l ∧ Below W.heap.size W w5) := by rw [hc]; exact HMC.out
        have hcs : c.s = s := by rw [hc]
        have hcw : c.wb = w4.heap.size + 1 := by rw [hc]
        have hca : c.all = all := by rw [hc]
        have hct : ∀ t, c.tr t = trs.getD t treeD := by rw [hc]; intro t; rfl
        have hOV : ∀ t ∈ tops, OverC c t := fun t ht => by
          obtain ⟨j, hj, rfl⟩ := List.getElem_of_mem ht
          have h9 := HFIT.out.into j hj
          have e9 : tops.getD j 0 = tops[j] := by simp [hj]
          rw [e9] at h9
          exact overs c (by rw [hcs]; omega) (fun n hn => HFIT.out.nodes c hca hct n hn) _ (by rw [hca]; exact h9)
        have hRM : ∀ b, c.M b → W.heap.size ≤ b := by
          rintro b ⟨n, hn, rfl⟩
          rw [hca] at hn
          have h9 := (hbg.each n hn).2
          have h8 := HB4.out.2.2.1.size
          rw [hc]
          show W.heap.size ≤ R n
          omega
        have HRM := hide hRM
        have hcN : c.N = s.size + 1 := by unfold MemoC.N; rw [hcs]
        have hcN2 : c.N ≤ 301 := by omega
        have HCN := hide hcN
        clear hRM hcN
        have HOV := hide hOV
        have HCS := hide hcs
        have HCT := hide hct
        have hbp : ∃ B, Below W.heap.size W w5 ∧ B = w5 := ⟨w5, HM.out.2.2.2, rfl⟩
        rw [← hcw]
        clear hM hM0 HMC hwb hbg hb5 hOV hcs hct hca hc c0 c1 HB4 HBG HT hbp hcw
        go_wp2_with fail
        go_loopg [12, 14] l.length (fun G pv iv wr => ∃ (p i : Nat), pv = .int .i64 (p : Int) ∧ iv = .int .i64 (i : Int) ∧ i ≤ l.length ∧ G = l.length - i ∧ p ≤ s.size ∧ TokChain kd g s p (l.drop i) ∧ Memo c (fun _ => False) wr ∧ IRow wr c.tv (natsI tops) ∧ TokRow wr (.slice ld l.length lcap) l ∧ Below W.heap.size W wr)
        case atStart => exact ⟨0, 0, rfl, rfl, by omega, rfl, by omega, HCH.out, HM.out.1, HM.out.2.1, HM.out.2.2.1, HM.out.2.2.2⟩
        case round =>
          obtain ⟨p, i, rfl, rfl, hi, rfl, hp, hch, hm, htr, hTr, hbw⟩ := hrel
          clear HM HCH
          by_cases hlt : i < l.length
          · have e3 : decide ((i : Int) < (l.length : Int)) = true := by simp; omega
            rcases hlrow with h0 | ⟨lg, rfl⟩
            · omega
            rw [List.drop_eq_getElem_cons hlt] at hch
            obtain ⟨hps, htk, hch'⟩ := hch
            obtain ⟨g0, g1, g2⟩ := toksC_get l i hlt
            have HCH := hide hch'
            have hlong := HLT.out p (by omega)
            rw [← htk] at hlong
            have e4 : decide ((s.size : Int) ≤ (p : Int)) = false := by simp; omega
            have HWD := hide (words_any c tops HOV.out (fun _ => False) wr p (fun b hb => hb.elim) hm htr (by rw [HCS.out]; omega) (by omega))
            have HHW : Hid (Memo c (fun _ => False) wr ∧ TokRow wr (.slice (some ⟨lg, 0, none⟩) l.length lcap) l ∧ Below W.heap.size W wr) := ⟨hm, hTr, hbw⟩
            have HLG := hide hlong
            have HTC := hide (And.intro g0 (And.intro g1 g2))
            have HTP := hide (nextTok_pos kd g s p hps)
            have HTK := hide htk
            clear hm htr hTr hbw hch' hlong g0 g1 g2 htk
            go_wp2_with fail
            refine HWD.out.mono ?_
            rintro e w6 ⟨rv, rfl, hrows, hm6, hk6, ht6⟩
            have hT6 : TokRow w6 (.slice (some ⟨lg, 0, none⟩) l.length lcap) l := HHW.out.2.1.kept hk6 (fun b hb e => by obtain ⟨cs, h1⟩ := HHW.out.1.type e; exact ownsRow_ne HHW.out.2.1 h1 (by decide) hb)
            have hb6 : Below W.heap.size W w6 := HHW.out.2.2.trans ⟨hk6.os, hk6.tape, hk6.output, hk6.size, fun b hb => hk6.block b (by have := HHW.out.2.2.size; omega) (fun e => by have := HRM.out b e; omega)⟩
            have hrl : (wordRows c tops p).length = tops.length := by simp [wordRows]
            have HBE := hide (begins_any (wordRows c tops p) c.N p rv w6 hrows (by omega) (by rw [HCN.out]; omega) (by rw [hrl]; omega) (fun j hj => by
              have hj' : j < tops.length := by omega
              have e9 : (wordRows c tops p).getD j [] = rowT (bytesN c.s) (c.tr (tops.getD j 0)) p := by simp [wordRows, hj']
              rw [e9, rowT_len]))
            obtain ⟨vs, hrw, hvl, _⟩ := hrows
            obtain ⟨_, rd, rcap, rfl, _⟩ := ownsRow_form hrw
            have HH6 : Hid (Memo c (fun _ => False) w6 ∧ IRow w6 c.tv (natsI tops) ∧ TokRow w6 (.slice (some ⟨lg, 0, none⟩) l.length lcap) l ∧ Below W.heap.size W w6) := ⟨hm6, ht6, hT6, hb6⟩
            clear hm6 hk6 ht6 hT6 hb6 hvl hrw hrl HHW HWD
            go_wp2_with fail
            refine HBE.out.mono ?_
            rintro e w7 ⟨q, r, rfl, hbe, hb7⟩
            have HH7 : Hid (Memo c (fun _ => False) w7 ∧ IRow w7 c.tv (natsI tops) ∧ TokRow w7 (.slice (some ⟨lg, 0, none⟩) l.length lcap) l ∧ Below W.heap.size W w7) := ⟨HH6.out.1.below hb7, HH6.out.2.1.below hb7, HH6.out.2.2.1.below hb7, HH6.out.2.2.2.trans (hb7.mono HH6.out.2.2.2.size)⟩
            have hlb := long_begins c trs tops HCT.out p q r l[i] (by rw [HCS.out]; exact HLG.out) hbe
            have k0 := (ownsRow_cell HH7.out.2.2.1 (i * 3) (by omega)).trans HTC.out.1
            have k1 := (ownsRow_cell HH7.out.2.2.1 (i * 3 + 1) (by omega)).trans HTC.out.2.1
            have k2 := (ownsRow_cell HH7.out.2.2.1 (i * 3 + 2) (by omega)).trans HTC.out.2.2
            have hpos := HTP.out
            rw [← HTK.out] at hpos
            have hch2 := HCH.out
            clear hb7 HH6 HBE hbe HTC HLG HTP HCH HTK
            generalize l[i] = t at hlb k0 k1 k2 hpos hch2
            obtain ⟨tr, tf, ttt⟩ := t
            simp only at hlb k0 k1 k2 hpos hch2
            obtain ⟨rfl, hlb⟩ := hlb
            have HCH := hide hch2
            have hq2 := hpos.2.1
            have i0' : (0 : Int) ≤ (i : Int) := by omega
            have i1' : (i : Int) < (l.length : Int) := by omega
            clear hpos hch2
            rcases hlb with ⟨rfl, rfl, rfl⟩ | ⟨hr, rfl, rfl⟩
            · go_wp2_with fail
              go_roundg (l.length - (i + 1))
              case measure => omega
              case rel => exact ⟨tf + 1, i + 1, by go_num, by go_num, by omega, rfl, hq2, HCH.out, HH7.out.1, HH7.out.2.1, HH7.out.2.2.1, HH7.out.2.2.2⟩
            · have e5 : (tr == -1) = false := by simp [hr]
              go_wp2_with fail
              go_roundg (l.length - (i + 1))
              case measure => omega
              case rel => exact ⟨ttt, i + 1, rfl, by go_num, by omega, rfl, hq2, HCH.out, HH7.out.1, HH7.out.2.1, HH7.out.2.2.1, HH7.out.2.2.2⟩
          · have e3 : decide ((i : Int) < (l.length : Int)) = false := by simp; omega
            obtain rfl : i = l.length := by omega
            rw [List.drop_length] at hch
            have hpn : p = s.size := hch
            subst hpn
            have HBW := hide hbw
            clear hbw hm htr hTr hch
            go_wp2_with fail
            go_ret
            exact ⟨rfl, HBW.out⟩
  · go_wp2_with fail
    go_ret
    exact ⟨rfl, HB3.out.2.2.1⟩
end Go.Proofs.Ytcckhngbdoiikaa
