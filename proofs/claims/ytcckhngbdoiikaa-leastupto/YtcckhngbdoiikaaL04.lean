import Derived.Test.YtcckhngbdoiikaaS02
import Derived.Test.YtcckhngbdoiikaaL02
import Derived.Test.YtcckhngbdoiikaaM37
import Derived.Test.YtcckhngbdoiikaaM40
import Derived.Test.YtcckhngbdoiikaaM20
import Derived.Deep.RegionWith

namespace Go.Proofs.Ytcckhngbdoiikaa
open Go.RowKit Go.Deep
set_option linter.unusedVariables false

theorem next_none {kd : Nat → Nat} {g : Graph} (hl : g.next.length = g.rule.length) (b : Int) : nextF kd g (-1) b = -1 ∧ nextF kd g (g.rule.length : Int) b = -1 := by
  constructor
  · unfold nextF; rw [if_pos (.inl (by omega))]
  · unfold nextF; rw [if_pos (.inr (.inl (by omega)))]
theorem next_out {kd : Nat → Nat} {g : Graph} (s : Int) : nextF kd g s (-1) = -1 ∧ nextF kd g s 256 = -1 := by
  constructor
  · unfold nextF; rw [if_pos (.inr (.inr (.inl (by omega))))]
  · unfold nextF; rw [if_pos (.inr (.inr (.inr (by omega))))]
theorem rule_out {g : Graph} : ruleOfF g (-1) = -1 ∧ ruleOfF g (g.rule.length : Int) = -1 := by
  constructor
  · unfold ruleOfF; rw [if_pos (.inl (by omega))]
  · unfold ruleOfF; rw [if_pos (.inr (by omega))]

set_option maxRecDepth 20000 in
set_option maxHeartbeats 6400000 in
theorem least_x (AP : ∀ (tg og tcap ocap : Nat) (rg rc : Nat → Nat) {R : RulesT} (kd : Nat → Nat) (g : Graph) (w : World) (h : TabC w tg og rg rc kd g) (hR : buildF R = some (kd, g)) (hf : LexFit kd g), Calls Try.prog 29 #[.agg #[.slice (some ⟨tg, 0, none⟩) g.rule.length tcap, .slice (some ⟨og, 0, none⟩) g.rule.length ocap]] w fun e w' => e = .returned (.bool true) ∧ Below w.heap.size w w')
    (ops : List OpT) (v : Value) (text : ByteArray) (W : World) (h : OpsAt W v ops) (htx : text.size ≤ 1048576) :
    Calls Try.prog 6 #[v, .string text] W fun e W' => e = .returned (.bool true) ∧ Below W.heap.size W W' := by
  obtain ⟨i0, trs, hi0, hinv, hfit⟩ := built_fit ops
  have hfew := h.few
  have hso := spell_ok hinv (by omega)
  have hall := hinv.all
  have hlen := hinv.len
  have HSU := hide (fun w => sure_any w)
  have HAPA := hide AP
  have HBU := hide (fun (w : World) (hb : Below W.heap.size W w) => built_any ops v w (h.below hb))
  obtain ⟨⟨od, ocap, rfl, _⟩, _, _⟩ := h
  clear hinv AP
  generalize builtF ops = st at HBU hso hfit hall hlen
  obtain ⟨all, tops⟩ := st
  simp only at HBU hso hfit hall hlen
  have hal : all.length ≤ 1048577 := by omega
  have htl : tops.length ≤ 1048577 := by omega
  have HSO := hide hso
  have HFIT := hide hfit
  clear hso hfit hall hlen hi0
  go_enter Try.func6, Try.ntmps6
  go_wp2_with fail
  refine (HSU.out _).mono ?_
  rintro e w1 ⟨rfl, hb1⟩
  have HB1 := hide hb1
  clear hb1
  go_wp2_with fail
  refine (HBU.out _ HB1.out).mono ?_
  rintro e w2 ⟨av, tv, rfl, ha, ht, hb2⟩
  obtain ⟨ad, acap, rfl, harow⟩ := ha.form
  obtain ⟨td, tcap9, rfl, htrow⟩ := ht.formN
  obtain ⟨w2', hw2⟩ : ∃ w2' : World, w2.alloc (.cells #[.slice ad all.length acap, .slice td tops.length tcap9] 42) = w2' := ⟨_, rfl⟩
  have hbb : Below W.heap.size W w2' := by rw [← hw2]; exact (HB1.out.trans (hb2.mono HB1.out.size)).alloc (by have := HB1.out.size; have := hb2.size; omega) _
  have hrb : Blk w2' w2.heap.size #[.slice ad all.length acap, .slice td tops.length tcap9] 42 := by rw [← hw2]; exact Blk.new _ _ _
  have ha' : NodeRow w2' (.slice ad all.length acap) all := by rw [← hw2]; exact ha.below (Below1 _ _)
  have ht' : IRow w2' (.slice td tops.length tcap9) (natsI tops) := by rw [← hw2]; exact ht.below (Below1 _ _)
  have HGI := hide (given_any all tops _ _ w2' ha' ht' HSO.out HFIT.out.given)
  have HB2 : Hid (NodeRow w2' (.slice ad all.length acap) all ∧ IRow w2' (.slice td tops.length tcap9) (natsI tops) ∧ Below W.heap.size W w2' ∧ Blk w2' w2.heap.size #[.slice ad all.length acap, .slice td tops.length tcap9] 42) := ⟨ha', ht', hbb, hrb⟩
  have r0 := hrb.cell 0
  have r1 := hrb.cell 1
  clear ha ht hb2 ha' ht' hbb hrb
  go_wp2_with fail
  try rw [hw2]
  clear hw2
  refine HGI.out.mono ?_
  rintro e w3 ⟨hb3, hres⟩
  have HB3 : Hid (NodeRow w3 (.slice ad all.length acap) all ∧ IRow w3 (.slice td tops.length tcap9) (natsI tops) ∧ Below W.heap.size W w3 ∧ Blk w3 w2.heap.size #[.slice ad all.length acap, .slice td tops.length tcap9] 42) :=
    ⟨HB2.out.1.below hb3, HB2.out.2.1.below hb3, HB2.out.2.2.1.trans (hb3.mono HB2.out.2.2.1.size), HB2.out.2.2.2.below hb3⟩
  clear hb3 HB2 HGI r0 r1
  rcases hres with ⟨kd, g, pb, hnw, rfl, hL⟩ | rfl
  · have hlf := newF_fit hnw
    obtain ⟨R, hR⟩ := newF_build hnw
    have HNW := hide hnw
    have HLF := hide hlf
    have HR := hide hR
    have HTD := hide (told_any pb kd g w3 hL hR hlf)
    have HL := hide hL
    have hfw := hlf.few
    have HNN := hide (fun b => next_none (kd := kd) (build_lexG hR).len b)
    clear hnw hlf hR hL
    go_wp2_with fail
    refine HTD.out.mono ?_
    rintro e w4 ⟨tg, tcap, og, ocap2, rg, rc, rfl, hTC, hb4⟩
    obtain ⟨w4', hw4⟩ : ∃ w4' : World, w4.alloc (.cells #[.slice (some ⟨tg, 0, none⟩) g.rule.length tcap, .slice (some ⟨og, 0, none⟩) g.rule.length ocap2] 48) = w4' := ⟨_, rfl⟩
    have hb4' : Below w3.heap.size w3 w4' := by rw [← hw4]; exact hb4.alloc hb4.size _
    have hTb : Blk w4' w4.heap.size #[.slice (some ⟨tg, 0, none⟩) g.rule.length tcap, .slice (some ⟨og, 0, none⟩) g.rule.length ocap2] 48 := by rw [← hw4]; exact Blk.new _ _ _
    have hTC' : TabC w4' tg og rg rc kd g := by rw [← hw4]; exact hTC.below (Below1 _ _)
    have HB4 : Hid (NodeRow w4' (.slice ad all.length acap) all ∧ IRow w4' (.slice td tops.length tcap9) (natsI tops) ∧ Below W.heap.size W w4' ∧ Blk w4' w2.heap.size #[.slice ad all.length acap, .slice td tops.length tcap9] 42 ∧ TabC w4' tg og rg rc kd g ∧ Blk w4' w4.heap.size #[.slice (some ⟨tg, 0, none⟩) g.rule.length tcap, .slice (some ⟨og, 0, none⟩) g.rule.length ocap2] 48 ∧ LexAt w4' pb kd g) :=
      ⟨HB3.out.1.below hb4', HB3.out.2.1.below hb4', HB3.out.2.2.1.trans (hb4'.mono HB3.out.2.2.1.size), HB3.out.2.2.2.below hb4', hTC', hTb, HL.out.below hb4'⟩
    have t0 := hTb.cell 0
    have t1 := hTb.cell 1
    clear hb4 hb4' hTb hTC' hTC HB3 HTD HL
    have HNX := hide (fun (V : World) (hb : Below w4'.heap.size w4' V) (s b : Int) => lexNext_any pb kd g s b V (HB4.out.2.2.2.2.2.2.below hb) HLF.out.ok)
    have HRL := hide (fun (V : World) (hb : Below w4'.heap.size w4' V) (s : Int) => lexRule_any pb kd g s V (HB4.out.2.2.2.2.2.2.below hb))
    go_wp2_with fail
    try rw [hw4]
    clear hw4
    go_loopg [12] 258 (fun G bv wr => ∃ b : Nat, bv = .int .i64 ((b : Int) - 1) ∧ b ≤ 258 ∧ G = 258 - b ∧ Below w4'.heap.size w4' wr)
    case atStart => exact ⟨0, rfl, by omega, rfl, Below.refl _ _⟩
    case round =>
      obtain ⟨b, rfl, hb, rfl, hbw⟩ := hrel
      by_cases hlt : b < 258
      · have e0 : decide ((b : Int) - 1 ≤ 256) = true := by rw [decide_eq_true_iff]; omega
        obtain ⟨n1, n2⟩ := HNN.out ((b : Int) - 1)
        have hx1 := HNX.out wr hbw (-1) ((b : Int) - 1)
        rw [n1] at hx1
        have HX1 := hide hx1
        have HBW := hide hbw
        clear hx1 hbw n1
        go_wp2_with fail
        refine HX1.out.mono ?_
        rintro e w5 ⟨rfl, hb5⟩
        have hbw5 := HBW.out.trans (hb5.mono HBW.out.size)
        have hx2 := HNX.out w5 hbw5 (g.rule.length : Int) ((b : Int) - 1)
        rw [n2] at hx2
        have HX2 := hide hx2
        have HB5 := hide hbw5
        clear hx2 hbw5 hb5 HX1 HBW n2
        go_wp2_with fail
        refine HX2.out.mono ?_
        rintro e w6 ⟨rfl, hb6⟩
        have HB6 := hide (HB5.out.trans (hb6.mono HB5.out.size))
        clear hb6 HX2 HB5
        go_wp2_with fail
        go_roundg (258 - (b + 1))
        case measure => omega
        case rel => exact ⟨b + 1, by go_num, by omega, rfl, HB6.out⟩
      · have e0 : decide ((b : Int) - 1 ≤ 256) = false := by rw [decide_eq_false_iff_not]; omega
        obtain ⟨o1, o2⟩ := next_out (kd := kd) (g := g) 0
        obtain ⟨u1, u2⟩ := rule_out (g := g)
        have hx1 := HNX.out wr hbw 0 (-1)
        rw [o1] at hx1
        have HX1 := hide hx1
        have HBW := hide hbw
        clear hx1 hbw o1
        go_wp2_with fail
        refine HX1.out.mono ?_
        rintro e w5 ⟨rfl, hb5⟩
        have hbw5 := HBW.out.trans (hb5.mono HBW.out.size)
        have hx2 := HNX.out w5 hbw5 0 256
        rw [o2] at hx2
        have HX2 := hide hx2
        have HB5 := hide hbw5
        clear hx2 hbw5 hb5 HX1 HBW o2
        go_wp2_with fail
        refine HX2.out.mono ?_
        rintro e w6 ⟨rfl, hb6⟩
        have hbw6 := HB5.out.trans (hb6.mono HB5.out.size)
        have hx3 := HRL.out w6 hbw6 (-1)
        rw [u1] at hx3
        have HX3 := hide hx3
        have HB6 := hide hbw6
        clear hb6 HX2 HB5 hbw6 hx3 u1
        go_wp2_with fail
        refine HX3.out.mono ?_
        rintro e w7 ⟨rfl, rfl⟩
        have hx4 := HRL.out w7 HB6.out (g.rule.length : Int)
        rw [u2] at hx4
        have HX4 := hide hx4
        clear hx4 u2 HX3
        go_wp2_with fail
        refine HX4.out.mono ?_
        rintro e w8 ⟨rfl, rfl⟩
        clear HX4 HNX HRL HNN t0 t1
        obtain ⟨q1, q2, q3, q4, q5, q6, q7⟩ := HB4.out
        have HB8 : Hid (NodeRow w8 (.slice ad all.length acap) all ∧ IRow w8 (.slice td tops.length tcap9) (natsI tops) ∧ Below W.heap.size W w8 ∧ Blk w8 w2.heap.size #[.slice ad all.length acap, .slice td tops.length tcap9] 42 ∧ TabC w8 tg og rg rc kd g ∧ Blk w8 w4.heap.size #[.slice (some ⟨tg, 0, none⟩) g.rule.length tcap, .slice (some ⟨og, 0, none⟩) g.rule.length ocap2] 48) := ⟨q1.below HB6.out, q2.below HB6.out, q3.trans (HB6.out.mono q3.size), q4.below HB6.out, q5.below HB6.out, q6.below HB6.out⟩
        clear q1 q2 q3 q4 q5 q6 q7 HB4 HB6
        go_wp2_with fail
        go_loopg [15] 102 (fun G iv wr => ∃ i : Nat, iv = .int .i64 (i : Int) ∧ i ≤ 101 ∧ i ≤ text.size + 1 ∧ G = 102 - i ∧ NodeRow wr (.slice ad all.length acap) all ∧ IRow wr (.slice td tops.length tcap9) (natsI tops) ∧ Below W.heap.size W wr ∧ Blk wr w2.heap.size #[.slice ad all.length acap, .slice td tops.length tcap9] 42 ∧ TabC wr tg og rg rc kd g ∧ Blk wr w4.heap.size #[.slice (some ⟨tg, 0, none⟩) g.rule.length tcap, .slice (some ⟨og, 0, none⟩) g.rule.length ocap2] 48)
        case atStart => exact ⟨0, rfl, by omega, by omega, rfl, HB8.out.1, HB8.out.2.1, HB8.out.2.2.1, HB8.out.2.2.2.1, HB8.out.2.2.2.2.1, HB8.out.2.2.2.2.2⟩
        case round =>
          obtain ⟨i, rfl, hi, hi2, rfl, q1, q2, q3, q4, q5, q6⟩ := hrel
          have HQ : Hid (NodeRow wr (.slice ad all.length acap) all ∧ IRow wr (.slice td tops.length tcap9) (natsI tops) ∧ Below W.heap.size W wr ∧ Blk wr w2.heap.size #[.slice ad all.length acap, .slice td tops.length tcap9] 42 ∧ TabC wr tg og rg rc kd g ∧ Blk wr w4.heap.size #[.slice (some ⟨tg, 0, none⟩) g.rule.length tcap, .slice (some ⟨og, 0, none⟩) g.rule.length ocap2] 48) := ⟨q1, q2, q3, q4, q5, q6⟩
          have c0 := q6.cell 0
          have c1 := q6.cell 1
          have r0 := q4.cell 0
          have r1 := q4.cell 1
          clear q1 q2 q3 q4 q5 q6 HB8
          by_cases hgo : i ≤ text.size ∧ i ≤ 100
          · obtain ⟨g1, g2⟩ := hgo
            have e1 : decide ((i : Int) ≤ (text.size : Int)) = true := by rw [decide_eq_true_iff]; omega
            have e2 : decide ((i : Int) ≤ 100) = true := by rw [decide_eq_true_iff]; omega
            have i0' : (0 : Int) ≤ (i : Int) := by omega
            have i1' : (i : Int) ≤ (text.size : Int) := by omega
            have hsz : (text.extract 0 i).size ≤ 50000 := by rw [ByteArray.size_extract]; omega
            have HME := hide (fun (V : World) (hb : Below wr.heap.size wr V) => means_any HFIT.out HNW.out HR.out HLF.out (text.extract 0 i) hsz (by omega) (by omega) tg og tcap ocap2 rg rc (.slice ad all.length acap) (.slice td tops.length tcap9) V (HQ.out.2.2.2.2.1.below hb) (HQ.out.1.below hb) (HQ.out.2.1.below hb))
            clear hsz
            go_upto_region 20 with fail
            go_cut [16] (fun bv wx => bv = .bool true ∧ Below wr.heap.size wr wx)
            case first =>
              go_region_with (go_at_call 26; refine (HME.out _ (Below_drew (Below.refl _ _))).mono ?_; rintro e w9 ⟨rfl, hb9⟩; have hb9' := (Below_drew (Below.refl wr.heap.size wr)).trans (hb9.mono (Nat.le_refl _)); clear hb9)
              all_goals
                go_wp2_with fail
                go_meet
                exact ⟨rfl, hb9'⟩
            case rest =>
              obtain ⟨rfl, hbc⟩ := hcut
              obtain ⟨q1, q2, q3, q4, q5, q6⟩ := HQ.out
              have HQ2 : Hid (NodeRow wc (.slice ad all.length acap) all ∧ IRow wc (.slice td tops.length tcap9) (natsI tops) ∧ Below W.heap.size W wc ∧ Blk wc w2.heap.size #[.slice ad all.length acap, .slice td tops.length tcap9] 42 ∧ TabC wc tg og rg rc kd g ∧ Blk wc w4.heap.size #[.slice (some ⟨tg, 0, none⟩) g.rule.length tcap, .slice (some ⟨og, 0, none⟩) g.rule.length ocap2] 48) := ⟨q1.below hbc, q2.below hbc, q3.trans (hbc.mono q3.size), q4.below hbc, q5.below hbc, q6.below hbc⟩
              clear q1 q2 q3 q4 q5 q6 hbc HQ HME c0 c1 r0 r1
              go_wp2_with fail
              go_roundg (102 - (i + 1))
              case measure => omega
              case rel => exact ⟨i + 1, by go_num, by omega, by omega, rfl, HQ2.out.1, HQ2.out.2.1, HQ2.out.2.2.1, HQ2.out.2.2.2.1, HQ2.out.2.2.2.2.1, HQ2.out.2.2.2.2.2⟩
          · have hway : (¬ i ≤ text.size ∧ decide ((i : Int) ≤ (text.size : Int)) = false) ∨ (i ≤ text.size ∧ decide ((i : Int) ≤ (text.size : Int)) = true ∧ decide ((i : Int) ≤ 100) = false ∧ ¬ i ≤ 100) := by
              by_cases e : i ≤ text.size
              · exact .inr ⟨e, by rw [decide_eq_true_iff]; omega, by rw [decide_eq_false_iff_not]; omega, by omega⟩
              · exact .inl ⟨e, by rw [decide_eq_false_iff_not]; omega⟩
            clear hgo
            go_upto_region 18 with fail
            go_cut [95] (fun cv wx => cv = .bool false ∧ wx = wr)
            case first =>
              rcases hway with ⟨f0, f1⟩ | ⟨f0, f1, f2, f3⟩
              all_goals
                clear HQ HFIT HNW HR HLF HAPA
                go_wp2_with fail
                go_meet
                exact ⟨rfl, rfl⟩
            case rest =>
              obtain ⟨rfl, rfl⟩ := hcut
              clear hway
              have HO := hide (ordered_any tg og tcap ocap2 rg rc kd g wc HQ.out.2.2.2.2.1 HR.out HLF.out)
              go_wp2_with fail
              refine HO.out.mono ?_
              rintro e w9 ⟨rfl, hb9⟩
              obtain ⟨q1, q2, q3, q4, q5, q6⟩ := HQ.out
              have HQ2 : Hid (Below W.heap.size W w9 ∧ TabC w9 tg og rg rc kd g ∧ Blk w9 w4.heap.size #[.slice (some ⟨tg, 0, none⟩) g.rule.length tcap, .slice (some ⟨og, 0, none⟩) g.rule.length ocap2] 48) := ⟨q3.trans (hb9.mono q3.size), q5.below hb9, q6.below hb9⟩
              clear q1 q2 q3 q4 q5 q6 hb9 HQ HO c0 c1 r0 r1
              have c0 := HQ2.out.2.2.cell 0
              have c1 := HQ2.out.2.2.cell 1
              have HLV := hide (lively_any tg og tcap ocap2 rg rc kd g w9 HQ2.out.2.1 HR.out HLF.out)
              go_wp2_with fail
              refine HLV.out.mono ?_
              rintro e w10 ⟨rfl, hb10⟩
              obtain ⟨q3, q5, q6⟩ := HQ2.out
              have HQ3 : Hid (Below W.heap.size W w10 ∧ TabC w10 tg og rg rc kd g ∧ Blk w10 w4.heap.size #[.slice (some ⟨tg, 0, none⟩) g.rule.length tcap, .slice (some ⟨og, 0, none⟩) g.rule.length ocap2] 48) := ⟨q3.trans (hb10.mono q3.size), q5.below hb10, q6.below hb10⟩
              clear q3 q5 q6 hb10 HQ2 HLV c0 c1
              have c0 := HQ3.out.2.2.cell 0
              have c1 := HQ3.out.2.2.cell 1
              have HAA := hide (HAPA.out tg og tcap ocap2 rg rc kd g w10 HQ3.out.2.1 HR.out HLF.out)
              go_wp2_with fail
              refine HAA.out.mono ?_
              rintro e w11 ⟨rfl, hb11⟩
              have HB11 := hide (HQ3.out.1.trans (hb11.mono HQ3.out.1.size))
              clear hb11 HAA HQ3 c0 c1
              go_wp2_with fail
              go_ret
              exact ⟨rfl, HB11.out⟩
  · go_wp2_with fail
    go_ret
    exact ⟨rfl, HB3.out.2.2.1⟩
end Go.Proofs.Ytcckhngbdoiikaa
