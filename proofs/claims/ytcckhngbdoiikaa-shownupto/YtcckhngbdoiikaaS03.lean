import Derived.Test.YtcckhngbdoiikaaS02
import Derived.Test.YtcckhngbdoiikaaS01
import Derived.Test.YtcckhngbdoiikaaM37
import Derived.Test.YtcckhngbdoiikaaM58
import Derived.Test.YtcckhngbdoiikaaM12
import Derived.Deep.RegionWith

namespace Go.Proofs.Ytcckhngbdoiikaa
open Go.RowKit Go.Deep
set_option linter.unusedVariables false

theorem extract_rest (x z : ByteArray) : (x ++ z).extract x.size (x ++ z).size = z := by
  rw [ByteArray.ext_iff]
  apply Array.toList_inj.1
  have h9 : x.data.toList.length = x.size := by simp
  simp only [ByteArray.data_append, ByteArray.data_extract, Array.toList_append, Array.toList_extract, List.extract, ByteArray.size_append]
  rw [List.drop_append_of_le_length (by omega), List.drop_of_length_le (by omega), List.nil_append, List.take_of_length_le (by simp)]

theorem emptyL (s : ByteArray) (h : s.size = 0) : s.toList.isEmpty = true := by
  unfold ByteArray.toList
  unfold ByteArray.toList.loop
  rw [if_neg (by omega)]
  rfl

set_option maxRecDepth 20000 in
set_option maxHeartbeats 6400000 in
theorem shown_any (ops : List OpT) (v : Value) (turns : Int) (W : World) (h : OpsAt W v ops) (htu : -9223372036854775808 ≤ turns ∧ turns ≤ 9223372036854775807) :
    Calls Try.prog 9 #[v, .int .i64 turns] W fun e W' => e = .returned (.bool true) ∧ Below W.heap.size W W' := by
  obtain ⟨i0, trs, hi0, hinv, hfit⟩ := built_fit ops
  have hfew := h.few
  have hso := spell_ok hinv (by omega)
  have hall := hinv.all
  have hlen := hinv.len
  have HSU := hide (fun w => sure_any w)
  have HBU := hide (fun (w : World) (hb : Below W.heap.size W w) => built_any ops v w (h.below hb))
  obtain ⟨⟨od, ocap, rfl, _⟩, _, _⟩ := h
  clear hinv
  generalize builtF ops = st at HBU hso hfit hall hlen
  obtain ⟨all, tops⟩ := st
  simp only at HBU hso hfit hall hlen
  have hal : all.length ≤ 1048577 := by omega
  have htl : tops.length ≤ 1048577 := by omega
  have HSO := hide hso
  have HFIT := hide hfit
  clear hso hfit hall hlen hi0
  go_enter Try.func9, Try.ntmps9
  go_wp2_with fail
  refine (HSU.out _).mono ?_
  rintro e w1 ⟨rfl, hb1⟩
  have HB1 := hide hb1
  clear hb1
  go_wp2_with fail
  refine (HBU.out _ HB1.out).mono ?_
  rintro e w2 ⟨av, tv, rfl, ha, ht, hb2⟩
  obtain ⟨ad, acap, rfl, harow⟩ := ha.form
  obtain ⟨td, tcap9, rfl, htrow⟩ := ht.formN
  obtain ⟨w2', hw2⟩ : ∃ w2' : World, w2.alloc (.cells #[.slice ad all.length acap, .slice td tops.length tcap9] 42) = w2' := ⟨_, rfl⟩
  have hbb : Below W.heap.size W w2' := by rw [← hw2]; exact (HB1.out.trans (hb2.mono HB1.out.size)).alloc (by have := HB1.out.size; have := hb2.size; omega) _
  have hrb : Blk w2' w2.heap.size #[.slice ad all.length acap, .slice td tops.length tcap9] 42 := by rw [← hw2]; exact Blk.new _ _ _
  have ha' : NodeRow w2' (.slice ad all.length acap) all := by rw [← hw2]; exact ha.below (Below1 _ _)
  have ht' : IRow w2' (.slice td tops.length tcap9) (natsI tops) := by rw [← hw2]; exact ht.below (Below1 _ _)
  have HGI := hide (given_any all tops _ _ w2' ha' ht' HSO.out HFIT.out.given)
  have HB2 : Hid (NodeRow w2' (.slice ad all.length acap) all ∧ IRow w2' (.slice td tops.length tcap9) (natsI tops) ∧ Below W.heap.size W w2' ∧ Blk w2' w2.heap.size #[.slice ad all.length acap, .slice td tops.length tcap9] 42) := ⟨ha', ht', hbb, hrb⟩
  have r0 := hrb.cell 0
  have r1 := hrb.cell 1
  clear ha ht hb2 ha' ht' hbb hrb
  go_wp2_with fail
  try rw [hw2]
  clear hw2
  refine HGI.out.mono ?_
  rintro e w3 ⟨hb3, hres⟩
  have HB3 : Hid (NodeRow w3 (.slice ad all.length acap) all ∧ IRow w3 (.slice td tops.length tcap9) (natsI tops) ∧ Below W.heap.size W w3 ∧ Blk w3 w2.heap.size #[.slice ad all.length acap, .slice td tops.length tcap9] 42) :=
    ⟨HB2.out.1.below hb3, HB2.out.2.1.below hb3, HB2.out.2.2.1.trans (hb3.mono HB2.out.2.2.1.size), HB2.out.2.2.2.below hb3⟩
  clear hb3 HB2 HGI r0 r1
  rcases hres with ⟨kd, g, pb, hnw, rfl, hL⟩ | rfl
  · have hlf := newF_fit hnw
    obtain ⟨R, hR⟩ := newF_build hnw
    have HNW := hide hnw
    have HLF := hide hlf
    have HR := hide hR
    have HTD := hide (told_any pb kd g w3 hL hR hlf)
    have HL := hide hL
    have hfw := hlf.few
    clear hnw hlf hR hL
    go_wp2_with fail
    refine HTD.out.mono ?_
    rintro e w4 ⟨tg, tcap, og, ocap2, rg, rc, rfl, hTC, hb4⟩
    obtain ⟨w4', hw4⟩ : ∃ w4' : World, w4.alloc (.cells #[.slice (some ⟨tg, 0, none⟩) g.rule.length tcap, .slice (some ⟨og, 0, none⟩) g.rule.length ocap2] 48) = w4' := ⟨_, rfl⟩
    have hb4' : Below w3.heap.size w3 w4' := by rw [← hw4]; exact hb4.alloc hb4.size _
    have hTb : Blk w4' w4.heap.size #[.slice (some ⟨tg, 0, none⟩) g.rule.length tcap, .slice (some ⟨og, 0, none⟩) g.rule.length ocap2] 48 := by rw [← hw4]; exact Blk.new _ _ _
    have hTC' : TabC w4' tg og rg rc kd g := by rw [← hw4]; exact hTC.below (Below1 _ _)
    have HB4 : Hid (NodeRow w4' (.slice ad all.length acap) all ∧ IRow w4' (.slice td tops.length tcap9) (natsI tops) ∧ Below W.heap.size W w4' ∧ Blk w4' w2.heap.size #[.slice ad all.length acap, .slice td tops.length tcap9] 42 ∧ TabC w4' tg og rg rc kd g ∧ Blk w4' w4.heap.size #[.slice (some ⟨tg, 0, none⟩) g.rule.length tcap, .slice (some ⟨og, 0, none⟩) g.rule.length ocap2] 48) :=
      ⟨HB3.out.1.below hb4', HB3.out.2.1.below hb4', HB3.out.2.2.1.trans (hb4'.mono HB3.out.2.2.1.size), HB3.out.2.2.2.below hb4', hTC', hTb⟩
    have HGA := hide (gap_any pb kd g w4' (HL.out.below hb4') HLF.out)
    have HGR := hide (fun (V : World) (hb : Below w4'.heap.size w4' V) => greatest_any tg og tcap ocap2 rg rc kd g V (hTC'.below hb) HR.out HLF.out)
    have hsh := gap_short HR.out HLF.out
    have hen := fun (hb : (gapOf kd g).bounded = false) (i : Nat) => gap_endless HR.out hb i
    have hbo := fun (hb : (gapOf kd g).bounded = true) => gap_bounded HR.out HLF.out hb
    have hgk := gapOf_k HLF.out
    generalize gapOf kd g = GK at HGA HGR hsh hen hbo hgk
    obtain ⟨gb, gk, gf, gt, gl, gp, ga⟩ := GK
    simp only [gapV] at HGA HGR hsh hen hbo hgk
    obtain ⟨sh1, sh2, sh3, sh4⟩ := hsh
    have HEN := hide hen
    have HBO := hide hbo
    clear hb4 hb4' hTb hTC' hTC HB3 HTD HL hen hbo
    go_wp2_with fail
    try rw [hw4]
    clear hw4
    refine HGA.out.mono ?_
    rintro e w5 ⟨rfl, hb5⟩
    obtain ⟨w5', hw5⟩ : ∃ w5' : World, w5.alloc (.cells #[.bool gb, .int .i64 (gk : Int), .string gf, .string gt, .string gl, .string gp, .string ga] 68) = w5' := ⟨_, rfl⟩
    have hb5' : Below w4'.heap.size w4' w5' := by rw [← hw5]; exact hb5.alloc hb5.size _
    have hGb : Blk w5' w5.heap.size #[.bool gb, .int .i64 (gk : Int), .string gf, .string gt, .string gl, .string gp, .string ga] 68 := by rw [← hw5]; exact Blk.new _ _ _
    obtain ⟨q1, q2, q3, q4, q5, q6⟩ := HB4.out
    have hT5 := q6.below hb5'
    have t0 := hT5.cell 0
    have t1 := hT5.cell 1
    have HB5 : Hid (NodeRow w5' (.slice ad all.length acap) all ∧ IRow w5' (.slice td tops.length tcap9) (natsI tops) ∧ Below W.heap.size W w5' ∧ Blk w5' w2.heap.size #[.slice ad all.length acap, .slice td tops.length tcap9] 42 ∧ Blk w5' w5.heap.size #[.bool gb, .int .i64 (gk : Int), .string gf, .string gt, .string gl, .string gp, .string ga] 68) :=
      ⟨q1.below hb5', q2.below hb5', q3.trans (hb5'.mono q3.size), q4.below hb5', hGb⟩
    have hg5 := HGR.out w5' hb5'
    obtain ⟨V, hV⟩ : ∃ V, (if gb = true then (gk : Int) else -1) = V := ⟨_, rfl⟩
    rw [hV] at hg5
    have HG5 := hide hg5
    have HV := hide hV
    clear hg5 hV
    clear q1 q2 q3 q4 q5 q6 hb5 hb5' hGb hT5 HB4 HGA HGR
    go_wp2_with fail
    try rw [hw5]
    clear hw5
    refine HG5.out.mono ?_
    rintro e w6 ⟨rfl, hb6⟩
    obtain ⟨q1, q2, q3, q4, q5⟩ := HB5.out
    have HB6 : Hid (NodeRow w6 (.slice ad all.length acap) all ∧ IRow w6 (.slice td tops.length tcap9) (natsI tops) ∧ Below W.heap.size W w6 ∧ Blk w6 w2.heap.size #[.slice ad all.length acap, .slice td tops.length tcap9] 42 ∧ Blk w6 w5.heap.size #[.bool gb, .int .i64 (gk : Int), .string gf, .string gt, .string gl, .string gp, .string ga] 68) :=
      ⟨q1.below hb6, q2.below hb6, q3.trans (hb6.mono q3.size), q4.below hb6, q5.below hb6⟩
    clear q1 q2 q3 q4 q5 hb6 HB5 HG5 t0 t1
    have g0 := HB6.out.2.2.2.2.cell 0
    have g1 := HB6.out.2.2.2.2.cell 1
    have g2 := HB6.out.2.2.2.2.cell 2
    have g3 := HB6.out.2.2.2.2.cell 3
    have g4 := HB6.out.2.2.2.2.cell 4
    have g5 := HB6.out.2.2.2.2.cell 5
    have g6 := HB6.out.2.2.2.2.cell 6
    have r0 := HB6.out.2.2.2.1.cell 0
    have r1 := HB6.out.2.2.2.1.cell 1
    have zg := HB6.out.2.2.2.2.lt
    have zr := HB6.out.2.2.2.1.lt
    have e1 : decide ((g.rule.length : Int) < (gf.size : Int)) = false := by rw [decide_eq_false_iff_not]; omega
    have e1' : ¬ g.rule.length < gf.size := by omega
    cases gb with
    | false =>
      obtain rfl : V = -1 := by rw [← HV.out]; rfl
      have hen0 := HEN.out rfl 0
      have hpk := pickF_lt turns 122 (by omega)
      have HPK := hide (fun w => pick_any turns 122 htu (by omega) (by omega) w)
      generalize pickF turns 122 = pk at HPK hpk
      obtain ⟨p1, p2, p3, p4, p5⟩ := HEN.out rfl pk
      have n3 := emptyL gt p4
      subst p5
      have n1 := notEmpty gp (by omega)
      have n2 := notEmpty ga (by omega)
      have hmul : ∀ j, j ≤ pk → j * gp.size ≤ 121 * 61 := fun j hj => Nat.mul_le_mul (by omega) (by omega)
      have HTZ := hide (fun j => turnsB_size gl gp j)
      have hmp := hmul pk (Nat.le_refl _)
      have HMU := hide hmul
      have htz := turnsB_size gl gp pk
      have HNB := hide (neighbours_any HFIT.out HNW.out gf (turnsB gl gp pk ++ ga) p1 (by rw [ByteArray.size_append]; omega) (by rw [ByteArray.size_append]; omega) (by omega) (by omega) (.slice ad all.length acap) (.slice td tops.length tcap9) w6 HB6.out.1 HB6.out.2.1)
      clear p1 p4 hen0 hmul hmp htz HEN HBO
      go_wp2_with fail
      refine (HPK.out _).mono ?_
      rintro e w7 ⟨rfl, rfl⟩
      clear HPK
      go_wp2_with fail
      go_loopg [14, 15] pk (fun G wv iv wr => ∃ (j m : Nat), wv = .string (turnsB gl gp j) ∧ iv = .int .i64 (m : Int) ∧ m + j = pk ∧ m = G ∧ wr = w7)
      case atStart => exact ⟨0, pk, rfl, rfl, by omega, rfl, rfl⟩
      case round =>
        obtain ⟨j, m, rfl, rfl, hmj, rfl, rfl⟩ := hrel
        have htz := HTZ.out j
        have hmu := HMU.out j (by omega)
        by_cases hm : 0 < m
        · have e2 : decide ((0 : Int) < (m : Int)) = true := by rw [decide_eq_true_iff]; omega
          have u1 : ∀ W : World, (Op.stringOp .add (turnsB gl gp j) gp).run Try.prog W = .ok (.string (turnsB gl gp j ++ gp)) W := fun W => run_string_add_sum W _ _ (by omega)
          clear htz hmu
          go_wp2_with fail
          go_roundg (m - 1)
          case measure => omega
          case rel => exact ⟨j + 1, m - 1, rfl, by go_num, by omega, rfl, rfl⟩
        · have e2 : decide ((0 : Int) < (m : Int)) = false := by rw [decide_eq_false_iff_not]; omega
          obtain rfl : m = 0 := by omega
          obtain rfl : j = pk := by omega
          have u1 : ∀ W : World, (Op.stringOp .add (turnsB gl gp j) ga).run Try.prog W = .ok (.string (turnsB gl gp j ++ ga)) W := fun W => run_string_add_sum W _ _ (by omega)
          have e3 : decide ((gl.size : Int) ≤ (g.rule.length : Int)) = true := by rw [decide_eq_true_iff]; omega
          have e4 : decide ((gp.size : Int) ≤ (g.rule.length : Int)) = true := by rw [decide_eq_true_iff]; omega
          have e5 : decide ((ga.size : Int) ≤ (g.rule.length : Int)) = true := by rw [decide_eq_true_iff]; omega
          clear htz hmu hmj HMU HTZ
          go_wp2_with fail
          refine HNB.out.mono ?_
          rintro e w8 ⟨rfl, hb8⟩
          have HB8 := hide (HB6.out.2.2.1.trans (hb8.mono HB6.out.2.2.1.size))
          have hG8 := HB6.out.2.2.2.2.below hb8
          have i1 := hG8.cell 1
          have i3 := hG8.cell 3
          have i5 := hG8.cell 5
          have i6 := hG8.cell 6
          clear hb8 hG8 g0 g1 g2 g3 g4 g5 g6 r0 r1 HNB HB6
          go_wp2_with fail
          go_ret
          exact ⟨rfl, HB8.out⟩
    | true =>
      obtain rfl : V = (gk : Int) := by rw [← HV.out]; rfl
      obtain ⟨p1, p2, p3, p4, p5⟩ := HBO.out rfl
      have h1 := emptyL gl p1
      have h2 := emptyL gp p2
      have h3 := emptyL ga p3
      have k0 : decide ((0 : Int) ≤ (gk : Int)) = true := by simp
      have k1 : decide ((gk : Int) < 0) = false := by simp
      have HP := hide (And.intro p4 p5)
      clear p1 p2 p3 p4 p5 HEN HBO
      by_cases hk0 : gk = 0
      · have hz := HP.out.1 hk0
        have h4 := emptyL gf hz.1
        have h5 := emptyL gt hz.2
        have k2 : ((gk : Int) == 0) = true := by rw [hk0]; rfl
        clear hz
        subst hk0
        go_wp2_with fail
        go_ret
        exact ⟨rfl, HB6.out.2.2.1⟩
      · obtain ⟨z, z1, z2, z3⟩ := HP.out.2 (by omega)
        have k2 : ((gk : Int) == 0) = false := by rw [beq_eq_false_iff_ne]; omega
        have hk3 : ¬ gk = 0 := hk0
        have hts : gt.size = gf.size + gk := by rw [z2, ByteArray.size_append, z1]
        have hx1 : gt.extract 0 gf.size = gf := by rw [z2]; exact extract_app _ _
        have hx2 : gt.extract gf.size gt.size = z := by rw [z2]; exact extract_rest _ _
        have m1 : ((gt.extract 0 gf.size).toList == gf.toList) = true := by rw [hx1]; simp
        have HNB := hide (neighbours_any HFIT.out HNW.out gf (gt.extract gf.size gt.size) (by rw [hx2]; exact z3) (by rw [hx2]; omega) (by rw [hx2]; omega) (by omega) (by omega) (.slice ad all.length acap) (.slice td tops.length tcap9))
        have j0 : (0 : Int) ≤ (gf.size : Int) := by omega
        have j1 : (gf.size : Int) ≤ (gt.size : Int) := by omega
        obtain ⟨q, hq⟩ : ∃ q : Nat, (gf.size : Int) + (gk : Int) = (q : Int) := ⟨gf.size + gk, by omega⟩
        have m2 : ((gt.size : Int) != (q : Int)) = false := by rw [bne_eq_false_iff_eq]; omega
        have hqs : gt.size = q := by omega
        have hq9 : q ≤ 200 := by omega
        have b1 : IntKind.i64.wrap ((gf.size : Int) + (gk : Int)) = (q : Int) := (Go.IntWalk.i64_left _).trans (by rw [hq]; unfold wrap64; omega)
        clear hts hx1 hx2 z1 z2 z3 HP hk0 hq hqs
        go_upto_region 28 with fail
        go_quiet (fail)
        clear b1 m2
        go_upto_region 30 with fail
        obtain ⟨w7, hw7⟩ : ∃ w7 : World, w6.drewN nq = w7 := ⟨_, rfl⟩
        have hb7 : Below w6.heap.size w6 w7 := by rw [← hw7]; exact Below_drewN (Below.refl _ _) _
        try rw [hw7]
        obtain ⟨q1, q2, q3, q4, q5⟩ := HB6.out
        have HB7 : Hid (NodeRow w7 (.slice ad all.length acap) all ∧ IRow w7 (.slice td tops.length tcap9) (natsI tops) ∧ Below W.heap.size W w7) := ⟨q1.below hb7, q2.below hb7, q3.trans (hb7.mono q3.size)⟩
        have hr7 := q4.below hb7
        have hg7 := q5.below hb7
        have i0 := hr7.cell 0
        have i1 := hr7.cell 1
        have i2 := hg7.cell 2
        have i3 := hg7.cell 3
        clear hw7 hb7 q1 q2 q3 q4 q5 hr7 hg7 g0 g1 g2 g3 g4 g5 g6 r0 r1 HB6
        go_region_with (go_at_call 39; refine (HNB.out _ (HB7.out.1.below (Below_drew (Below.refl _ _))) (HB7.out.2.1.below (Below_drew (Below.refl _ _)))).mono ?_; rintro e w8 ⟨rfl, hb8⟩; have hb8' := (Below_drew HB7.out.2.2).trans (hb8.mono HB7.out.2.2.size); clear hb8)
        all_goals
          go_wp2_with fail
          go_ret
          exact ⟨rfl, hb8'⟩
  · go_wp2_with fail
    go_ret
    exact ⟨rfl, HB3.out.2.2.1⟩
end Go.Proofs.Ytcckhngbdoiikaa
