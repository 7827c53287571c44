import Derived.Test.YtcckhngbdoiikaaM54
import Derived.Test.YtcckhngbdoiikaaM57

namespace Go.Proofs.Ytcckhngbdoiikaa
open Go.RowKit Go.Deep
set_option linter.unusedVariables false

theorem extract_app (x z : ByteArray) : (x ++ z).extract 0 x.size = x := by
  rw [ByteArray.ext_iff]
  apply Array.toList_inj.1
  have h9 : x.data.toList.length = x.size := by simp
  simp only [ByteArray.data_append, ByteArray.data_extract, Array.toList_append, Array.toList_extract, List.extract, List.drop_zero]
  rw [List.take_append_of_le_length (by omega), List.take_of_length_le (by omega)]
theorem gapOf_k {kd : Nat → Nat} {g : Graph} (hf : LexFit kd g) : (gapOf kd g).k ≤ 61 := by
  have hfew := hf.few
  unfold gapOf
  split
  · show 0 ≤ 61
    omega
  · have h := (farD_le (weaveF kd g) (layersF (weaveF kd g) g.rule.length) (layersF (weaveF kd g) g.rule.length).length).1
    rw [layersF_len] at h
    show (farD (weaveF kd g) (layersF (weaveF kd g) g.rule.length) (layersF (weaveF kd g) g.rule.length).length).2 ≤ 61
    rw [layersF_len]
    omega

set_option maxRecDepth 20000 in
set_option maxHeartbeats 6400000 in
theorem late_any (ops : List OpT) (v : Value) (ps : List ByteArray) (pv : Value) (more : ByteArray) (W : World) (h : OpsAt W v ops) (hp : PiecesAt W pv ps) (hmo : more.size ≤ 1048576) :
    Calls Try.prog 11 #[v, pv, .string more] W fun e W' => e = .returned (.bool true) ∧ Below W.heap.size W W' := by
  obtain ⟨i0, trs, hi0, hinv, hfit⟩ := built_fit ops
  have hfew := h.few
  have hso := spell_ok hinv (by omega)
  have HFL := hide (fun w => flows_any w)
  have HBU := hide (fun (w : World) (hb : Below W.heap.size W w) => built_any ops v w (h.below hb))
  have HTO := hide (fun (w : World) (hb : Below W.heap.size W w) => total_any ps pv w (hp.below hb))
  have HPA := hide hp
  have hjs := joinTo_le ps ps.length (Nat.le_refl _)
  have hps := hp.size
  have hpf := hp.few
  obtain ⟨⟨od, ocap, rfl, _⟩, _, _⟩ := h
  obtain ⟨⟨pd, pcap, rfl, hpc⟩, _, _⟩ := hp
  have HPC := hide hpc
  clear hinv hpc
  generalize builtF ops = st at HBU hso hfit
  obtain ⟨all, tops⟩ := st
  simp only at HBU hso hfit
  have HSO := hide hso
  have HFIT := hide hfit
  have hjb : (joinB ps).size ≤ 1048576 := by unfold joinB; omega
  have HSPL := hide (fun (d k : Nat) (e : k + d = ps.length) => joinTo_split ps d k e)
  clear hso hfit hi0 hjs
  go_enter Try.func11, Try.ntmps11
  go_wp2_with fail
  refine (HFL.out _).mono ?_
  rintro e w1 ⟨rfl, hb1⟩
  have HB1 := hide hb1
  clear hb1
  go_wp2_with fail
  refine (HBU.out _ HB1.out).mono ?_
  rintro e w2 ⟨av, tv, rfl, ha, ht, hb2⟩
  obtain ⟨ad, acap, rfl, harow⟩ := ha.form
  obtain ⟨td, tcap, rfl, htrow⟩ := ht.formN
  obtain ⟨w2', hw2⟩ : ∃ w2' : World, w2.alloc (.cells #[.slice ad all.length acap, .slice td tops.length tcap] 42) = w2' := ⟨_, rfl⟩
  have hbb : Below W.heap.size W w2' := by rw [← hw2]; exact (HB1.out.trans (hb2.mono HB1.out.size)).alloc (by have := HB1.out.size; have := hb2.size; omega) _
  have hrb : Blk w2' w2.heap.size #[.slice ad all.length acap, .slice td tops.length tcap] 42 := by rw [← hw2]; exact Blk.new _ _ _
  have ha' : NodeRow w2' (.slice ad all.length acap) all := by rw [← hw2]; exact ha.below (Below1 _ _)
  have ht' : IRow w2' (.slice td tops.length tcap) (natsI tops) := by rw [← hw2]; exact ht.below (Below1 _ _)
  have HGI := hide (given_any all tops _ _ w2' ha' ht' HSO.out HFIT.out.given)
  have HB2 := hide hbb
  have r0 := hrb.cell 0
  have r1 := hrb.cell 1
  clear ha ht hb2 ha' ht' hbb hrb
  go_wp2_with fail
  try rw [hw2]
  clear hw2
  refine HGI.out.mono ?_
  rintro e w3 ⟨hb3, hres⟩
  have HB3 : Hid (Below W.heap.size W w3) := HB2.out.trans (hb3.mono HB2.out.size)
  clear hb3 HB2 HGI r0 r1
  rcases hres with ⟨kd, g, pb, hnw, rfl, hL⟩ | rfl
  · have hlf := newF_fit hnw
    have HLF := hide hlf
    have HL3 := hide hL
    obtain ⟨R, hR⟩ := newF_build hnw
    have HR := hide hR
    clear hnw hL hlf hR
    go_wp2_with fail
    refine (HTO.out _ HB3.out).mono ?_
    rintro e w4 ⟨rfl, hb4⟩
    have HB4 : Hid (Below W.heap.size W w4 ∧ LexAt w4 pb kd g) := ⟨HB3.out.trans (hb4.mono HB3.out.size), HL3.out.below hb4⟩
    clear hb4 HB3 HL3
    by_cases hz : 4096 < (joinB ps).size + more.size
    · have e1 : decide ((4096 : Int) < ((joinB ps).size : Int) + (more.size : Int)) = true := by simp; omega
      go_wp2_with fail
      go_ret
      exact ⟨rfl, HB4.out.1⟩
    · have e1 : decide ((4096 : Int) < ((joinB ps).size : Int) + (more.size : Int)) = false := by simp; omega
      have HOP := hide (opened_any pb kd g w4 HB4.out.2 HLF.out)
      go_wp2_with fail
      refine HOP.out.mono ?_
      rintro e w5 ⟨hb5, hres⟩
      have HB5 : Hid (Below W.heap.size W w5 ∧ LexAt w5 pb kd g ∧ w4.heap.size ≤ w5.heap.size) := ⟨HB4.out.1.trans (hb5.mono HB4.out.1.size), HB4.out.2.below hb5, hb5.size⟩
      have z4 := HB4.out.1.size
      clear hb5 HOP HB4
      rcases hres with ⟨_, rfl⟩ | ⟨hbnd, tb, rfl, hS, hge⟩
      · go_wp2_with fail
        go_ret
        exact ⟨rfl, HB5.out.1⟩
      · have htb : W.heap.size ≤ tb := by omega
        have HGA := hide (gap_any pb kd g w5 HB5.out.2.1 HLF.out)
        have hgk : (gapOf kd g).k ≤ 61 := gapOf_k HLF.out
        have HBN := hide hbnd
        have HS := hide hS
        clear hbnd hS
        obtain ⟨GK, hGK⟩ : ∃ GK, gapOf kd g = GK := ⟨_, rfl⟩
        have HGK := hide hGK
        rw [hGK] at HGA hgk
        clear hGK
        obtain ⟨gb, gk, gf, gt, gl, gp, ga⟩ := GK
        simp only [gapV] at HGA hgk
        have hfd : ∀ w : World, (Instr.field 68 (.agg #[.bool gb, .int .i64 (gk : Int), .string gf, .string gt, .string gl, .string gp, .string ga]) 1).run Try.prog w = .ok (.int .i64 (gk : Int)) w := fun _ => by kernel_rfl
        go_wp2_with fail
        refine HGA.out.mono ?_
        rintro e w6 ⟨rfl, hb6⟩
        have HB6 : Hid (Below W.heap.size W w6 ∧ LexAt w6 pb kd g ∧ StreamAt w6 tb pb (startS 0) false) := ⟨HB5.out.1.trans (hb6.mono HB5.out.1.size), HB5.out.2.1.below hb6, Blk.below HS.out hb6⟩
        clear hb6 HB5 HGA HS
        have HSP := hide (split_any pb kd g (joinB ps) w6 HB6.out.2.1 HLF.out.ok (by unfold maxLen; omega))
        go_wp2_with fail
        refine HSP.out.mono ?_
        rintro e w7 ⟨hb7, hres⟩
        rcases hres with ⟨hbad, _⟩ | ⟨_, mv, rfl, hM, hMo⟩
        · omega
        have HB7 : Hid (Below W.heap.size W w7 ∧ LexAt w7 pb kd g ∧ StreamAt w7 tb pb (startS 0) false ∧ TokRow w7 mv (cutF kd g (joinB ps))) := ⟨HB6.out.1.trans (hb7.mono HB6.out.1.size), HB6.out.2.1.below hb7, Blk.below HB6.out.2.2 hb7, hM⟩
        clear hb7 hM hMo HSP HB6
        have hcp := cutF_path kd g (joinB ps)
        have hcl := hcp.le
        have hin := path_in hcp
        have HIN := hide hin
        have hMf := HB7.out.2.2.2
        obtain ⟨m, hm⟩ : ∃ m, cutF kd g (joinB ps) = m := ⟨_, rfl⟩
        have HM := hide hm
        rw [hm] at HB7 hcl hMf HIN
        obtain ⟨md, mcap, rfl, hmrow⟩ := hMf.form
        have hml : m.length ≤ 4096 := by omega
        have hSz : (joinB ps).size + more.size ≤ 4096 := by omega
        clear hMf hcp hin hm hcl
        go_wp2_with fail
        go_loopg [17, 18, 19] ps.length (fun G kv nv iv wr => ∃ (i p : Nat) (sv : SavT) (pre : List TokT), kv = .int .i64 (pre.length : Int) ∧ nv = .int .i64 ((joinTo ps i).size : Int) ∧ iv = .int .i64 (i : Int) ∧ i ≤ ps.length ∧ G = ps.length - i ∧ Told kd g (joinTo ps i) p sv pre ∧ StreamAt wr tb pb sv false ∧ LexAt wr pb kd g ∧ TokRow wr (.slice md m.length mcap) m ∧ Below W.heap.size W wr)
        case atStart => exact ⟨0, 0, startS 0, [], rfl, rfl, rfl, by omega, rfl, Told.start kd g, HB7.out.2.2.1, HB7.out.2.1, HB7.out.2.2.2, HB7.out.1⟩
        case round =>
          obtain ⟨i, p, sv, pre, rfl, rfl, rfl, hi, rfl, hto, hStr, hLex, hTm, hbw⟩ := hrel
          obtain ⟨q1, q2⟩ := hto.st.sizes
          by_cases hlt : i < ps.length
          · have e2 : decide ((i : Int) < (ps.length : Int)) = true := by simp; omega
            rcases HPC.out with h9 | ⟨ppb, poff, rfl, hpl, hpc⟩
            · omega
            have cW := hpc i hlt
            have c0 := (hbw.cell (p := ⟨ppb, poff + i, none⟩) hpl).trans cW
            obtain ⟨z, hz⟩ := HSPL.out (ps.length - (i + 1)) (i + 1) (by omega)
            have hnx : joinTo ps (i + 1) = joinTo ps i ++ ps[i] := by show joinTo ps i ++ ps.getD i ⟨#[]⟩ = _; simp [hlt]
            obtain ⟨p', f1, f2⟩ := hto.feed HLF.out.ok ps[i]
            rw [← hnx] at f1 f2
            have hs1 : (joinTo ps (i + 1)).size = (joinTo ps i).size + ps[i].size := by rw [hnx, ByteArray.size_append]
            have hs2 : (joinB ps).size = (joinTo ps (i + 1)).size + z.size := by rw [hz, ByteArray.size_append]
            have hex : (joinB ps).extract 0 (joinTo ps (i + 1)).size = joinTo ps (i + 1) := by rw [hz]; exact extract_app _ _
            have HFE := hide (feed_any tb pb kd g sv ps[i] wr hStr hLex HLF.out.ok (by omega) q1)
            have g1 := f1.stands z
            have g2 := f1.stands more
            have g3 := f1.due HR.out HLF.out HBN.out f2 z (if gk < 1 then 1 else gk) (by rw [HGK.out]; show gk ≤ _; split <;> omega) (by split <;> omega)
            rw [← hz, HM.out] at g1 g3
            generalize ps[i] = y at c0 cW HFE f1 g1 g2 g3 hs1
            generalize onF kd g sv y false = R' at HFE f1 g1 g2 g3
            obtain ⟨l, sv'⟩ := R'
            simp only at f1 g1 g2 g3
            have i0' : (0 : Int) ≤ (i : Int) := by omega
            have i1' : (i : Int) < (ps.length : Int) := by omega
            have HH : Hid (StreamAt wr tb pb sv false ∧ LexAt wr pb kd g ∧ TokRow wr (.slice md m.length mcap) m ∧ Below W.heap.size W wr) := ⟨hStr, hLex, hTm, hbw⟩
            have HF : Hid (Told kd g (joinTo ps (i + 1)) p' sv' (pre ++ l)) := f1
            have hJ1 := hs1
            have HEX := hide hex
            have HG1 := hide g1
            have HG2 := hide g2
            have HG3 := hide g3
            have HCW := hide cW
            clear cW
            have hpl' : pre.length + l.length ≤ 4096 := by omega
            generalize hJ : joinTo ps (i + 1) = J at HF HEX HG2 HG3 hs1 hs2 f2 hJ1
            generalize hJ' : joinTo ps i = J0 at hs1 hJ1 q2
            clear hStr hLex hTm hbw hto f1 f2 g1 g2 g3 hnx hz hex q1 q2 hpc
            have HJ := hide hJ
            have hle5 : J0.size + y.size + more.size ≤ 4096 := by omega
            have hle6 : J0.size + y.size ≤ (joinB ps).size := by omega
            have HS1 := hide hs1
            clear hJ hJ' hs1 hs2 hJ1
            go_wp2_with fail
            refine HFE.out.mono ?_
            rintro e w8 ⟨lv, rfl, hT8, _, hS8, hk8⟩
            obtain ⟨r1, r2, r3, r4⟩ := HH.out
            obtain ⟨ld, lcap, rfl, _⟩ := hT8.form
            have HH8 : Hid (StreamAt w8 tb pb sv' false ∧ LexAt w8 pb kd g ∧ TokRow w8 (.slice md m.length mcap) m ∧ Below W.heap.size W w8 ∧ TokRow w8 (.slice ld l.length lcap) l) := ⟨hS8, r2.keptS r1 hk8, r3.keptS r1 hk8, below_keptS r4 r4.size htb hk8, hT8⟩
            have c0' : w8.cell? ⟨ppb, poff + i, none⟩ = some (.string y) := (HH8.out.2.2.2.1.cell (p := ⟨ppb, poff + i, none⟩) hpl).trans HCW.out
            have hexy : (joinB ps).extract 0 (J0.size + y.size) = J := by rw [← HS1.out]; exact HEX.out
            have HSP := hide (split_any pb kd g ((joinB ps).extract 0 (J0.size + y.size) ++ more) w8 HH8.out.2.1 HLF.out.ok (by rw [hexy, ByteArray.size_append, HS1.out]; unfold maxLen; omega))
            have hle4 : (J ++ more).size ≤ 4096 := by rw [ByteArray.size_append, HS1.out]; exact hle5
            have HXY := hide hexy
            clear hexy
            clear r1 r2 r3 r4 hT8 hS8 hk8 HH HFE c0
            go_wp2_with fail
            refine HSP.out.mono ?_
            rintro e w9 ⟨hb9, hres⟩
            rw [HXY.out] at hres
            rcases hres with ⟨hbad, _⟩ | ⟨_, ov, rfl, hO, _⟩
            · omega
            obtain ⟨h81, h82, h83, h84, h85⟩ := HH8.out
            have hcl2 := (cutF_path kd g (J ++ more)).le
            have HG2' := HG2
            generalize cutF kd g (J ++ more) = other at hO HG2' hcl2
            obtain ⟨od2, ocap2, rfl, _⟩ := hO.form
            have HH9 : Hid (StreamAt w9 tb pb sv' false ∧ LexAt w9 pb kd g ∧ TokRow w9 (.slice md m.length mcap) m ∧ Below W.heap.size W w9 ∧ TokRow w9 (.slice ld l.length lcap) l ∧ TokRow w9 (.slice od2 other.length ocap2) other) := ⟨Blk.below h81 hb9, h82.below hb9, h83.below hb9, h84.trans (hb9.mono h84.size), h85.below hb9, hO⟩
            clear h81 h82 h83 h84 h85 hO hb9 HH8 HSP c0' HG2
            have HST := hide (stands_any l m pre.length (.slice ld l.length lcap) (.slice md m.length mcap) w9 HH9.out.2.2.2.2.1 HH9.out.2.2.1 HG1.out.1 HG1.out.2 (by omega))
            go_wp2_with fail
            refine HST.out.mono ?_
            rintro e w10 ⟨rfl, hb10⟩
            obtain ⟨h91, h92, h93, h94, h95, h96⟩ := HH9.out
            have HH10 : Hid (StreamAt w10 tb pb sv' false ∧ LexAt w10 pb kd g ∧ TokRow w10 (.slice md m.length mcap) m ∧ Below W.heap.size W w10 ∧ TokRow w10 (.slice ld l.length lcap) l ∧ TokRow w10 (.slice od2 other.length ocap2) other) := ⟨Blk.below h91 hb10, h92.below hb10, h93.below hb10, h94.trans (hb10.mono h94.size), h95.below hb10, h96.below hb10⟩
            clear h91 h92 h93 h94 h95 h96 hb10 HH9 HST
            have HST := hide (stands_any l other pre.length (.slice ld l.length lcap) (.slice od2 other.length ocap2) w10 HH10.out.2.2.2.2.1 HH10.out.2.2.2.2.2 HG2'.out.1 HG2'.out.2 (by omega))
            go_wp2_with fail
            refine HST.out.mono ?_
            rintro e w11 ⟨rfl, hb11⟩
            obtain ⟨h91, h92, h93, h94, _, _⟩ := HH10.out
            have HH11 : Hid (StreamAt w11 tb pb sv' false ∧ LexAt w11 pb kd g ∧ TokRow w11 (.slice md m.length mcap) m ∧ Below W.heap.size W w11) := ⟨Blk.below h91 hb11, h92.below hb11, h93.below hb11, h94.trans (hb11.mono h94.size)⟩
            clear h91 h92 h93 h94 hb11 HH10 HST
            have hdu := due_any m (J0.size + y.size) gk (if gk < 1 then 1 else gk) (.slice md m.length mcap) w11 HH11.out.2.2.1 (by omega) (by omega) rfl (by omega) (fun t ht => by have := HIN.out t ht; omega)
            have hd3 := HG3.out
            rw [HS1.out, List.length_append] at hd3
            rw [show ((J0.size + y.size : Nat) : Int) = (J0.size : Int) + (y.size : Int) from Int.natCast_add _ _] at hdu
            generalize dueF (J0.size + y.size) (if gk < 1 then 1 else gk) m = D at hdu hd3
            have HDU := hide hdu
            have e3 : decide ((pre.length : Int) + (l.length : Int) < (D : Int)) = false := by simp; omega
            have e3' : ¬ pre.length + l.length < D := by omega
            clear hdu hd3
            go_wp2_with fail
            refine HDU.out.mono ?_
            rintro e w12 ⟨rfl, hb12⟩
            obtain ⟨h91, h92, h93, h94⟩ := HH11.out
            have HH12 : Hid (StreamAt w12 tb pb sv' false ∧ LexAt w12 pb kd g ∧ TokRow w12 (.slice md m.length mcap) m ∧ Below W.heap.size W w12) := ⟨Blk.below h91 hb12, h92.below hb12, h93.below hb12, h94.trans (hb12.mono h94.size)⟩
            clear h91 h92 h93 h94 hb12 HH11 HDU
            go_wp2_with fail
            go_roundg (ps.length - (i + 1))
            case measure => omega
            case rel =>
              have hJJ := HJ.out
              exact ⟨i + 1, p', sv', pre ++ l, by rw [List.length_append]; go_num, by rw [hJJ, HS1.out]; go_num, by go_num, by omega, rfl, by rw [hJJ]; exact HF.out, HH12.out.1, HH12.out.2.1, HH12.out.2.2.1, HH12.out.2.2.2⟩
          · have e2 : decide ((i : Int) < (ps.length : Int)) = false := by simp; omega
            have HB := hide hbw
            clear hStr hLex hTm hbw hto q1 q2
            go_wp2_with fail
            go_ret
            exact ⟨rfl, HB.out⟩
  · go_wp2_with fail
    refine (HTO.out _ HB3.out).mono ?_
    rintro e w4 ⟨rfl, hb4⟩
    have HB4 : Hid (Below W.heap.size W w4) := HB3.out.trans (hb4.mono HB3.out.size)
    clear hb4
    go_wp2_with fail
    go_ret
    exact ⟨rfl, HB4.out⟩
end Go.Proofs.Ytcckhngbdoiikaa
