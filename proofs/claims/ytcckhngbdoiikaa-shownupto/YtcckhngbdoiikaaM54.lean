import Derived.Test.YtcckhngbdoiikaaM53
import Derived.Test.YtcckhngbdoiikaaM37
import Derived.Test.YtcckhngbdoiikaaM32
import Derived.Test.YtcckhngbdoiikaaM40

namespace Go.Proofs.Ytcckhngbdoiikaa
open Go.RowKit Go.Deep
set_option linter.unusedVariables false

theorem joinTo_split (ps : List ByteArray) : ∀ (d k : Nat), k + d = ps.length → ∃ z, joinB ps = joinTo ps k ++ z
  | 0, k, h => ⟨⟨#[]⟩, by
      have e : k = ps.length := by omega
      subst e
      show joinTo ps ps.length = joinTo ps ps.length ++ _
      apply ByteArray.ext
      simp⟩
  | d + 1, k, h => by
    obtain ⟨z, hz⟩ := joinTo_split ps d (k + 1) (by omega)
    refine ⟨ps.getD k ⟨#[]⟩ ++ z, ?_⟩
    rw [hz]
    show joinTo ps k ++ ps.getD k ⟨#[]⟩ ++ z = _
    rw [ByteArray.append_assoc]

theorem LexAt.keptS {w w' : World} {pb : Nat} {kd : Nat → Nat} {g : Graph} {tb : Nat} {x : SavT} {c : Bool} {pb' : Nat} (h : LexAt w pb kd g) (hs : StreamAt w tb pb' x c) (k : Kept (fun b => b = tb) w w') : LexAt w' pb kd g := by
  obtain ⟨ruv, nxv, h1, h2⟩ := h
  refine ⟨ruv, nxv, h1.kept k (fun e => ?_), h2.keptAt k hs (by decide) (by decide)⟩
  subst e
  have := (h1.one hs).2
  revert this
  decide
theorem TokRow.keptS {w w' : World} {v : Value} {l : List TokT} {tb : Nat} {x : SavT} {c : Bool} {pb' : Nat} (h : TokRow w v l) (hs : StreamAt w tb pb' x c) (k : Kept (fun b => b = tb) w w') : TokRow w' v l :=
  h.kept k (fun b hb e => by subst e; exact ownsRow_ne h hs (by decide) hb)
theorem below_keptS {n : Nat} {W w w' : World} {tb : Nat} (h : Below n W w) (hn : n ≤ w.heap.size) (ht : n ≤ tb) (k : Kept (fun b => b = tb) w w') : Below n W w' :=
  h.trans ⟨k.os, k.tape, k.output, k.size, fun b hb => k.block b (by omega) (by omega)⟩

set_option maxRecDepth 20000 in
set_option maxHeartbeats 6400000 in
theorem chunks_any (ops : List OpT) (v : Value) (ps : List ByteArray) (pv : Value) (W : World) (h : OpsAt W v ops) (hp : PiecesAt W pv ps) :
    Calls Try.prog 10 #[v, pv] W fun e W' => e = .returned (.bool true) ∧ Below W.heap.size W W' := by
  obtain ⟨i0, trs, hi0, hinv, hfit⟩ := built_fit ops
  have hfew := h.few
  have hso := spell_ok hinv (by omega)
  have HFL := hide (fun w => flows_any w)
  have HBU := hide (fun (w : World) (hb : Below W.heap.size W w) => built_any ops v w (h.below hb))
  have HTO := hide (fun (w : World) (hb : Below W.heap.size W w) => total_any ps pv w (hp.below hb))
  have HPA := hide hp
  have hjs := joinTo_le ps ps.length (Nat.le_refl _)
  have hps := hp.size
  have hpf := hp.few
  obtain ⟨⟨od, ocap, rfl, _⟩, _, _⟩ := h
  obtain ⟨⟨pd, pcap, rfl, hpc⟩, _, _⟩ := hp
  have HPC := hide hpc
  clear hinv hpc
  generalize builtF ops = st at HBU hso hfit
  obtain ⟨all, tops⟩ := st
  simp only at HBU hso hfit
  have HSO := hide hso
  have HFIT := hide hfit
  have hjb : (joinB ps).size ≤ 1048576 := by unfold joinB; omega
  have HSPL := hide (fun (d k : Nat) (e : k + d = ps.length) => joinTo_split ps d k e)
  clear hso hfit hi0 hjs
  go_enter Try.func10, Try.ntmps10
  go_wp2_with fail
  refine (HFL.out _).mono ?_
  rintro e w1 ⟨rfl, hb1⟩
  have HB1 := hide hb1
  clear hb1
  go_wp2_with fail
  refine (HBU.out _ HB1.out).mono ?_
  rintro e w2 ⟨av, tv, rfl, ha, ht, hb2⟩
  obtain ⟨ad, acap, rfl, harow⟩ := ha.form
  obtain ⟨td, tcap, rfl, htrow⟩ := ht.formN
  obtain ⟨w2', hw2⟩ : ∃ w2' : World, w2.alloc (.cells #[.slice ad all.length acap, .slice td tops.length tcap] 42) = w2' := ⟨_, rfl⟩
  have hbb : Below W.heap.size W w2' := by rw [← hw2]; exact (HB1.out.trans (hb2.mono HB1.out.size)).alloc (by have := HB1.out.size; have := hb2.size; omega) _
  have hrb : Blk w2' w2.heap.size #[.slice ad all.length acap, .slice td tops.length tcap] 42 := by rw [← hw2]; exact Blk.new _ _ _
  have ha' : NodeRow w2' (.slice ad all.length acap) all := by rw [← hw2]; exact ha.below (Below1 _ _)
  have ht' : IRow w2' (.slice td tops.length tcap) (natsI tops) := by rw [← hw2]; exact ht.below (Below1 _ _)
  have HGI := hide (given_any all tops _ _ w2' ha' ht' HSO.out HFIT.out.given)
  have HB2 := hide hbb
  have r0 := hrb.cell 0
  have r1 := hrb.cell 1
  clear ha ht hb2 ha' ht' hbb hrb
  go_wp2_with fail
  try rw [hw2]
  clear hw2
  refine HGI.out.mono ?_
  rintro e w3 ⟨hb3, hres⟩
  have HB3 : Hid (Below W.heap.size W w3) := HB2.out.trans (hb3.mono HB2.out.size)
  clear hb3 HB2 HGI r0 r1
  rcases hres with ⟨kd, g, pb, hnw, rfl, hL⟩ | rfl
  · have hlf := newF_fit hnw
    have HLF := hide hlf
    have HL3 := hide hL
    clear hnw hL hlf
    go_wp2_with fail
    refine (HTO.out _ HB3.out).mono ?_
    rintro e w4 ⟨rfl, hb4⟩
    have HB4 : Hid (Below W.heap.size W w4 ∧ LexAt w4 pb kd g) := ⟨HB3.out.trans (hb4.mono HB3.out.size), HL3.out.below hb4⟩
    clear hb4 HB3 HL3
    by_cases hz : 4096 < (joinB ps).size
    · have e1 : decide ((4096 : Int) < ((joinB ps).size : Int)) = true := by simp; omega
      go_wp2_with fail
      go_ret
      exact ⟨rfl, HB4.out.1⟩
    · have e1 : decide ((4096 : Int) < ((joinB ps).size : Int)) = false := by simp; omega
      have HSP := hide (split_any pb kd g (joinB ps) w4 HB4.out.2 HLF.out.ok (by unfold maxLen; omega))
      go_wp2_with fail
      refine HSP.out.mono ?_
      rintro e w5 ⟨hb5, hres⟩
      rcases hres with ⟨hbad, _⟩ | ⟨_, mv, rfl, hM, hMo⟩
      · exact absurd hbad hz
      have HB5 : Hid (Below W.heap.size W w5 ∧ LexAt w5 pb kd g ∧ TokRow w5 mv (cutF kd g (joinB ps))) := ⟨HB4.out.1.trans (hb5.mono HB4.out.1.size), HB4.out.2.below hb5, hM⟩
      clear hb5 hM hMo HSP HB4
      have HOP := hide (opened_any pb kd g w5 HB5.out.2.1 HLF.out)
      go_wp2_with fail
      refine HOP.out.mono ?_
      rintro e w6 ⟨hb6, hres⟩
      have HB6 : Hid (Below W.heap.size W w6 ∧ LexAt w6 pb kd g ∧ TokRow w6 mv (cutF kd g (joinB ps)) ∧ w5.heap.size ≤ w6.heap.size) := ⟨HB5.out.1.trans (hb6.mono HB5.out.1.size), HB5.out.2.1.below hb6, HB5.out.2.2.below hb6, hb6.size⟩
      have z5 := HB5.out.1.size
      clear hb6 HOP HB5
      rcases hres with ⟨_, rfl⟩ | ⟨_, tb, rfl, hS, hge⟩
      · go_wp2_with fail
        go_ret
        exact ⟨rfl, HB6.out.1⟩
      · have hcp := cutF_path kd g (joinB ps)
        have hcl := hcp.le
        have HM := hide hcp
        have hMf := HB6.out.2.2.1
        generalize cutF kd g (joinB ps) = m at HB6 HM hcl hMf
        obtain ⟨md, mcap, rfl, hmrow⟩ := hMf.form
        have HS := hide hS
        have hml : m.length ≤ 4096 := by omega
        clear hS hMf hcp
        have hSz : (joinB ps).size ≤ 4096 := by omega
        have htb : W.heap.size ≤ tb := by omega
        go_wp2_with fail
        go_loopg [14, 15] ps.length (fun G kv iv wr => ∃ (k i p : Nat) (sv : SavT), kv = .int .i64 (k : Int) ∧ iv = .int .i64 (i : Int) ∧ i ≤ ps.length ∧ G = ps.length - i ∧ k ≤ m.length ∧ Stand kd g (joinTo ps i) p sv ∧ TokPath kd g (joinB ps) p (m.drop k) (joinB ps).size ∧ StreamAt wr tb pb sv false ∧ LexAt wr pb kd g ∧ TokRow wr (.slice md m.length mcap) m ∧ Below W.heap.size W wr)
        case atStart => exact ⟨0, 0, 0, startS 0, rfl, rfl, by omega, rfl, by omega, Stand.start kd g, HM.out, HS.out, HB6.out.2.1, HB6.out.2.2.1, HB6.out.1⟩
        case round =>
          obtain ⟨k, i, p, sv, rfl, rfl, hi, rfl, hk, hst, hpath, hStr, hLex, hTm, hbw⟩ := hrel
          obtain ⟨q1, q2⟩ := hst.sizes
          by_cases hlt : i < ps.length
          · have e2 : decide ((i : Int) < (ps.length : Int)) = true := by simp; omega
            rcases HPC.out with h9 | ⟨ppb, poff, rfl, hpl, hpc⟩
            · omega
            have c0 := (hbw.cell (p := ⟨ppb, poff + i, none⟩) hpl).trans (hpc i hlt)
            obtain ⟨z, hz⟩ := HSPL.out (ps.length - (i + 1)) (i + 1) (by omega)
            have hnx : joinTo ps (i + 1) = joinTo ps i ++ ps[i] := by show joinTo ps i ++ ps.getD i ⟨#[]⟩ = _; simp [hlt]
            rw [hnx] at hz
            obtain ⟨p', f1, f2, f3, f4⟩ := hst.feed HLF.out.ok ps[i] (joinB ps) z hz m k hk hpath
            have hsz : (joinTo ps i).size + ps[i].size ≤ 4096 := by
              have h9 := congrArg ByteArray.size hz
              rw [ByteArray.size_append, ByteArray.size_append] at h9
              omega
            have HFE := hide (feed_any tb pb kd g sv ps[i] wr hStr hLex HLF.out.ok (by omega) q1)
            rw [← hnx] at f1
            generalize ps[i] = y at c0 f1 f2 f3 f4 HFE
            generalize onF kd g sv y false = R at f1 f2 f3 f4 HFE
            obtain ⟨l, sv'⟩ := R
            simp only at f1 f2 f3 f4
            have i0' : (0 : Int) ≤ (i : Int) := by omega
            have i1' : (i : Int) < (ps.length : Int) := by omega
            have HH : Hid (StreamAt wr tb pb sv false ∧ LexAt wr pb kd g ∧ TokRow wr (.slice md m.length mcap) m ∧ Below W.heap.size W wr) := ⟨hStr, hLex, hTm, hbw⟩
            have HF : Hid (Stand kd g (joinTo ps (i + 1)) p' sv' ∧ (m.drop k).take l.length = l ∧ TokPath kd g (joinB ps) p' (m.drop (k + l.length)) (joinB ps).size) := ⟨f1, f3, f4⟩
            clear hStr hLex hTm hbw hst hpath f1 f3 f4 hnx hz hsz q1 q2 hpc
            go_wp2_with fail
            refine HFE.out.mono ?_
            rintro e w7 ⟨lv, rfl, hT7, _, hS7, hk7⟩
            obtain ⟨r1, r2, r3, r4⟩ := HH.out
            have HH7 : Hid (StreamAt w7 tb pb sv' false ∧ LexAt w7 pb kd g ∧ TokRow w7 (.slice md m.length mcap) m ∧ Below W.heap.size W w7) := ⟨hS7, r2.keptS r1 hk7, r3.keptS r1 hk7, below_keptS r4 r4.size htb hk7⟩
            have HST := hide (stands_any l m k lv (.slice md m.length mcap) w7 hT7 HH7.out.2.2.1 f2 HF.out.2.1 (by omega))
            obtain ⟨ld, lcap, rfl, _⟩ := hT7.form
            clear r1 r2 r3 r4 hT7 hS7 hk7 HH HFE c0
            go_wp2_with fail
            refine HST.out.mono ?_
            rintro e w8 ⟨rfl, hb8⟩
            have HH8 : Hid (StreamAt w8 tb pb sv' false ∧ LexAt w8 pb kd g ∧ TokRow w8 (.slice md m.length mcap) m ∧ Below W.heap.size W w8) := ⟨Blk.below HH7.out.1 hb8, HH7.out.2.1.below hb8, HH7.out.2.2.1.below hb8, HH7.out.2.2.2.trans (hb8.mono HH7.out.2.2.2.size)⟩
            clear hb8 HH7 HST
            go_wp2_with fail
            go_roundg (ps.length - (i + 1))
            case measure => omega
            case rel => exact ⟨k + l.length, i + 1, p', sv', by go_num, by go_num, by omega, rfl, f2, HF.out.1, HF.out.2.2, HH8.out.1, HH8.out.2.1, HH8.out.2.2.1, HH8.out.2.2.2⟩
          · have e2 : decide ((i : Int) < (ps.length : Int)) = false := by simp; omega
            obtain rfl : i = ps.length := by omega
            have hst' : Stand kd g (joinB ps) p sv := hst
            obtain ⟨f1, f2⟩ := hst'.close m k hk hpath
            have hq2 : sv.en + sv.tail.size ≤ 4096 := by have h9 : sv.en + sv.tail.size = (joinB ps).size := q2; omega
            have HCL := hide (close_any tb pb kd g sv wr hStr hLex HLF.out.ok (by omega) q1)
            generalize onF kd g sv ⟨#[]⟩ true = R at f1 f2 HCL
            obtain ⟨l, sv'⟩ := R
            simp only at f1 f2
            have HH : Hid (StreamAt wr tb pb sv false ∧ TokRow wr (.slice md m.length mcap) m ∧ Below W.heap.size W wr) := ⟨hStr, hTm, hbw⟩
            have HF := hide f2
            clear hStr hLex hTm hbw hst hst' hpath f2 q1 q2 hq2
            go_wp2_with fail
            refine HCL.out.mono ?_
            rintro e w7 ⟨lv, rfl, hT7, _, hS7, hk7⟩
            obtain ⟨r1, r3, r4⟩ := HH.out
            have HH7 : Hid (StreamAt w7 tb pb sv' true ∧ TokRow w7 (.slice md m.length mcap) m ∧ Below W.heap.size W w7) := ⟨hS7, r3.keptS r1 hk7, below_keptS r4 r4.size htb hk7⟩
            have HST := hide (stands_any l m k lv (.slice md m.length mcap) w7 hT7 HH7.out.2.1 (by omega) HF.out (by omega))
            obtain ⟨ld, lcap, rfl, _⟩ := hT7.form
            clear r1 r3 r4 hT7 hS7 hk7 HH HCL
            go_wp2_with fail
            refine HST.out.mono ?_
            rintro e w8 ⟨rfl, hb8⟩
            have HH8 : Hid (StreamAt w8 tb pb sv' true ∧ Below W.heap.size W w8) := ⟨Blk.below HH7.out.1 hb8, HH7.out.2.2.trans (hb8.mono HH7.out.2.2.size)⟩
            have HFS := hide (feedShut_any tb pb sv' ⟨#[97]⟩ w8 HH8.out.1)
            have HCS := hide (closeShut_any tb pb sv' w8 HH8.out.1)
            have e5 : ((k : Int) + (l.length : Int) == (m.length : Int)) = true := by rw [beq_iff_eq]; omega
            clear hb8 HH7 HST
            go_wp2_with fail
            refine HFS.out.mono ?_
            rintro e w9 ⟨rfl, rfl⟩
            go_wp2_with fail
            refine HCS.out.mono ?_
            rintro e w9 ⟨rfl, rfl⟩
            go_wp2_with fail
            go_ret
            exact ⟨rfl, HH8.out.2⟩
  · go_wp2_with fail
    refine (HTO.out _ HB3.out).mono ?_
    rintro e w4 ⟨rfl, hb4⟩
    have HB4 : Hid (Below W.heap.size W w4) := HB3.out.trans (hb4.mono HB3.out.size)
    clear hb4
    go_wp2_with fail
    go_ret
    exact ⟨rfl, HB4.out⟩
end Go.Proofs.Ytcckhngbdoiikaa
