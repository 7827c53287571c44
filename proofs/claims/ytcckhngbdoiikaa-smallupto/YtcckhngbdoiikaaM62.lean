import Derived.Test.YtcckhngbdoiikaaM54
import Derived.Test.YtcckhngbdoiikaaM60
import Derived.Laws.AppendOwnNone
import Derived.Test.YtcckhngbdoiikaaM61
import Derived.Test.YtcckhngbdoiikaaM58
import Derived.Test.YtcckhngbdoiikaaM12

namespace Go.Proofs.Ytcckhngbdoiikaa
open Go.RowKit Go.Deep
set_option linter.unusedVariables false

theorem toksC_one : ∀ (l : List TokT), ∀ u ∈ toksC l, u.oneCell' = true
  | [], u, h => by simp [toksC] at h
  | t :: r, u, h => by
    simp only [toksC, List.mem_cons] at h
    rcases h with rfl | rfl | rfl | h
    · rfl
    · rfl
    · rfl
    · exact toksC_one r u h
/-- Tokens behind tokens. -/
theorem appendTok {la ll : List TokT} {va vl : Value} {ops : Array Oper} {rest : List Oper} {o : Oper} {a : Act} {w : World} {Q : Exit → Act → World → Prop} (hgd : o.guard = none) (s x : Operand)
    (ho : o.op = .call { callee := .builtin .append, args := #[s, x], argTypes := #[55, 55] })
    (hs : a.eval s = va) (hx : a.eval x = vl) (ha : TokRow w va la) (hl : TokRow w vl ll) (N : Nat) (hN : N ≤ w.heap.size) (hown : ∀ b, va.ownBlock = some b → N ≤ b) (hsz : la.length + ll.length ≤ 4000000)
    (h : ∀ v' w', TokRow w' v' (la ++ ll) → (∀ b, v'.ownBlock = some b → N ≤ b) → Kept (fun b => va.ownBlock = some b) w w' → wpList Try.prog ops Q rest (a.put o.dst v') w') : wpList Try.prog ops Q (o :: rest) a w := by
  obtain ⟨ii, hii, hz0, hz1, hz2⟩ := info_parts Try.infoTok3
  have ha' : w.ownsRow N 66 3 va la.length (toksC la) := by
    obtain ⟨h1, h2 | ⟨g, cap, cur, rfl, h3, h4⟩⟩ := ha
    · exact ⟨h1, .inl h2⟩
    · exact ⟨h1, .inr ⟨g, cap, cur, rfl, hown g rfl, h4⟩⟩
  have key : ∀ v' w', w'.ownsRow N 66 3 v' (la.length + ll.length) (toksC la ++ toksC ll) → w.grownBy w' va.ownBlock → wpList Try.prog ops Q rest (a.put o.dst v') w' := fun v' w' h2 h3 => by
    refine h v' w' ?_ ?_ ⟨h3.os, h3.tape, h3.output, h3.size, fun k hk he => h3.block k hk (fun e => he e.symm)⟩
    · unfold TokRow
      rw [toksC_append, List.length_append]
      obtain ⟨h4, h5 | ⟨g, cap, cur, rfl, h6, h7⟩⟩ := h2
      · exact ⟨h4, .inl h5⟩
      · exact ⟨h4, .inr ⟨g, cap, cur, rfl, Nat.zero_le _, h7⟩⟩
    · intro b hb
      obtain ⟨h4, ⟨rfl, _⟩ | ⟨g, cap, cur, rfl, h6, h7⟩⟩ := h2
      · cases hb
      · cases (Option.some.inj hb : g = b)
        exact h6
  obtain ⟨h1, ⟨rfl, h2⟩ | ⟨g, cap, cur, rfl, h3, h4⟩⟩ := hl
  · refine wpList_append_own_none hgd s x 55 ho N 66 ii 3 Try.underlying55 hii va la.length (toksC la) hs ha' hx ?_
    have e : ll = [] := List.eq_nil_of_length_eq_zero h2
    subst e
    exact key va w (by simpa [toksC] using ha') ⟨rfl, rfl, rfl, Nat.le_refl _, fun _ _ _ => rfl⟩
  · have hrow : w.ownsRow 0 66 3 (.slice (some ⟨g, 0, none⟩) ll.length cap) ll.length (toksC ll) := ⟨h1, .inr ⟨g, cap, cur, rfl, h3, h4⟩⟩
    exact wpList_append_own w hgd s x 55 ho N 66 ii _ 3 24 Try.underlying55 hii hz0 hz1 hz2 rfl (by omega) va la.length (toksC la) hs ha' ⟨g, 0, none⟩ ll.length cap (toksC ll) hx h1 (hrow.cells (g := g) rfl) (toksC_one ll) (by unfold maxLen; omega) (by omega) hN (fun v' w' h2 h3 _ => key v' w' h2 h3)

set_option maxRecDepth 20000 in
set_option maxHeartbeats 6400000 in
theorem fed_any (tb pb : Nat) (kd : Nat → Nat) (g : Graph) (ps : List ByteArray) (i : Nat) (pv : Value) (x : SavT) (p : Nat) (W w : World) (h : StreamAt w tb pb x false) (hL : LexAt w pb kd g) (ho : LexOk kd g) (hp : PiecesAt W pv ps) (hbW : Below W.heap.size W w) (htb : W.heap.size ≤ tb) (hi : i ≤ ps.length) (hst : Stand kd g (joinTo ps i) p x) :
    Calls Try.prog 50 #[.pointer (some ⟨tb, 0, none⟩), pv, .int .i64 (i : Int)] w fun e w' => ∃ v, e = .returned (.tuple #[v, .bool true]) ∧ TokRow w' v (fedF kd g (ps.drop i) x) ∧ (∀ b, v.ownBlock = some b → w.heap.size ≤ b) ∧ Kept (fun b => b = tb) w w' := by
  have hps := hp.size
  have hpf := hp.few
  have HJL := hide (fun k (hk : k ≤ ps.length) => joinTo_le ps k hk)
  obtain ⟨⟨pd, pcap, rfl, hpc⟩, _, _⟩ := hp
  have HPC := hide hpc
  have HO := hide ho
  have HI : Hid (StreamAt w tb pb x false ∧ LexAt w pb kd g ∧ Below W.heap.size W w ∧ Stand kd g (joinTo ps i) p x) := ⟨h, hL, hbW, hst⟩
  have hz := hbW.size
  generalize hX : fedF kd g (ps.drop i) x = X
  have HX := hide hX
  clear h hL ho hpc hbW hst hX
  go_enter Try.func50, Try.ntmps50
  go_wp2_with fail
  go_loopg [2, 8] (ps.length - i) (fun G iv av wr => ∃ (j q : Nat) (y : SavT) (acc : List TokT) (v9 : Value), v9 = av ∧ iv = .int .i64 (j : Int) ∧ j ≤ ps.length ∧ G = ps.length - j ∧ Stand kd g (joinTo ps j) q y ∧ acc ++ fedF kd g (ps.drop j) y = X ∧ acc.length ≤ q ∧ TokRow wr av acc ∧ (∀ b, av.ownBlock = some b → w.heap.size ≤ b) ∧ StreamAt wr tb pb y false ∧ Kept (fun b => b = tb) w wr)
  case atStart => exact ⟨i, p, x, [], .slice none 0 0, rfl, rfl, hi, rfl, HI.out.2.2.2, by rw [List.nil_append]; exact HX.out, Nat.zero_le _, World.ownsRow_nil _ _ _ _, fun b e => (by cases e), HI.out.1, Kept.refl _ _⟩
  case round =>
    obtain ⟨j, q, y, acc, av, rfl, rfl, hj, rfl, hst, hfe, hac, hT, hO, hStr, hk⟩ := hrel
    obtain ⟨q1, q2⟩ := hst.sizes
    have hle := hst.le
    have hjl := HJL.out j hj
    have hLr := HI.out.2.1.keptS HI.out.1 hk
    have hbr := below_keptS HI.out.2.2.1 hz htb hk
    by_cases hlt : j < ps.length
    · have e0 : decide ((j : Int) < (ps.length : Int)) = true := by simp; omega
      rcases HPC.out with h9 | ⟨ppb, poff, rfl, hpl, hpc⟩
      · omega
      have c0 := (hbr.cell (p := ⟨ppb, poff + j, none⟩) hpl).trans (hpc j hlt)
      have hnx : joinTo ps (j + 1) = joinTo ps j ++ ps[j] := by show joinTo ps j ++ ps.getD j ⟨#[]⟩ = _; simp [hlt]
      have hjn := HJL.out (j + 1) (by omega)
      rw [hnx, ByteArray.size_append] at hjn
      obtain ⟨q', f1, f2⟩ := hst.step HO.out ps[j]
      rw [← hnx] at f1
      have hle' := f1.le
      rw [hnx, ByteArray.size_append] at hle'
      have HFE := hide (feed_any tb pb kd g y ps[j] wr hStr hLr HO.out (by omega) q1)
      rw [List.drop_eq_getElem_cons hlt] at hfe
      have hfe' : acc ++ ((onF kd g y ps[j] false).1 ++ fedF kd g (ps.drop (j + 1)) (onF kd g y ps[j] false).2) = X := hfe
      generalize ps[j] = z at c0 HFE f1 f2 hjn hfe' hle'
      generalize onF kd g y z false = R' at HFE f1 f2 hfe'
      obtain ⟨l, y'⟩ := R'
      simp only at f1 f2 hfe'
      have i0' : (0 : Int) ≤ (j : Int) := by omega
      have i1' : (j : Int) < (ps.length : Int) := by omega
      have hln : acc.length + l.length ≤ 4000000 := by omega
      have hln2 : acc.length + l.length ≤ q' := by omega
      have HH : Hid (TokRow wr av acc ∧ (∀ b, av.ownBlock = some b → w.heap.size ≤ b) ∧ StreamAt wr tb pb y false ∧ Kept (fun b => b = tb) w wr) := ⟨hT, hO, hStr, hk⟩
      have HF : Hid (Stand kd g (joinTo ps (j + 1)) q' y' ∧ acc ++ (l ++ fedF kd g (ps.drop (j + 1)) y') = X) := ⟨f1, hfe'⟩
      clear hst hfe hfe' hT hO hStr hk q1 q2 hle hle' hjl hLr hbr f1 f2 hnx hjn hpc
      go_wp2_with fail
      refine HFE.out.mono ?_
      rintro e w7 ⟨lv, rfl, hT7, hO7, hS7, hk7⟩
      obtain ⟨r1, r2, r3, r4⟩ := HH.out
      have hT7a : TokRow w7 av acc := r1.keptS r3 hk7
      have hk0 := r4.trans' hk7
      have HH7 : Hid (TokRow w7 av acc ∧ TokRow w7 lv l ∧ (∀ b, av.ownBlock = some b → w.heap.size ≤ b) ∧ StreamAt w7 tb pb y' false ∧ Kept (fun b => b = tb) w w7) := ⟨hT7a, hT7, r2, hS7, hk0⟩
      clear r1 r2 r3 r4 hT7 hO7 hS7 hk7 hT7a hk0 HH HFE c0
      go_wp2_with (at_builtin; (refine appendTok (la := acc) (ll := l) (va := av) (vl := lv) (by rfl) _ _ (by rfl) (by rfl) (by rfl) HH7.out.1 HH7.out.2.1 w.heap.size HH7.out.2.2.2.2.size HH7.out.2.2.1 hln ?_))
      intro v8 w8 hT8 hO8 hk8
      obtain ⟨r1, r2, r3, r4, r5⟩ := HH7.out
      have HH8 : Hid (TokRow w8 v8 (acc ++ l) ∧ (∀ b, v8.ownBlock = some b → w.heap.size ≤ b) ∧ StreamAt w8 tb pb y' false ∧ Kept (fun b => b = tb) w w8) := ⟨hT8, hO8, Blk.kept r4 hk8 (fun e => ownsRow_ne r1 r4 (by decide) e), r5.trans hk8 (fun b hb e => absurd (r3 b e) (by omega))⟩
      clear r1 r2 r3 r4 r5 hT8 hO8 hk8 HH7
      go_wp2_with fail
      go_roundg (ps.length - (j + 1))
      case measure => omega
      case rel => exact ⟨j + 1, q', y', acc ++ l, v8, rfl, by go_num, by omega, rfl, HF.out.1, by rw [List.append_assoc]; exact HF.out.2, by rw [List.length_append]; exact hln2, HH8.out.1, HH8.out.2.1, HH8.out.2.2.1, HH8.out.2.2.2⟩
    · have e0 : decide ((j : Int) < (ps.length : Int)) = false := by simp; omega
      obtain rfl : j = ps.length := by omega
      have hfin := hst.fin
      have HCL := hide (close_any tb pb kd g y wr hStr hLr HO.out (by omega) q1)
      rw [List.drop_length] at hfe
      have hfe' : acc ++ (onF kd g y ⟨#[]⟩ true).1 = X := hfe
      generalize onF kd g y ⟨#[]⟩ true = R' at HCL hfin hfe'
      obtain ⟨l, y'⟩ := R'
      simp only at hfin hfe'
      subst hfe'
      have hln : acc.length + l.length ≤ 4000000 := by omega
      have HH : Hid (TokRow wr av acc ∧ (∀ b, av.ownBlock = some b → w.heap.size ≤ b) ∧ StreamAt wr tb pb y false ∧ Kept (fun b => b = tb) w wr) := ⟨hT, hO, hStr, hk⟩
      clear hst hfe hT hO hStr hk q1 q2 hle hjl hLr hbr hfin HX
      go_wp2_with fail
      refine HCL.out.mono ?_
      rintro e w7 ⟨lv, rfl, hT7, hO7, hS7, hk7⟩
      obtain ⟨r1, r2, r3, r4⟩ := HH.out
      have hT7a : TokRow w7 av acc := r1.keptS r3 hk7
      have hk0 := r4.trans' hk7
      have HH7 : Hid (TokRow w7 av acc ∧ TokRow w7 lv l ∧ (∀ b, av.ownBlock = some b → w.heap.size ≤ b) ∧ Kept (fun b => b = tb) w w7) := ⟨hT7a, hT7, r2, hk0⟩
      clear r1 r2 r3 r4 hT7 hO7 hS7 hk7 hT7a hk0 HH HCL
      go_wp2_with (at_builtin; (refine appendTok (la := acc) (ll := l) (va := av) (vl := lv) (by rfl) _ _ (by rfl) (by rfl) (by rfl) HH7.out.1 HH7.out.2.1 w.heap.size HH7.out.2.2.2.size HH7.out.2.2.1 hln ?_))
      intro v8 w8 hT8 hO8 hk8
      obtain ⟨r1, r2, r3, r5⟩ := HH7.out
      have HH8 : Hid (TokRow w8 v8 (acc ++ l) ∧ (∀ b, v8.ownBlock = some b → w.heap.size ≤ b) ∧ Kept (fun b => b = tb) w w8) := ⟨hT8, hO8, r5.trans hk8 (fun b hb e => absurd (r3 b e) (by omega))⟩
      clear r1 r2 r3 r5 hT8 hO8 hk8 HH7
      go_wp2_with fail
      go_ret2
      exact ⟨v8, rfl, HH8.out.1, HH8.out.2.1, HH8.out.2.2⟩
end Go.Proofs.Ytcckhngbdoiikaa

namespace Go.Proofs.Ytcckhngbdoiikaa
open Go.RowKit Go.Deep
set_option linter.unusedVariables false

set_option maxRecDepth 20000 in
set_option maxHeartbeats 6400000 in
theorem small_any (ops : List OpT) (v : Value) (ps : List ByteArray) (pv : Value) (cut : Int) (W : World) (h : OpsAt W v ops) (hp : PiecesAt W pv ps) (hcut : -9223372036854775808 ≤ cut ∧ cut ≤ 9223372036854775807) (hcap : ∃ ad n cap, pv = .slice ad n cap ∧ n ≤ cap ∧ (ad = none → cap = 0)) :
    Calls Try.prog 12 #[v, pv, .int .i64 cut] W fun e W' => e = .returned (.bool true) ∧ Below W.heap.size W W' := by
  obtain ⟨i0, trs, hi0, hinv, hfit⟩ := built_fit ops
  have hfew := h.few
  have hso := spell_ok hinv (by omega)
  have HFL := hide (fun w => flows_any w)
  have HBU := hide (fun (w : World) (hb : Below W.heap.size W w) => built_any ops v w (h.below hb))
  have HTO := hide (fun (w : World) (hb : Below W.heap.size W w) => total_any ps pv w (hp.below hb))
  have HPA := hide hp
  have hjs := joinTo_le ps ps.length (Nat.le_refl _)
  have hps := hp.size
  have hpf := hp.few
  obtain ⟨⟨od, ocap, rfl, _⟩, _, _⟩ := h
  obtain ⟨⟨pd, pcap, rfl, hpc⟩, _, _⟩ := hp
  obtain ⟨hc1, hc2⟩ : ps.length ≤ pcap ∧ (pd = none → pcap = 0) := by
    obtain ⟨ad9, n9, cap9, e9, h9, h8⟩ := hcap
    injection e9 with a1 a2 a3
    subst a1 a2 a3
    exact ⟨h9, h8⟩
  have HPC := hide hpc
  clear hinv hpc
  generalize builtF ops = st at HBU hso hfit
  obtain ⟨all, tops⟩ := st
  simp only at HBU hso hfit
  have HSO := hide hso
  have HFIT := hide hfit
  have hjb : (joinB ps).size ≤ 1048576 := by unfold joinB; omega
  have HSPL := hide (fun (d k : Nat) (e : k + d = ps.length) => joinTo_split ps d k e)
  clear hso hfit hi0 hjs
  go_enter Try.func12, Try.ntmps12
  go_wp2_with fail
  refine (HFL.out _).mono ?_
  rintro e w1 ⟨rfl, hb1⟩
  have HB1 := hide hb1
  clear hb1
  go_wp2_with fail
  refine (HBU.out _ HB1.out).mono ?_
  rintro e w2 ⟨av, tv, rfl, ha, ht, hb2⟩
  obtain ⟨ad, acap, rfl, harow⟩ := ha.form
  obtain ⟨td, tcap, rfl, htrow⟩ := ht.formN
  obtain ⟨w2', hw2⟩ : ∃ w2' : World, w2.alloc (.cells #[.slice ad all.length acap, .slice td tops.length tcap] 42) = w2' := ⟨_, rfl⟩
  have hbb : Below W.heap.size W w2' := by rw [← hw2]; exact (HB1.out.trans (hb2.mono HB1.out.size)).alloc (by have := HB1.out.size; have := hb2.size; omega) _
  have hrb : Blk w2' w2.heap.size #[.slice ad all.length acap, .slice td tops.length tcap] 42 := by rw [← hw2]; exact Blk.new _ _ _
  have ha' : NodeRow w2' (.slice ad all.length acap) all := by rw [← hw2]; exact ha.below (Below1 _ _)
  have ht' : IRow w2' (.slice td tops.length tcap) (natsI tops) := by rw [← hw2]; exact ht.below (Below1 _ _)
  have HGI := hide (given_any all tops _ _ w2' ha' ht' HSO.out HFIT.out.given)
  have HB2 := hide hbb
  have r0 := hrb.cell 0
  have r1 := hrb.cell 1
  clear ha ht hb2 ha' ht' hbb hrb
  go_wp2_with fail
  try rw [hw2]
  clear hw2
  refine HGI.out.mono ?_
  rintro e w3 ⟨hb3, hres⟩
  have HB3 : Hid (Below W.heap.size W w3) := HB2.out.trans (hb3.mono HB2.out.size)
  clear hb3 HB2 HGI r0 r1
  rcases hres with ⟨kd, g, pb, hnw, rfl, hL⟩ | rfl
  · have hlf := newF_fit hnw
    have HLF := hide hlf
    have HL3 := hide hL
    obtain ⟨R, hR⟩ := newF_build hnw
    have HR := hide hR
    clear hnw hL hlf hR
    go_wp2_with fail
    refine (HTO.out _ HB3.out).mono ?_
    rintro e w4 ⟨rfl, hb4⟩
    have HB4 : Hid (Below W.heap.size W w4 ∧ LexAt w4 pb kd g) := ⟨HB3.out.trans (hb4.mono HB3.out.size), HL3.out.below hb4⟩
    clear hb4 HB3 HL3
    have e1 : decide ((1099511627776 : Int) < ((joinB ps).size : Int)) = false := by simp; omega
    have HOP := hide (opened_any pb kd g w4 HB4.out.2 HLF.out)
    go_wp2_with fail
    refine HOP.out.mono ?_
    rintro e w5 ⟨hb5, hres⟩
    have HB5 : Hid (Below W.heap.size W w5 ∧ LexAt w5 pb kd g ∧ w4.heap.size ≤ w5.heap.size) := ⟨HB4.out.1.trans (hb5.mono HB4.out.1.size), HB4.out.2.below hb5, hb5.size⟩
    have z4 := HB4.out.1.size
    clear hb5 HOP HB4
    rcases hres with ⟨_, rfl⟩ | ⟨hbnd, tb, rfl, hS, hge⟩
    · go_wp2_with fail
      go_ret
      exact ⟨rfl, HB5.out.1⟩
    · have htb : W.heap.size ≤ tb := by omega
      have HBN := hide hbnd
      have HS := hide hS
      have hpk := pickF_lt cut (ps.length + 1) (by omega)
      have hp9 := fun w => pick_any cut (ps.length + 1) hcut (by omega) (by omega) w
      have e9 : ((ps.length + 1 : Nat) : Int) = (ps.length : Int) + 1 := by omega
      rw [e9] at hp9
      have HPK := hide hp9
      generalize pickF cut (ps.length + 1) = at_ at HPK hpk
      clear hbnd hS hp9 e9
      go_wp2_with fail
      refine (HPK.out _).mono ?_
      rintro e w6 ⟨rfl, rfl⟩
      clear HPK
      go_wp2_with fail
      go_loopg [14] at_ (fun G iv wr => ∃ (i p : Nat) (sv : SavT) (pre : List TokT), iv = .int .i64 (i : Int) ∧ i ≤ at_ ∧ G = at_ - i ∧ Told kd g (joinTo ps i) p sv pre ∧ (p = (joinTo ps i).size ∨ openOf g (walkL kd g (restL (joinTo ps i) p) p 0 (info0 p)).2 = true) ∧ StreamAt wr tb pb sv false ∧ LexAt wr pb kd g ∧ Below W.heap.size W wr)
      case atStart => exact ⟨0, 0, startS 0, [], rfl, by omega, rfl, Told.start kd g, .inl rfl, HS.out, HB5.out.2.1, HB5.out.1⟩
      case round =>
        obtain ⟨i, p, sv, pre, rfl, hi, rfl, hto, hop, hStr, hLex, hbw⟩ := hrel
        obtain ⟨q1, q2⟩ := hto.st.sizes
        have hjl := joinTo_le ps i (by omega)
        by_cases hlt : i < at_
        · have e2 : decide ((i : Int) < (at_ : Int)) = true := by simp; omega
          have hil : i < ps.length := by omega
          rcases HPC.out with h9 | ⟨ppb, poff, rfl, hpl, hpc⟩
          · omega
          have c0 := (hbw.cell (p := ⟨ppb, poff + i, none⟩) hpl).trans (hpc i hil)
          have hnx : joinTo ps (i + 1) = joinTo ps i ++ ps[i] := by show joinTo ps i ++ ps.getD i ⟨#[]⟩ = _; simp [hil]
          have hjn := joinTo_le ps (i + 1) (by omega)
          rw [hnx, ByteArray.size_append] at hjn
          obtain ⟨p', f1, f2⟩ := hto.feed HLF.out.ok ps[i]
          rw [← hnx] at f1 f2
          have HFE := hide (feed_any tb pb kd g sv ps[i] wr hStr hLex HLF.out.ok (by omega) q1)
          generalize ps[i] = y at c0 HFE f1 f2 hjn
          generalize onF kd g sv y false = R' at HFE f1 f2
          obtain ⟨l, sv'⟩ := R'
          simp only at f1 f2
          have i0' : (0 : Int) ≤ (i : Int) := by omega
          have i1' : (i : Int) < (ps.length : Int) := by omega
          have HH : Hid (StreamAt wr tb pb sv false ∧ LexAt wr pb kd g ∧ Below W.heap.size W wr) := ⟨hStr, hLex, hbw⟩
          have HF : Hid (Told kd g (joinTo ps (i + 1)) p' sv' (pre ++ l) ∧ (p' = (joinTo ps (i + 1)).size ∨ openOf g (walkL kd g (restL (joinTo ps (i + 1)) p') p' 0 (info0 p')).2 = true)) := ⟨f1, f2⟩
          clear hStr hLex hbw hto hop f1 f2 hnx q1 q2 hpc hjn hjl
          go_wp2_with fail
          refine HFE.out.mono ?_
          rintro e w7 ⟨lv, rfl, hT7, _, hS7, hk7⟩
          obtain ⟨r1, r2, r4⟩ := HH.out
          obtain ⟨ld, lcap, rfl, _⟩ := hT7.form
          have HH7 : Hid (StreamAt w7 tb pb sv' false ∧ LexAt w7 pb kd g ∧ Below W.heap.size W w7) := ⟨hS7, r2.keptS r1 hk7, below_keptS r4 r4.size htb hk7⟩
          clear r1 r2 r4 hT7 hS7 hk7 HH HFE c0
          go_wp2_with fail
          go_roundg (at_ - (i + 1))
          case measure => omega
          case rel => exact ⟨i + 1, p', sv', pre ++ l, by go_num, by omega, rfl, HF.out.1, HF.out.2, HH7.out.1, HH7.out.2.1, HH7.out.2.2⟩
        · have e2 : decide ((i : Int) < (at_ : Int)) = false := by simp; omega
          obtain rfl : i = at_ := by omega
          have hts := tail_small HR.out HLF.out HBN.out hto.st hop
          have hfit := hto.st.fit hop
          have hteq := hto.st.tail_eq
          have hgk := gapOf_k HLF.out
          have hsz : (joinTo ps i).size ≤ 1048576 := by omega
          have HSV := hide (save_any tb pb sv wr hStr)
          have HSM := hide (fun w => smallFn_any sv (gapOf kd g).k (joinTo ps i) w q1 q2 hteq hts (by omega) (by omega))
          have hz9 : sv.en + sv.tail.size ≤ 4000000 := by omega
          have HH : Hid (StreamAt wr tb pb sv false ∧ LexAt wr pb kd g ∧ Below W.heap.size W wr ∧ Stand kd g (joinTo ps i) p sv ∧ SavFit kd g sv) := ⟨hStr, hLex, hbw, hto.st, hfit⟩
          clear hStr hLex hbw hto hop hfit hts hteq q1 q2 hjl
          go_wp2_with fail
          refine HSV.out.mono ?_
          rintro e w7 ⟨rfl, hb7⟩
          obtain ⟨w8, hw8⟩ : ∃ w8 : World, w7.alloc (.cells (savC sv) 84) = w8 := ⟨_, rfl⟩
          obtain ⟨r1, r2, r3, r4, r5⟩ := HH.out
          have hb8 : Below wr.heap.size wr w8 := by rw [← hw8]; exact hb7.alloc hb7.size _
          have hS8 : Blk w8 w7.heap.size (savC sv) 84 := by rw [← hw8]; exact Blk.new _ _ _
          have hbW8 : Below W.heap.size W w8 := r3.trans (hb8.mono r3.size)
          have HH8 : Hid (StreamAt w8 tb pb sv false ∧ LexAt w8 pb kd g ∧ Below W.heap.size W w8 ∧ Blk w8 w7.heap.size (savC sv) 84) := ⟨Blk.below r1 hb8, r2.below hb8, hbW8, hS8⟩
          have HSF : Hid (Stand kd g (joinTo ps i) p sv ∧ SavFit kd g sv) := ⟨r4, r5⟩
          clear r1 r2 r3 r4 r5 hb7 hb8 hS8 hbW8 HSV HH
          obtain ⟨sa, se, sr, ss, st⟩ := sv
          go_wp2_with fail
          have hw8' : w7.alloc (.cells #[.int .i64 (sa : Int), .int .i64 (se : Int), .int .i64 sr, .int .i64 ss, .string st] 84) = w8 := hw8
          try rw [hw8']
          clear hw8 hw8'
          have HGA := hide (fun (V : World) (hb : Below w8.heap.size w8 V) => gap_any pb kd g V (HH8.out.2.1.below hb) HLF.out)
          have HTT := hide (fun (V : World) (hb : Below w8.heap.size w8 V) => total_any (ps.take i) (.slice pd i pcap) V ((HPA.out.below (HH8.out.2.2.1.trans (hb.mono HH8.out.2.2.1.size))).take i (by omega)))
          have hjt := joinB_take ps i (by omega)
          rw [hjt] at HTT
          obtain ⟨GK, hGK⟩ : ∃ GK, gapOf kd g = GK := ⟨_, rfl⟩
          rw [hGK] at HGA HSM
          have HGK := hide hGK
          clear hGK hjt
          obtain ⟨gb, gk, gf, gt, gl, gp, ga⟩ := GK
          simp only [gapV] at HGA HSM
          have hfd : ∀ w : World, (Instr.field 68 (.agg #[.bool gb, .int .i64 (gk : Int), .string gf, .string gt, .string gl, .string gp, .string ga]) 1).run Try.prog w = .ok (.int .i64 (gk : Int)) w := fun _ => by kernel_rfl
          have k0 := HH8.out.2.2.2.cell 0
          have k1 := HH8.out.2.2.2.cell 1
          have k2 := HH8.out.2.2.2.cell 2
          have k3 := HH8.out.2.2.2.cell 3
          have k4 := HH8.out.2.2.2.cell 4
          have zs := HH8.out.2.2.2.lt
          go_cut [19] (fun bv wx => bv = .bool true ∧ Below w8.heap.size w8 wx)
          case first =>
            have f0 : (0 : Int) ≤ (i : Int) := by omega
            have f1 : (i : Int) ≤ (pcap : Int) := by omega
            rcases pd with _ | ⟨ab, ao, asp⟩
            · have hp0 : pcap = 0 := hc2 rfl
              subst hp0
              obtain rfl : i = 0 := by omega
              go_region_with (first
                | (go_at_call 37; refine (HGA.out _ (Below_drew (Below.refl _ _))).mono ?_; rintro e wg ⟨rfl, hbg⟩; have hbg' := (Below_drew (Below.refl w8.heap.size w8)).trans (hbg.mono (Nat.le_refl _)); have g0 := (hbg'.cell (p := ⟨w7.heap.size, 0, none⟩) zs).trans k0; have g1 := (hbg'.cell (p := ⟨w7.heap.size, 1, none⟩) zs).trans k1; have g2 := (hbg'.cell (p := ⟨w7.heap.size, 2, none⟩) zs).trans k2; have g3 := (hbg'.cell (p := ⟨w7.heap.size, 3, none⟩) zs).trans k3; have g4 := (hbg'.cell (p := ⟨w7.heap.size, 4, none⟩) zs).trans k4; clear hbg)
                | (go_at_call 41; refine (HTT.out _ hbg').mono ?_; rintro e wt ⟨rfl, hbt⟩; have hbt' := hbg'.trans (hbt.mono hbg'.size); have t0 := (hbt'.cell (p := ⟨w7.heap.size, 0, none⟩) zs).trans k0; have t1 := (hbt'.cell (p := ⟨w7.heap.size, 1, none⟩) zs).trans k1; have t2 := (hbt'.cell (p := ⟨w7.heap.size, 2, none⟩) zs).trans k2; have t3 := (hbt'.cell (p := ⟨w7.heap.size, 3, none⟩) zs).trans k3; have t4 := (hbt'.cell (p := ⟨w7.heap.size, 4, none⟩) zs).trans k4; clear hbt)
                | (go_at_call 48; refine (HSM.out _).mono ?_; rintro e ws ⟨rfl, hbs⟩; have hbs' := hbt'.trans (hbs.mono hbt'.size); clear hbs))
              all_goals
                go_wp2_with fail
                go_meet
                exact ⟨rfl, hbs'⟩
            · clear hc2
              go_region_with (first
                | (go_at_call 37; refine (HGA.out _ (Below_drew (Below.refl _ _))).mono ?_; rintro e wg ⟨rfl, hbg⟩; have hbg' := (Below_drew (Below.refl w8.heap.size w8)).trans (hbg.mono (Nat.le_refl _)); have g0 := (hbg'.cell (p := ⟨w7.heap.size, 0, none⟩) zs).trans k0; have g1 := (hbg'.cell (p := ⟨w7.heap.size, 1, none⟩) zs).trans k1; have g2 := (hbg'.cell (p := ⟨w7.heap.size, 2, none⟩) zs).trans k2; have g3 := (hbg'.cell (p := ⟨w7.heap.size, 3, none⟩) zs).trans k3; have g4 := (hbg'.cell (p := ⟨w7.heap.size, 4, none⟩) zs).trans k4; clear hbg)
                | (go_at_call 41; refine (HTT.out _ hbg').mono ?_; rintro e wt ⟨rfl, hbt⟩; have hbt' := hbg'.trans (hbt.mono hbg'.size); have t0 := (hbt'.cell (p := ⟨w7.heap.size, 0, none⟩) zs).trans k0; have t1 := (hbt'.cell (p := ⟨w7.heap.size, 1, none⟩) zs).trans k1; have t2 := (hbt'.cell (p := ⟨w7.heap.size, 2, none⟩) zs).trans k2; have t3 := (hbt'.cell (p := ⟨w7.heap.size, 3, none⟩) zs).trans k3; have t4 := (hbt'.cell (p := ⟨w7.heap.size, 4, none⟩) zs).trans k4; clear hbt)
                | (go_at_call 48; refine (HSM.out _).mono ?_; rintro e ws ⟨rfl, hbs⟩; have hbs' := hbt'.trans (hbs.mono hbt'.size); clear hbs))
              all_goals
                go_wp2_with fail
                go_meet
                exact ⟨rfl, hbs'⟩
          case rest =>
            obtain ⟨rfl, hbc⟩ := hcut
            obtain ⟨r1, r2, r3, r4⟩ := HH8.out
            have ztb8 : tb < w8.heap.size := r1.lt
            have HHc : Hid (StreamAt wc tb pb ⟨sa, se, sr, ss, st⟩ false ∧ LexAt wc pb kd g ∧ Below W.heap.size W wc ∧ Blk wc w7.heap.size (savC ⟨sa, se, sr, ss, st⟩) 84) := ⟨Blk.below r1 hbc, r2.below hbc, r3.trans (hbc.mono r3.size), r4.below hbc⟩
            have HRE := hide (resume_any pb kd g ⟨sa, se, sr, ss, st⟩ wc HHc.out.2.1 HLF.out HBN.out hz9 HSF.out.2)
            have ztbc : tb < wc.heap.size := HHc.out.1.lt
            clear r1 r2 r3 r4 hbc k0 k1 k2 k3 k4 HGA HTT HSM hfd HGK HH8
            go_wp2_with (first | refine loadSav (x := ⟨sa, se, sr, ss, st⟩) rfl _ rfl w7.heap.size rfl HHc.out.2.2.2 ?_)
            refine HRE.out.mono ?_
            rintro e w9 ⟨hb9, ub, rfl, hU9, hub⟩
            have hne : ub ≠ tb := by omega
            obtain ⟨r1, r2, r3, r4⟩ := HHc.out
            have hubW : W.heap.size ≤ ub := Nat.le_trans r3.size hub
            have HH9 : Hid (StreamAt w9 tb pb ⟨sa, se, sr, ss, st⟩ false ∧ StreamAt w9 ub pb ⟨sa, se, sr, ss, st⟩ false ∧ LexAt w9 pb kd g ∧ Below W.heap.size W w9 ∧ Blk w9 w7.heap.size (savC ⟨sa, se, sr, ss, st⟩) 84) := ⟨Blk.below r1 hb9, hU9, r2.below hb9, r3.trans (hb9.mono r3.size), r4.below hb9⟩
            have HSV2 := hide (save_any ub pb ⟨sa, se, sr, ss, st⟩ w9 hU9)
            clear r1 r2 r3 r4 hb9 hU9 HRE HHc
            go_wp2_with fail
            refine HSV2.out.mono ?_
            rintro e w10 ⟨rfl, hb10⟩
            obtain ⟨w11, hw11⟩ : ∃ w11 : World, w10.alloc (.cells #[.int .i64 (sa : Int), .int .i64 (se : Int), .int .i64 sr, .int .i64 ss, .string st] 84) = w11 := ⟨_, rfl⟩
            obtain ⟨r1, r2, r3, r4, r5⟩ := HH9.out
            have hb11 : Below w9.heap.size w9 w11 := by rw [← hw11]; exact hb10.alloc hb10.size _
            have hA11 : Blk w11 w10.heap.size (savC ⟨sa, se, sr, ss, st⟩) 84 := by rw [← hw11]; exact Blk.new _ _ _
            have HH11 : Hid (StreamAt w11 tb pb ⟨sa, se, sr, ss, st⟩ false ∧ StreamAt w11 ub pb ⟨sa, se, sr, ss, st⟩ false ∧ LexAt w11 pb kd g ∧ Below W.heap.size W w11 ∧ Blk w11 w7.heap.size (savC ⟨sa, se, sr, ss, st⟩) 84 ∧ Blk w11 w10.heap.size (savC ⟨sa, se, sr, ss, st⟩) 84) := ⟨Blk.below r1 hb11, Blk.below r2 hb11, r3.below hb11, r4.trans (hb11.mono r4.size), r5.below hb11, hA11⟩
            clear r1 r2 r3 r4 r5 hb10 hb11 hA11 HSV2 HH9
            have HFD1 := hide (fed_any tb pb kd g ps i (.slice pd ps.length pcap) ⟨sa, se, sr, ss, st⟩ p W w11 HH11.out.1 HH11.out.2.2.1 HLF.out.ok HPA.out HH11.out.2.2.2.1 htb (by omega) HSF.out.1)
            go_wp2_with fail
            try rw [hw11]
            clear hw11
            have hxl := fed_len HLF.out.ok ps ps.length i (by omega) (by omega) HSF.out.1
            generalize hXX : fedF kd g (ps.drop i) ⟨sa, se, sr, ss, st⟩ = X at HFD1 hxl
            have HXX := hide hXX
            have HXL := hide (show X.length ≤ 4000000 by omega)
            clear hXX hxl
            refine HFD1.out.mono ?_
            rintro e w12 ⟨lv, rfl, hT12, hO12, hk12⟩
            obtain ⟨r1, r2, r3, r4, r5, r6⟩ := HH11.out
            have hst1 : w7.heap.size ≠ tb := fun e => by
              have h9 := (Blk.one r5 (by rw [e]; exact r1)).2
              revert h9
              decide
            have hst2 : w10.heap.size ≠ tb := fun e => by
              have h9 := (Blk.one r6 (by rw [e]; exact r1)).2
              revert h9
              decide
            have hst3 : w7.heap.size ≠ ub := fun e => by
              have h9 := (Blk.one r5 (by rw [e]; exact r2)).2
              revert h9
              decide
            have hst4 : w10.heap.size ≠ ub := fun e => by
              have h9 := (Blk.one r6 (by rw [e]; exact r2)).2
              revert h9
              decide
            have HH12 : Hid (StreamAt w12 ub pb ⟨sa, se, sr, ss, st⟩ false ∧ LexAt w12 pb kd g ∧ Below W.heap.size W w12 ∧ Blk w12 w7.heap.size (savC ⟨sa, se, sr, ss, st⟩) 84 ∧ Blk w12 w10.heap.size (savC ⟨sa, se, sr, ss, st⟩) 84 ∧ TokRow w12 lv X) := ⟨Blk.kept r2 hk12 hne, r3.keptS r1 hk12, below_keptS r4 r4.size htb hk12, r5.kept hk12 hst1, r6.kept hk12 hst2, hT12⟩
            clear r1 r2 r3 r4 r5 r6 hT12 hO12 hk12 HFD1 HH11
            have hfd2 := fed_any ub pb kd g ps i (.slice pd ps.length pcap) ⟨sa, se, sr, ss, st⟩ p W w12 HH12.out.1 HH12.out.2.1 HLF.out.ok HPA.out HH12.out.2.2.1 hubW (by omega) HSF.out.1
            rw [HXX.out] at hfd2
            have HFD2 := hide hfd2
            clear hfd2
            go_wp2_with fail
            refine HFD2.out.mono ?_
            rintro e w13 ⟨mv, rfl, hT13, hO13, hk13⟩
            obtain ⟨r1, r2, r3, r4, r5, r6⟩ := HH12.out
            have hL13 : TokRow w13 lv X := r6.keptS r1 hk13
            have HH13 : Hid (Below W.heap.size W w13 ∧ Blk w13 w7.heap.size (savC ⟨sa, se, sr, ss, st⟩) 84 ∧ Blk w13 w10.heap.size (savC ⟨sa, se, sr, ss, st⟩) 84) := ⟨below_keptS r3 r3.size hubW hk13, r4.kept hk13 hst3, r5.kept hk13 hst4⟩
            have hst0 := stands_any X X 0 lv mv w13 hL13 hT13 (by omega) (by rw [List.drop_zero, List.take_length]) HXL.out
            have HST := hide hst0
            obtain ⟨ld, lcap, rfl, _⟩ := hL13.form
            obtain ⟨md, mcap, rfl, _⟩ := hT13.form
            have e7 : ((X.length : Int) == (X.length : Int)) = true := by simp
            clear r1 r2 r3 r4 r5 r6 hL13 hT13 hO13 hk13 hst0 HFD2 HH12
            go_wp2_with fail
            refine HST.out.mono ?_
            rintro e w14 ⟨rfl, hb14⟩
            have HB14 := hide (HH13.out.1.trans (hb14.mono HH13.out.1.size))
            have hs14 := HH13.out.2.1.below hb14
            have ha14 := HH13.out.2.2.below hb14
            have s0 := hs14.cell 0
            have s1 := hs14.cell 1
            have s2 := hs14.cell 2
            have s3 := hs14.cell 3
            have s4 := hs14.cell 4
            have a0 := ha14.cell 0
            have a1 := ha14.cell 1
            have a2 := ha14.cell 2
            have a3 := ha14.cell 3
            have a4 := ha14.cell 4
            clear hb14 hs14 ha14 HH13 HST
            go_wp2_with fail
            go_ret
            exact ⟨rfl, HB14.out⟩
  · go_wp2_with fail
    go_ret
    exact ⟨rfl, HB3.out⟩
end Go.Proofs.Ytcckhngbdoiikaa
