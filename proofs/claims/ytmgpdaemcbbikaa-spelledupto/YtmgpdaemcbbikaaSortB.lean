import Derived.Test.YtmgpdaemcbbikaaSortA
namespace Go.Proofs.Ytmgpdaemcbbikaa
open Go.RowKit Go.Deep
set_option linter.unusedVariables false

set_option maxHeartbeats 3200000 in
theorem sortBytes_any (R : RulesT) (gb : Nat) (O : Nat → Prop) (fv lv : Value) (w : World) (h : RulesAt w gb O R fv lv) :
    Calls Try.prog 76 #[.pointer (some ⟨gb, 0, none⟩)] w fun e w' => ∃ kv, e = .returned (.tuple #[.agg (kindC (kindOf R.allow)), kv]) ∧ SetRow w' kv (kindsAt R.allow 256) ∧ Below w.heap.size w w' := by
  have hra := allowsC_at h.blk
  have hgb := h.blk.lt
  generalize R.allow = al at hra ⊢
  have hW : Below w.heap.size w ((((w.alloc (.cells Try.zeroCells89 89)).alloc (.cells Try.zeroCells89 89)).setRow (w.heap.size + 1) (kindC (fun _ => 0))).alloc (.cells #[] 139)) :=
    (Below_setRow (Below2 _ _ _) (by omega) _).alloc (by simp; omega) _
  have HRA := hide (rangeAt_below hra hgb hW)
  have hix := index_allow al
  have HIX := hide hix
  clear h hra hix
  go_enter Try.func76, Try.ntmps76
  go_wp2_with (first | refine storeKz rfl (.tmp 4) (.tmp 9) rfl (w.heap.size + 1) rfl rfl (Blk.at1 _ _ _ _) zeroK ?_ | refine loadA rfl (.tmp 13) rfl gb rfl HRA.out ?_)
  go_loopg [5, 15] 256 (fun G kv i wr => ∃ b : Nat, b ≤ 256 ∧ G = 256 - b ∧ i = .int .i64 (b : Int) ∧ Below w.heap.size w wr ∧ Blk wr w.heap.size Try.zeroCells89 89 ∧
    Blk wr (w.heap.size + 1) (kindC (fun j => if j < b then kindOf al j else 0)) 89 ∧ SetRow wr kv (kindsAt al b) ∧ ∀ k, kv.ownBlock = some k → w.heap.size + 1 < k)
  case atStart =>
    refine ⟨0, by omega, rfl, rfl, hW, ?_, ?_, ?_, ?_⟩
    · exact ((((Blk.new w Try.zeroCells89 89).alloc _).setRowOther (by omega) _).alloc _)
    · have e1 : kindC (fun j => if j < 0 then kindOf al j else 0) = kindC (fun _ => 0) := kindC_congr (fun i _ => by simp)
      rw [e1]
      exact ((Blk.at1 w (.cells Try.zeroCells89 89) Try.zeroCells89 89).setRow _).alloc _
    · have e1 := Blk.new (((w.alloc (.cells Try.zeroCells89 89)).alloc (.cells Try.zeroCells89 89)).setRow (w.heap.size + 1) (kindC (fun _ => 0))) #[] 139
      refine ownsRow_mk (cur := #[]) (by rfl) (by simpa using e1) (Nat.le_refl _) (by unfold maxLen; omega) rfl rfl
    · intro k e; cases (Option.some.inj e : w.heap.size + 1 + 1 = k); omega
  case round =>
    obtain ⟨b, hbl, rfl, rfl, hb, hZ, hK, hS, hkO⟩ := hrel
    clear hW HRA
    have hkl := kindsAt_le al b
    by_cases hlt : b < 256
    · have e0 : decide ((b : Int) < 256) = true := by simp; omega
      have hix := HIX.out b hlt
      have hstep : kindsAt al (b + 1) = if idxF (kindsAt al b) (al b) = (kindsAt al b).length then kindsAt al b ++ [al b] else kindsAt al b := rfl
      have hko : kindOf al b = idxF (kindsAt al b) (al b) := rfl
      have hkst := kind_step (kindOf al) b hlt
      rw [hko] at hkst
      generalize hl : kindsAt al b = l at hS hkl hstep hkst
      generalize al b = s at hix hstep hkst
      have hidx := idxF_le l s
      generalize hF : idxF l s = F at hidx hstep hkst
      obtain ⟨kd, kcap, rfl, hkrow⟩ := hS.form
      have k0 : wr.cell? ⟨w.heap.size + 1, b, none⟩ = some (.int .i64 0) := by rw [hK.cell, kindC_get _ b hlt]; simp
      have kf0 := hK.frozen b
      have zK := hK.lt
      have i0 : (0 : Int) ≤ (b : Int) := by omega
      have i1 : (b : Int) < 256 := by omega
      have HF := hide hF
      have HST := hide hstep
      have HKST := hide hkst
      have HH : Hid (Below w.heap.size w wr ∧ Blk wr w.heap.size Try.zeroCells89 89 ∧ Blk wr (w.heap.size + 1) (kindC (fun j => if j < b then kindOf al j else 0)) 89 ∧ SetRow wr (.slice kd l.length kcap) l ∧ ∀ k, (Value.slice kd l.length kcap).ownBlock = some k → w.heap.size + 1 < k) := ⟨hb, hZ, hK, hS, hkO⟩
      clear hb hZ hK hS hkO hF hstep hkst hl hko
      obtain ⟨wo, rfl⟩ : ∃ wo : World, wo = wr := ⟨_, rfl⟩
      go_wp2_with fail
      go_loopg [8] l.length (fun G i wr => ∃ (k m : Nat), k ≤ l.length ∧ G = l.length - k ∧ i = .int .i64 (k : Int) ∧ wr = (wo.alloc (.cells (setC s) 139)).drewN m ∧ k + idxF (l.drop k) s = F)
      case atStart => exact ⟨0, 0, by omega, rfl, rfl, rfl, by simpa using HF.out⟩
      case round =>
        obtain ⟨k, m, hk, rfl, rfl, rfl, hfr⟩ := hrel
        clear HF
        by_cases hlk : k < l.length
        · have e1 : decide ((k : Int) < (l.length : Int)) = true := by simp; omega
          rcases hkrow with h0 | ⟨kg, rfl⟩
          · omega
          have r0 := HH.out.2.2.2.1.cell0 k hlk
          have r1 := HH.out.2.2.2.1.cell1 k hlk
          have zkg : kg < wo.heap.size := ownsRow_lt HH.out.2.2.2.1 kg rfl
          have i2 : (0 : Int) ≤ (k : Int) := by omega
          have i3 : (k : Int) < (l.length : Int) := by omega
          have HFR := hide hfr
          clear hfr
          cases hb1 : ((l[k].lo.toNat : Int) == (s.lo.toNat : Int)) with
          | false =>
            have HN := hide (PSet.ne_lo hb1)
            go_wp2_with fail
            go_quiet (fail)
            go_wp2_with fail
            go_roundg (l.length - (k + 1))
            case measure => omega
            case rel =>
              have hfr := HFR.out
              rw [idxF_drop l s k hlk, if_neg HN.out] at hfr
              exact ⟨k + 1, _, by omega, rfl, by go_num, rfl, by omega⟩
          | true =>
            cases hb2 : ((l[k].hi.toNat : Int) == (s.hi.toNat : Int)) with
            | false =>
              have HN := hide (PSet.ne_hi hb2)
              go_wp2_with fail
              go_quiet (fail)
              go_wp2_with fail
              go_roundg (l.length - (k + 1))
              case measure => omega
              case rel =>
                have hfr := HFR.out
                rw [idxF_drop l s k hlk, if_neg HN.out] at hfr
                exact ⟨k + 1, _, by omega, rfl, by go_num, rfl, by omega⟩
            | true =>
              have hN := PSet.eq_of hb1 hb2
              have hfe : F = k := by
                have hfr := HFR.out
                rw [idxF_drop l s k hlk, if_pos hN] at hfr
                omega
              subst hfe
              have e2 : ((F : Int) == (l.length : Int)) = false := by simp; omega
              clear hN
              go_wp2_with fail
              go_quiet (fail)
              go_wp2_with fail
              go_roundg (256 - (b + 1))
              case measure => omega
              case rel =>
                obtain ⟨q1, q2, q3, q4, q5⟩ := HH.out
                have hst := HST.out
                rw [if_neg (by omega)] at hst
                refine ⟨b + 1, by omega, rfl, by go_num, ?_, ?_, ?_, ?_, q5⟩
                · exact (Below_drewN (q1.alloc (by have := q3.lt; omega) _) _).setCell (p := ⟨w.heap.size + 1, b, none⟩) (show w.heap.size ≤ w.heap.size + 1 by omega) _
                · exact ((q2.alloc _).drewN _).setOther (p := ⟨w.heap.size + 1, b, none⟩) (show w.heap.size ≠ w.heap.size + 1 by omega) _
                · rw [← HKST.out]; exact ((q3.alloc _).drewN _).set b _
                · rw [hst]
                  exact q4.kept (Kept.setCell (ex := fun k => k = w.heap.size + 1) (p := ⟨w.heap.size + 1, b, none⟩) (((Kept.refl (fun k => k = w.heap.size + 1) wo).alloc _).drewN _) (fun _ => rfl) _) (fun b' hb e => by have := q5 b' hb; omega)
        · have e1 : decide ((k : Int) < (l.length : Int)) = false := by simp; omega
          obtain rfl : k = l.length := by omega
          rw [List.drop_of_length_le (by omega)] at hfr
          have hfe : F = l.length := by simp [idxF] at hfr; omega
          subst hfe
          clear hfr
          have e2 : ((l.length : Int) == (l.length : Int)) = true := by simp
          obtain ⟨ii, hi, hz0, hz1, hz2⟩ := info_parts Try.infoS3
          have hol : ∀ nq : Nat, SetRow ((((wo.alloc (.cells (setC s) 139)).drewN m).drewN nq).alloc (.cells (setC s) 139)) (.slice kd l.length kcap) l := fun nq =>
            HH.out.2.2.2.1.kept (((((Kept.refl (fun _ => False) wo).alloc _).drewN m).drewN nq).alloc _) (fun _ _ e => e)
          have HOL := hide hol
          clear hol
          go_wp2_with fail
          go_quiet (fail)
          go_wp2_with (at_builtin; (refine wpList_append_lies _ (by rfl) _ _ _ (by rfl) 0 139 ii _ 2 16 Try.underlying141 hi hz0 hz1 hz2 rfl (by omega) (.slice kd l.length kcap) l.length (setsC l) (by rfl) (HOL.out nq) ⟨wo.heap.size + 1, 0, none⟩ 1 1 [.int .u64 (s.lo.toNat : Int), .int .u64 (s.hi.toNat : Int)] (by rfl) (by rfl) (World.news_of_block (cs := setC s) (t := 139) (fr := (0, 0)) (by have := heap_alloc_new (((wo.alloc (.cells (setC s) 139)).drewN m).drewN nq) (.cells (setC s) 139); simpa using this)) (by simp [Value.oneCell']) (by omega) (by unfold maxLen; omega) (by omega) (by simp) (wo.heap.size + 1 + 1) (by simp) ?_))
          intro gg cap2 w6 hown6 hgrow6 hat6 hlt6
          obtain ⟨q1, q2, q3, q4, q5⟩ := HH.out
          have hk1 : Kept (fun k => (Value.slice kd l.length kcap).ownBlock = some k) wo w6 := Kept.trans' (((((Kept.refl _ wo).alloc _).drewN m).drewN nq).alloc _) ⟨hgrow6.os, hgrow6.tape, hgrow6.output, hgrow6.size, fun k hk he => hgrow6.block k hk (fun e => he e.symm)⟩
          have q1' : Below w.heap.size w w6 := q1.trans ⟨hk1.os, hk1.tape, hk1.output, hk1.size, fun k hk => hk1.block k (by have := q3.lt; omega) (fun e => by have := q5 k e; omega)⟩
          have q2' := q2.kept hk1 (fun e => by have := q5 _ e; omega)
          have q3' := q3.kept hk1 (fun e => by have := q5 _ e; omega)
          have q4' := setRow_push hown6
          have hgg : w.heap.size + 1 < gg := by
            rcases hat6 with e | e
            · exact q5 _ e
            · have := q3.lt; omega
          have k7 : w6.cell? ⟨w.heap.size + 1, b, none⟩ = some (.int .i64 0) := by rw [q3'.cell, kindC_get _ b hlt]; simp
          have kf7 := q3'.frozen b
          have HHX : Hid (Below w.heap.size w w6 ∧ Blk w6 w.heap.size Try.zeroCells89 89 ∧ Blk w6 (w.heap.size + 1) (kindC (fun j => if j < b then kindOf al j else 0)) 89 ∧ SetRow w6 (.slice (some ⟨gg, 0, none⟩) (l.length + 1) cap2) (l ++ [s])) := ⟨q1', q2', q3', q4'⟩
          clear q1 q2 q3 q4 q5 q1' q2' q3' q4' hk1 hown6 hgrow6 hat6 HH HOL k0 kf0
          go_wp2_with fail
          go_roundg (256 - (b + 1))
          case measure => omega
          case rel =>
            obtain ⟨q1, q2, q3, q4⟩ := HHX.out
            have hst : kindsAt al (b + 1) = l ++ [s] := by simpa using HST.out
            refine ⟨b + 1, by omega, rfl, by go_num, q1.setCell (by simp) _, q2.setOther (by simp) _, ?_, ?_, ?_⟩
            · rw [← HKST.out]; exact q3.set b _
            · rw [hst]
              exact q4.kept (Kept.setCell (ex := fun k => k = w.heap.size + 1) (p := ⟨w.heap.size + 1, b, none⟩) (Kept.refl _ _) (fun _ => rfl) _) (fun b' hb e => by cases (Option.some.inj hb : gg = b'); omega)
            · intro k e
              cases (Option.some.inj e : gg = k)
              exact hgg
    · have e0 : decide ((b : Int) < 256) = false := by simp; omega
      obtain rfl : b = 256 := by omega
      have e1 : kindC (fun j => if j < 256 then kindOf al j else 0) = kindC (kindOf al) := kindC_congr (fun i hi => by simp [hi])
      rw [e1] at hK
      obtain ⟨kd, kcap, rfl, hkrow⟩ := hS.form
      have HHX : Hid (Below w.heap.size w wr ∧ SetRow wr (.slice kd (kindsAt al 256).length kcap) (kindsAt al 256) ∧ ∀ k, (Value.slice kd (kindsAt al 256).length kcap).ownBlock = some k → w.heap.size + 1 < k) := ⟨hb, hS, hkO⟩
      have HZ := hide hZ
      have HK := hide hK
      clear hb hS hkO e1 hZ hK
      go_wp2_with (first | refine loadK rfl (.tmp 4) rfl (w.heap.size + 1) rfl HK.out ?_ | refine storeK rfl (.tmp 2) (.tmp 45) rfl w.heap.size rfl rfl HZ.out zeroK ?_)
      obtain ⟨q1, q2, q3⟩ := HHX.out
      refine bodyPost_ret (results_cell_tmp Try.results76 _ _ w.heap.size 89 _ (0, 0) _ rfl (HZ.out.setRow _) Try.underlying89 rfl (by rw [kindC_size]; exact Try.infoK)) rfl ⟨_, rfl, ?_, Below_setRow q1 (Nat.le_refl _) _⟩
      exact q2.kept (Kept.setRow (ex := fun k => k = w.heap.size) (Kept.refl _ _) (fun _ => rfl) _) (fun b' hb e => by have := q3 b' hb; omega)
end Go.Proofs.Ytmgpdaemcbbikaa
