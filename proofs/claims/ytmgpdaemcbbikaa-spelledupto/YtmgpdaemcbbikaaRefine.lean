import Derived.Test.YtmgpdaemcbbikaaMade
namespace Go.Proofs.Ytmgpdaemcbbikaa
open Go.RowKit Go.Deep
set_option linter.unusedVariables false

/-- What lies in 'finer' when n nodes are done. -/
def finAt (g : Graph) (cls : List Int) (N n : Nat) : List Int := (refineAt g cls n).1 ++ List.replicate (N - n) 0
theorem finAt_len (g : Graph) (cls : List Int) (N n : Nat) (h : n ≤ N) : (finAt g cls N n).length = N := by simp [finAt, refineAt_len]; omega
theorem finAt_get (g : Graph) (cls : List Int) (N n e : Nat) (he : e < n) : (finAt g cls N n).getD e 0 = (refineAt g cls n).1.getD e 0 := by
  simp [finAt, List.getElem?_append_left (show e < (refineAt g cls n).1.length by rw [refineAt_len]; exact he)]
theorem finAt_step (g : Graph) (cls : List Int) (N n : Nat) (x : Int) (h : n < N) (hx : (refineAt g cls (n + 1)).1 = (refineAt g cls n).1 ++ [x]) : finAt g cls N (n + 1) = (finAt g cls N n).set n x := by
  unfold finAt
  have hl := refineAt_len g cls n
  rw [hx, List.set_append_right _ _ (by omega), hl, Nat.sub_self, show N - n = (N - (n + 1)) + 1 by omega, List.replicate_succ, List.set_cons_zero, List.append_assoc]
  rfl

set_option maxHeartbeats 3200000 in
theorem refine_any (rv nv cv : Value) (g : Graph) (K : Nat) (cls : List Int) (w : World) (hg : GraphAt w rv nv g) (ho : GOk g K) (hc : IRow w cv cls) (hcl : cls.length = g.rule.length) (hn : g.rule.length ≤ 1000) (hK : K ≤ 1000) :
    Calls Try.prog 106 #[.agg #[rv, nv], cv] w fun e w' => ∃ fb, e = .returned (.tuple #[.slice (some ⟨fb, 0, none⟩) g.rule.length g.rule.length, .int .i64 ((refineAt g cls g.rule.length).2 : Int)]) ∧
      IRow w' (.slice (some ⟨fb, 0, none⟩) g.rule.length g.rule.length) (refineAt g cls g.rule.length).1 ∧ Below w.heap.size w w' := by
  have hT := fun (W : World) (hb : Below w.heap.size w W) (a b : Nat) (ha : a < g.rule.length) (hb' : b < g.rule.length) => together_any rv nv cv g K cls a b W (hg.below hb) ho (hc.below hb) hcl ha hb' hn hK
  obtain ⟨vs, hN, hvl, hvs⟩ := hg.next
  obtain ⟨cd, ccap, rfl, _⟩ := hc.form
  obtain ⟨rd, rcap, rfl, _⟩ := hg.rule.form
  obtain ⟨nd, ncap, rfl, _⟩ := hN.form
  rw [← hcl] at hT ⊢
  have HT := hide hT
  have HCL := hide hcl
  have hcl1 : cls.length ≤ 1000 := by omega
  clear hT hg ho hc hN hvl hvs hcl
  have hmk := makeInts cls.length (by omega)
  go_enter Try.func106, Try.ntmps106
  go_wp2_with fail
  go_loopg [7, 15] cls.length (fun G c i wr => ∃ n : Nat, n ≤ cls.length ∧ G = cls.length - n ∧ i = .int .i64 (n : Int) ∧ c = .int .i64 ((refineAt g cls n).2 : Int) ∧ Below w.heap.size w wr ∧
    Blk wr w.heap.size #[.slice rd cls.length rcap, .slice nd vs.length ncap] 91 ∧ Blk wr (w.heap.size + 1) (intsA (finAt g cls cls.length n)) 3)
  case atStart =>
    refine ⟨0, by omega, rfl, rfl, rfl, Below2 _ _ _, (Blk.new w _ _).alloc _, ?_⟩
    have e0 : finAt g cls cls.length 0 = List.replicate cls.length 0 := by simp [finAt, refineAt]
    rw [e0]
    exact Blk.at1 w _ _ _
  case round =>
    obtain ⟨n, hnl, rfl, rfl, rfl, hb, hG, hI⟩ := hrel
    by_cases hlt : n < cls.length
    · have e0 : decide ((n : Int) < (cls.length : Int)) = true := by simp; omega
      have hlen := finAt_len g cls cls.length n (by omega)
      have c0 := intsA_cell hI n (by omega)
      have f0 := hI.frozen n
      have i0 : (0 : Int) ≤ (n : Int) := by omega
      have i1 : (n : Int) < (cls.length : Int) := by omega
      have hcb := (refineAt_bd g cls n).2
      have hcN : (refineAt g cls n).2 ≤ 1000 := by omega
      generalize (finAt g cls cls.length n)[n]'(by omega) = old at c0
      have HI := hide hI
      have HB := hide hb
      have HG := hide hG
      have HLEN := hide hlen
      generalize hcnt : (refineAt g cls n).2 = cnt at hcb hcN ⊢
      have HCNT := hide hcnt
      have HM : Hid (∃ M, mateF g cls n (n + 1) 0 = M) := ⟨_, rfl⟩
      obtain ⟨M, hM⟩ := HM.out
      have HMM := hide hM
      clear hI hb hG hlen hcnt hM HM
      obtain ⟨wo, rfl⟩ : ∃ wo : World, wo = wr := ⟨_, rfl⟩
      go_wp2_with fail
      go_loopg [9] (n + 1) (fun G i wi => ∃ k : Nat, k ≤ n ∧ G = n + 1 - k ∧ i = .int .i64 (k : Int) ∧ Below w.heap.size w wi ∧
        Blk wi w.heap.size #[.slice rd cls.length rcap, .slice nd vs.length ncap] 91 ∧ Blk wi (w.heap.size + 1) (intsA ((finAt g cls cls.length n).set n (cnt : Int))) 3 ∧ mateF g cls n (n + 1 - k) k = M)
      case atStart =>
        refine ⟨0, by omega, rfl, rfl, HB.out.setCell (by simp) _, HG.out.setOther (by simp) _, ?_, HMM.out⟩
        rw [← intsA_set]; exact HI.out.set n _
      case round =>
        obtain ⟨k, hk, rfl, rfl, hb2, hG2, hI2, hm2⟩ := hrel
        clear HB HG HI c0 f0
        have hz1 := hI2.lt
        have g0 : wr.cell? ⟨w.heap.size, 0, none⟩ = some (.slice rd cls.length rcap) := hG2.cell 0
        have g1 : wr.cell? ⟨w.heap.size, 1, none⟩ = some (.slice nd vs.length ncap) := hG2.cell 1
        have hls : ((finAt g cls cls.length n).set n (cnt : Int)).length = cls.length := by rw [List.length_set]; exact HLEN.out
        have cn : wr.cell? ⟨w.heap.size + 1, n, none⟩ = some (.int .i64 (cnt : Int)) := by
          rw [intsA_cell hI2 n (by omega)]; simp
        have fn := hI2.frozen n
        have HH : Hid (Below w.heap.size w wr ∧ Blk wr w.heap.size #[.slice rd cls.length rcap, .slice nd vs.length ncap] 91 ∧ Blk wr (w.heap.size + 1) (intsA ((finAt g cls cls.length n).set n (cnt : Int))) 3 ∧ mateF g cls n (n + 1 - k) k = M) := ⟨hb2, hG2, hI2, hm2⟩
        have HLS := hide hls
        clear hb2 hG2 hI2 hm2 hls
        by_cases hkn : k < n
        · have e1 : decide ((k : Int) < (n : Int)) = true := by simp; omega
          have k0 : (0 : Int) ≤ (k : Int) := by omega
          have k1 : (k : Int) < (cls.length : Int) := by omega
          go_wp2_with fail
          refine (HT.out wr HH.out.1 k n (by omega) (by omega)).mono ?_
          rintro e w4 ⟨rfl, hb4⟩
          obtain ⟨hb2, hG2, hI2, hm2⟩ := HH.out
          have hG4 := hG2.below hb4
          have hI4 := hI2.below hb4
          have hb5 : Below w.heap.size w w4 := hb2.trans (hb4.mono hb2.size)
          rw [show n + 1 - k = (n - k) + 1 by omega] at hm2
          unfold mateF at hm2
          rw [if_pos hkn] at hm2
          cases htg : togetherF g cls k n with
          | false =>
            rw [htg, if_neg (by simp)] at hm2
            have HH4 : Hid (Below w.heap.size w w4 ∧ Blk w4 w.heap.size #[.slice rd cls.length rcap, .slice nd vs.length ncap] 91 ∧ Blk w4 (w.heap.size + 1) (intsA ((finAt g cls cls.length n).set n (cnt : Int))) 3 ∧ mateF g cls n (n - k) (k + 1) = M) := ⟨hb5, hG4, hI4, hm2⟩
            clear hb2 hG2 hI2 hm2 hG4 hI4 hb5 hb4 HH htg g0 g1 cn fn
            go_wp2_with fail
            go_roundg (n - k)
            case measure => omega
            case rel =>
              obtain ⟨q1, q2, q3, q4⟩ := HH4.out
              exact ⟨k + 1, by omega, by omega, by go_num, q1, q2, q3, by rw [show n + 1 - (k + 1) = n - k by omega]; exact q4⟩
          | true =>
            rw [htg, if_pos rfl] at hm2
            have hls := HLS.out
            have ck : w4.cell? ⟨w.heap.size + 1, k, none⟩ = some (.int .i64 ((refineAt g cls n).1.getD k 0)) := by
              rw [intsA_cell hI4 k (by omega)]
              congr 2
              rw [List.getElem_set_ne (by omega)]
              have hl0 := HLEN.out
              have := finAt_get g cls cls.length n k hkn
              rw [← this]
              simp [show k < (finAt g cls cls.length n).length by omega]
            have cn4 : w4.cell? ⟨w.heap.size + 1, n, none⟩ = some (.int .i64 (cnt : Int)) := by
              rw [intsA_cell hI4 n (by omega)]; simp
            have fn4 := hI4.frozen n
            have hbd := (refineAt_bd g cls n).1
            have hrl := refineAt_len g cls n
            have hmem : (refineAt g cls n).1.getD k 0 ∈ (refineAt g cls n).1 := by
              simp [show k < (refineAt g cls n).1.length by omega]
            have hx := hbd _ hmem
            have hxr : (refineAt g cls (n + 1)).1 = (refineAt g cls n).1 ++ [(refineAt g cls n).1.getD k 0] ∧ (refineAt g cls (n + 1)).2 = cnt := by
              have hMe := HMM.out
              rw [← hm2] at hMe
              have : refineAt g cls (n + 1) = ((refineAt g cls n).1 ++ [(refineAt g cls n).1.getD k 0], (refineAt g cls n).2) := by
                conv => lhs; unfold refineAt
                rw [hMe]
              rw [this]
              exact ⟨rfl, HCNT.out⟩
            rw [HCNT.out] at hx
            generalize (refineAt g cls n).1.getD k 0 = x at ck hx hxr
            have ene : (x == (cnt : Int)) = false := by simp; omega
            have HXR := hide hxr
            have HH4 : Hid (Below w.heap.size w w4 ∧ Blk w4 w.heap.size #[.slice rd cls.length rcap, .slice nd vs.length ncap] 91 ∧ Blk w4 (w.heap.size + 1) (intsA ((finAt g cls cls.length n).set n (cnt : Int))) 3) := ⟨hb5, hG4, hI4⟩
            clear hb2 hG2 hI2 hm2 hG4 hI4 hb5 hb4 HH htg g0 g1 cn fn hls hbd hrl hmem hxr hx
            go_wp2_with fail
            go_roundg (cls.length - (n + 1))
            case measure => omega
            case rel =>
              obtain ⟨q1, q2, q3⟩ := HH4.out
              obtain ⟨hx1, hx2⟩ := HXR.out
              refine ⟨n + 1, by omega, rfl, by go_num, by rw [hx2], q1.setCell (by simp) _, q2.setOther (by simp) _, ?_⟩
              rw [finAt_step g cls cls.length n x hlt hx1]
              have := q3.set n (.int .i64 x)
              rw [intsA_set, List.set_set] at this
              exact this
        · have e1 : decide ((k : Int) < (n : Int)) = false := by simp; omega
          obtain rfl : k = n := by omega
          have hMn : M = none := by
            have hm2 := HH.out.2.2.2
            rw [show k + 1 - k = 0 + 1 by omega] at hm2
            unfold mateF at hm2
            rw [if_neg (by omega)] at hm2
            exact hm2.symm
          have hxr : (refineAt g cls (k + 1)).1 = (refineAt g cls k).1 ++ [(cnt : Int)] ∧ (refineAt g cls (k + 1)).2 = cnt + 1 := by
            have hMe := HMM.out
            rw [hMn] at hMe
            have : refineAt g cls (k + 1) = ((refineAt g cls k).1 ++ [((refineAt g cls k).2 : Int)], (refineAt g cls k).2 + 1) := by
              conv => lhs; unfold refineAt
              rw [hMe]
            rw [this, HCNT.out]
            exact ⟨rfl, rfl⟩
          have HXR := hide hxr
          clear hxr hMn
          go_wp2_with fail
          go_roundg (cls.length - (k + 1))
          case measure => omega
          case rel =>
            obtain ⟨q1, q2, q3, _⟩ := HH.out
            obtain ⟨hx1, hx2⟩ := HXR.out
            refine ⟨k + 1, by omega, rfl, by go_num, by rw [hx2]; go_num, q1, q2, ?_⟩
            rw [finAt_step g cls cls.length k _ hlt hx1]
            exact q3
    · have e0 : decide ((n : Int) < (cls.length : Int)) = false := by simp; omega
      obtain rfl : n = cls.length := by omega
      go_wp2_with fail
      go_ret2
      refine ⟨_, rfl, ?_, hb⟩
      have e1 : finAt g cls cls.length cls.length = (refineAt g cls cls.length).1 := by simp [finAt]
      rw [e1] at hI
      have := IRow.ofBlk hI (by rw [refineAt_len]; omega)
      rw [refineAt_len] at this
      exact this
end Go.Proofs.Ytmgpdaemcbbikaa
