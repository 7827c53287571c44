import Derived.Test.YtcckhngbdoiikaaN18
import Derived.Deep.AppendLies

namespace Go.Proofs.Ytcckhngbdoiikaa
open Go.RowKit Go.Deep
set_option linter.unusedVariables false

/-- How many have no number yet. -/
def neg1 (l : List Int) : Nat := (l.filter (fun x => x == -1)).length
theorem neg1_set : ∀ (l : List Int) (k : Nat) (x : Int), k < l.length → l.getD k 0 = -1 → x ≠ -1 → neg1 (l.set k x) + 1 = neg1 l
  | b :: r, 0, x, _, h, hx => by
    simp at h; subst h
    simp [neg1, hx]
  | b :: r, k + 1, x, hk, h, hx => by
    have ih := neg1_set r k x (by simpa using hk) (by simpa using h) hx
    unfold neg1 at ih ⊢
    by_cases e : b = -1 <;> simp [e] at ih ⊢ <;> omega
/-- One step of visitRow. -/
def visitStep (cls : List Int) (st : List Int × List Int) (to : Int) : List Int × List Int :=
  if to != -1 && st.2.getD (cls.getD to.toNat 0).toNat 0 == -1 then (st.1 ++ [to], st.2.set (cls.getD to.toNat 0).toNat (st.1.length : Int)) else st
theorem visitRow_foldl (cls : List Int) : ∀ (row : List Int) (st : List Int × List Int), visitRow cls row st = row.foldl (visitStep cls) st
  | [], st => rfl
  | to :: r, st => by simp only [visitRow, List.foldl_cons]; exact visitRow_foldl cls r _
theorem visitRow_take (cls row : List Int) (k : Nat) (h : k < row.length) (st : List Int × List Int) : visitRow cls (row.take (k + 1)) st = visitStep cls (visitRow cls (row.take k) st) row[k] := by
  rw [visitRow_foldl, visitRow_foldl, List.take_succ_eq_append_getElem h, List.foldl_append]; rfl

theorem visitRow_len (cls : List Int) : ∀ (row : List Int) (st : List Int × List Int), st.1.length ≤ (visitRow cls row st).1.length
  | [], st => Nat.le_refl _
  | to :: r, st => by
    have ih := visitRow_len cls r (visitStep cls st to)
    have h1 : st.1.length ≤ (visitStep cls st to).1.length := by unfold visitStep; split <;> simp
    show st.1.length ≤ (visitRow cls r (visitStep cls st to)).1.length
    omega
/-- What holds of the nodes that were found and of the numbers. -/
structure VOk (N : Nat) (st : List Int × List Int) : Prop where
  sum : st.1.length + neg1 st.2 = N
  len : st.2.length = N
  ok : ∀ x ∈ st.1, 0 ≤ x ∧ x < (N : Int)
theorem visitStep_ok {N : Nat} {cls : List Int} (hcl : cls.length = N) (hc : ∀ x ∈ cls, 0 ≤ x ∧ x < (N : Int)) {st : List Int × List Int} (h : VOk N st) {to : Int} (ht : to = -1 ∨ (0 ≤ to ∧ to < (N : Int))) : VOk N (visitStep cls st to) := by
  unfold visitStep
  split
  · rename_i hcd
    simp at hcd
    obtain ⟨h1, h2⟩ := hcd
    have ht' : 0 ≤ to ∧ to < (N : Int) := by rcases ht with e | e; exact absurd e h1; exact e
    have hmem : cls.getD to.toNat 0 ∈ cls := by simp [show to.toNat < cls.length by omega]
    have hx := hc _ hmem
    have hset := neg1_set st.2 (cls.getD to.toNat 0).toNat (st.1.length : Int) (by rw [h.len]; omega) (by simpa using h2) (by omega)
    refine ⟨?_, by simp [h.len], ?_⟩
    · have := h.sum
      simp only [List.length_append, List.length_cons, List.length_nil]
      omega
    · intro x hx'
      simp at hx'
      rcases hx' with e | e
      · exact h.ok x e
      · subst e; exact ht'
  · exact h
theorem visitRow_ok {N : Nat} {cls : List Int} (hcl : cls.length = N) (hc : ∀ x ∈ cls, 0 ≤ x ∧ x < (N : Int)) : ∀ (row : List Int) (st : List Int × List Int), VOk N st → RowOk N row → VOk N (visitRow cls row st)
  | [], st, h, _ => h
  | to :: r, st, h, hr => by
    show VOk N (visitRow cls r (visitStep cls st to))
    exact visitRow_ok hcl hc r _ (visitStep_ok hcl hc h (hr to (by simp))) (fun x hx => hr x (by simp [hx]))

theorem intI_push {w w' : World} {v : Value} {l : List Int} {x : Int} {g cap : Nat} (hown : w'.ownsRow 0 3 1 (.slice (some ⟨g, 0, none⟩) (l.length + 1) cap) (l.length + 1) (l.map (Value.int .i64) ++ [.int .i64 x])) :
    IRow w' (.slice (some ⟨g, 0, none⟩) (l.length + 1) cap) (l ++ [x]) := by
  unfold IRow
  rw [List.length_append, List.map_append]
  exact hown

set_option maxHeartbeats 3200000 in
theorem visit_any (rv nv cv : Value) (g : Graph) (K : Nat) (cls : List Int) (w : World) (hg : GraphAt w rv nv g) (ho : GOk g K) (hc : IRow w cv cls) (hcl : cls.length = g.rule.length) (hcb : ∀ x ∈ cls, 0 ≤ x ∧ x < (g.rule.length : Int)) (hpos : 0 < g.rule.length) (hn : g.rule.length ≤ 1000) (hK : K ≤ 1000) :
    Calls Try.prog 116 #[.agg #[rv, nv], cv] w fun e w' => ∃ fv mv, e = .returned (.tuple #[fv, mv]) ∧ IRow w' fv (visitF g cls).1 ∧ IRow w' mv (visitF g cls).2 ∧ VOk g.rule.length (visitF g cls) ∧ Below w.heap.size w w' := by
  obtain ⟨vs, hN, hvl, hvs⟩ := hg.next
  have hrule := hg.rule
  obtain ⟨rd, rcap, rfl, hrrow⟩ := hg.rule.form
  obtain ⟨nd, ncap, rfl, hnrow⟩ := hN.form
  obtain ⟨cd, ccap, rfl, hcrow⟩ := hc.form
  rcases hcrow with h0 | ⟨cg, rfl⟩
  · omega
  have hlen := ho.len
  rcases hnrow with h0 | ⟨ng, rfl⟩
  · omega
  have cl0 := hc.cell 0 (by omega)
  have hc0 := hcb cls[0] (List.getElem_mem _)
  have hg00 : cls.getD 0 0 = cls[0]'(by omega) := by simp [show 0 < cls.length by omega]
  generalize hF : visitF g cls = F
  unfold visitF at hF
  rw [hg00] at hF
  have zc := ownsRow_lt hc cg rfl
  obtain ⟨c0, hc0e⟩ : ∃ j : Nat, cls[0]'(by omega) = (j : Int) := ⟨(cls[0]'(by omega)).toNat, by omega⟩
  rw [hc0e] at cl0 hF hc0
  have hc0l : c0 < cls.length := by omega
  have HVS := hide hvs
  have HN := hide hN
  have HO := hide ho
  have HC := hide hc
  have HCB := hide hcb
  have HCL := hide hcl
  have HVL := hide hvl
  have HLEN := hide hlen
  have hcl1 : cls.length ≤ 1000 := by omega
  have hp1 : 0 < cls.length := by omega
  have HF := hide hF
  rw [← hcl]
  clear hvs hN hrule ho hg hlen hvl hc hcb hcl hF hc0 hc0e hg00 hpos
  have hmk := makeInts cls.length (by omega)
  go_enter Try.func116, Try.ntmps116
  go_wp2_with fail
  go_loopg [17] cls.length (fun G i wr => ∃ n : Nat, n ≤ cls.length ∧ G = cls.length - n ∧ i = .int .i64 (n : Int) ∧ Below w.heap.size w wr ∧ wr.heap.size = w.heap.size + 2 ∧
    Blk wr w.heap.size #[.slice rd cls.length rcap, .slice (some ⟨ng, 0, none⟩) vs.length ncap] 101 ∧ Blk wr (w.heap.size + 1) (intsA (List.replicate n (-1) ++ List.replicate (cls.length - n) 0)) 3)
  case atStart =>
    refine ⟨0, by omega, rfl, rfl, Below2 _ _ _, by simp, (Blk.new w _ _).alloc _, ?_⟩
    rw [List.replicate_zero, List.nil_append, Nat.sub_zero]
    exact Blk.at1 w _ _ _
  case round =>
    obtain ⟨n, hnl, rfl, rfl, hb, hsz, hG, hI⟩ := hrel
    by_cases hlt : n < cls.length
    · have e0 : decide ((n : Int) < (cls.length : Int)) = true := by simp; omega
      have hll : (List.replicate n (-1 : Int) ++ List.replicate (cls.length - n) 0).length = cls.length := by simp; omega
      have m0 := intsA_cell hI n (by omega)
      generalize (List.replicate n (-1 : Int) ++ List.replicate (cls.length - n) 0)[n]'(by omega) = old at m0
      have mf0 := hI.frozen n
      have i0 : (0 : Int) ≤ (n : Int) := by omega
      have i1 : (n : Int) < (cls.length : Int) := by omega
      have HH : Hid (Below w.heap.size w wr ∧ wr.heap.size = w.heap.size + 2 ∧ Blk wr w.heap.size #[.slice rd cls.length rcap, .slice (some ⟨ng, 0, none⟩) vs.length ncap] 101 ∧ Blk wr (w.heap.size + 1) (intsA (List.replicate n (-1) ++ List.replicate (cls.length - n) 0)) 3) := ⟨hb, hsz, hG, hI⟩
      clear hb hsz hG hI hll HF
      go_wp2_with fail
      go_roundg (cls.length - (n + 1))
      case measure => omega
      case rel =>
        obtain ⟨q1, q2, q3, q4⟩ := HH.out
        refine ⟨n + 1, by omega, rfl, by go_num, q1.setCell (by simp) _, by simp [q2], q3.setOther (by simp) _, ?_⟩
        have q5 := q4.set n (.int .i64 (-1))
        rw [intsA_set] at q5
        have e1 : (List.replicate n (-1 : Int) ++ List.replicate (cls.length - n) 0).set n (-1) = List.replicate (n + 1) (-1) ++ List.replicate (cls.length - (n + 1)) 0 := by
          rw [List.set_append_right _ _ (by simp), List.length_replicate, Nat.sub_self, show cls.length - n = (cls.length - (n + 1)) + 1 by omega, List.replicate_succ, List.set_cons_zero, List.replicate_succ', List.append_assoc]
          rfl
        rw [e1] at q5
        exact q5
    · have e0 : decide ((n : Int) < (cls.length : Int)) = false := by simp; omega
      obtain rfl : n = cls.length := by omega
      rw [Nat.sub_self, List.replicate_zero, List.append_nil] at hI
      have cl1 : wr.cell? ⟨cg, 0, none⟩ = some (.int .i64 (c0 : Int)) := by rw [hb.cell (p := ⟨cg, 0, none⟩) zc]; exact cl0
      have m0 := intsA_cell hI c0 (by simpa using hc0l)
      simp only [List.getElem_replicate] at m0
      have mf0 := hI.frozen c0
      have i0 : (0 : Int) ≤ (c0 : Int) := by omega
      have i1 : (c0 : Int) < (cls.length : Int) := by omega
      have HH0 : Hid (Below w.heap.size w wr ∧ Blk wr w.heap.size #[.slice rd cls.length rcap, .slice (some ⟨ng, 0, none⟩) vs.length ncap] 101 ∧ Blk wr (w.heap.size + 1) (intsA (List.replicate cls.length (-1))) 3 ∧ wr.heap.size = w.heap.size + 2) := ⟨hb, hG, hI, hsz⟩
      clear hb hG hI hnl hlt hsz
      obtain ⟨wo, rfl⟩ : ∃ wo : World, wo = wr := ⟨_, rfl⟩
      go_wp2_with fail
      go_loopg [8, 9] (cls.length + 1) (fun G c i wr => ∃ (k : Nat) (st : List Int × List Int) (fg fcap : Nat), c = .slice (some ⟨fg, 0, none⟩) st.1.length fcap ∧ i = .int .i64 (k : Int) ∧ k ≤ st.1.length ∧ cls.length + 1 ≤ G + k ∧ VOk cls.length st ∧ visitLoop g cls G k st = F ∧
        IRow wr (.slice (some ⟨fg, 0, none⟩) st.1.length fcap) st.1 ∧ w.heap.size + 1 < fg ∧ Below w.heap.size w wr ∧ Blk wr w.heap.size #[.slice rd cls.length rcap, .slice (some ⟨ng, 0, none⟩) vs.length ncap] 101 ∧ Blk wr (w.heap.size + 1) (intsA st.2) 3)
      case atStart =>
        obtain ⟨q1, q2, q3, q4⟩ := HH0.out
        have q5 := q3.set c0 (.int .i64 0)
        rw [intsA_set] at q5
        refine ⟨0, ([0], (List.replicate cls.length (-1 : Int)).set c0 0), wo.heap.size, 1, rfl, rfl, by simp, by omega, ?_, by simpa using HF.out, ?_, by omega, (q1.setCell (by simp) _).alloc (by simp; omega) _, (q2.setOther (by simp) _).alloc _, q5.alloc _⟩
        · have hs := neg1_set (List.replicate cls.length (-1 : Int)) c0 0 (by simpa using hc0l) (by simp [hc0l]) (by decide)
          have hr : neg1 (List.replicate cls.length (-1 : Int)) = cls.length := by simp [neg1]
          refine ⟨by simp only [List.length_cons, List.length_nil]; omega, by simp, fun x hx => ?_⟩
          simp at hx
          subst hx
          omega
        · have := IRow.ofBlk (l := [0]) (Blk.new (wo.setCell ⟨w.heap.size + 1, c0, none⟩ (.int .i64 0)) #[.int .i64 0] 3) (by simp)
          simpa using this
      case round =>
        obtain ⟨k, st, fg, fcap, rfl, rfl, hk, hfu, hv, hFl, hI, hfg, hb, hG, hM⟩ := hrel
        clear HH0 HF cl0 cl1 m0 mf0
        have hsum := hv.sum
        by_cases hlt : k < st.1.length
        · have e1 : decide ((k : Int) < (st.1.length : Int)) = true := by simp; omega
          have hgk : gk = (gk - 1) + 1 := by omega
          rw [hgk] at hFl
          unfold visitLoop at hFl
          rw [if_pos hlt] at hFl
          have hgd : st.1.getD k 0 = st.1[k] := by simp [hlt]
          rw [hgd] at hFl
          have hx := hv.ok st.1[k] (List.getElem_mem hlt)
          have f0 := hI.cell k hlt
          generalize st.1[k] = x at hFl hx f0
          obtain ⟨x, rfl⟩ : ∃ j : Nat, x = (j : Int) := ⟨x.toNat, by omega⟩
          rw [Int.toNat_natCast] at hFl
          have hvl := HVL.out
          have hlen := HLEN.out
          have hcl := HCL.out
          have hxl : x < vs.length := by omega
          have n0 := (HN.out.below hb).cell x hxl
          have hrow := HVS.out x vs[x] (List.getElem?_eq_getElem _)
          have hok := HO.out.row x (by omega)
          generalize vs[x] = vx at n0 hrow
          generalize g.next.getD x [] = row at hrow hok hFl
          obtain ⟨ed, ecap, rfl, herow⟩ := hrow.form
          have g1 : wr.cell? ⟨w.heap.size, 1, none⟩ = some (.slice (some ⟨ng, 0, none⟩) vs.length ncap) := hG.cell 1
          have i2 : (0 : Int) ≤ (k : Int) := by omega
          have i3 : (k : Int) < (st.1.length : Int) := by omega
          have i4 : (0 : Int) ≤ (x : Int) := by omega
          have i5 : (x : Int) < (vs.length : Int) := by omega
          have hrl : row.length ≤ 1000 := by omega
          have hstl : st.1.length ≤ cls.length := by omega
          obtain ⟨hokl, hokr⟩ := hok
          rw [← hcl] at hokr
          have hvr := visitRow_ok rfl (by rw [hcl]; exact HCB.out) row st hv hokr
          have HVR := hide hvr
          have HFL := hide hFl
          have HOK := hide hokr
          have HROW := hide hrow
          have HV := hide hv
          have HH : Hid (IRow wr (.slice (some ⟨fg, 0, none⟩) st.1.length fcap) st.1 ∧ Below w.heap.size w wr ∧ Blk wr w.heap.size #[.slice rd cls.length rcap, .slice (some ⟨ng, 0, none⟩) vs.length ncap] 101 ∧ Blk wr (w.heap.size + 1) (intsA st.2) 3) := ⟨hI, hb, hG, hM⟩
          clear hgk hgd hx hvl hlen hcl hokl hokr hrow hFl hI hb hG hM hv hsum hvr
          obtain ⟨w3, rfl⟩ : ∃ wo : World, wo = wr := ⟨_, rfl⟩
          go_wp2_with fail
          go_quiet (fail)
          go_wp2_with fail
          go_loopg [8, 45] row.length (fun G c i wr => ∃ (j fg fcap : Nat), j ≤ row.length ∧ G = row.length - j ∧ i = .int .i64 (j : Int) ∧ c = .slice (some ⟨fg, 0, none⟩) (visitRow cls (row.take j) st).1.length fcap ∧
            IRow wr (.slice (some ⟨fg, 0, none⟩) (visitRow cls (row.take j) st).1.length fcap) (visitRow cls (row.take j) st).1 ∧ w.heap.size + 1 < fg ∧ Below w.heap.size w wr ∧ Blk wr w.heap.size #[.slice rd cls.length rcap, .slice (some ⟨ng, 0, none⟩) vs.length ncap] 101 ∧ Blk wr (w.heap.size + 1) (intsA (visitRow cls (row.take j) st).2) 3)
          case atStart =>
            obtain ⟨q1, q2, q3, q4⟩ := HH.out
            refine ⟨0, fg, fcap, by omega, rfl, rfl, rfl, ?_, hfg, Below_drewN q2 _, q3.drewN _, q4.drewN _⟩
            exact q1.below (Below_drewN (Below.refl _ _) _)
          case round =>
            obtain ⟨j, fg2, fcap2, hj, rfl, rfl, rfl, hI, hfg2, hb, hG, hM⟩ := hrel
            have hcl := HCL.out
            have hvj := visitRow_ok (N := cls.length) rfl (by rw [hcl]; exact HCB.out) (row.take j) st HV.out (fun y hy => HOK.out y (List.mem_of_mem_take hy))
            clear HH hcl n0 f0 g1
            by_cases hlj : j < row.length
            · have e2 : decide ((j : Int) < (row.length : Int)) = true := by simp; omega
              have hstep := visitRow_take cls row j hlj st
              rcases herow with h0 | ⟨eg, rfl⟩
              · omega
              have r0 := (HROW.out.below hb).cell j hlj
              have hto := HOK.out row[j] (List.getElem_mem hlj)
              generalize row[j] = to at r0 hto hstep
              generalize visitRow cls (row.take j) st = sj at hI hM hvj hstep
              have hsum := hvj.sum
              have hslen := hvj.len
              have hsl : sj.1.length ≤ 1000 := by omega
              have j0 : (0 : Int) ≤ (j : Int) := by omega
              have j1 : (j : Int) < (row.length : Int) := by omega
              by_cases hn1 : to = -1
              · subst hn1
                have hs2 : visitStep cls sj (-1) = sj := by simp [visitStep]
                rw [hs2] at hstep
                have HST := hide hstep
                have HHI : Hid (IRow wr (.slice (some ⟨fg2, 0, none⟩) sj.1.length fcap2) sj.1 ∧ Below w.heap.size w wr ∧ Blk wr w.heap.size #[.slice rd cls.length rcap, .slice (some ⟨ng, 0, none⟩) vs.length ncap] 101 ∧ Blk wr (w.heap.size + 1) (intsA sj.2) 3) := ⟨hI, hb, hG, hM⟩
                clear hs2 hstep hI hb hG hM hto hsum hslen hvj
                go_wp2_with fail
                go_roundg (row.length - (j + 1))
                case measure => omega
                case rel =>
                  obtain ⟨q1, q2, q3, q4⟩ := HHI.out
                  exact ⟨j + 1, fg2, fcap2, by omega, rfl, by go_num, by rw [HST.out], by rw [HST.out]; exact q1, hfg2, q2, q3, by rw [HST.out]; exact q4⟩
              · have e3 : (to != -1) = true := by simp [hn1]
                obtain ⟨t, rfl⟩ : ∃ i : Nat, to = (i : Int) := ⟨to.toNat, by omega⟩
                have htl : t < cls.length := by omega
                have ct := (HC.out.below hb).cell t htl
                have hcb := HCB.out cls[t] (List.getElem_mem htl)
                have hcl := HCL.out
                have hgt : cls.getD t 0 = cls[t] := by simp [htl]
                unfold visitStep at hstep
                rw [Int.toNat_natCast, hgt] at hstep
                generalize cls[t] = ci at ct hcb hstep
                obtain ⟨ci, rfl⟩ : ∃ i : Nat, ci = (i : Int) := ⟨ci.toNat, by omega⟩
                rw [Int.toNat_natCast] at hstep
                have hcil : ci < sj.2.length := by omega
                have mc := intsA_cell hM ci hcil
                have hgm : sj.2.getD ci 0 = sj.2[ci] := by simp [hcil]
                rw [hgm] at hstep
                generalize hold : sj.2[ci] = old at mc hstep
                have mf := hM.frozen ci
                have t0 : (0 : Int) ≤ (t : Int) := by omega
                have t1 : (t : Int) < (cls.length : Int) := by omega
                have ci0 : (0 : Int) ≤ (ci : Int) := by omega
                have ci1 : (ci : Int) < (cls.length : Int) := by omega
                have zM := hM.lt
                by_cases hold1 : old = -1
                · subst hold1
                  rw [if_pos (by simp [hn1])] at hstep
                  have HST := hide hstep
                  obtain ⟨ii, hi, hz0, hz1, hz2⟩ := info_parts Try.infoI3
                  have hI' : IRow (wr.setCell ⟨w.heap.size + 1, ci, none⟩ (.int .i64 (sj.1.length : Int))) (.slice (some ⟨fg2, 0, none⟩) sj.1.length fcap2) sj.1 := ownsRow_setOther hI (by simp [Value.ownBlock]; omega) _
                  have hM' := hM.set ci (.int .i64 (sj.1.length : Int))
                  rw [intsA_set] at hM'
                  have hG' := hG.setOther (p := ⟨w.heap.size + 1, ci, none⟩) (by simp) (.int .i64 (sj.1.length : Int))
                  have hb' := hb.setCell (p := ⟨w.heap.size + 1, ci, none⟩) (by simp) (.int .i64 (sj.1.length : Int))
                  have hol := hI'.below (Below1 _ (.cells #[.int .i64 (t : Int)] 3))
                  have HOL := hide hol
                  have HHI : Hid (Below w.heap.size w (wr.setCell ⟨w.heap.size + 1, ci, none⟩ (.int .i64 (sj.1.length : Int))) ∧ Blk (wr.setCell ⟨w.heap.size + 1, ci, none⟩ (.int .i64 (sj.1.length : Int))) w.heap.size #[.slice rd cls.length rcap, .slice (some ⟨ng, 0, none⟩) vs.length ncap] 101 ∧ Blk (wr.setCell ⟨w.heap.size + 1, ci, none⟩ (.int .i64 (sj.1.length : Int))) (w.heap.size + 1) (intsA (sj.2.set ci (sj.1.length : Int))) 3) := ⟨hb', hG', hM'⟩
                  clear hstep hI hb hG hM hto hsum hslen hvj hI' hM' hG' hb' hol hgm hold hgt hcb hcl hn1
                  go_wp2_with (at_builtin; (refine wpList_append_lies _ (by rfl) _ _ _ (by rfl) 0 3 ii _ 1 8 Try.underlying40 hi hz0 hz1 hz2 rfl (by omega) (.slice (some ⟨fg2, 0, none⟩) sj.1.length fcap2) sj.1.length (sj.1.map (Value.int .i64)) (by rfl) HOL.out ⟨wr.heap.size, 0, none⟩ 1 1 [.int .i64 (t : Int)] (by rfl) (by rfl) (World.news_of_block (cs := #[.int .i64 (t : Int)]) (t := 3) (fr := (0, 0)) (by have := heap_alloc_new (wr.setCell ⟨w.heap.size + 1, ci, none⟩ (.int .i64 (sj.1.length : Int))) (.cells #[.int .i64 (t : Int)] 3); simpa using this)) (by simp [Value.oneCell']) (by omega) (by unfold maxLen; omega) (by omega) (by simp) (wr.heap.size + 1) (by simp) ?_))
                  intro gg cap2 w6 hown6 hgrow6 hat6 hlt6
                  obtain ⟨q1, q2, q3⟩ := HHI.out
                  have hkk : Kept (fun k => k = fg2) ((wr.setCell ⟨w.heap.size + 1, ci, none⟩ (.int .i64 (sj.1.length : Int))).alloc (.cells #[.int .i64 (t : Int)] 3)) w6 := ⟨hgrow6.os, hgrow6.tape, hgrow6.output, hgrow6.size, fun k hk he => hgrow6.block k hk (fun e => he (Option.some.inj e))⟩
                  have q2' := (q2.alloc (.cells #[.int .i64 (t : Int)] 3)).kept hkk (by omega)
                  have q3' := (q3.alloc (.cells #[.int .i64 (t : Int)] 3)).kept hkk (by omega)
                  have q1' : Below w.heap.size w w6 := (q1.alloc (by simp; omega) _).trans ⟨hkk.os, hkk.tape, hkk.output, hkk.size, fun k hk => hkk.block k (by simp; omega) (by omega)⟩
                  have hgg : w.heap.size + 1 < gg := by
                    rcases hat6 with e | e
                    · cases (Option.some.inj e : fg2 = gg); exact hfg2
                    · omega
                  have HHX : Hid (IRow w6 (.slice (some ⟨gg, 0, none⟩) (sj.1.length + 1) cap2) (sj.1 ++ [(t : Int)]) ∧ Below w.heap.size w w6 ∧ Blk w6 w.heap.size #[.slice rd cls.length rcap, .slice (some ⟨ng, 0, none⟩) vs.length ncap] 101 ∧ Blk w6 (w.heap.size + 1) (intsA (sj.2.set ci (sj.1.length : Int))) 3) := ⟨intI_push (w := w6) (v := .slice none 0 0) hown6, q1', q2', q3'⟩
                  clear hown6 hgrow6 hat6 hkk q1 q2 q3 q1' q2' q3' HHI HOL mc mf
                  go_wp2_with fail
                  go_roundg (row.length - (j + 1))
                  case measure => omega
                  case rel =>
                    obtain ⟨q1, q2, q3, q4⟩ := HHX.out
                    refine ⟨j + 1, gg, cap2, by omega, rfl, by go_num, ?_, ?_, hgg, q2, q3, ?_⟩
                    · rw [HST.out]; simp
                    · rw [HST.out]; simpa using q1
                    · rw [HST.out]; exact q4
                · have e4 : (old == -1) = false := by simp [hold1]
                  rw [if_neg (by simp [hold1])] at hstep
                  have HST := hide hstep
                  have HHI : Hid (IRow wr (.slice (some ⟨fg2, 0, none⟩) sj.1.length fcap2) sj.1 ∧ Below w.heap.size w wr ∧ Blk wr w.heap.size #[.slice rd cls.length rcap, .slice (some ⟨ng, 0, none⟩) vs.length ncap] 101 ∧ Blk wr (w.heap.size + 1) (intsA sj.2) 3) := ⟨hI, hb, hG, hM⟩
                  clear hstep hI hb hG hM hto hsum hslen hvj hgm hold hold1 hgt hcb hcl hn1
                  go_wp2_with fail
                  go_roundg (row.length - (j + 1))
                  case measure => omega
                  case rel =>
                    obtain ⟨q1, q2, q3, q4⟩ := HHI.out
                    exact ⟨j + 1, fg2, fcap2, by omega, rfl, by go_num, by rw [HST.out], by rw [HST.out]; exact q1, hfg2, q2, q3, by rw [HST.out]; exact q4⟩
            · have e2 : decide ((j : Int) < (row.length : Int)) = false := by simp; omega
              rw [List.take_of_length_le (by omega)] at hI hM ⊢
              have hvs2 := HVR.out.sum
              have HHI : Hid (IRow wr (.slice (some ⟨fg2, 0, none⟩) (visitRow cls row st).1.length fcap2) (visitRow cls row st).1 ∧ Below w.heap.size w wr ∧ Blk wr w.heap.size #[.slice rd cls.length rcap, .slice (some ⟨ng, 0, none⟩) vs.length ncap] 101 ∧ Blk wr (w.heap.size + 1) (intsA (visitRow cls row st).2) 3) := ⟨hI, hb, hG, hM⟩
              have HSUM := hide hvs2
              clear hI hb hG hM hvj hvs2
              go_wp2_with fail
              go_roundg (gk - 1)
              case measure => omega
              case rel =>
                obtain ⟨q1, q2, q3, q4⟩ := HHI.out
                have hsub := HSUM.out
                refine ⟨k + 1, visitRow cls row st, fg2, fcap2, rfl, by go_num, ?_, by omega, HVR.out, HFL.out, q1, hfg2, q2, q3, q4⟩
                have := visitRow_len cls row st
                omega
        · have e1 : decide ((k : Int) < (st.1.length : Int)) = false := by simp; omega
          have hFe : F = st := by
            rw [show gk = (gk - 1) + 1 by omega] at hFl
            unfold visitLoop at hFl
            rw [if_neg hlt] at hFl
            exact hFl.symm
          subst hFe
          have hvlen := hv.len
          have HHI : Hid (IRow wr (.slice (some ⟨fg, 0, none⟩) F.1.length fcap) F.1 ∧ Below w.heap.size w wr ∧ Blk wr (w.heap.size + 1) (intsA F.2) 3 ∧ VOk cls.length F) := ⟨hI, hb, hM, hv⟩
          clear hI hb hM hv hG hFl hvlen hsum
          go_wp2_with fail
          go_ret2
          obtain ⟨q1, q2, q3, q4⟩ := HHI.out
          have q5 := IRow.ofBlk q3 (by rw [q4.len]; omega)
          rw [q4.len] at q5
          exact ⟨_, _, rfl, q1, q5, q4, q2⟩
end Go.Proofs.Ytcckhngbdoiikaa

namespace Go.Proofs.Ytcckhngbdoiikaa
open Go.RowKit Go.Deep
set_option linter.unusedVariables false

/-- What lies in 'finer' when n nodes are done. -/
def finAt (g : Graph) (cls : List Int) (N n : Nat) : List Int := (refineAt g cls n).1 ++ List.replicate (N - n) 0
theorem finAt_len (g : Graph) (cls : List Int) (N n : Nat) (h : n ≤ N) : (finAt g cls N n).length = N := by simp [finAt, refineAt_len]; omega
theorem finAt_get (g : Graph) (cls : List Int) (N n e : Nat) (he : e < n) : (finAt g cls N n).getD e 0 = (refineAt g cls n).1.getD e 0 := by
  simp [finAt, List.getElem?_append_left (show e < (refineAt g cls n).1.length by rw [refineAt_len]; exact he)]
theorem finAt_step (g : Graph) (cls : List Int) (N n : Nat) (x : Int) (h : n < N) (hx : (refineAt g cls (n + 1)).1 = (refineAt g cls n).1 ++ [x]) : finAt g cls N (n + 1) = (finAt g cls N n).set n x := by
  unfold finAt
  have hl := refineAt_len g cls n
  rw [hx, List.set_append_right _ _ (by omega), hl, Nat.sub_self, show N - n = (N - (n + 1)) + 1 by omega, List.replicate_succ, List.set_cons_zero, List.append_assoc]
  rfl

set_option maxHeartbeats 3200000 in
theorem refine_any (rv nv cv : Value) (g : Graph) (K : Nat) (cls : List Int) (w : World) (hg : GraphAt w rv nv g) (ho : GOk g K) (hc : IRow w cv cls) (hcl : cls.length = g.rule.length) (hn : g.rule.length ≤ 1000) (hK : K ≤ 1000) :
    Calls Try.prog 115 #[.agg #[rv, nv], cv] w fun e w' => ∃ fb, e = .returned (.tuple #[.slice (some ⟨fb, 0, none⟩) g.rule.length g.rule.length, .int .i64 ((refineAt g cls g.rule.length).2 : Int)]) ∧
      IRow w' (.slice (some ⟨fb, 0, none⟩) g.rule.length g.rule.length) (refineAt g cls g.rule.length).1 ∧ Below w.heap.size w w' := by
  have hT := fun (W : World) (hb : Below w.heap.size w W) (a b : Nat) (ha : a < g.rule.length) (hb' : b < g.rule.length) => together_any rv nv cv g K cls a b W (hg.below hb) ho (hc.below hb) hcl ha hb' hn hK
  obtain ⟨vs, hN, hvl, hvs⟩ := hg.next
  obtain ⟨cd, ccap, rfl, _⟩ := hc.form
  obtain ⟨rd, rcap, rfl, _⟩ := hg.rule.form
  obtain ⟨nd, ncap, rfl, _⟩ := hN.form
  rw [← hcl] at hT ⊢
  have HT := hide hT
  have HCL := hide hcl
  have hcl1 : cls.length ≤ 1000 := by omega
  clear hT hg ho hc hN hvl hvs hcl
  have hmk := makeInts cls.length (by omega)
  go_enter Try.func115, Try.ntmps115
  go_wp2_with fail
  go_loopg [7, 15] cls.length (fun G c i wr => ∃ n : Nat, n ≤ cls.length ∧ G = cls.length - n ∧ i = .int .i64 (n : Int) ∧ c = .int .i64 ((refineAt g cls n).2 : Int) ∧ Below w.heap.size w wr ∧
    Blk wr w.heap.size #[.slice rd cls.length rcap, .slice nd vs.length ncap] 101 ∧ Blk wr (w.heap.size + 1) (intsA (finAt g cls cls.length n)) 3)
  case atStart =>
    refine ⟨0, by omega, rfl, rfl, rfl, Below2 _ _ _, (Blk.new w _ _).alloc _, ?_⟩
    have e0 : finAt g cls cls.length 0 = List.replicate cls.length 0 := by simp [finAt, refineAt]
    rw [e0]
    exact Blk.at1 w _ _ _
  case round =>
    obtain ⟨n, hnl, rfl, rfl, rfl, hb, hG, hI⟩ := hrel
    by_cases hlt : n < cls.length
    · have e0 : decide ((n : Int) < (cls.length : Int)) = true := by simp; omega
      have hlen := finAt_len g cls cls.length n (by omega)
      have c0 := intsA_cell hI n (by omega)
      have f0 := hI.frozen n
      have i0 : (0 : Int) ≤ (n : Int) := by omega
      have i1 : (n : Int) < (cls.length : Int) := by omega
      have hcb := (refineAt_bd g cls n).2
      have hcN : (refineAt g cls n).2 ≤ 1000 := by omega
      generalize (finAt g cls cls.length n)[n]'(by omega) = old at c0
      have HI := hide hI
      have HB := hide hb
      have HG := hide hG
      have HLEN := hide hlen
      generalize hcnt : (refineAt g cls n).2 = cnt at hcb hcN ⊢
      have HCNT := hide hcnt
      have HM : Hid (∃ M, mateF g cls n (n + 1) 0 = M) := ⟨_, rfl⟩
      obtain ⟨M, hM⟩ := HM.out
      have HMM := hide hM
      clear hI hb hG hlen hcnt hM HM
      obtain ⟨wo, rfl⟩ : ∃ wo : World, wo = wr := ⟨_, rfl⟩
      go_wp2_with fail
      go_loopg [9] (n + 1) (fun G i wi => ∃ k : Nat, k ≤ n ∧ G = n + 1 - k ∧ i = .int .i64 (k : Int) ∧ Below w.heap.size w wi ∧
        Blk wi w.heap.size #[.slice rd cls.length rcap, .slice nd vs.length ncap] 101 ∧ Blk wi (w.heap.size + 1) (intsA ((finAt g cls cls.length n).set n (cnt : Int))) 3 ∧ mateF g cls n (n + 1 - k) k = M)
      case atStart =>
        refine ⟨0, by omega, rfl, rfl, HB.out.setCell (by simp) _, HG.out.setOther (by simp) _, ?_, HMM.out⟩
        rw [← intsA_set]; exact HI.out.set n _
      case round =>
        obtain ⟨k, hk, rfl, rfl, hb2, hG2, hI2, hm2⟩ := hrel
        clear HB HG HI c0 f0
        have hz1 := hI2.lt
        have g0 : wr.cell? ⟨w.heap.size, 0, none⟩ = some (.slice rd cls.length rcap) := hG2.cell 0
        have g1 : wr.cell? ⟨w.heap.size, 1, none⟩ = some (.slice nd vs.length ncap) := hG2.cell 1
        have hls : ((finAt g cls cls.length n).set n (cnt : Int)).length = cls.length := by rw [List.length_set]; exact HLEN.out
        have cn : wr.cell? ⟨w.heap.size + 1, n, none⟩ = some (.int .i64 (cnt : Int)) := by
          rw [intsA_cell hI2 n (by omega)]; simp
        have fn := hI2.frozen n
        have HH : Hid (Below w.heap.size w wr ∧ Blk wr w.heap.size #[.slice rd cls.length rcap, .slice nd vs.length ncap] 101 ∧ Blk wr (w.heap.size + 1) (intsA ((finAt g cls cls.length n).set n (cnt : Int))) 3 ∧ mateF g cls n (n + 1 - k) k = M) := ⟨hb2, hG2, hI2, hm2⟩
        have HLS := hide hls
        clear hb2 hG2 hI2 hm2 hls
        by_cases hkn : k < n
        · have e1 : decide ((k : Int) < (n : Int)) = true := by simp; omega
          have k0 : (0 : Int) ≤ (k : Int) := by omega
          have k1 : (k : Int) < (cls.length : Int) := by omega
          go_wp2_with fail
          refine (HT.out wr HH.out.1 k n (by omega) (by omega)).mono ?_
          rintro e w4 ⟨rfl, hb4⟩
          obtain ⟨hb2, hG2, hI2, hm2⟩ := HH.out
          have hG4 := hG2.below hb4
          have hI4 := hI2.below hb4
          have hb5 : Below w.heap.size w w4 := hb2.trans (hb4.mono hb2.size)
          rw [show n + 1 - k = (n - k) + 1 by omega] at hm2
          unfold mateF at hm2
          rw [if_pos hkn] at hm2
          cases htg : togetherF g cls k n with
          | false =>
            rw [htg, if_neg (by simp)] at hm2
            have HH4 : Hid (Below w.heap.size w w4 ∧ Blk w4 w.heap.size #[.slice rd cls.length rcap, .slice nd vs.length ncap] 101 ∧ Blk w4 (w.heap.size + 1) (intsA ((finAt g cls cls.length n).set n (cnt : Int))) 3 ∧ mateF g cls n (n - k) (k + 1) = M) := ⟨hb5, hG4, hI4, hm2⟩
            clear hb2 hG2 hI2 hm2 hG4 hI4 hb5 hb4 HH htg g0 g1 cn fn
            go_wp2_with fail
            go_roundg (n - k)
            case measure => omega
            case rel =>
              obtain ⟨q1, q2, q3, q4⟩ := HH4.out
              exact ⟨k + 1, by omega, by omega, by go_num, q1, q2, q3, by rw [show n + 1 - (k + 1) = n - k by omega]; exact q4⟩
          | true =>
            rw [htg, if_pos rfl] at hm2
            have hls := HLS.out
            have ck : w4.cell? ⟨w.heap.size + 1, k, none⟩ = some (.int .i64 ((refineAt g cls n).1.getD k 0)) := by
              rw [intsA_cell hI4 k (by omega)]
              congr 2
              rw [List.getElem_set_ne (by omega)]
              have hl0 := HLEN.out
              have := finAt_get g cls cls.length n k hkn
              rw [← this]
              simp [show k < (finAt g cls cls.length n).length by omega]
            have cn4 : w4.cell? ⟨w.heap.size + 1, n, none⟩ = some (.int .i64 (cnt : Int)) := by
              rw [intsA_cell hI4 n (by omega)]; simp
            have fn4 := hI4.frozen n
            have hbd := (refineAt_bd g cls n).1
            have hrl := refineAt_len g cls n
            have hmem : (refineAt g cls n).1.getD k 0 ∈ (refineAt g cls n).1 := by
              simp [show k < (refineAt g cls n).1.length by omega]
            have hx := hbd _ hmem
            have hxr : (refineAt g cls (n + 1)).1 = (refineAt g cls n).1 ++ [(refineAt g cls n).1.getD k 0] ∧ (refineAt g cls (n + 1)).2 = cnt := by
              have hMe := HMM.out
              rw [← hm2] at hMe
              have : refineAt g cls (n + 1) = ((refineAt g cls n).1 ++ [(refineAt g cls n).1.getD k 0], (refineAt g cls n).2) := by
                conv => lhs; unfold refineAt
                rw [hMe]
              rw [this]
              exact ⟨rfl, HCNT.out⟩
            rw [HCNT.out] at hx
            generalize (refineAt g cls n).1.getD k 0 = x at ck hx hxr
            have ene : (x == (cnt : Int)) = false := by simp; omega
            have HXR := hide hxr
            have HH4 : Hid (Below w.heap.size w w4 ∧ Blk w4 w.heap.size #[.slice rd cls.length rcap, .slice nd vs.length ncap] 101 ∧ Blk w4 (w.heap.size + 1) (intsA ((finAt g cls cls.length n).set n (cnt : Int))) 3) := ⟨hb5, hG4, hI4⟩
            clear hb2 hG2 hI2 hm2 hG4 hI4 hb5 hb4 HH htg g0 g1 cn fn hls hbd hrl hmem hxr hx
            go_wp2_with fail
            go_roundg (cls.length - (n + 1))
            case measure => omega
            case rel =>
              obtain ⟨q1, q2, q3⟩ := HH4.out
              obtain ⟨hx1, hx2⟩ := HXR.out
              refine ⟨n + 1, by omega, rfl, by go_num, by rw [hx2], q1.setCell (by simp) _, q2.setOther (by simp) _, ?_⟩
              rw [finAt_step g cls cls.length n x hlt hx1]
              have := q3.set n (.int .i64 x)
              rw [intsA_set, List.set_set] at this
              exact this
        · have e1 : decide ((k : Int) < (n : Int)) = false := by simp; omega
          obtain rfl : k = n := by omega
          have hMn : M = none := by
            have hm2 := HH.out.2.2.2
            rw [show k + 1 - k = 0 + 1 by omega] at hm2
            unfold mateF at hm2
            rw [if_neg (by omega)] at hm2
            exact hm2.symm
          have hxr : (refineAt g cls (k + 1)).1 = (refineAt g cls k).1 ++ [(cnt : Int)] ∧ (refineAt g cls (k + 1)).2 = cnt + 1 := by
            have hMe := HMM.out
            rw [hMn] at hMe
            have : refineAt g cls (k + 1) = ((refineAt g cls k).1 ++ [((refineAt g cls k).2 : Int)], (refineAt g cls k).2 + 1) := by
              conv => lhs; unfold refineAt
              rw [hMe]
            rw [this, HCNT.out]
            exact ⟨rfl, rfl⟩
          have HXR := hide hxr
          clear hxr hMn
          go_wp2_with fail
          go_roundg (cls.length - (k + 1))
          case measure => omega
          case rel =>
            obtain ⟨q1, q2, q3, _⟩ := HH.out
            obtain ⟨hx1, hx2⟩ := HXR.out
            refine ⟨k + 1, by omega, rfl, by go_num, by rw [hx2]; go_num, q1, q2, ?_⟩
            rw [finAt_step g cls cls.length k _ hlt hx1]
            exact q3
    · have e0 : decide ((n : Int) < (cls.length : Int)) = false := by simp; omega
      obtain rfl : n = cls.length := by omega
      go_wp2_with fail
      go_ret2
      refine ⟨_, rfl, ?_, hb⟩
      have e1 : finAt g cls cls.length cls.length = (refineAt g cls cls.length).1 := by simp [finAt]
      rw [e1] at hI
      have := IRow.ofBlk hI (by rw [refineAt_len]; omega)
      rw [refineAt_len] at this
      exact this
end Go.Proofs.Ytcckhngbdoiikaa
