import Derived.Test.YtmgpdaemcbbikaaMade
namespace Go.Proofs.Ytmgpdaemcbbikaa
open Go.RowKit Go.Deep
set_option linter.unusedVariables false

theorem passF_len (g : Graph) (al : List Bool) : ∀ k, (passF g al k).1.length = al.length
  | 0 => rfl
  | k + 1 => by unfold passF; split; rw [List.length_set]; exact passF_len g al k; exact passF_len g al k
/-- How many are not alive. -/
def dead (al : List Bool) : Nat := (al.filter (fun b => !b)).length
theorem dead_le (al : List Bool) : dead al ≤ al.length := List.length_filter_le _ _
theorem dead_set : ∀ (al : List Bool) (k : Nat), k < al.length → al.getD k false = false → dead (al.set k true) + 1 = dead al
  | b :: r, 0, _, h => by
    simp at h; subst h
    simp [dead]
  | b :: r, k + 1, hk, h => by
    have ih := dead_set r k (by simpa using hk) (by simpa using h)
    unfold dead at ih ⊢
    cases b <;> simp at ih ⊢ <;> omega
theorem passF_dead (g : Graph) (al : List Bool) : ∀ k, k ≤ al.length → dead (passF g al k).1 ≤ dead al ∧ ((passF g al k).2 = true → dead (passF g al k).1 < dead al)
  | 0, _ => by simp [passF]
  | k + 1, h => by
    have ih := passF_dead g al k (by omega)
    have hl := passF_len g al k
    unfold passF
    split
    · rename_i hc
      have := dead_set (passF g al k).1 k (by omega) hc.1
      exact ⟨by simp; omega, fun _ => by simp; omega⟩
    · exact ih

/-- What lies in 'alive' when n nodes were looked at. -/
def firstAt (rule : List Int) (n : Nat) : List Bool := (rule.take n).map (fun r => r != -1) ++ List.replicate (rule.length - n) false
theorem firstAt_len (rule : List Int) (n : Nat) (h : n ≤ rule.length) : (firstAt rule n).length = rule.length := by simp [firstAt]; omega
theorem firstAt_step (rule : List Int) (n : Nat) (h : n < rule.length) : firstAt rule (n + 1) = (firstAt rule n).set n (rule[n] != -1) := by
  unfold firstAt
  have hl : ((rule.take n).map (fun r => r != -1)).length = n := by simp; omega
  rw [List.set_append_right _ _ (by omega), hl, Nat.sub_self, show rule.length - n = (rule.length - (n + 1)) + 1 by omega, List.replicate_succ, List.set_cons_zero, List.take_succ_eq_append_getElem h, List.map_append, List.append_assoc]
  rfl

set_option maxHeartbeats 3200000 in
theorem alive_any (rv nv : Value) (g : Graph) (K : Nat) (w : World) (hg : GraphAt w rv nv g) (ho : GOk g K) (hn : g.rule.length ≤ 1000) (hK : K ≤ 1000) :
    Calls Try.prog 105 #[.agg #[rv, nv]] w fun e w' => ∃ ab, e = .returned (.slice (some ⟨ab, 0, none⟩) g.rule.length g.rule.length) ∧ BRow w' (.slice (some ⟨ab, 0, none⟩) g.rule.length g.rule.length) (aliveF g) ∧ (aliveF g).length = g.rule.length ∧ Below w.heap.size w w' := by
  obtain ⟨vs, hN, hvl, hvs⟩ := hg.next
  have hrule := hg.rule
  obtain ⟨rd, rcap, rfl, hrrow⟩ := hg.rule.form
  obtain ⟨nd, ncap, rfl, hnrow⟩ := hN.form
  have hlen := ho.len
  have HVS := hide hvs
  have HN := hide hN
  have HRU := hide hrule
  have HO := hide ho
  have hvn : vs.length ≤ g.rule.length := by omega
  have hvn2 : g.rule.length ≤ vs.length := by omega
  have HLEN := hide hlen
  have HVL := hide hvl
  clear hvs hN hrule ho hg hlen hvl
  generalize hF : aliveF g = F
  unfold aliveF at hF
  have HF := hide hF
  clear hF
  have hmk := makeBools g.rule.length (by omega)
  go_enter Try.func105, Try.ntmps105
  go_wp2_with fail
  go_loopg [16] g.rule.length (fun G i wr => ∃ n : Nat, n ≤ g.rule.length ∧ G = g.rule.length - n ∧ i = .int .i64 (n : Int) ∧ Below w.heap.size w wr ∧
    Blk wr w.heap.size #[.slice rd g.rule.length rcap, .slice nd vs.length ncap] 91 ∧ Blk wr (w.heap.size + 1) (boolsA (firstAt g.rule n)) 4)
  case atStart =>
    refine ⟨0, by omega, rfl, rfl, Below2 _ _ _, (Blk.new w _ _).alloc _, ?_⟩
    have e0 : firstAt g.rule 0 = List.replicate g.rule.length false := by simp [firstAt]
    rw [e0]
    exact Blk.at1 w _ _ _
  case round =>
    obtain ⟨n, hnl, rfl, rfl, hb, hG, hI⟩ := hrel
    have hfl := firstAt_len g.rule n (by omega)
    by_cases hlt : n < g.rule.length
    · have e0 : decide ((n : Int) < (g.rule.length : Int)) = true := by simp; omega
      rcases hrrow with h0 | ⟨rg, rfl⟩
      · omega
      have r0 := (HRU.out.below hb).cell n hlt
      have c0 := boolsA_cell hI n (by omega)
      generalize (firstAt g.rule n)[n]'(by omega) = old at c0
      have f0 := hI.frozen n
      have i0 : (0 : Int) ≤ (n : Int) := by omega
      have i1 : (n : Int) < (g.rule.length : Int) := by omega
      have HH : Hid (Below w.heap.size w wr ∧ Blk wr w.heap.size #[.slice (some ⟨rg, 0, none⟩) g.rule.length rcap, .slice nd vs.length ncap] 91 ∧ Blk wr (w.heap.size + 1) (boolsA (firstAt g.rule n)) 4) := ⟨hb, hG, hI⟩
      clear hb hG hI hfl HF
      go_wp2_with fail
      go_roundg (g.rule.length - (n + 1))
      case measure => omega
      case rel =>
        obtain ⟨hb, hG, hI⟩ := HH.out
        refine ⟨n + 1, by omega, rfl, by go_num, hb.setCell (by simp) _, hG.setOther (by simp) _, ?_⟩
        rw [firstAt_step g.rule n hlt, ← boolsA_set]
        exact hI.set n _
    · have e0 : decide ((n : Int) < (g.rule.length : Int)) = false := by simp; omega
      obtain rfl : n = g.rule.length := by omega
      have HH0 : Hid (Below w.heap.size w wr ∧ Blk wr w.heap.size #[.slice rd g.rule.length rcap, .slice nd vs.length ncap] 91 ∧ Blk wr (w.heap.size + 1) (boolsA (firstAt g.rule g.rule.length)) 4) := ⟨hb, hG, hI⟩
      clear hb hG hI hfl hnl hlt
      obtain ⟨wo, rfl⟩ : ∃ wo : World, wo = wr := ⟨_, rfl⟩
      go_wp2_with fail
      go_loopg [6] (g.rule.length + 2) (fun G c wr => ∃ (al : List Bool) (ch : Bool), c = .bool ch ∧ al.length = g.rule.length ∧ (ch = true → dead al + 1 < G ∧ aliveLoop g (G - 1) al = F) ∧ (ch = false → al = F) ∧ Below w.heap.size w wr ∧
        Blk wr w.heap.size #[.slice rd g.rule.length rcap, .slice nd vs.length ncap] 91 ∧ Blk wr (w.heap.size + 1) (boolsA al) 4)
      case atStart =>
        obtain ⟨q1, q2, q3⟩ := HH0.out
        have e1 : firstAt g.rule g.rule.length = g.rule.map (fun r => r != -1) := by simp [firstAt]
        rw [e1] at q3
        refine ⟨_, true, rfl, by simp, fun _ => ⟨?_, HF.out⟩, (fun h => by cases h), q1, q2, q3⟩
        have := dead_le (g.rule.map (fun r => r != -1))
        simp at this
        omega
      case round =>
        obtain ⟨al, ch, rfl, hal, hch, hnc, hb, hG, hI⟩ := hrel
        clear HH0 HF
        cases ch with
        | false =>
          have hFe := hnc rfl
          have HH : Hid (Below w.heap.size w wr ∧ Blk wr (w.heap.size + 1) (boolsA al) 4 ∧ al.length = g.rule.length ∧ al = F) := ⟨hb, hI, hal, hFe⟩
          clear hb hG hI hal hch hnc hFe
          go_wp2_with fail
          go_ret
          obtain ⟨q1, q2, q3, rfl⟩ := HH.out
          have := BRow.ofBlk q2 (by omega)
          rw [q3] at this
          exact ⟨_, rfl, this, q3, q1⟩
        | true =>
          obtain ⟨hd, hl⟩ := hch rfl
          have hgk : gk - 1 = (gk - 2) + 1 := by omega
          rw [hgk] at hl
          unfold aliveLoop at hl
          have HL := hide hl
          have g1 : wr.cell? ⟨w.heap.size, 1, none⟩ = some (.slice nd vs.length ncap) := hG.cell 1
          have HH : Hid (Below w.heap.size w wr ∧ Blk wr w.heap.size #[.slice rd g.rule.length rcap, .slice nd vs.length ncap] 91 ∧ Blk wr (w.heap.size + 1) (boolsA al) 4) := ⟨hb, hG, hI⟩
          have HAL := hide hal
          clear hb hG hI hl hnc hch hgk hal
          obtain ⟨w2, rfl⟩ : ∃ wo : World, wo = wr := ⟨_, rfl⟩
          go_wp2_with fail
          go_loopg [6, 31] vs.length (fun G c i wr => ∃ (k : Nat), k ≤ vs.length ∧ G = vs.length - k ∧ i = .int .i64 (k : Int) ∧ c = .bool (passF g al k).2 ∧ Below w.heap.size w wr ∧
            Blk wr w.heap.size #[.slice rd g.rule.length rcap, .slice nd vs.length ncap] 91 ∧ Blk wr (w.heap.size + 1) (boolsA (passF g al k).1) 4)
          case atStart =>
            obtain ⟨q1, q2, q3⟩ := HH.out
            exact ⟨0, by omega, rfl, rfl, rfl, q1, q2, q3⟩
          case round =>
            obtain ⟨k, hk, rfl, rfl, rfl, hb, hG, hI⟩ := hrel
            clear HH g1
            by_cases hlt : k < vs.length
            · have e1 : decide ((k : Int) < (vs.length : Int)) = true := by simp; omega
              rcases hnrow with h0 | ⟨ng, rfl⟩
              · omega
              have hpl := passF_len g al k
              have hal := HAL.out
              have n0 := (HN.out.below hb).cell k hlt
              have hrow := (HVS.out k vs[k] (List.getElem?_eq_getElem _)).below hb
              have hok := HO.out.row k (by have := HVL.out; omega)
              have hBR := BRow.ofBlk hI (by omega)
              have hLd := leads_any vs[k] _ (g.next.getD k []) (passF g al k).1 wr hrow hBR (by omega) (by omega) (by rw [hpl, hal]; exact hok.2)
              rw [hpl, hal] at hLd
              have c0 := boolsA_cell hI k (by omega)
              have hgd : (passF g al k).1.getD k false = (passF g al k).1[k]'(by omega) := by simp [show k < (passF g al k).1.length by omega]
              have f0 := hI.frozen k
              have i0 : (0 : Int) ≤ (k : Int) := by omega
              have i1 : (k : Int) < (vs.length : Int) := by omega
              have i2 : (k : Int) < (g.rule.length : Int) := by omega
              generalize vs[k] = vk at n0 hLd
              have hstep : passF g al (k + 1) = if (passF g al k).1.getD k false = false ∧ leadsF (g.next.getD k []) (passF g al k).1 = true then ((passF g al k).1.set k true, true) else passF g al k := by
                conv => lhs; unfold passF
              rw [hgd] at hstep
              generalize leadsF (g.next.getD k []) (passF g al k).1 = ld at hLd hstep
              generalize hb0 : (passF g al k).1[k]'(by omega) = b0 at c0 hstep
              have HLD := hide hLd
              have HST := hide hstep
              have HH : Hid (Below w.heap.size w wr ∧ Blk wr w.heap.size #[.slice rd g.rule.length rcap, .slice (some ⟨ng, 0, none⟩) vs.length ncap] 91 ∧ Blk wr (w.heap.size + 1) (boolsA (passF g al k).1) 4) := ⟨hb, hG, hI⟩
              clear hb hG hI hpl hal hrow hok hBR hLd hgd hb0 hstep HL
              cases b0 with
              | true =>
                go_wp2_with fail
                go_roundg (vs.length - (k + 1))
                case measure => omega
                case rel =>
                  obtain ⟨q1, q2, q3⟩ := HH.out
                  have hs := HST.out
                  rw [if_neg (by simp)] at hs
                  exact ⟨k + 1, by omega, rfl, by go_num, by rw [hs], q1, q2, by rw [hs]; exact q3⟩
              | false =>
                cases ld with
                | false =>
                  go_wp2_with fail
                  refine HLD.out.mono ?_
                  rintro e w5 ⟨rfl, rfl⟩
                  go_wp2_with fail
                  go_roundg (vs.length - (k + 1))
                  case measure => omega
                  case rel =>
                    obtain ⟨q1, q2, q3⟩ := HH.out
                    have hs := HST.out
                    rw [if_neg (by simp)] at hs
                    exact ⟨k + 1, by omega, rfl, by go_num, by rw [hs], q1, q2, by rw [hs]; exact q3⟩
                | true =>
                  go_wp2_with fail
                  refine HLD.out.mono ?_
                  rintro e w5 ⟨rfl, rfl⟩
                  go_wp2_with fail
                  go_roundg (vs.length - (k + 1))
                  case measure => omega
                  case rel =>
                    obtain ⟨q1, q2, q3⟩ := HH.out
                    have hs := HST.out
                    rw [if_pos (by simp)] at hs
                    exact ⟨k + 1, by omega, rfl, by go_num, by rw [hs], q1.setCell (by simp) _, q2.setOther (by simp) _, by rw [hs, ← boolsA_set]; exact q3.set k _⟩
            · have e1 : decide ((k : Int) < (vs.length : Int)) = false := by simp; omega
              obtain rfl : k = vs.length := by omega
              have HH : Hid (Below w.heap.size w wr ∧ Blk wr w.heap.size #[.slice rd g.rule.length rcap, .slice nd vs.length ncap] 91 ∧ Blk wr (w.heap.size + 1) (boolsA (passF g al vs.length).1) 4) := ⟨hb, hG, hI⟩
              clear hb hG hI
              go_wp2_with fail
              go_roundg (gk - 1)
              case measure => omega
              case rel =>
                obtain ⟨q1, q2, q3⟩ := HH.out
                have hl := HL.out
                have hvl := HVL.out
                have hal := HAL.out
                rw [← hvl] at hl
                have hpd := passF_dead g al vs.length (by omega)
                refine ⟨_, _, rfl, by rw [passF_len]; exact hal, fun e => ?_, fun e => ?_, q1, q2, q3⟩
                · rw [if_pos e] at hl
                  have := hpd.2 e
                  exact ⟨by omega, by rw [show gk - 1 - 1 = gk - 2 by omega]; exact hl⟩
                · rw [if_neg (by simp [e])] at hl
                  exact hl
end Go.Proofs.Ytmgpdaemcbbikaa
