import Derived.Test.YtcckhngbdoiikaaGreatG21
import Derived.Test.YtcckhngbdoiikaaGreatG13
import Derived.Deep.DeepCutAuto

namespace Go.Proofs.YtcckhngbdoiikaaGreat
open Go.RowKit Go.Deep
set_option linter.unusedVariables false
theorem rowF_drop (aft:PSet) (kinds sets:List PSet) (k:Nat) (h:k < kinds.length) :
  rowF aft (kinds.drop k) sets = (findF sets (aft.and kinds[k]) :: (rowF aft (kinds.drop (k + 1)) (if findF sets (aft.and kinds[k]) = (sets.length:Int) then sets ++ [aft.and kinds[k]] else sets)).1,
   (rowF aft (kinds.drop (k + 1)) (if findF sets (aft.and kinds[k]) = (sets.length:Int) then sets ++ [aft.and kinds[k]] else sets)).2):=by
 rw [List.drop_eq_getElem_cons h]; rfl
theorem rowF_len (aft:PSet):∀ (kinds sets:List PSet),(rowF aft kinds sets).1.length = kinds.length∧sets.length ≤ (rowF aft kinds sets).2.length∧(rowF aft kinds sets).2.length ≤ sets.length + kinds.length
 | [],sets=>by simp [rowF]
 |k :: ks,sets=>by
  have ih:=rowF_len aft ks (if findF sets (aft.and k) = (sets.length:Int) then sets ++ [aft.and k] else sets)
  unfold rowF
  generalize rowF aft ks (if findF sets (aft.and k) = (sets.length:Int) then sets ++ [aft.and k] else sets) = r at ih ⊢
  split at ih <;> simp at ih ⊢ <;> omega
theorem dn_set (dn:List Int) (k K:Nat) (x:Int) (h:dn.length = k) (hk:k < K):(dn ++ List.replicate (K - k) 0).set k x = (dn ++ [x]) ++ List.replicate (K - (k + 1)) 0:=by
 rw [List.set_append_right _ _ (by omega),h,Nat.sub_self,show K - k = (K - (k + 1)) + 1 by omega,List.replicate_succ,List.set_cons_zero,List.append_assoc]; rfl
theorem dn_get (dn:List Int) (k K:Nat) (h:dn.length = k) (hk:k < K):(intsA (dn ++ List.replicate (K - k) 0))[k]? = some (.int .i64 0):=by
 rw [show K - k = (K - (k + 1)) + 1 by omega]
 simp [intsA,List.replicate_succ,h]
theorem graph_mid {w0 wr w5:World} {L B:Nat} {O:Nat→Prop} {pv sv:Value} {ud:Option Addr} {ucap wb gf cap5 n:Nat} {ul:List Int} {uy:Int} {rows:List (List Int)} {row:List Int} {ss:List PSet}
  (h1:Below L w0 wr) (hLB:L ≤ B) (h2:Blk wr B #[.slice ud ul.length ucap,pv] 63) (h3:Rows2 wr O pv rows) (h4:IRow wr (.slice (some ⟨wb,0,none⟩) n n) row)
  (h5:∀ k,O k→B < k) (h6:∀ b,(Value.slice ud ul.length ucap).ownBlock = some b→B < b∧b < wb∧¬ O b) (hs:SetRow wr sv ss) (hso:∀ b,sv.ownBlock = some b→B < b∧(Value.slice ud ul.length ucap).ownBlock ≠ some b)
  (zw:B < wr.heap.size) (zz:wb < wr.heap.size) (hwb:B < wb)
  (hown:w5.ownsRow 0 3 1 (.slice (some ⟨gf,0,none⟩) (ul.length + 1) cap5) (ul.length + 1) (ul.map (Value.int .i64) ++ [.int .i64 uy]))
  (hgrow:(wr.alloc (.cells #[.int .i64 uy] 3)).grownBy w5 (Value.slice ud ul.length ucap).ownBlock)
  (hat:(Value.slice ud ul.length ucap).ownBlock = some gf∨gf = wr.heap.size + 1) (hlt:gf < w5.heap.size) :
  ∀ w6,w6 = w5.setCell ⟨B,0,none⟩ (.slice (some ⟨gf,0,none⟩) (ul.length + 1) cap5)→Below L w0 w6∧Blk w6 B #[.slice (some ⟨gf,0,none⟩) (ul.length + 1) cap5,pv] 63∧Rows2 w6 O pv rows∧IRow w6 (.slice (some ⟨wb,0,none⟩) n n) row ∧
   IRow w6 (.slice (some ⟨gf,0,none⟩) (ul.length + 1) cap5) (ul ++ [uy])∧SetRow w6 sv ss∧B < gf∧gf ≠ wb∧¬ O gf∧wb < w6.heap.size∧∀ b,sv.ownBlock = some b→gf ≠ b:=by
 rintro w6 rfl
 have hk:Kept (fun k=>(Value.slice ud ul.length ucap).ownBlock = some k) (wr.alloc (.cells #[.int .i64 uy] 3)) w5:=⟨hgrow.os,hgrow.tape,hgrow.output,hgrow.size,fun k hk he=>hgrow.block k hk (fun e=>he e.symm)⟩
 have hkd:Kept (fun _=>False) wr (wr.alloc (.cells #[.int .i64 uy] 3)):=(Kept.refl (fun _=>False) wr).alloc _
 have hks:Kept (fun k=>k = B) w5 (w5.setCell ⟨B,0,none⟩ (.slice (some ⟨gf,0,none⟩) (ul.length + 1) cap5)):=Kept.setCell (ex:=fun k=>k = B) (p:=⟨B,0,none⟩) (Kept.refl _ _) (fun _=>rfl) _
 have hnP:¬ O B:=fun e=>by have:=h5 _ e; omega
 have hgO:¬ O gf:=by
  intro e
  rcases hat with e' | e'
  ·exact (h6 _ e').2.2 e
  ·have:=h3.olt _ e; omega
 have hgw:B < gf:=by
  rcases hat with e' | e'
  ·exact (h6 _ e').1
  ·omega
 have hgwb:gf ≠ wb:=by
  rcases hat with e' | e'
  ·have:=(h6 _ e').2.1; omega
  ·omega
 have hsz:=hk.size
 simp at hsz
 refine ⟨?_,?_,?_,?_,?_,?_,hgw,hgwb,hgO,by simp; omega,?_⟩
 ·have hb1:Below L w0 (wr.alloc (.cells #[.int .i64 uy] 3)):=h1.alloc (by omega) _
  have hb2:Below L w0 w5:=hb1.trans ⟨hk.os,hk.tape,hk.output,hk.size,fun k hk'=>hk.block k (by simp; omega) (fun e=>by have:=(h6 _ e).1; omega)⟩
  exact hb2.setCell (p:=⟨B,0,none⟩) hLB _
 ·exact ((h2.alloc _).kept hk (fun e=>by have:=(h6 _ e).1; omega)).set 0 _
 ·exact ((h3.alloc _).kept hk (fun b hb e=>(h6 _ e).2.2 hb)).setCell hnP _
 ·exact ((h4.kept hkd (fun _ _ e=>e)).kept hk (fun b hb e=>by cases (Option.some.inj hb:wb = b); have:=(h6 _ e).2.1; omega)).kept hks (fun b hb e=>by cases (Option.some.inj hb:wb = b); omega)
 ·exact (intI_push (w:=w5) (v:=.slice none 0 0) hown).kept hks (fun b hb e=>by cases (Option.some.inj hb:gf = b); omega)
 ·exact ((hs.kept hkd (fun _ _ e=>e)).kept hk (fun b hb e=>(hso b hb).2 e)).kept hks (fun b hb e=>by have:=(hso b hb).1; omega)
 ·intro b hb e
  subst e
  rcases hat with e' | e'
  ·exact (hso _ hb).2 e'
  ·have:=ownsRow_lt hs _ hb; omega
set_option maxRecDepth 20000 in
set_option maxHeartbeats 4800000 in
theorem explore_any (R : RulesT) (gb : Nat) (O0 : Nat → Prop) (fv lv kv : Value) (kinds : List PSet) (w : World) (h : RulesAt w gb O0 R fv lv) (hk : SetRow w kv kinds) (hkl : kinds.length ≤ 256) (hf : R.follow.length ≤ 1000) (hl : R.last.length ≤ 1000) :
    Calls Tryz.prog 45 #[.pointer (some ⟨gb, 0, none⟩), kv] w fun e w' => Below w.heap.size w w' ∧
      (exploreF R kinds = none ∧ e = .returned (.tuple #[.agg #[.slice none 0 0, .slice none 0 0], .int .i64 3]) ∨
       ∃ g ruv nxv, exploreF R kinds = some g ∧ e = .returned (.tuple #[.agg #[ruv, nxv], .int .i64 0]) ∧ GraphAt w' ruv nxv g) := by
  obtain ⟨kd, kcap, rfl, hkrow⟩ := hk.form
  have hAf := fun (W : World) (hb : Below w.heap.size w W) (s : PSet) => after_any R gb O0 fv lv s W (h.below hb) hf
  have hRu := fun (W : World) (hb : Below w.heap.size w W) (s : PSet) => rule_any R gb O0 fv lv s W (h.below hb) hl
  have HAF := hide hAf
  have HRU := hide hRu
  have hgb := h.blk.lt
  have HR := hide h
  have HK := hide hk
  generalize hX : exploreF R kinds = X
  unfold exploreF at hX
  have HX := hide hX
  clear h hk hAf hRu hX
  go_enter Tryz.func45, Tryz.ntmps45
  go_wp2_with fail
  go_loopg [7, 8] 63 (fun G sv iv wr => ∃ (i : Nat) (sets : List PSet) (g : Graph) (O : Nat → Prop) (uv pv : Value), iv = .int .i64 (i : Int) ∧ G + i = 63 ∧ i ≤ sets.length ∧ sets.length ≤ 61 ∧ 0 < sets.length ∧ exploreLoop R kinds G i sets g = X ∧ g.rule.length = i ∧ g.next.length = i ∧
    Below w.heap.size w wr ∧ Blk wr w.heap.size #[.slice none 0 0, .slice none 0 0] 63 ∧ Blk wr (w.heap.size + 1) #[uv, pv] 63 ∧ Rows2 wr O pv g.next ∧ IRow wr uv g.rule ∧ SetRow wr sv sets ∧
    (∀ k, O k → w.heap.size + 1 < k) ∧ (∀ b, uv.ownBlock = some b → w.heap.size + 1 < b ∧ ¬ O b) ∧ (∀ b, sv.ownBlock = some b → w.heap.size + 1 < b ∧ ¬ O b ∧ uv.ownBlock ≠ some b))
  case atStart =>
    refine ⟨0, [PSet.none], Graph.new, fun _ => False, .slice none 0 0, .slice none 0 0, rfl, rfl, by simp, by simp, by simp, HX.out, rfl, rfl, Below3 _ _ _ _, ?_, ?_, Rows2.nil _, World.ownsRow_nil _ _ _ _, ?_, fun k h => h.elim, fun b h => by simp [Value.ownBlock] at h, ?_⟩
    · exact ((Blk.new w _ _).alloc _).alloc _
    · exact (Blk.at1 w _ _ _).alloc _
    · refine ownsRow_mk (cur := #[.int .u64 0, .int .u64 0]) (by rfl) ?_ (Nat.le_refl _) (by unfold maxLen; omega) rfl (by rfl)
      have := Blk.new ((w.alloc (.cells #[.slice none 0 0, .slice none 0 0] 63)).alloc (.cells #[.slice none 0 0, .slice none 0 0] 63)) #[.int .u64 0, .int .u64 0] 109
      simpa using this
    · intro b e
      cases (Option.some.inj e : w.heap.size + 1 + 1 = b)
      exact ⟨by omega, fun e => e, by simp [Value.ownBlock]⟩
  case round =>
    obtain ⟨i, sets, g, O, uv, pv, rfl, hG, hi, hs61, hs0, hX, hgr, hgn, hb, hZ, hP, hRw, hU, hS, hO, hUO, hSO⟩ := hrel
    clear HX
    obtain ⟨sd, scap, rfl, hsrow⟩ := hS.form
    by_cases hlt : i < sets.length
    · have e0 : decide ((i : Int) < (sets.length : Int)) = true := by simp; omega
      rcases hsrow with h0 | ⟨sg, rfl⟩
      · omega
      have hRw0 := HR.out.below hb
      have f0 : wr.cell? ⟨gb, 512, none⟩ = some (.int .u64 (R.first.lo.toNat : Int)) := by rw [hRw0.blk.cell]; exact rulesC_512 _ _ _ _
      have f1 : wr.cell? ⟨gb, 513, none⟩ = some (.int .u64 (R.first.hi.toNat : Int)) := by rw [hRw0.blk.cell]; exact rulesC_513 _ _ _ _
      have s0 := hS.cell0 i hlt
      have s1 := hS.cell1 i hlt
      have hgi : sets.getD i PSet.none = sets[i] := by simp [hlt]
      have zsg : sg < wr.heap.size := ownsRow_lt hS sg rfl
      have zgb : gb < wr.heap.size := hRw0.blk.lt
      have zP := hP.lt
      have zsw : w.heap.size + 1 < sg := (hSO sg rfl).1
      have i0 : (0 : Int) ≤ (i : Int) := by omega
      have i1 : (i : Int) < (sets.length : Int) := by omega
      have HH : Hid (Below w.heap.size w wr ∧ Blk wr w.heap.size #[.slice none 0 0, .slice none 0 0] 63 ∧ Blk wr (w.heap.size + 1) #[uv, pv] 63 ∧ Rows2 wr O pv g.next ∧ IRow wr uv g.rule ∧ SetRow wr (.slice (some ⟨sg, 0, none⟩) sets.length scap) sets ∧
        (∀ k, O k → w.heap.size + 1 < k) ∧ (∀ b, uv.ownBlock = some b → w.heap.size + 1 < b ∧ ¬ O b) ∧ (∀ b, (Value.slice (some ⟨sg, 0, none⟩) sets.length scap).ownBlock = some b → w.heap.size + 1 < b ∧ ¬ O b ∧ uv.ownBlock ≠ some b)) := ⟨hb, hZ, hP, hRw, hU, hS, hO, hUO, hSO⟩
      have HXX := hide hX
      have HGI := hide hgi
      have HGE : Hid (g.rule.length = i ∧ g.next.length = i) := ⟨hgr, hgn⟩
      have hGp : 2 ≤ gk := by omega
      have HG := hide hG
      clear hgi hgr hgn hG
      clear hb hZ hP hRw hU hS hO hUO hSO hRw0 hX
      obtain ⟨wo, rfl⟩ : ∃ wo : World, wo = wr := ⟨_, rfl⟩
      generalize haft : (if 0 < i then R.after (sets.getD i PSet.none) else R.first) = aft
      have HAFT := hide haft
      clear haft
      go_upto_if 29 with fail
      go_cut [] (fun wx => Below wo.heap.size wo wx ∧ Blk wx wo.heap.size (setC aft) 109)
      case first =>
        by_cases hi0 : 0 < i
        · have e1 : decide ((0 : Int) < (i : Int)) = true := by simp; omega
          have hbo : Below w.heap.size w (wo.alloc (.cells (setC R.first) 109)) := HH.out.1.alloc (by omega) _
          have HBO := hide hbo
          clear hbo
          go_wp2_with fail
          refine (HAF.out _ HBO.out _).mono ?_
          rintro e w1 ⟨rfl, hb1⟩
          have hA1 := (Blk.new wo (setC R.first) 109).below hb1
          have a0 : w1.cell? ⟨wo.heap.size, 0, none⟩ = some (.int .u64 (R.first.lo.toNat : Int)) := hA1.cell 0
          have a1 : w1.cell? ⟨wo.heap.size, 1, none⟩ = some (.int .u64 (R.first.hi.toNat : Int)) := hA1.cell 1
          have af0 := hA1.frozen 0
          have af1 := hA1.frozen 1
          have hea : R.after sets[i] = aft := by have := HAFT.out; rw [if_pos hi0, HGI.out] at this; exact this
          rw [hea]
          have HHA : Hid (Below wo.heap.size wo w1 ∧ Blk w1 wo.heap.size (setC R.first) 109) := ⟨(Below1 wo _).trans (hb1.mono (by simp)), hA1⟩
          clear hb1 hA1 hea
          go_wp2_with fail
          go_meet
          obtain ⟨q1, q2⟩ := HHA.out
          exact ⟨(q1.setCell (Nat.le_refl _) _).setCell (Nat.le_refl _) _, (q2.set 0 _).set 1 _⟩
        · have e1 : decide ((0 : Int) < (i : Int)) = false := by simp; omega
          have hea : R.first = aft := by have := HAFT.out; rw [if_neg hi0] at this; exact this
          go_wp2_with fail
          go_meet
          exact ⟨Below1 _ _, hea ▸ Blk.new _ _ _⟩
      case rest =>
      obtain ⟨hbc, hAc⟩ := hcut
      have hmk := makeInts kinds.length (by omega)
      have zA := hAc.lt
      have hbw : Below w.heap.size w wc := HH.out.1.trans (hbc.mono (by omega))
      have hrl := rowF_len aft kinds sets
      generalize hr : rowF aft kinds sets = r at hrl
      have HHC : Hid (Below wo.heap.size wo wc ∧ Blk wc wo.heap.size (setC aft) 109 ∧ Below w.heap.size w wc) := ⟨hbc, hAc, hbw⟩
      have HRR := hide hr
      clear hbc hAc hbw hr
      clear s0 s1 f0 f1
      go_wp2_with fail
      go_loopg [7, 41] kinds.length (fun G sv iv wr => ∃ (k : Nat) (dn : List Int) (ss : List PSet), k ≤ kinds.length ∧ G = kinds.length - k ∧ iv = .int .i64 (k : Int) ∧ dn.length = k ∧ ss.length ≤ sets.length + k ∧
        r = (dn ++ (rowF aft (kinds.drop k) ss).1, (rowF aft (kinds.drop k) ss).2) ∧ Below w.heap.size w wr ∧ Kept (fun b => b = sg ∨ wc.heap.size ≤ b) wc wr ∧ Blk wr wc.heap.size (intsA (dn ++ List.replicate (kinds.length - k) 0)) 3 ∧ SetRow wr sv ss ∧ ∀ b, sv.ownBlock = some b → b = sg ∨ wc.heap.size < b)
      case atStart =>
        obtain ⟨q1, q2, q3⟩ := HHC.out
        refine ⟨0, [], sets, by omega, rfl, rfl, rfl, by omega, ?_, q3.alloc (by omega) _, (Kept.refl _ _).alloc _, ?_, ?_, ?_⟩
        · simpa using HRR.out.symm
        · exact Blk.new _ _ _
        · exact (HH.out.2.2.2.2.2.1.below q1).below (Below1 _ _)
        · intro b e; exact .inl (Option.some.inj e).symm
      case round =>
        obtain ⟨k, dn, ss, hkk, rfl, rfl, hdn, hssl, hre, hb, hkp, hI, hS, hSO⟩ := hrel
        obtain ⟨sd, scap2, rfl, hsrow⟩ := hS.form
        by_cases hlk : k < kinds.length
        · have e1 : decide ((k : Int) < (kinds.length : Int)) = true := by simp; omega
          rcases hkrow with h0 | ⟨kg, rfl⟩
          · omega
          have c0 := (HK.out.below hb).cell0 k hlk
          have c1 := (HK.out.below hb).cell1 k hlk
          have zkg : kg < wr.heap.size := ownsRow_lt (HK.out.below hb) kg rfl
          have hAr := HHC.out.2.1.kept hkp (fun e => by rcases e with e | e <;> omega)
          have a0 : wr.cell? ⟨wo.heap.size, 0, none⟩ = some (.int .u64 (aft.lo.toNat : Int)) := hAr.cell 0
          have a1 : wr.cell? ⟨wo.heap.size, 1, none⟩ = some (.int .u64 (aft.hi.toNat : Int)) := hAr.cell 1
          have zAr := hAr.lt
          have zI := hI.lt
          have i2 : (0 : Int) ≤ (k : Int) := by omega
          have i3 : (k : Int) < (kinds.length : Int) := by omega
          rw [rowF_drop aft kinds ss k hlk] at hre
          generalize hkd : kinds[k] = kk at c0 c1 hre
          have HRE := hide hre
          have HHI : Hid (Below w.heap.size w wr ∧ Kept (fun b => b = sg ∨ wc.heap.size ≤ b) wc wr ∧ Blk wr wc.heap.size (intsA (dn ++ List.replicate (kinds.length - k) 0)) 3 ∧ SetRow wr (.slice sd ss.length scap2) ss ∧ ∀ b, (Value.slice sd ss.length scap2).ownBlock = some b → b = sg ∨ wc.heap.size < b) := ⟨hb, hkp, hI, hS, hSO⟩
          clear hb hkp hI hS hSO hre hAr hkd
          go_wp2_with fail
          refine (and_any aft kk _).mono ?_
          rintro e w4 ⟨rfl, hb4⟩
          generalize hset : aft.and kk = st
          have HSET := hide hset
          clear hset
          have hb4' : Below wr.heap.size wr w4 := (Below1 wr _).trans (hb4.mono (by simp))
          have HB4 := hide hb4'
          have z4 := hb4'.size
          clear hb4 hb4'
          go_wp2_with fail
          have hbW : Below wr.heap.size wr (w4.alloc (.cells (setC st) 109)) := HB4.out.alloc z4 _
          refine (find_any _ ss st _ (HHI.out.2.2.2.1.below hbW) (by omega)).mono ?_
          rintro e w5 ⟨rfl, hb5⟩
          generalize hfr : findF ss st = fr
          have hb5' : Below wr.heap.size wr w5 := hbW.trans (hb5.mono (by simp; omega))
          have hT5 := (Blk.new w4 (setC st) 109).below hb5
          have t0 : w5.cell? ⟨w4.heap.size, 0, none⟩ = some (.int .u64 (st.lo.toNat : Int)) := hT5.cell 0
          have t1 : w5.cell? ⟨w4.heap.size, 1, none⟩ = some (.int .u64 (st.hi.toNat : Int)) := hT5.cell 1
          have zT := hT5.lt
          have hI5 := HHI.out.2.2.1.below hb5'
          have c5 : w5.cell? ⟨wc.heap.size, k, none⟩ = some (.int .i64 0) := by rw [hI5.cell, dn_get dn k kinds.length hdn hlk]
          have cf5 := hI5.frozen k
          have zI5 := hI5.lt
          have hneT : w4.heap.size ≠ wc.heap.size := by omega
          have hre : r = ((dn ++ [fr]) ++ (rowF aft (kinds.drop (k + 1)) (if fr = (ss.length : Int) then ss ++ [st] else ss)).1, (rowF aft (kinds.drop (k + 1)) (if fr = (ss.length : Int) then ss ++ [st] else ss)).2) := by
            have := HRE.out
            rw [HSET.out, hfr] at this
            rw [this, List.append_assoc]; rfl
          have HRE2 := hide hre
          have HFR := hide hfr
          have hb9 : Below w.heap.size w w5 := HHI.out.1.trans (hb5'.mono (by have := HHI.out.1.size; omega))
          have hk9 : Kept (fun b => b = sg ∨ wc.heap.size ≤ b) wc w5 := HHI.out.2.1.below hb5'
          have hS9 := HHI.out.2.2.2.1.below hb5'
          have HHJ : Hid (Below w.heap.size w w5 ∧ Kept (fun b => b = sg ∨ wc.heap.size ≤ b) wc w5 ∧ Blk w5 wc.heap.size (intsA (dn ++ List.replicate (kinds.length - k) 0)) 3 ∧ SetRow w5 (.slice sd ss.length scap2) ss ∧ ∀ b, (Value.slice sd ss.length scap2).ownBlock = some b → b = sg ∨ wc.heap.size < b) := ⟨hb9, hk9, hI5, hS9, HHI.out.2.2.2.2⟩
          clear hb5 hb5' hbW hT5 hI5 hre hfr hb9 hk9 hS9 HHI HRE HSET a0 a1 c0 c1
          by_cases hfe : fr = (ss.length : Int)
          · have e3 : (fr == (ss.length : Int)) = true := by simp [hfe]
            obtain ⟨ii, hii, hz0, hz1, hz2⟩ := info_parts Tryz.infoS3
            have hol : SetRow ((w5.setCell ⟨wc.heap.size, k, none⟩ (.int .i64 fr)).alloc (.cells (setC st) 109)) (.slice sd ss.length scap2) ss :=
              HHJ.out.2.2.2.1.kept ((Kept.setCell (ex := fun b => b = wc.heap.size) (p := ⟨wc.heap.size, k, none⟩) (Kept.refl _ _) (fun _ => rfl) _).alloc _) (fun b hb e => by rcases HHJ.out.2.2.2.2 b hb with e' | e' <;> omega)
            have HOL := hide hol
            have HEQ := hide hfe
            clear hol hfe
            go_wp2_with (at_builtin; (refine wpList_append_lies _ (by rfl) _ _ _ (by rfl) 0 109 ii _ 2 16 Tryz.underlying111 hii hz0 hz1 hz2 rfl (by omega) (.slice sd ss.length scap2) ss.length (setsC ss) (by rfl) HOL.out ⟨w5.heap.size, 0, none⟩ 1 1 [.int .u64 (st.lo.toNat : Int), .int .u64 (st.hi.toNat : Int)] (by rfl) (by rfl) (World.news_of_block (cs := setC st) (t := 109) (fr := (0, 0)) (by have := heap_alloc_new (w5.setCell ⟨wc.heap.size, k, none⟩ (.int .i64 fr)) (.cells (setC st) 109); simpa using this)) (by simp [Value.oneCell']) (by omega) (by unfold maxLen; omega) (by omega) (by simp) (w5.heap.size + 1) (by simp) ?_))
            intro gg cap6 w6 hown6 hgrow6 hat6 hlt6
            obtain ⟨q1, q2, q3, q4, q5⟩ := HHJ.out
            have hk1 : Kept (fun b => (Value.slice sd ss.length scap2).ownBlock = some b) ((w5.setCell ⟨wc.heap.size, k, none⟩ (.int .i64 fr)).alloc (.cells (setC st) 109)) w6 := ⟨hgrow6.os, hgrow6.tape, hgrow6.output, hgrow6.size, fun k hk he => hgrow6.block k hk (fun e => he e.symm)⟩
            have q1a : Below w.heap.size w ((w5.setCell ⟨wc.heap.size, k, none⟩ (.int .i64 fr)).alloc (.cells (setC st) 109)) := (q1.setCell (p := ⟨wc.heap.size, k, none⟩) (show w.heap.size ≤ wc.heap.size by omega) _).alloc (by simp; omega) _
            have zq1 := q1a.size
            have q1' : Below w.heap.size w w6 := q1a.trans ⟨hk1.os, hk1.tape, hk1.output, hk1.size, fun b hb => hk1.block b (by omega) (fun e => by rcases q5 b e with e' | e' <;> omega)⟩
            have q2a : Kept (fun b => b = sg ∨ wc.heap.size ≤ b) wc ((w5.setCell ⟨wc.heap.size, k, none⟩ (.int .i64 fr)).alloc (.cells (setC st) 109)) := (q2.setCell (fun _ => .inr (Nat.le_refl _)) _).alloc _
            have q2' : Kept (fun b => b = sg ∨ wc.heap.size ≤ b) wc w6 := q2a.trans hk1 (fun b hb e => by rcases q5 b e with e' | e'; exact .inl e'; omega)
            have q3' := ((q3.set k (.int .i64 fr)).alloc (.cells (setC st) 109)).kept hk1 (fun e => by rcases q5 _ e with e' | e' <;> omega)
            have q4' := setRow_push hown6
            have hgg : gg = sg ∨ wc.heap.size < gg := by
              rcases hat6 with e | e
              · exact q5 _ e
              · omega
            have HHX : Hid (Below w.heap.size w w6 ∧ Kept (fun b => b = sg ∨ wc.heap.size ≤ b) wc w6 ∧ Blk w6 wc.heap.size ((intsA (dn ++ List.replicate (kinds.length - k) 0)).setIfInBounds k (.int .i64 fr)) 3 ∧ SetRow w6 (.slice (some ⟨gg, 0, none⟩) (ss.length + 1) cap6) (ss ++ [st])) := ⟨q1', q2', q3', q4'⟩
            clear q1 q2 q3 q4 q5 q1' q2' q3' q4' q1a q2a hk1 hown6 hgrow6 hat6 HHJ HOL c5 cf5 t0 t1
            go_wp2_with fail
            go_roundg (kinds.length - (k + 1))
            case measure => omega
            case rel =>
              obtain ⟨q1, q2, q3, q4⟩ := HHX.out
              have hr2 := HRE2.out
              rw [if_pos HEQ.out] at hr2
              refine ⟨k + 1, dn ++ [fr], ss ++ [st], by omega, rfl, by go_num, by simp [hdn], by simp; omega, hr2, q1, q2, ?_, by simpa using q4, ?_⟩
              · rw [← dn_set dn k kinds.length fr hdn hlk, ← intsA_set]
                exact q3
              · intro b e
                cases (Option.some.inj e : gg = b)
                exact hgg
          · have e3 : (fr == (ss.length : Int)) = false := by simp [hfe]
            have HNE := hide hfe
            clear hfe
            go_wp2_with fail
            go_roundg (kinds.length - (k + 1))
            case measure => omega
            case rel =>
              obtain ⟨q1, q2, q3, q4, q5⟩ := HHJ.out
              have hr2 := HRE2.out
              rw [if_neg HNE.out] at hr2
              refine ⟨k + 1, dn ++ [fr], ss, by omega, rfl, by go_num, by simp [hdn], by omega, hr2, q1.setCell (p := ⟨wc.heap.size, k, none⟩) (show w.heap.size ≤ wc.heap.size by omega) _, q2.setCell (fun _ => .inr (Nat.le_refl _)) _, ?_, ?_, q5⟩
              · rw [← dn_set dn k kinds.length fr hdn hlk, ← intsA_set]
                exact q3.set k _
              · exact q4.kept (Kept.setCell (ex := fun b => b = wc.heap.size) (p := ⟨wc.heap.size, k, none⟩) (Kept.refl _ _) (fun _ => rfl) _) (fun b hb e => by rcases q5 b hb with e' | e' <;> omega)
        · have e1 : decide ((k : Int) < (kinds.length : Int)) = false := by simp; omega
          obtain rfl : k = kinds.length := by omega
          rw [List.drop_length] at hre
          simp only [rowF, List.append_nil] at hre
          subst hre
          rw [Nat.sub_self, List.replicate_zero, List.append_nil] at hI
          have hsl0 := hrl.2.1
          have hsl : 0 < ss.length := by simp at hsl0; omega
          have hGf := HXX.out
          rw [show gk = (gk - 1) + 1 by omega] at hGf
          unfold exploreLoop at hGf
          rw [if_pos hlt] at hGf
          simp only [HAFT.out, HRR.out] at hGf
          by_cases hbig : 61 < ss.length
          · rw [if_pos hbig] at hGf
            have e2 : decide ((60 : Int) < (ss.length : Int) - 1) = true := by simp; omega
            have hZ6 := (HH.out.2.1.below HHC.out.1).kept hkp (fun e => by rcases e with e | e; have := (HH.out.2.2.2.2.2.2.2.2 sg rfl).1; omega; omega)
            have HHF : Hid (Below w.heap.size w wr ∧ Blk wr w.heap.size #[.slice none 0 0, .slice none 0 0] 63) := ⟨hb, hZ6⟩
            have z0 : wr.cell? ⟨w.heap.size, 0, none⟩ = some (.slice none 0 0) := hZ6.cell 0
            have z1 : wr.cell? ⟨w.heap.size, 1, none⟩ = some (.slice none 0 0) := hZ6.cell 1
            have zf0 := hZ6.frozen 0
            have zf1 := hZ6.frozen 1
            subst hGf
            clear hb hkp hI hS hSO hZ6 hsl0
            go_wp2_with fail
            obtain ⟨q1, q2⟩ := HHF.out
            exact bodyPost_ret (results_cell_tmp Tryz.results45 _ _ w.heap.size 63 _ (0, 0) _ rfl ((q2.set 0 _).set 1 _) Tryz.underlying63 rfl Tryz.infoG) rfl ⟨(q1.setCell (Nat.le_refl _) _).setCell (Nat.le_refl _) _, rfl⟩
          · rw [if_neg hbig] at hGf
            have e2 : decide ((60 : Int) < (ss.length : Int) - 1) = false := by simp; omega
            rcases hsrow with h0 | ⟨sh, rfl⟩
            · omega
            have hiss : i < ss.length := by simp at hsl0; omega
            have s0 := hS.cell0 i hiss
            have s1 := hS.cell1 i hiss
            have hgi : ss.getD i PSet.none = ss[i] := by simp [hiss]
            rw [hgi] at hGf
            generalize ss[i] = si at s0 s1 hGf
            have zsh : sh < wr.heap.size := ownsRow_lt hS sh rfl
            have i4 : (i : Int) < (ss.length : Int) := by omega
            obtain ⟨p1, p2, p3, p4, p5, p6, p7, p8, p9⟩ := HH.out
            have hoc := HHC.out.1
            have zoc := hoc.size
            have hZ6 := (p2.below hoc).kept hkp (fun e => by rcases e with e | e <;> omega)
            have hP6 := (p3.below hoc).kept hkp (fun e => by rcases e with e | e <;> omega)
            have hR6 := (p4.below hoc).kept hkp (fun b hb e => by rcases e with e | e; subst e; exact (p9 _ rfl).2.1 hb; have := p4.olt b hb; omega)
            have hU6 := (p5.below hoc).kept hkp (fun b hb e => by rcases e with e | e; subst e; exact (p9 _ rfl).2.2 hb; have := ownsRow_lt p5 b hb; omega)
            have hrow6 := IRow.ofBlk hI (by omega)
            rw [hdn] at hrow6
            have hshO : ¬ O sh := by
              intro e
              rcases hSO sh rfl with e' | e'
              · subst e'; exact (p9 _ rfl).2.1 e
              · have := p4.olt _ e; omega
            have hshU : uv.ownBlock ≠ some sh := by
              intro e
              rcases hSO sh rfl with e' | e'
              · subst e'; exact (p9 _ rfl).2.2 e
              · have := ownsRow_lt p5 _ e; omega
            have hshB : w.heap.size + 1 < sh := by rcases hSO sh rfl with e' | e' <;> omega
            have hshw : sh ≠ wc.heap.size := by rcases hSO sh rfl with e' | e' <;> omega
            have huo : ∀ b, uv.ownBlock = some b → w.heap.size + 1 < b ∧ b < wc.heap.size ∧ ¬ O b := fun b e => ⟨(p8 b e).1, by have := ownsRow_lt p5 b e; omega, (p8 b e).2⟩
            have hoc2 : ∀ k, O k → w.heap.size + 1 < k ∧ k < wc.heap.size := fun k e => ⟨p7 k e, by have := p4.olt k e; omega⟩
            have HGF := hide hGf
            have HHF : Hid (Below w.heap.size w wr ∧ Blk wr w.heap.size #[.slice none 0 0, .slice none 0 0] 63 ∧ Blk wr (w.heap.size + 1) #[uv, pv] 63 ∧ Rows2 wr O pv g.next ∧ IRow wr uv g.rule ∧ IRow wr (.slice (some ⟨wc.heap.size, 0, none⟩) kinds.length kinds.length) dn ∧ SetRow wr (.slice (some ⟨sh, 0, none⟩) ss.length scap2) ss ∧
              (∀ b, uv.ownBlock = some b → w.heap.size + 1 < b ∧ b < wc.heap.size ∧ ¬ O b) ∧ (∀ k, O k → w.heap.size + 1 < k ∧ k < wc.heap.size) ∧ ¬ O sh ∧ uv.ownBlock ≠ some sh) := ⟨hb, hZ6, hP6, hR6, hU6, hrow6, hS, huo, hoc2, hshO, hshU⟩
            have HRUW := hide (HRU.out wr hb si)
            clear hb hkp hI hS hSO hZ6 hP6 hR6 hU6 hrow6 huo hoc2 hshO hshU p1 p2 p3 p4 p5 p6 p7 p8 p9 hoc hGf hsl0 hgi HH HHC HXX
            go_wp2_with fail
            refine HRUW.out.mono ?_
            rintro e w6 ⟨rfl, hb6⟩
            generalize R.rule si = ru at HGF ⊢
            obtain ⟨q1, q2, q3, q4, q5, q6, q7, q8, q9, q10, q11⟩ := HHF.out
            have m1 : Below w.heap.size w w6 := q1.trans (hb6.mono q1.size)
            have m2 := q2.below hb6
            have m3 := q3.below hb6
            have m4 := q4.below hb6
            have m5 := q5.below hb6
            have m6 := q6.below hb6
            have m7 := q7.below hb6
            obtain ⟨ud, ucap, rfl, _⟩ := m5.form
            have g0 : w6.cell? ⟨w.heap.size + 1, 0, none⟩ = some (.slice ud g.rule.length ucap) := m3.cell 0
            have gf0 := m3.frozen 0
            have z6 := m3.lt
            have zc6 : wc.heap.size < w6.heap.size := ownsRow_lt m6 _ rfl
            have hgl := HGE.out.1
            have hgl1 : g.rule.length ≤ 1000 := by omega
            obtain ⟨ii, hii, hz0, hz1, hz2⟩ := info_parts Tryz.infoI3
            have hol := m5.below (Below1 w6 (.cells #[.int .i64 ru] 3))
            have HOL := hide hol
            have HHM : Hid (Below w.heap.size w w6 ∧ Blk w6 w.heap.size #[.slice none 0 0, .slice none 0 0] 63 ∧ Blk w6 (w.heap.size + 1) #[.slice ud g.rule.length ucap, pv] 63 ∧ Rows2 w6 O pv g.next ∧ IRow w6 (.slice (some ⟨wc.heap.size, 0, none⟩) kinds.length kinds.length) dn ∧ SetRow w6 (.slice (some ⟨sh, 0, none⟩) ss.length scap2) ss ∧
              (∀ b, (Value.slice ud g.rule.length ucap).ownBlock = some b → w.heap.size + 1 < b ∧ b < wc.heap.size ∧ ¬ O b) ∧ (∀ k, O k → w.heap.size + 1 < k ∧ k < wc.heap.size) ∧ ¬ O sh ∧ (Value.slice ud g.rule.length ucap).ownBlock ≠ some sh) := ⟨m1, m2, m3, m4, m6, m7, q8, q9, q10, q11⟩
            clear m1 m2 m3 m4 m5 m6 m7 hb6 q1 q2 q3 q4 q5 q6 q7 q8 q9 q10 q11 HHF HRUW hol hgl s0 s1
            go_wp2_with (at_builtin; (refine wpList_append_lies _ (by rfl) _ _ _ (by rfl) 0 3 ii _ 1 8 Tryz.underlying60 hii hz0 hz1 hz2 rfl (by omega) (.slice ud g.rule.length ucap) g.rule.length (g.rule.map (Value.int .i64)) (by rfl) HOL.out ⟨w6.heap.size, 0, none⟩ 1 1 [.int .i64 ru] (by rfl) (by rfl) (World.news_of_block (cs := #[.int .i64 ru]) (t := 3) (fr := (0, 0)) (heap_alloc_new w6 _)) (by simp [Value.oneCell']) (by omega) (by unfold maxLen; omega) (by omega) (by simp) (w6.heap.size + 1) (by simp) ?_))
            intro gf cap7 w7 hown7 hgrow7 hat7 hlt7
            have hnum := graph_mid HHM.out.1 (by omega) HHM.out.2.2.1 HHM.out.2.2.2.1 HHM.out.2.2.2.2.1 (fun k e => (HHM.out.2.2.2.2.2.2.2.1 k e).1) HHM.out.2.2.2.2.2.2.1 HHM.out.2.2.2.2.2.1 (fun b e => by cases (Option.some.inj e : sh = b); exact ⟨hshB, HHM.out.2.2.2.2.2.2.2.2.2⟩) z6 zc6 (by omega) hown7 hgrow7 hat7 hlt7 _ rfl
            have hune : (Value.slice ud g.rule.length ucap).ownBlock ≠ some (w.heap.size + 1) := fun e => by have := (HHM.out.2.2.2.2.2.2.1 _ e).1; omega
            have hunz : (Value.slice ud g.rule.length ucap).ownBlock ≠ some w.heap.size := fun e => by have := (HHM.out.2.2.2.2.2.2.1 _ e).1; omega
            have hk7z : Kept (fun k => (Value.slice ud g.rule.length ucap).ownBlock = some k) (w6.alloc (.cells #[.int .i64 ru] 3)) w7 := ⟨hgrow7.os, hgrow7.tape, hgrow7.output, hgrow7.size, fun k hk he => hgrow7.block k hk (fun e => he e.symm)⟩
            have hZ7 := ((HHM.out.2.1.alloc (.cells #[.int .i64 ru] 3)).kept hk7z hunz).setOther (p := ⟨w.heap.size + 1, 0, none⟩) (by simp) (.slice (some ⟨gf, 0, none⟩) (g.rule.length + 1) cap7)
            have hP7b := (HHM.out.2.2.1.alloc (.cells #[.int .i64 ru] 3)).kept hk7z hune
            obtain ⟨m1, m2, m3, m4, m5, m10, m6, m7, m8, m9, m11⟩ := hnum
            obtain ⟨us, hU1, hU2, hU3⟩ := m3.ex
            obtain ⟨pd, pcap, rfl, _⟩ := hU1.form
            have g7 : w7.cell? ⟨w.heap.size + 1, 0, none⟩ = some (.slice ud g.rule.length ucap) := hP7b.cell 0
            have g8 : w7.cell? ⟨w.heap.size + 1, 1, none⟩ = some (.slice pd us.length pcap) := hP7b.cell 1
            have gf7 := hP7b.frozen 0
            have gf8 := hP7b.frozen 1
            have z7 : w.heap.size + 1 < w7.heap.size := hP7b.lt
            have hul : us.length ≤ 1000 := by rw [hU2, HGE.out.2]; omega
            obtain ⟨ij, hj, hy0, hy1, hy2⟩ := info_parts Tryz.infoN3
            have hom := hU1.below (Below1 _ (.cells #[.slice (some ⟨wc.heap.size, 0, none⟩) kinds.length kinds.length] 60))
            have hR5 := m3.alloc (.cells #[.slice (some ⟨wc.heap.size, 0, none⟩) kinds.length kinds.length] 60)
            have hnO : ¬ O wc.heap.size := fun e => by have := (HHM.out.2.2.2.2.2.2.2.1 _ e).2; omega
            have hnP : ¬ O (w.heap.size + 1) := fun e => by have := (HHM.out.2.2.2.2.2.2.2.1 _ e).1; omega
            have hnZ : ¬ O w.heap.size := fun e => by have := (HHM.out.2.2.2.2.2.2.2.1 _ e).1; omega
            have HOM := hide hom
            have HU := hide (And.intro hU2 hU3)
            have HR5 := hide hR5
            have HHN : Hid (Below w.heap.size w (w7.setCell ⟨w.heap.size + 1, 0, none⟩ (.slice (some ⟨gf, 0, none⟩) (g.rule.length + 1) cap7)) ∧ Blk (w7.setCell ⟨w.heap.size + 1, 0, none⟩ (.slice (some ⟨gf, 0, none⟩) (g.rule.length + 1) cap7)) (w.heap.size + 1) #[.slice (some ⟨gf, 0, none⟩) (g.rule.length + 1) cap7, .slice pd us.length pcap] 63 ∧
              IRow (w7.setCell ⟨w.heap.size + 1, 0, none⟩ (.slice (some ⟨gf, 0, none⟩) (g.rule.length + 1) cap7)) (.slice (some ⟨wc.heap.size, 0, none⟩) kinds.length kinds.length) dn ∧ IRow (w7.setCell ⟨w.heap.size + 1, 0, none⟩ (.slice (some ⟨gf, 0, none⟩) (g.rule.length + 1) cap7)) (.slice (some ⟨gf, 0, none⟩) (g.rule.length + 1) cap7) (g.rule ++ [ru]) ∧
              SetRow (w7.setCell ⟨w.heap.size + 1, 0, none⟩ (.slice (some ⟨gf, 0, none⟩) (g.rule.length + 1) cap7)) (.slice (some ⟨sh, 0, none⟩) ss.length scap2) ss ∧ Blk (w7.setCell ⟨w.heap.size + 1, 0, none⟩ (.slice (some ⟨gf, 0, none⟩) (g.rule.length + 1) cap7)) w.heap.size #[.slice none 0 0, .slice none 0 0] 63 ∧
              (∀ k, O k → w.heap.size + 1 < k ∧ k < wc.heap.size) ∧ ¬ O sh ∧ ¬ O gf ∧ gf ≠ sh) := ⟨m1, m2, m4, m5, m10, hZ7, HHM.out.2.2.2.2.2.2.2.1, HHM.out.2.2.2.2.2.2.2.2.1, m8, m11 sh rfl⟩
            clear m1 m2 m3 m4 m5 m8 m10 m11 hZ7 hP7b hU1 hU2 hU3 hom hR5 HHM HOL hown7 hgrow7 hat7 hlt7 hk7z hune hunz g0 gf0 hii hz0 hz1 hz2
            go_wp2_with (at_builtin; (refine wpList_append_lies _ (by rfl) _ _ _ (by rfl) 0 60 ij _ 1 24 Tryz.underlying61 hj hy0 hy1 hy2 rfl (by omega) (.slice pd us.length pcap) us.length us (by rfl) HOM.out ⟨w7.heap.size, 0, none⟩ 1 1 [.slice (some ⟨wc.heap.size, 0, none⟩) kinds.length kinds.length] (by rfl) (by rfl) (World.news_of_block (cs := #[.slice (some ⟨wc.heap.size, 0, none⟩) kinds.length kinds.length]) (t := 60) (fr := (0, 0)) (by have := heap_alloc_new (w7.setCell ⟨w.heap.size + 1, 0, none⟩ (.slice (some ⟨gf, 0, none⟩) (g.rule.length + 1) cap7)) (.cells #[.slice (some ⟨wc.heap.size, 0, none⟩) kinds.length kinds.length] 60); simpa using this)) (by simp [Value.oneCell']) (by omega) (by unfold maxLen; omega) (by omega) (by simp) (w7.heap.size + 1) (by simp) ?_))
            intro gg cap8 w8 hown8 hgrow8 hat8 hlt8
            obtain ⟨q1, q2, q3, q5, q6, q7, q4, q8, q9, q10⟩ := HHN.out
            obtain ⟨hR8, hk8⟩ := Rows2.push HR5.out HOM.out HU.out.1 (fun i v hv => ⟨((HU.out.2 i v hv).1).below (Below1 _ _), (HU.out.2 i v hv).2⟩) (q3.below (Below1 _ _)) hnO hown8 hgrow8 (by simpa using hat8) hlt8
            have hP8 := (q2.alloc (.cells #[.slice (some ⟨wc.heap.size, 0, none⟩) kinds.length kinds.length] 60)).kept hk8 hnP
            have hZ8 := (q7.alloc (.cells #[.slice (some ⟨wc.heap.size, 0, none⟩) kinds.length kinds.length] 60)).kept hk8 hnZ
            have hU8 := (q5.below (Below1 _ (.cells #[.slice (some ⟨wc.heap.size, 0, none⟩) kinds.length kinds.length] 60))).kept hk8 (fun b hb => by cases (Option.some.inj hb : gf = b); exact q9)
            have hS8 := (q6.below (Below1 _ (.cells #[.slice (some ⟨wc.heap.size, 0, none⟩) kinds.length kinds.length] 60))).kept hk8 (fun b hb => by cases (Option.some.inj hb : sh = b); exact q8)
            have c8 : w8.cell? ⟨w.heap.size + 1, 1, none⟩ = some (.slice pd us.length pcap) := hP8.cell 1
            have f8 := hP8.frozen 1
            have hgf7 : gf < w7.heap.size := by have := ownsRow_lt q5 gf rfl; simpa using this
            have hsh7 : sh < w7.heap.size := by have := ownsRow_lt q6 sh rfl; simpa using this
            have hggf : gf ≠ gg := by
              intro e
              subst e
              rcases hat8 with e | e
              · exact q9 (HR5.out.ob _ e)
              · omega
            have hggs : sh ≠ gg := by
              intro e
              subst e
              rcases hat8 with e | e
              · exact q8 (HR5.out.ob _ e)
              · omega
            have hggB : w.heap.size + 1 < gg := by
              rcases hat8 with e | e
              · exact (q4 _ (HR5.out.ob _ e)).1
              · omega
            have hbb : Below w.heap.size w w8 := (q1.alloc (by simp; omega) _).trans ⟨hk8.os, hk8.tape, hk8.output, hk8.size, fun k hk => hk8.block k (by simp; omega) (fun e => by have := (q4 _ e).1; omega)⟩
            have HHX : Hid (Rows2 w8 (fun k => O k ∨ k = gg ∨ k = wc.heap.size) (.slice (some ⟨gg, 0, none⟩) (us.length + 1) cap8) (g.next ++ [dn]) ∧ Blk w8 (w.heap.size + 1) #[.slice (some ⟨gf, 0, none⟩) (g.rule.length + 1) cap7, .slice pd us.length pcap] 63 ∧ Below w.heap.size w w8 ∧ IRow w8 (.slice (some ⟨gf, 0, none⟩) (g.rule.length + 1) cap7) (g.rule ++ [ru]) ∧ SetRow w8 (.slice (some ⟨sh, 0, none⟩) ss.length scap2) ss ∧ Blk w8 w.heap.size #[.slice none 0 0, .slice none 0 0] 63 ∧ (∀ k, O k → w.heap.size + 1 < k ∧ k < wc.heap.size) ∧ ¬ O sh ∧ ¬ O gf ∧ gf ≠ sh) := ⟨hR8, hP8, hbb, hU8, hS8, hZ8, q4, q8, q9, q10⟩
            clear hR8 hk8 hP8 hZ8 hU8 hS8 hbb q1 q2 q3 q4 q5 q6 q7 q8 q9 q10 hown8 hgrow8 hat8 HHN HR5 HU HOM g7 g8 gf7 gf8
            go_wp2_with fail
            go_roundg (gk - 1)
            case measure => omega
            case rel =>
              obtain ⟨q1, q2, q3, q5, q6, q7, q4, q8, q9, q10⟩ := HHX.out
              have hg1 := HG.out
              have hsl9 := hrl.2.1
              have hko : Kept (fun k => k = w.heap.size + 1) w8 (w8.setCell ⟨w.heap.size + 1, 1, none⟩ (.slice (some ⟨gg, 0, none⟩) (us.length + 1) cap8)) := Kept.setCell (ex := fun k => k = w.heap.size + 1) (p := ⟨w.heap.size + 1, 1, none⟩) (Kept.refl _ _) (fun _ => rfl) _
              refine ⟨i + 1, ss, ⟨g.rule ++ [ru], g.next ++ [dn]⟩, (fun k => O k ∨ k = gg ∨ k = wc.heap.size), _, _, by go_num, by omega, by omega, by omega, by omega, HGF.out, by simp [HGE.out.1], by simp [HGE.out.2], q3.setCell (p := ⟨w.heap.size + 1, 1, none⟩) (show w.heap.size ≤ w.heap.size + 1 by omega) _, q7.setOther (p := ⟨w.heap.size + 1, 1, none⟩) (by simp) _, q2.set 1 _, ?_, ?_, ?_, ?_, ?_, ?_⟩
              · exact q1.setCell (fun e => by rcases e with e | e | e; exact hnP e; simp at e; omega; simp at e; omega) _
              · have := q5.kept hko (fun b hb e => by cases (Option.some.inj hb : gf = b); omega)
                exact this
              · exact q6.kept hko (fun b hb e => by cases (Option.some.inj hb : sh = b); omega)
              · intro k e
                rcases e with e | e | e
                · exact (q4 k e).1
                · omega
                · omega
              · intro b hb
                cases (Option.some.inj hb : gf = b)
                refine ⟨by omega, fun e => ?_⟩
                rcases e with e | e | e
                · exact q9 e
                · exact hggf e
                · exact m7 e
              · intro b hb
                cases (Option.some.inj hb : sh = b)
                refine ⟨hshB, fun e => ?_, fun e => q10 (Option.some.inj e)⟩
                rcases e with e | e | e
                · exact q8 e
                · exact hggs e
                · exact hshw e
    · have e0 : decide ((i : Int) < (sets.length : Int)) = false := by simp; omega
      rw [show gk = (gk - 1) + 1 by omega] at hX
      unfold exploreLoop at hX
      rw [if_neg hlt] at hX
      subst hX
      obtain ⟨ud, ucap, rfl, _⟩ := hU.form
      obtain ⟨us, hU1, hU2, hU3⟩ := hRw.ex
      obtain ⟨pd, pcap, rfl, _⟩ := hU1.form
      have p0 : wr.cell? ⟨w.heap.size + 1, 0, none⟩ = some (.slice ud g.rule.length ucap) := hP.cell 0
      have p1 : wr.cell? ⟨w.heap.size + 1, 1, none⟩ = some (.slice pd us.length pcap) := hP.cell 1
      have z0 : wr.cell? ⟨w.heap.size, 0, none⟩ = some (.slice none 0 0) := hZ.cell 0
      have z1 : wr.cell? ⟨w.heap.size, 1, none⟩ = some (.slice none 0 0) := hZ.cell 1
      have zf0 := hZ.frozen 0
      have zf1 := hZ.frozen 1
      have HHF : Hid (Below w.heap.size w wr ∧ Blk wr w.heap.size #[.slice none 0 0, .slice none 0 0] 63 ∧ Rows2 wr O (.slice pd us.length pcap) g.next ∧ IRow wr (.slice ud g.rule.length ucap) g.rule ∧ (∀ k, O k → w.heap.size + 1 < k) ∧ ∀ b, (Value.slice ud g.rule.length ucap).ownBlock = some b → w.heap.size + 1 < b) := ⟨hb, hZ, hRw, hU, hO, fun b e => (hUO b e).1⟩
      clear hb hZ hP hRw hU hS hO hUO hSO hU1 hU2 hU3 hG hgr hgn hsrow
      go_wp2_with fail
      obtain ⟨q1, q2, q3, q4, q5, q6⟩ := HHF.out
      have hbF := (q1.setCell (p := ⟨w.heap.size, 0, none⟩) (Nat.le_refl _) (.slice ud g.rule.length ucap)).setCell (p := ⟨w.heap.size, 1, none⟩) (Nat.le_refl _) (.slice pd us.length pcap)
      refine bodyPost_ret (results_cell_tmp Tryz.results45 _ _ w.heap.size 63 _ (0, 0) _ rfl ((q2.set 0 _).set 1 _) Tryz.underlying63 rfl Tryz.infoG) rfl ?_
      have r1 := (q3.setCell (a := ⟨w.heap.size, 0, none⟩) (fun e => by have := q5 _ e; simp at this; omega) (.slice ud g.rule.length ucap)).setCell (a := ⟨w.heap.size, 1, none⟩) (fun e => by have := q5 _ e; simp at this; omega) (.slice pd us.length pcap)
      have r2 := (q4.kept (Kept.setCell (ex := fun k => k = w.heap.size) (p := ⟨w.heap.size, 0, none⟩) (Kept.refl _ _) (fun _ => rfl) (.slice ud g.rule.length ucap)) (fun b hb e => by have := q6 b hb; omega)).kept (Kept.setCell (ex := fun k => k = w.heap.size) (p := ⟨w.heap.size, 1, none⟩) (Kept.refl _ _) (fun _ => rfl) (.slice pd us.length pcap)) (fun b hb e => by have := q6 b hb; omega)
      exact ⟨hbF, .inr ⟨g, _, _, rfl, rfl, Rows2.graph r1 r2⟩⟩
end Go.Proofs.YtcckhngbdoiikaaGreat
