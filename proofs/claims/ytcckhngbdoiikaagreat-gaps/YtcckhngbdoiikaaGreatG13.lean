import Derived.Test.YtcckhngbdoiikaaGreatG12
import Derived.Test.YtcckhngbdoiikaaGreatG08
import Derived.Test.YtcckhngbdoiikaaGreatG03

namespace Go.Proofs.YtcckhngbdoiikaaGreat
open Go.RowKit Go.Deep
set_option linter.unusedVariables false
def RowOk (n:Nat) (row:List Int):Prop:=∀ to ∈ row,to = -1∨(0 ≤ to∧to < (n:Int))
set_option maxHeartbeats 1600000 in
theorem leads_any (rv mv:Value) (row:List Int) (marked:List Bool) (w:World) (hr:IRow w rv row) (hm:BRow w mv marked) (hl:row.length ≤ 1000) (hml:marked.length ≤ 1000) (hok:RowOk marked.length row) :
  Calls Tryz.prog 123 #[rv,mv] w fun e w'=>e = .returned (.bool (leadsF row marked))∧w' = w:=by
 obtain ⟨ad,cap,rfl,hrow⟩:=hr.form
 obtain ⟨md,mcap,rfl,hmrow⟩:=hm.form
 generalize hF:leadsF row marked = F
 unfold leadsF at hF
 have HF:=hide hF
 clear hF
 go_enter Tryz.func123,Tryz.ntmps123
 go_wp2_with fail
 go_loopg [9] row.length (fun g i wr=>∃ k:Nat,k ≤ row.length∧g = row.length - k∧i = .int .i64 (k:Int)∧wr = w∧(row.drop k).any (fun to=>to != -1 && marked.getD to.toNat false) = F)
 case atStart=>exact ⟨0,by omega,rfl,rfl,rfl,by simpa using HF.out⟩
 case round =>
  obtain ⟨k,hk,rfl,rfl,rfl,hfr⟩:=hrel
  clear HF
  by_cases hlt:k < row.length
  ·have e0:decide ((k:Int) < (row.length:Int)) = true:=by simp; omega
   rcases hrow with h0 | ⟨g,rfl⟩
   ·omega
   have r0:=hr.cell k hlt
   have i0:(0:Int) ≤ (k:Int):=by omega
   have i1:(k:Int) < (row.length:Int):=by omega
   rw [List.drop_eq_getElem_cons hlt,List.any_cons] at hfr
   have hto:=hok row[k] (List.getElem_mem hlt)
   generalize row[k] = to at r0 hfr hto
   by_cases hn:to = -1
   ·subst hn
    have HFR:=hide hfr
    clear hfr hto
    go_wp2_with fail
    go_roundg (row.length - (k + 1))
    case measure=>omega
    case rel=>exact ⟨k + 1,by omega,rfl,by go_num,rfl,by simpa using HFR.out⟩
   ·have e1:(to != -1) = true:=by simp [hn]
    obtain ⟨j,rfl⟩:∃ j:Nat,to = (j:Int):=⟨to.toNat,by omega⟩
    have hj:j < marked.length:=by omega
    rcases hmrow with h0 | ⟨mg,rfl⟩
    ·omega
    have m0:=hm.cell j hj
    have j0:(0:Int) ≤ (j:Int):=by omega
    have j1:(j:Int) < (marked.length:Int):=by omega
    have hgd:marked.getD j false = marked[j]:=by simp [hj]
    simp only [Int.toNat_natCast,hgd,e1,Bool.true_and] at hfr
    cases hb:marked[j] with
    |true =>
     rw [hb] at hfr m0
     have hfe:F = true:=by simpa using hfr.symm
     subst hfe
     clear hfr hgd hb hto hn
     go_wp2_with fail
     go_ret
     exact ⟨rfl,rfl⟩
    |false =>
     rw [hb] at hfr m0
     have HFR:=hide hfr
     clear hfr hgd hb hto hn
     go_wp2_with fail
     go_roundg (row.length - (k + 1))
     case measure=>omega
     case rel=>exact ⟨k + 1,by omega,rfl,by go_num,rfl,by simpa using HFR.out⟩
  ·have e0:decide ((k:Int) < (row.length:Int)) = false:=by simp; omega
   rw [List.drop_of_length_le (by omega)] at hfr
   have hfe:F = false:=by simpa using hfr.symm
   subst hfe
   clear hfr
   go_wp2_with fail
   go_ret
   exact ⟨rfl,rfl⟩
theorem SetRow.below {w w':World} {v:Value} {l:List PSet} (h:SetRow w v l) (k:Below w.heap.size w w'):SetRow w' v l:=ownsRow_kept (ex:=fun _=>False) h (Kept.ofBelow k) (fun _ _ e=>e)
set_option maxHeartbeats 1600000 in
theorem find_any (v:Value) (l:List PSet) (s:PSet) (w:World) (h:SetRow w v l) (hl:l.length ≤ 1000) :
  Calls Tryz.prog 86 #[v,setV s] w fun e w'=>e = .returned (.int .i64 (findF l s))∧Below w.heap.size w w':=by
 obtain ⟨_,ad,cap,rfl,hrow⟩:=ownsRow_form h
 unfold findF
 cases he:s.isEmpty with
 |true =>
  rw [if_pos rfl]
  go_enter Tryz.func86,Tryz.ntmps86
  go_wp2_with fail
  refine (empty_any s _).mono ?_
  rintro e w1 ⟨rfl,hb1⟩
  rw [he]
  go_wp2_with fail
  go_ret
  exact ⟨rfl,(Below1 w _).trans (hb1.mono (by simp))⟩
 |false =>
  rw [if_neg (by simp)]
  generalize hF:idxF l s = F
  have HF:=hide hF
  have HR:=hide h
  clear hF h
  go_enter Tryz.func86,Tryz.ntmps86
  go_wp2_with fail
  refine (empty_any s _).mono ?_
  rintro e w1 ⟨rfl,hb1⟩
  rw [he]
  have HB:Hid (Below w.heap.size w w1∧Blk w1 w.heap.size (setC s) 109):=⟨(Below1 w _).trans (hb1.mono (by simp)),(Blk.new w _ _).below hb1⟩
  clear hb1
  go_wp2_with fail
  go_loopg [11] l.length (fun g i wr=>∃ k:Nat,k ≤ l.length∧g = l.length - k∧i = .int .i64 (k:Int) ∧
   Below w.heap.size w wr∧Blk wr w.heap.size (setC s) 109∧k + idxF (l.drop k) s = F)
  case atStart =>
   obtain ⟨q1,q2⟩:=HB.out
   exact ⟨0,by omega,rfl,rfl,q1,q2,by simpa using HF.out⟩
  case round =>
   obtain ⟨k,hk,rfl,rfl,hb,hS,hfr⟩:=hrel
   clear HB HF
   by_cases hlt:k < l.length
   ·have e0:decide ((k:Int) < (l.length:Int)) = true:=by simp; omega
    rcases hrow with ⟨rfl,h0⟩ | ⟨fb,cur,rfl,_⟩
    ·omega
    have hRw:=HR.out.below hb
    have r0:wr.cell? ⟨fb,k * 2,none⟩ = some (.int .u64 (l[k].lo.toNat:Int)):=by rw [ownsRow_cell hRw _ (by omega),setsC_get0 _ k hlt]
    have r1:wr.cell? ⟨fb,k * 2 + 1,none⟩ = some (.int .u64 (l[k].hi.toNat:Int)):=by rw [ownsRow_cell hRw _ (by omega),setsC_get1 _ k hlt]
    have i0:(0:Int) ≤ (k:Int):=by omega
    have i1:(k:Int) < (l.length:Int):=by omega
    have s0:wr.cell? ⟨w.heap.size,0,none⟩ = some (.int .u64 (s.lo.toNat:Int)):=hS.cell 0
    have s1:wr.cell? ⟨w.heap.size,1,none⟩ = some (.int .u64 (s.hi.toNat:Int)):=hS.cell 1
    have zs0:w.heap.size < wr.heap.size:=hS.lt
    have HH:Hid (Below w.heap.size w wr∧Blk wr w.heap.size (setC s) 109∧k + idxF (l.drop k) s = F):=⟨hb,hS,hfr⟩
    clear hb hS hRw hfr
    cases hb1:((l[k].lo.toNat:Int) == (s.lo.toNat:Int)) with
    |false =>
     have HN:=hide (PSet.ne_lo hb1)
     go_wp2_with fail
     go_roundg (l.length - (k + 1))
     case measure=>omega
     case rel =>
      obtain ⟨hb,hS,hfr⟩:=HH.out
      rw [idxF_drop l s k hlt,if_neg HN.out] at hfr
      exact ⟨k + 1,by omega,rfl,by go_num,hb.alloc (by omega) _,hS.alloc _,by omega⟩
    |true =>
     cases hb2:((l[k].hi.toNat:Int) == (s.hi.toNat:Int)) with
     |false =>
      have HN:=hide (PSet.ne_hi hb2)
      go_wp2_with fail
      go_roundg (l.length - (k + 1))
      case measure=>omega
      case rel =>
       obtain ⟨hb,hS,hfr⟩:=HH.out
       rw [idxF_drop l s k hlt,if_neg HN.out] at hfr
       exact ⟨k + 1,by omega,rfl,by go_num,hb.alloc (by omega) _,hS.alloc _,by omega⟩
     |true =>
      have hN:=PSet.eq_of hb1 hb2
      have hfe:F = k:=by
       have hfr:=HH.out.2.2
       rw [idxF_drop l s k hlt,if_pos hN] at hfr
       omega
      subst hfe
      clear hN
      go_wp2_with fail
      go_ret
      exact ⟨rfl,HH.out.1.alloc (by omega) _⟩
   ·have e0:decide ((k:Int) < (l.length:Int)) = false:=by simp; omega
    rw [List.drop_of_length_le (by omega)] at hfr
    have hfe:F = l.length:=by simp [idxF] at hfr; omega
    subst hfe
    clear hfr
    go_wp2_with fail
    go_ret
    exact ⟨rfl,hb⟩
theorem afterFrom_append (s:PSet):∀ (l m:List PSet) (k:Nat) (acc:PSet),afterFrom s k (l ++ m) acc = afterFrom s (k + l.length) m (afterFrom s k l acc)
 | [],m,k,acc=>by simp [afterFrom]
 |f :: r,m,k,acc=>by
  simp only [List.cons_append,afterFrom,List.length_cons]
  rw [afterFrom_append s r m (k + 1),show k + 1 + r.length = k + (r.length + 1) by omega]
def afterAt (s:PSet) (l:List PSet) (k:Nat):PSet:=afterFrom s 0 (l.take k) PSet.none
theorem afterAt_step (s:PSet) (l:List PSet) (k:Nat) (h:k < l.length):afterAt s l (k + 1) = if s.has k then (afterAt s l k).or l[k] else afterAt s l k:=by
 unfold afterAt
 have hk:(l.take k).length = k:=by rw [List.length_take]; omega
 rw [List.take_succ_eq_append_getElem h,afterFrom_append,hk,Nat.zero_add]
 simp [afterFrom]
theorem afterAt_all (s:PSet) (l:List PSet) (k:Nat) (h:l.length ≤ k):afterAt s l k = afterFrom s 0 l PSet.none:=by
 unfold afterAt; rw [List.take_of_length_le h]
theorem Tryz.infoS:(Tryz.prog.info? 109).map (·.size) = some 2:=by kernel_rfl
theorem resultsSet {fn:Func} {p:Tmp} (h:fn.results = #[.cell p 109]) {q:PSet} (tmps:Array Value) {w:World} {g:Nat}
  (hp:tmps.getD p undef = .pointer (some ⟨g,0,none⟩)) (hg:Blk w g (setC q) 109):(results fn tmps).run Tryz.prog w = .ok (setV q) w :=
 results_cell_row h tmps w g 109 _ (0,0) _ hp hg Tryz.underlying109 rfl Tryz.infoS
set_option maxHeartbeats 1600000 in
theorem after_any (R:RulesT) (gb:Nat) (O:Nat→Prop) (fv lv:Value) (s:PSet) (w:World) (h:RulesAt w gb O R fv lv) (hl:R.follow.length ≤ 1000) :
  Calls Tryz.prog 84 #[.pointer (some ⟨gb,0,none⟩),setV s] w fun e w' =>
   e = .returned (setV (R.after s))∧Below w.heap.size w w':=by
 obtain ⟨_,ad,cap,rfl,hrow⟩:=ownsRow_form h.fol
 have cg:w.cell? ⟨gb,514,none⟩ = some (.slice ad R.follow.length cap):=by rw [h.blk.cell]; exact rulesC_514 _ _ _ _
 have hgb:=h.blk.lt
 have hgb1:gb < w.heap.size + 1:=by omega
 have hgb2:gb < w.heap.size + 1 + 1:=by omega
 go_enter Tryz.func84,Tryz.ntmps84
 go_wp2_with fail
 go_loopg [14] R.follow.length (fun g i wr=>∃ k:Nat,k ≤ R.follow.length∧g = R.follow.length - k∧i = .int .i64 (k:Int) ∧
  Below w.heap.size w wr∧Blk wr w.heap.size (setC s) 109∧Blk wr (w.heap.size + 1) (setC PSet.none) 109∧Blk wr (w.heap.size + 1 + 1) (setC (afterAt s R.follow k)) 109)
 case atStart =>
  refine ⟨0,by omega,rfl,rfl,Below3 _ _ _ _,((Blk.new w _ _).alloc _).alloc _,?_,?_⟩
  ·exact (Blk.at1 w _ _ _).alloc _
  ·exact Blk.at2 w _ _ _ _
 case round =>
  obtain ⟨k,hk,rfl,rfl,hb,hS,hZ,hA⟩:=hrel
  by_cases hlt:k < R.follow.length
  ·have e0:decide ((k:Int) < (R.follow.length:Int)) = true:=by simp; omega
   rcases hrow with ⟨rfl,h0⟩ | ⟨fb,cur,rfl,_⟩
   ·omega
   have hRw:=h.below hb
   have r0:wr.cell? ⟨fb,k * 2,none⟩ = some (.int .u64 (R.follow[k].lo.toNat:Int)):=by rw [ownsRow_cell hRw.fol _ (by omega),setsC_get0 _ k hlt]
   have r1:wr.cell? ⟨fb,k * 2 + 1,none⟩ = some (.int .u64 (R.follow[k].hi.toNat:Int)):=by rw [ownsRow_cell hRw.fol _ (by omega),setsC_get1 _ k hlt]
   have i0:(0:Int) ≤ (k:Int):=by omega
   have i1:(k:Int) < (R.follow.length:Int):=by omega
   have s0:wr.cell? ⟨w.heap.size,0,none⟩ = some (.int .u64 (s.lo.toNat:Int)):=hS.cell 0
   have s1:wr.cell? ⟨w.heap.size,1,none⟩ = some (.int .u64 (s.hi.toNat:Int)):=hS.cell 1
   have zs:w.heap.size + 1 + 1 < wr.heap.size:=hA.lt
   have zs0:w.heap.size < wr.heap.size:=by omega
   have HH:Hid (Below w.heap.size w wr∧Blk wr w.heap.size (setC s) 109∧Blk wr (w.heap.size + 1) (setC PSet.none) 109∧Blk wr (w.heap.size + 1 + 1) (setC (afterAt s R.follow k)) 109):=⟨hb,hS,hZ,hA⟩
   have HR:=hide h
   clear hb hS hZ hA hRw h cg
   go_wp2_with fail
   refine (has_any s k (by omega) _).mono ?_
   rintro e w1 ⟨rfl,hb1⟩
   obtain ⟨hb,hS,hZ,hA⟩:=HH.out
   have hS1:=(hS.alloc (.cells (setC R.follow[k]) 109)).below hb1
   have hZ1:=(hZ.alloc (.cells (setC R.follow[k]) 109)).below hb1
   have hA1:=(hA.alloc (.cells (setC R.follow[k]) 109)).below hb1
   have hF1:=(Blk.new wr (setC R.follow[k]) 109).below hb1
   have hbb:=(hb.alloc (by omega) (.cells (setC R.follow[k]) 109)).trans (hb1.mono (by simp; omega))
   clear hb hS hZ hA HH
   cases hh:s.has k with
   |false =>
    have HH:Hid (Below w.heap.size w w1∧Blk w1 w.heap.size (setC s) 109∧Blk w1 (w.heap.size + 1) (setC PSet.none) 109∧Blk w1 (w.heap.size + 1 + 1) (setC (afterAt s R.follow k)) 109):=⟨hbb,hS1,hZ1,hA1⟩
    have HF:=hide hh
    clear hbb hS1 hZ1 hA1 hF1 hb1 hh
    go_wp2_with fail
    go_roundg (R.follow.length - (k + 1))
    case measure=>omega
    case rel =>
     obtain ⟨q1,q2,q3,q4⟩:=HH.out
     exact ⟨k + 1,by omega,rfl,by go_num,q1,q2,q3,by rw [afterAt_step s _ k hlt,if_neg (by simp [HF.out])]; exact q4⟩
   |true =>
    have a0:w1.cell? ⟨w.heap.size + 1 + 1,0,none⟩ = some (.int .u64 ((afterAt s R.follow k).lo.toNat:Int)):=hA1.cell 0
    have a1:w1.cell? ⟨w.heap.size + 1 + 1,1,none⟩ = some (.int .u64 ((afterAt s R.follow k).hi.toNat:Int)):=hA1.cell 1
    have f0:w1.cell? ⟨wr.heap.size,0,none⟩ = some (.int .u64 (R.follow[k].lo.toNat:Int)):=hF1.cell 0
    have f1:w1.cell? ⟨wr.heap.size,1,none⟩ = some (.int .u64 (R.follow[k].hi.toNat:Int)):=hF1.cell 1
    have HH:Hid (Below w.heap.size w w1∧Blk w1 w.heap.size (setC s) 109∧Blk w1 (w.heap.size + 1) (setC PSet.none) 109∧Blk w1 (w.heap.size + 1 + 1) (setC (afterAt s R.follow k)) 109):=⟨hbb,hS1,hZ1,hA1⟩
    have HF:=hide hh
    clear hbb hS1 hZ1 hA1 hF1 hb1 hh
    go_wp2_with fail
    refine (or_any (afterAt s R.follow k) R.follow[k] _).mono ?_
    rintro e w2 ⟨rfl,hb2⟩
    obtain ⟨q1,q2,q3,q4⟩:=HH.out
    have q4':=q4.below hb2
    have g0:=q4'.cell 0
    have g1:=q4'.cell 1
    have gf0:=q4'.frozen 0
    have gf1:=q4'.frozen 1
    simp only [List.getElem?_toArray,List.getElem?_cons_zero,List.getElem?_cons_succ] at g0 g1
    have HH2:Hid (Below w.heap.size w w2∧Blk w2 w.heap.size (setC s) 109∧Blk w2 (w.heap.size + 1) (setC PSet.none) 109∧Blk w2 (w.heap.size + 1 + 1) (setC (afterAt s R.follow k)) 109):=⟨q1.trans (hb2.mono (by have:=q1.size; omega)),q2.below hb2,q3.below hb2,q4'⟩
    clear q1 q2 q3 q4 q4' hb2 HH
    go_wp2_with fail
    go_roundg (R.follow.length - (k + 1))
    case measure=>omega
    case rel =>
     obtain ⟨q1,q2,q3,q4⟩:=HH2.out
     refine ⟨k + 1,by omega,rfl,by go_num,(q1.setCell (by simp; omega) _).setCell (by simp; omega) _,(q2.setOther (by simp; omega) _).setOther (by simp; omega) _,(q3.setOther (by simp) _).setOther (by simp) _,?_⟩
     rw [afterAt_step s _ k hlt,if_pos HF.out]
     exact (q4.set 0 _).set 1 _
  ·have e0:decide ((k:Int) < (R.follow.length:Int)) = false:=by simp; omega
   have a0:wr.cell? ⟨w.heap.size + 1 + 1,0,none⟩ = some (.int .u64 ((afterAt s R.follow k).lo.toNat:Int)):=hA.cell 0
   have a1:wr.cell? ⟨w.heap.size + 1 + 1,1,none⟩ = some (.int .u64 ((afterAt s R.follow k).hi.toNat:Int)):=hA.cell 1
   have z0:wr.cell? ⟨w.heap.size + 1,0,none⟩ = some (.int .u64 0):=hZ.cell 0
   have z1:wr.cell? ⟨w.heap.size + 1,1,none⟩ = some (.int .u64 0):=hZ.cell 1
   have zf0:=hZ.frozen 0
   have zf1:=hZ.frozen 1
   have HA:=hide (afterAt_all s R.follow k (by omega))
   go_wp2_with fail
   have e9:R.after s = afterAt s R.follow k:=HA.out.symm
   rw [e9]
   exact bodyPost_ret (resultsSet Tryz.results84 _ rfl ((hZ.set 0 _).set 1 _)) rfl ⟨rfl,(hb.setCell (by simp) _).setCell (by simp) _⟩
theorem ruleFrom_drop (s:PSet) (l:List PSet) (k:Nat) (h:k < l.length):ruleFrom s k (l.drop k) = if s.meets l[k] then (k:Int) else ruleFrom s (k + 1) (l.drop (k + 1)):=by
 rw [List.drop_eq_getElem_cons h]; rfl
set_option maxHeartbeats 1600000 in
theorem rule_any (R:RulesT) (gb:Nat) (O:Nat→Prop) (fv lv:Value) (s:PSet) (w:World) (h:RulesAt w gb O R fv lv) (hl:R.last.length ≤ 1000) :
  Calls Tryz.prog 87 #[.pointer (some ⟨gb,0,none⟩),setV s] w fun e w' =>
   e = .returned (.int .i64 (R.rule s))∧Below w.heap.size w w':=by
 obtain ⟨_,ad,cap,rfl,hrow⟩:=ownsRow_form h.las
 have cg:w.cell? ⟨gb,515,none⟩ = some (.slice ad R.last.length cap):=by rw [h.blk.cell]; exact rulesC_515 _ _ _ _
 have hgb:=h.blk.lt
 have hgb1:gb < w.heap.size + 1:=by omega
 generalize hF:R.rule s = F
 have HF:Hid (ruleFrom s 0 R.last = F):=hF
 clear hF
 go_enter Tryz.func87,Tryz.ntmps87
 go_wp2_with fail
 go_loopg [12] R.last.length (fun g i wr=>∃ k:Nat,k ≤ R.last.length∧g = R.last.length - k∧i = .int .i64 (k:Int) ∧
  Below w.heap.size w wr∧Blk wr w.heap.size (setC s) 109∧ruleFrom s k (R.last.drop k) = F)
 case atStart =>
  exact ⟨0,by omega,rfl,rfl,Below1 _ _,Blk.new w _ _,HF.out⟩
 case round =>
  obtain ⟨k,hk,rfl,rfl,hb,hS,hfr⟩:=hrel
  by_cases hlt:k < R.last.length
  ·have e0:decide ((k:Int) < (R.last.length:Int)) = true:=by simp; omega
   rcases hrow with ⟨rfl,h0⟩ | ⟨fb,cur,rfl,_⟩
   ·omega
   have hRw:=h.below hb
   have r0:wr.cell? ⟨fb,k * 2,none⟩ = some (.int .u64 (R.last[k].lo.toNat:Int)):=by rw [ownsRow_cell hRw.las _ (by omega),setsC_get0 _ k hlt]
   have r1:wr.cell? ⟨fb,k * 2 + 1,none⟩ = some (.int .u64 (R.last[k].hi.toNat:Int)):=by rw [ownsRow_cell hRw.las _ (by omega),setsC_get1 _ k hlt]
   have i0:(0:Int) ≤ (k:Int):=by omega
   have i1:(k:Int) < (R.last.length:Int):=by omega
   have s0:wr.cell? ⟨w.heap.size,0,none⟩ = some (.int .u64 (s.lo.toNat:Int)):=hS.cell 0
   have s1:wr.cell? ⟨w.heap.size,1,none⟩ = some (.int .u64 (s.hi.toNat:Int)):=hS.cell 1
   have zs0:w.heap.size < wr.heap.size:=hS.lt
   have HH:Hid (Below w.heap.size w wr∧Blk wr w.heap.size (setC s) 109∧ruleFrom s k (R.last.drop k) = F):=⟨hb,hS,hfr⟩
   clear hb hS hRw h cg hfr HF
   go_wp2_with fail
   refine (meets_any s R.last[k] _).mono ?_
   rintro e w1 ⟨rfl,hb1⟩
   obtain ⟨hb,hS,hfr⟩:=HH.out
   have hS1:=(hS.alloc (.cells (setC R.last[k]) 109)).below hb1
   have hbb:=(hb.alloc (by omega) (.cells (setC R.last[k]) 109)).trans (hb1.mono (by simp; omega))
   rw [ruleFrom_drop s _ k hlt] at hfr
   clear hb hS HH
   cases hh:s.meets R.last[k] with
   |false =>
    rw [hh,if_neg (by simp)] at hfr
    have HH:Hid (Below w.heap.size w w1∧Blk w1 w.heap.size (setC s) 109∧ruleFrom s (k + 1) (R.last.drop (k + 1)) = F):=⟨hbb,hS1,hfr⟩
    clear hbb hS1 hfr hb1 hh
    go_wp2_with fail
    go_roundg (R.last.length - (k + 1))
    case measure=>omega
    case rel =>
     obtain ⟨q1,q2,q3⟩:=HH.out
     exact ⟨k + 1,by omega,rfl,by go_num,q1,q2,q3⟩
   |true =>
    rw [hh,if_pos rfl] at hfr
    subst hfr
    have HH:Hid (Below w.heap.size w w1):=hbb
    clear hbb hS1 hb1 hh
    go_wp2_with fail
    go_ret
    exact ⟨rfl,HH.out⟩
  ·have e0:decide ((k:Int) < (R.last.length:Int)) = false:=by simp; omega
   rw [List.drop_of_length_le (by omega)] at hfr
   have hfe:F = -1:=hfr.symm
   subst hfe
   clear hfr HF
   go_wp2_with fail
   go_ret
   exact ⟨rfl,hb⟩
theorem kcell {O:Nat→Prop} {W w1:World} {n:Nat} (hk:Kept O W w1) (ho:∀ k,O k→k < n) :
  (∀ b o,n ≤ b→b < W.heap.size→w1.cell? ⟨b,o,none⟩ = W.cell? ⟨b,o,none⟩)∧(∀ b o,n ≤ b→b < W.heap.size→w1.frozen? ⟨b,o,none⟩ = W.frozen? ⟨b,o,none⟩) :=
 ⟨fun b o h1 h2=>hk.cell (p:=⟨b,o,none⟩) h2 (fun e=>by have:=ho b e; omega),fun b o h1 h2=>hk.frozen (p:=⟨b,o,none⟩) h2 (fun e=>by have:=ho b e; omega)⟩
set_option maxHeartbeats 1600000 in
theorem chain_ff (R:RulesT) (gb:Nat) (O:Nat→Prop) (fv lv:Value) (af al bf bl:PSet) (w:World) (h:RulesAt w gb O R fv lv) (hl:R.follow.length ≤ 1000) :
  Calls Tryz.prog 143 #[.pointer (some ⟨gb,0,none⟩),partV ⟨af,al,false⟩,partV ⟨bf,bl,false⟩] w fun e w' =>
   e = .returned (partV (chainPart ⟨af,al,false⟩ ⟨bf,bl,false⟩))∧RulesAt w' gb O (R.link al bf) fv lv∧Kept O w w':=by
 have hK:Kept O w w:=Kept.refl _ _
 go_enter Tryz.func143,Tryz.ntmps143
 go_wp2_with fail
 refine (link_any R gb O fv lv al bf _ ((((h.alloc _).alloc _).alloc _)) hl).mono ?_
 rintro e w1 ⟨rfl,hR1,hk1⟩
 obtain ⟨hc1,hf1⟩:=kcell hk1 h.olt
 have hz1:w.heap.size + 2 < w1.heap.size:=by have:=hk1.size; simp at this; omega
 have y0:w.heap.size < w1.heap.size:=by omega
 have y1:w.heap.size + 1 < w1.heap.size:=by omega
 have y2:w.heap.size + 1 + 1 < w1.heap.size:=by omega
 have l0:w.heap.size ≤ w.heap.size + 1:=by omega
 have l1:w.heap.size ≤ w.heap.size + 1 + 1:=by omega
 have ne2:¬ O (w.heap.size + 1 + 1):=fun e=>by have:=h.olt _ e; omega
 have hZ1:Blk w1 (w.heap.size + 1 + 1) part0 206:=by
  have h9:Blk (((w.alloc (.cells (partC ⟨af,al,false⟩) 206)).alloc (.cells (partC ⟨bf,bl,false⟩) 206)).alloc (.cells part0 206)) (w.heap.size + 1 + 1) part0 206:=by
   have:=Blk.new ((w.alloc (.cells (partC ⟨af,al,false⟩) 206)).alloc (.cells (partC ⟨bf,bl,false⟩) 206)) part0 206
   simpa using this
  exact h9.kept hk1 ne2
 have hkW:Kept O w w1:=(((hK.alloc _).alloc _).alloc _).trans' hk1
 have HH:Hid (RulesAt w1 gb O (R.link al bf) fv lv∧Kept O w w1∧Blk w1 (w.heap.size + 1 + 1) part0 206):=⟨hR1,hkW,hZ1⟩
 have hno:∀ k,O k→k < w.heap.size:=h.olt
 have HNO:=hide hno
 clear hR1 hkW hZ1 hno
 go_wp2_with fail
 obtain ⟨hR1,hkW,hZ1⟩:=HH.out
 have hno:=HNO.out
 have hq:∀ {X:World} {v:Value} {j:Nat},RulesAt X gb O (R.link al bf) fv lv→RulesAt (X.setCell ⟨w.heap.size + 1 + 1,j,none⟩ v) gb O (R.link al bf) fv lv:=fun {X v j} hX =>
  hX.kept (ex:=fun k=>k = w.heap.size + 1 + 1) (Kept.setCell (ex:=fun k=>k = w.heap.size + 1 + 1) (Kept.refl _ _) (fun _=>rfl) _) (fun b hb e=>by have:=hno b hb; omega)
 exact bodyPost_ret (resultsPart (q:=chainPart ⟨af,al,false⟩ ⟨bf,bl,false⟩) Tryz.results143 _ rfl ((((((hZ1.set 0 _).set 1 _).set 2 _).set 3 _).set 4 _).alloc _)) rfl
  ⟨rfl,(hq (hq (hq (hq (hq hR1))))).alloc _,(((((hkW.setCell (by simp; omega) _).setCell (by simp; omega) _).setCell (by simp; omega) _).setCell (by simp; omega) _).setCell (by simp; omega) _).alloc _⟩
set_option maxHeartbeats 1600000 in
theorem chain_ft (R:RulesT) (gb:Nat) (O:Nat→Prop) (fv lv:Value) (af al bf bl:PSet) (w:World) (h:RulesAt w gb O R fv lv) (hl:R.follow.length ≤ 1000) :
  Calls Tryz.prog 143 #[.pointer (some ⟨gb,0,none⟩),partV ⟨af,al,false⟩,partV ⟨bf,bl,true⟩] w fun e w' =>
   e = .returned (partV (chainPart ⟨af,al,false⟩ ⟨bf,bl,true⟩))∧RulesAt w' gb O (R.link al bf) fv lv∧Kept O w w':=by
 have hK:Kept O w w:=Kept.refl _ _
 go_enter Tryz.func143,Tryz.ntmps143
 go_wp2_with fail
 refine (link_any R gb O fv lv al bf _ ((((h.alloc _).alloc _).alloc _)) hl).mono ?_
 rintro e w1 ⟨rfl,hR1,hk1⟩
 obtain ⟨hc1,hf1⟩:=kcell hk1 h.olt
 have hz1:w.heap.size + 2 < w1.heap.size:=by have:=hk1.size; simp at this; omega
 have y0:w.heap.size < w1.heap.size:=by omega
 have y1:w.heap.size + 1 < w1.heap.size:=by omega
 have y2:w.heap.size + 1 + 1 < w1.heap.size:=by omega
 have l0:w.heap.size ≤ w.heap.size + 1:=by omega
 have l1:w.heap.size ≤ w.heap.size + 1 + 1:=by omega
 have ne2:¬ O (w.heap.size + 1 + 1):=fun e=>by have:=h.olt _ e; omega
 have hZ1:Blk w1 (w.heap.size + 1 + 1) part0 206:=by
  have h9:Blk (((w.alloc (.cells (partC ⟨af,al,false⟩) 206)).alloc (.cells (partC ⟨bf,bl,true⟩) 206)).alloc (.cells part0 206)) (w.heap.size + 1 + 1) part0 206:=by
   have:=Blk.new ((w.alloc (.cells (partC ⟨af,al,false⟩) 206)).alloc (.cells (partC ⟨bf,bl,true⟩) 206)) part0 206
   simpa using this
  exact h9.kept hk1 ne2
 have hkW:Kept O w w1:=(((hK.alloc _).alloc _).alloc _).trans' hk1
 have HH:Hid (RulesAt w1 gb O (R.link al bf) fv lv∧Kept O w w1∧Blk w1 (w.heap.size + 1 + 1) part0 206):=⟨hR1,hkW,hZ1⟩
 have hno:∀ k,O k→k < w.heap.size:=h.olt
 have HNO:=hide hno
 clear hR1 hkW hZ1 hno
 go_wp2_with fail
 refine (or_any bl al _).mono ?_
 rintro e w2 ⟨rfl,hb2⟩
 obtain ⟨hc2,hf2⟩:=bcell hb2
 have hz2:w1.heap.size < w2.heap.size:=by have:=hb2.size; simp at this; omega
 have p20:w.heap.size < w2.heap.size:=by omega
 have p21:w.heap.size + 1 < w2.heap.size:=by omega
 have p22:w.heap.size + 1 + 1 < w2.heap.size:=by omega
 go_wp2_with fail
 obtain ⟨hR1,hkW,hZ1⟩:=HH.out
 have hno:=HNO.out
 have hq:∀ {X:World} {v:Value} {j i:Nat},w.heap.size ≤ i→RulesAt X gb O (R.link al bf) fv lv→RulesAt (X.setCell ⟨i,j,none⟩ v) gb O (R.link al bf) fv lv:=fun {X v j i} hi hX =>
  hX.kept (ex:=fun k=>k = i) (Kept.setCell (ex:=fun k=>k = i) (Kept.refl _ _) (fun _=>rfl) _) (fun b hb e=>by have:=hno b hb; omega)
 have hR3:=(hR1.alloc _).below hb2
 have hZ3:=(hZ1.alloc _).below hb2
 have hk3:=(hkW.alloc _).below hb2
 exact bodyPost_ret (resultsPart (q:=chainPart ⟨af,al,false⟩ ⟨bf,bl,true⟩) Tryz.results143 _ rfl ((((((((hZ3.setOther (p:=⟨w1.heap.size,2,none⟩) (by simp; omega) _).setOther (p:=⟨w1.heap.size,3,none⟩) (by simp; omega) _).set 0 _).set 1 _).set 2 _).set 3 _).set 4 _))) rfl
  ⟨rfl,hq (by omega) (hq (by omega) (hq (by omega) (hq (by omega) (hq (by omega) (hq (by omega) (hq (by omega) hR3)))))),(((((((hk3.setCell (by simp; omega) _).setCell (by simp; omega) _).setCell (by simp; omega) _).setCell (by simp; omega) _).setCell (by simp; omega) _).setCell (by simp; omega) _).setCell (by simp; omega) _)⟩
set_option maxHeartbeats 1600000 in
theorem chain_tf (R:RulesT) (gb:Nat) (O:Nat→Prop) (fv lv:Value) (af al bf bl:PSet) (w:World) (h:RulesAt w gb O R fv lv) (hl:R.follow.length ≤ 1000) :
  Calls Tryz.prog 143 #[.pointer (some ⟨gb,0,none⟩),partV ⟨af,al,true⟩,partV ⟨bf,bl,false⟩] w fun e w' =>
   e = .returned (partV (chainPart ⟨af,al,true⟩ ⟨bf,bl,false⟩))∧RulesAt w' gb O (R.link al bf) fv lv∧Kept O w w':=by
 have hK:Kept O w w:=Kept.refl _ _
 go_enter Tryz.func143,Tryz.ntmps143
 go_wp2_with fail
 refine (link_any R gb O fv lv al bf _ ((((h.alloc _).alloc _).alloc _)) hl).mono ?_
 rintro e w1 ⟨rfl,hR1,hk1⟩
 obtain ⟨hc1,hf1⟩:=kcell hk1 h.olt
 have hz1:w.heap.size + 2 < w1.heap.size:=by have:=hk1.size; simp at this; omega
 have y0:w.heap.size < w1.heap.size:=by omega
 have y1:w.heap.size + 1 < w1.heap.size:=by omega
 have y2:w.heap.size + 1 + 1 < w1.heap.size:=by omega
 have l0:w.heap.size ≤ w.heap.size + 1:=by omega
 have l1:w.heap.size ≤ w.heap.size + 1 + 1:=by omega
 have ne2:¬ O (w.heap.size + 1 + 1):=fun e=>by have:=h.olt _ e; omega
 have hZ1:Blk w1 (w.heap.size + 1 + 1) part0 206:=by
  have h9:Blk (((w.alloc (.cells (partC ⟨af,al,true⟩) 206)).alloc (.cells (partC ⟨bf,bl,false⟩) 206)).alloc (.cells part0 206)) (w.heap.size + 1 + 1) part0 206:=by
   have:=Blk.new ((w.alloc (.cells (partC ⟨af,al,true⟩) 206)).alloc (.cells (partC ⟨bf,bl,false⟩) 206)) part0 206
   simpa using this
  exact h9.kept hk1 ne2
 have hkW:Kept O w w1:=(((hK.alloc _).alloc _).alloc _).trans' hk1
 have HH:Hid (RulesAt w1 gb O (R.link al bf) fv lv∧Kept O w w1∧Blk w1 (w.heap.size + 1 + 1) part0 206):=⟨hR1,hkW,hZ1⟩
 have hno:∀ k,O k→k < w.heap.size:=h.olt
 have HNO:=hide hno
 clear hR1 hkW hZ1 hno
 go_wp2_with fail
 refine (or_any af bf _).mono ?_
 rintro e w2 ⟨rfl,hb2⟩
 obtain ⟨hc2,hf2⟩:=bcell hb2
 have hz2:w1.heap.size < w2.heap.size:=by have:=hb2.size; simp at this; omega
 have p20:w.heap.size < w2.heap.size:=by omega
 have p21:w.heap.size + 1 < w2.heap.size:=by omega
 have p22:w.heap.size + 1 + 1 < w2.heap.size:=by omega
 go_wp2_with fail
 obtain ⟨hR1,hkW,hZ1⟩:=HH.out
 have hno:=HNO.out
 have hq:∀ {X:World} {v:Value} {j i:Nat},w.heap.size ≤ i→RulesAt X gb O (R.link al bf) fv lv→RulesAt (X.setCell ⟨i,j,none⟩ v) gb O (R.link al bf) fv lv:=fun {X v j i} hi hX =>
  hX.kept (ex:=fun k=>k = i) (Kept.setCell (ex:=fun k=>k = i) (Kept.refl _ _) (fun _=>rfl) _) (fun b hb e=>by have:=hno b hb; omega)
 have hR3:=(hR1.alloc _).below hb2
 have hZ3:=(hZ1.alloc _).below hb2
 have hk3:=(hkW.alloc _).below hb2
 exact bodyPost_ret (resultsPart (q:=chainPart ⟨af,al,true⟩ ⟨bf,bl,false⟩) Tryz.results143 _ rfl ((((((((hZ3.setOther (p:=⟨w1.heap.size,0,none⟩) (by simp; omega) _).setOther (p:=⟨w1.heap.size,1,none⟩) (by simp; omega) _).set 0 _).set 1 _).set 2 _).set 3 _).set 4 _))) rfl
  ⟨rfl,hq (by omega) (hq (by omega) (hq (by omega) (hq (by omega) (hq (by omega) (hq (by omega) (hq (by omega) hR3)))))),(((((((hk3.setCell (by simp; omega) _).setCell (by simp; omega) _).setCell (by simp; omega) _).setCell (by simp; omega) _).setCell (by simp; omega) _).setCell (by simp; omega) _).setCell (by simp; omega) _)⟩
set_option maxHeartbeats 1600000 in
theorem chain_tt (R:RulesT) (gb:Nat) (O:Nat→Prop) (fv lv:Value) (af al bf bl:PSet) (w:World) (h:RulesAt w gb O R fv lv) (hl:R.follow.length ≤ 1000) :
  Calls Tryz.prog 143 #[.pointer (some ⟨gb,0,none⟩),partV ⟨af,al,true⟩,partV ⟨bf,bl,true⟩] w fun e w' =>
   e = .returned (partV (chainPart ⟨af,al,true⟩ ⟨bf,bl,true⟩))∧RulesAt w' gb O (R.link al bf) fv lv∧Kept O w w':=by
 have hK:Kept O w w:=Kept.refl _ _
 go_enter Tryz.func143,Tryz.ntmps143
 go_wp2_with fail
 refine (link_any R gb O fv lv al bf _ ((((h.alloc _).alloc _).alloc _)) hl).mono ?_
 rintro e w1 ⟨rfl,hR1,hk1⟩
 obtain ⟨hc1,hf1⟩:=kcell hk1 h.olt
 have hz1:w.heap.size + 2 < w1.heap.size:=by have:=hk1.size; simp at this; omega
 have y0:w.heap.size < w1.heap.size:=by omega
 have y1:w.heap.size + 1 < w1.heap.size:=by omega
 have y2:w.heap.size + 1 + 1 < w1.heap.size:=by omega
 have l0:w.heap.size ≤ w.heap.size + 1:=by omega
 have l1:w.heap.size ≤ w.heap.size + 1 + 1:=by omega
 have ne2:¬ O (w.heap.size + 1 + 1):=fun e=>by have:=h.olt _ e; omega
 have hZ1:Blk w1 (w.heap.size + 1 + 1) part0 206:=by
  have h9:Blk (((w.alloc (.cells (partC ⟨af,al,true⟩) 206)).alloc (.cells (partC ⟨bf,bl,true⟩) 206)).alloc (.cells part0 206)) (w.heap.size + 1 + 1) part0 206:=by
   have:=Blk.new ((w.alloc (.cells (partC ⟨af,al,true⟩) 206)).alloc (.cells (partC ⟨bf,bl,true⟩) 206)) part0 206
   simpa using this
  exact h9.kept hk1 ne2
 have hkW:Kept O w w1:=(((hK.alloc _).alloc _).alloc _).trans' hk1
 have HH:Hid (RulesAt w1 gb O (R.link al bf) fv lv∧Kept O w w1∧Blk w1 (w.heap.size + 1 + 1) part0 206):=⟨hR1,hkW,hZ1⟩
 have hno:∀ k,O k→k < w.heap.size:=h.olt
 have HNO:=hide hno
 clear hR1 hkW hZ1 hno
 go_wp2_with fail
 refine (or_any af bf _).mono ?_
 rintro e w2 ⟨rfl,hb2⟩
 obtain ⟨hc2,hf2⟩:=bcell hb2
 have hz2:w1.heap.size < w2.heap.size:=by have:=hb2.size; simp at this; omega
 have p20:w.heap.size < w2.heap.size:=by omega
 have p21:w.heap.size + 1 < w2.heap.size:=by omega
 have p22:w.heap.size + 1 + 1 < w2.heap.size:=by omega
 go_wp2_with fail
 refine (or_any bl al _).mono ?_
 rintro e w3 ⟨rfl,hb3⟩
 obtain ⟨hc3,hf3⟩:=bcell hb3
 have hz3:w1.heap.size < w3.heap.size:=by have:=hb3.size; simp at this; omega
 have p30:w.heap.size < w3.heap.size:=by omega
 have p31:w.heap.size + 1 < w3.heap.size:=by omega
 have p32:w.heap.size + 1 + 1 < w3.heap.size:=by omega
 go_wp2_with fail
 obtain ⟨hR1,hkW,hZ1⟩:=HH.out
 have hno:=HNO.out
 have hq:∀ {X:World} {v:Value} {j i:Nat},w.heap.size ≤ i→RulesAt X gb O (R.link al bf) fv lv→RulesAt (X.setCell ⟨i,j,none⟩ v) gb O (R.link al bf) fv lv:=fun {X v j i} hi hX =>
  hX.kept (ex:=fun k=>k = i) (Kept.setCell (ex:=fun k=>k = i) (Kept.refl _ _) (fun _=>rfl) _) (fun b hb e=>by have:=hno b hb; omega)
 have hR3:=((hq (i:=w1.heap.size) (j:=1) (v:=.int .u64 ((af.or bf).hi.toNat:Int)) (by omega) (hq (i:=w1.heap.size) (j:=0) (v:=.int .u64 ((af.or bf).lo.toNat:Int)) (by omega) ((hR1.alloc _).below hb2))).below hb3)
 have hZ3:=((((hZ1.alloc _).below hb2).setOther (p:=⟨w1.heap.size,0,none⟩) (by simp; omega) (.int .u64 ((af.or bf).lo.toNat:Int))).setOther (p:=⟨w1.heap.size,1,none⟩) (by simp; omega) (.int .u64 ((af.or bf).hi.toNat:Int))).below hb3
 have hk3:=((((hkW.alloc _).below hb2).setCell (p:=⟨w1.heap.size,0,none⟩) (by simp; omega) (.int .u64 ((af.or bf).lo.toNat:Int))).setCell (p:=⟨w1.heap.size,1,none⟩) (by simp; omega) (.int .u64 ((af.or bf).hi.toNat:Int))).below hb3
 exact bodyPost_ret (resultsPart (q:=chainPart ⟨af,al,true⟩ ⟨bf,bl,true⟩) Tryz.results143 _ rfl ((((((((hZ3.setOther (p:=⟨w1.heap.size,2,none⟩) (by simp; omega) _).setOther (p:=⟨w1.heap.size,3,none⟩) (by simp; omega) _).set 0 _).set 1 _).set 2 _).set 3 _).set 4 _))) rfl
  ⟨rfl,hq (by omega) (hq (by omega) (hq (by omega) (hq (by omega) (hq (by omega) (hq (by omega) (hq (by omega) hR3)))))),(((((((hk3.setCell (by simp; omega) _).setCell (by simp; omega) _).setCell (by simp; omega) _).setCell (by simp; omega) _).setCell (by simp; omega) _).setCell (by simp; omega) _).setCell (by simp; omega) _)⟩
theorem chain_any (R:RulesT) (gb:Nat) (O:Nat→Prop) (fv lv:Value) (a b:PartT) (w:World) (h:RulesAt w gb O R fv lv) (hl:R.follow.length ≤ 1000) :
  Calls Tryz.prog 143 #[.pointer (some ⟨gb,0,none⟩),partV a,partV b] w fun e w' =>
   e = .returned (partV (chainPart a b))∧RulesAt w' gb O (R.chain a b) fv lv∧Kept O w w':=by
 obtain ⟨af,al,ae⟩:=a
 obtain ⟨bf,bl,be⟩:=b
 cases ae <;> cases be
 ·exact chain_ff R gb O fv lv af al bf bl w h hl
 ·exact chain_ft R gb O fv lv af al bf bl w h hl
 ·exact chain_tf R gb O fv lv af al bf bl w h hl
 ·exact chain_tt R gb O fv lv af al bf bl w h hl
end Go.Proofs.YtcckhngbdoiikaaGreat
