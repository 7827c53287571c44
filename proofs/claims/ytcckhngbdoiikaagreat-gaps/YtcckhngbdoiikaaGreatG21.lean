import Derived.Test.YtcckhngbdoiikaaGreatG18
import Derived.Test.YtcckhngbdoiikaaGreatG13
import Derived.Test.YtcckhngbdoiikaaGreatG12
import Derived.Deep.MidRow

namespace Go.Proofs.YtcckhngbdoiikaaGreat
open Go.RowKit Go.Deep
set_option linter.unusedVariables false
def kindC (f:Nat→Nat):Array Value:=(Array.range 256).map (fun i=>.int .i64 (f i:Int))
theorem kindC_size (A:Nat→Nat):(kindC A).size = 256:=by simp [kindC]
theorem kindC_get (A:Nat→Nat) (i:Nat) (h:i < 256):(kindC A)[i]? = some (.int .i64 (A i:Int)):=by
 simp [kindC,h]
theorem kindC_one (A:Nat→Nat):(kindC A).all (·.oneCell') = true:=by
 rw [Array.all_eq_true_iff_forall_mem]
 intro v hv
 simp [kindC] at hv
 obtain ⟨i,_,rfl⟩:=hv
 rfl
theorem kindC_congr {A B:Nat→Nat} (h:∀ i,i < 256→A i = B i):kindC A = kindC B:=by
 unfold kindC
 apply Array.ext_getElem?
 intro j
 simp only [Array.getElem?_map]
 by_cases hj:j < 256
 ·simp [hj,h j hj]
 ·simp [hj]
theorem kindC_set (A:Nat→Nat) (i:Nat) (v:Nat) (h:i < 256):(kindC A).setIfInBounds i (.int .i64 (v:Int)) = kindC (fun j=>if j = i then v else A j):=by
 apply Array.ext_getElem?
 intro j
 rw [Array.getElem?_setIfInBounds]
 by_cases hj:j < 256
 ·rw [kindC_get _ j hj]
  by_cases e:i = j
  ·subst e; rw [if_pos rfl,if_pos (by rw [kindC_size]; exact h),kindC_get _ _ h,if_pos rfl]
  ·rw [if_neg e,kindC_get _ j hj,if_neg (fun e'=>e e'.symm)]
 ·rw [Array.getElem?_eq_none (by rw [kindC_size]; omega:(kindC _).size ≤ j)]
  by_cases e:i = j
  ·omega
  ·rw [if_neg e,Array.getElem?_eq_none (by rw [kindC_size]; omega)]
theorem zeroKinds:Tryz.zeroCells59 = kindC (fun _=>0):=by kernel_rfl
theorem Tryz.infoK:(Tryz.prog.info? 59).map (·.size) = some 256:=by kernel_rfl
theorem kind_step (f:Nat→Nat) (b:Nat) (h:b < 256):(kindC (fun j=>if j < b then f j else 0)).setIfInBounds b (.int .i64 (f b:Int)) = kindC (fun j=>if j < b + 1 then f j else 0):=by
 rw [kindC_set _ _ _ h]
 apply kindC_congr
 intro i _
 by_cases e:i = b
 ·subst e; simp
 ·by_cases h:i < b
  ·simp [e,h,show i < b + 1 by omega]
  ·simp [e,h,show ¬ i < b + 1 by omega]
theorem loadK {A:Nat→Nat} {ops:Array Oper} {rest:List Oper} {o:Oper} {a:Act} {w:World} {Q:Exit→Act→World→Prop} (hgd:o.guard = none) (x:Operand) (ho:o.op = .load 59 x)
  (g:Nat) (hx:a.eval x = .pointer (some ⟨g,0,none⟩)) (hb:Blk w g (kindC A) 59)
  (h:wpList Tryz.prog ops Q rest (a.put o.dst (.agg (kindC A))) w):wpList Tryz.prog ops Q (o :: rest) a w :=
 wpList_load_row hgd 59 x ho g hx 59 _ (0,0) _ hb Tryz.underlying59 rfl (by rw [kindC_size]; exact Tryz.infoK) h
theorem storeK {A:Nat→Nat} {ops:Array Oper} {rest:List Oper} {o:Oper} {a:Act} {w:World} {Q:Exit→Act→World→Prop} (hgd:o.guard = none) (x y:Operand) (ho:o.op = .store 59 x y)
  (g:Nat) (hx:a.eval x = .pointer (some ⟨g,0,none⟩)) (hy:a.eval y = .agg (kindC A)) {old:Array Value} (hb:Blk w g old 59) (hold:old.size = 256)
  (h:wpList Tryz.prog ops Q rest (a.put o.dst undef) (w.setRow g (kindC A))):wpList Tryz.prog ops Q (o :: rest) a w :=
 wpList_store_row hgd 59 x y ho g _ hx hy 59 _ hb (by rw [kindC_size]; exact Tryz.infoK) (by rw [kindC_size]; exact hold) (kindC_one _) h
theorem storeKz {ops:Array Oper} {rest:List Oper} {o:Oper} {a:Act} {w:World} {Q:Exit→Act→World→Prop} (hgd:o.guard = none) (x y:Operand) (ho:o.op = .store 59 x y)
  (g:Nat) (hx:a.eval x = .pointer (some ⟨g,0,none⟩)) (hy:a.eval y = .agg Tryz.zeroCells59) {old:Array Value} (hb:Blk w g old 59) (hold:old.size = 256)
  (h:wpList Tryz.prog ops Q rest (a.put o.dst undef) (w.setRow g (kindC (fun _=>0)))):wpList Tryz.prog ops Q (o :: rest) a w :=
 storeK hgd x y ho g hx (by rw [hy,zeroKinds]) hb hold h
theorem zeroK:Tryz.zeroCells59.size = 256:=Tryz.zeroCells59_size
def allowsC (al:Nat→PSet):List Value:=setsC ((List.range 256).map al)
theorem allowsC_at {w:World} {gb:Nat} {R:RulesT} {fv lv:Value} (h:Blk w gb (rulesC R.allow R.first fv lv) 113):w.rangeAt gb 0 (allowsC R.allow):=by
 intro j v hv
 have hj:j < 512:=by
  have:=(List.getElem?_eq_some_iff.1 hv).1
  rw [allowsC,allows_length] at this
  exact this
 rw [Nat.zero_add,h.cell,rulesC,List.getElem?_toArray,List.getElem?_append_left (by rw [allows_length]; omega)]
 exact hv
theorem Tryz.infoA:(Tryz.prog.info? 110).map (·.size) = some 512:=by kernel_rfl
theorem loadA {al:Nat→PSet} {ops:Array Oper} {rest:List Oper} {o:Oper} {a:Act} {w:World} {Q:Exit→Act→World→Prop} (hgd:o.guard = none) (x:Operand) (ho:o.op = .load 110 x)
  (g:Nat) (hx:a.eval x = .pointer (some ⟨g,0,none⟩)) (hb:w.rangeAt g 0 (allowsC al))
  (h:wpList Tryz.prog ops Q rest (a.put o.dst (.agg (allowsC al).toArray)) w):wpList Tryz.prog ops Q (o :: rest) a w :=
 wpList_load_mid hgd 110 x ho g 0 hx (allowsC al) _ hb Tryz.underlying110 rfl (by rw [allowsC,allows_length]; exact Tryz.infoA) h
theorem rangeAt_below {w w':World} {g o:Nat} {cs:List Value} (h:w.rangeAt g o cs) (hg:g < w.heap.size) (hb:Below w.heap.size w w'):w'.rangeAt g o cs:=fun j v hv=>by
 rw [hb.cell (p:=⟨g,o + j,none⟩) hg]; exact h j v hv
theorem SetRow.kept {w w':World} {v:Value} {l:List PSet} {ex:Nat→Prop} (h:SetRow w v l) (k:Kept ex w w') (he:∀ b,v.ownBlock = some b→¬ ex b):SetRow w' v l:=ownsRow_kept h k he
theorem SetRow.form {w:World} {v:Value} {l:List PSet} (h:SetRow w v l):∃ (ad:Option Addr) (cap:Nat),v = .slice ad l.length cap∧(l.length = 0∨∃ g,ad = some ⟨g,0,none⟩):=by
 obtain ⟨_,ad,cap,rfl,hr⟩:=ownsRow_form h
 refine ⟨ad,cap,rfl,?_⟩
 rcases hr with ⟨_,e⟩ | ⟨g,_,e,_⟩
 ·exact .inl e
 ·exact .inr ⟨g,e⟩
theorem SetRow.cell0 {w:World} {l:List PSet} {g cap:Nat} (h:SetRow w (.slice (some ⟨g,0,none⟩) l.length cap) l) (j:Nat) (hj:j < l.length):w.cell? ⟨g,j * 2,none⟩ = some (.int .u64 (l[j].lo.toNat:Int)):=by
 rw [ownsRow_cell h _ (by omega),setsC_get0 _ j hj]
theorem SetRow.cell1 {w:World} {l:List PSet} {g cap:Nat} (h:SetRow w (.slice (some ⟨g,0,none⟩) l.length cap) l) (j:Nat) (hj:j < l.length):w.cell? ⟨g,j * 2 + 1,none⟩ = some (.int .u64 (l[j].hi.toNat:Int)):=by
 rw [ownsRow_cell h _ (by omega),setsC_get1 _ j hj]
theorem setRow_push {w':World} {l:List PSet} {s:PSet} {g cap:Nat} (hown:w'.ownsRow 0 109 2 (.slice (some ⟨g,0,none⟩) (l.length + 1) cap) (l.length + 1) (setsC l ++ [.int .u64 (s.lo.toNat:Int),.int .u64 (s.hi.toNat:Int)])) :
  SetRow w' (.slice (some ⟨g,0,none⟩) (l.length + 1) cap) (l ++ [s]):=by
 unfold SetRow
 rw [List.length_append,setsC_append]
 exact hown
theorem isAggSet (w:World):(isAgg 109).run Tryz.prog w = .ok true w:=by kernel_rfl
theorem sizeOfSet (w:World):(Go.sizeOf 109).run Tryz.prog w = .ok 2 w:=by kernel_rfl
theorem underA (w:World):(Go.underlying 110).run Tryz.prog w = .ok (.array 256 109) w:=by kernel_rfl
theorem index_allow (al:Nat→PSet) (b:Nat) (hb:b < 256) (w:World):(Instr.index 110 (.agg (allowsC al).toArray) (.int .i64 (b:Int))).run Tryz.prog w = .ok (setV (al b)) w:=by
 have e0:(0:Int) ≤ (b:Int)∧(b:Int) < ((256:Nat):Int):=by omega
 have e1:(allowsC al).toArray.extract (b * 2) (b * 2 + 2) = setC (al b):=by
  apply Array.ext_getElem?
  intro j
  have hl:(allowsC al).toArray.size = 512:=by simp only [List.size_toArray]; exact allows_length al
  rw [Array.getElem?_extract]
  match j with
  | 0=>rw [if_pos (by rw [hl]; omega),List.getElem?_toArray,Nat.add_zero,allowsC,setsC_get0 _ b (by simpa using hb)]; simp
  | 1=>rw [if_pos (by rw [hl]; omega),List.getElem?_toArray,allowsC,setsC_get1 _ b (by simpa using hb)]; simp
  |j + 2=>rw [if_neg (by rw [hl]; omega)]; simp
 simp only [Instr.index,asIntOf,Sem.run_bind,Sem.run_pure,Result.andThen_ok,underA,e0,and_self,if_true,sizeOfSet,Go.part,isAggSet,Int.toNat_natCast,e1]
set_option maxHeartbeats 3200000 in
theorem sortBytes_any (R:RulesT) (gb:Nat) (O:Nat→Prop) (fv lv:Value) (w:World) (h:RulesAt w gb O R fv lv) :
  Calls Tryz.prog 44 #[.pointer (some ⟨gb,0,none⟩)] w fun e w'=>∃ kv,e = .returned (.tuple #[.agg (kindC (kindOf R.allow)),kv])∧SetRow w' kv (kindsAt R.allow 256)∧Below w.heap.size w w':=by
 have hra:=allowsC_at h.blk
 have hgb:=h.blk.lt
 generalize R.allow = al at hra ⊢
 have hW:Below w.heap.size w ((((w.alloc (.cells Tryz.zeroCells59 59)).alloc (.cells Tryz.zeroCells59 59)).setRow (w.heap.size + 1) (kindC (fun _=>0))).alloc (.cells #[] 109)) :=
  (Below_setRow (Below2 _ _ _) (by omega) _).alloc (by simp; omega) _
 have HRA:=hide (rangeAt_below hra hgb hW)
 have hix:=index_allow al
 have HIX:=hide hix
 clear h hra hix
 go_enter Tryz.func44,Tryz.ntmps44
 go_wp2_with (first | refine storeKz rfl (.tmp 4) (.tmp 9) rfl (w.heap.size + 1) rfl rfl (Blk.at1 _ _ _ _) zeroK ?_ | refine loadA rfl (.tmp 13) rfl gb rfl HRA.out ?_)
 go_loopg [5,15] 256 (fun G kv i wr=>∃ b:Nat,b ≤ 256∧G = 256 - b∧i = .int .i64 (b:Int)∧Below w.heap.size w wr∧Blk wr w.heap.size Tryz.zeroCells59 59 ∧
  Blk wr (w.heap.size + 1) (kindC (fun j=>if j < b then kindOf al j else 0)) 59∧SetRow wr kv (kindsAt al b)∧∀ k,kv.ownBlock = some k→w.heap.size + 1 < k)
 case atStart =>
  refine ⟨0,by omega,rfl,rfl,hW,?_,?_,?_,?_⟩
  ·exact ((((Blk.new w Tryz.zeroCells59 59).alloc _).setRowOther (by omega) _).alloc _)
  ·have e1:kindC (fun j=>if j < 0 then kindOf al j else 0) = kindC (fun _=>0):=kindC_congr (fun i _=>by simp)
   rw [e1]
   exact ((Blk.at1 w (.cells Tryz.zeroCells59 59) Tryz.zeroCells59 59).setRow _).alloc _
  ·have e1:=Blk.new (((w.alloc (.cells Tryz.zeroCells59 59)).alloc (.cells Tryz.zeroCells59 59)).setRow (w.heap.size + 1) (kindC (fun _=>0))) #[] 109
   refine ownsRow_mk (cur:=#[]) (by rfl) (by simpa using e1) (Nat.le_refl _) (by unfold maxLen; omega) rfl rfl
  ·intro k e; cases (Option.some.inj e:w.heap.size + 1 + 1 = k); omega
 case round =>
  obtain ⟨b,hbl,rfl,rfl,hb,hZ,hK,hS,hkO⟩:=hrel
  clear hW HRA
  have hkl:=kindsAt_le al b
  by_cases hlt:b < 256
  ·have e0:decide ((b:Int) < 256) = true:=by simp; omega
   have hix:=HIX.out b hlt
   have hstep:kindsAt al (b + 1) = if idxF (kindsAt al b) (al b) = (kindsAt al b).length then kindsAt al b ++ [al b] else kindsAt al b:=rfl
   have hko:kindOf al b = idxF (kindsAt al b) (al b):=rfl
   have hkst:=kind_step (kindOf al) b hlt
   rw [hko] at hkst
   generalize hl:kindsAt al b = l at hS hkl hstep hkst
   generalize al b = s at hix hstep hkst
   have hidx:=idxF_le l s
   generalize hF:idxF l s = F at hidx hstep hkst
   obtain ⟨kd,kcap,rfl,hkrow⟩:=hS.form
   have k0:wr.cell? ⟨w.heap.size + 1,b,none⟩ = some (.int .i64 0):=by rw [hK.cell,kindC_get _ b hlt]; simp
   have kf0:=hK.frozen b
   have zK:=hK.lt
   have i0:(0:Int) ≤ (b:Int):=by omega
   have i1:(b:Int) < 256:=by omega
   have HF:=hide hF
   have HST:=hide hstep
   have HKST:=hide hkst
   have HH:Hid (Below w.heap.size w wr∧Blk wr w.heap.size Tryz.zeroCells59 59∧Blk wr (w.heap.size + 1) (kindC (fun j=>if j < b then kindOf al j else 0)) 59∧SetRow wr (.slice kd l.length kcap) l∧∀ k,(Value.slice kd l.length kcap).ownBlock = some k→w.heap.size + 1 < k):=⟨hb,hZ,hK,hS,hkO⟩
   clear hb hZ hK hS hkO hF hstep hkst hl hko
   obtain ⟨wo,rfl⟩:∃ wo:World,wo = wr:=⟨_,rfl⟩
   go_wp2_with fail
   go_loopg [8] l.length (fun G i wr=>∃ (k m:Nat),k ≤ l.length∧G = l.length - k∧i = .int .i64 (k:Int)∧wr = (wo.alloc (.cells (setC s) 109)).drewN m∧k + idxF (l.drop k) s = F)
   case atStart=>exact ⟨0,0,by omega,rfl,rfl,rfl,by simpa using HF.out⟩
   case round =>
    obtain ⟨k,m,hk,rfl,rfl,rfl,hfr⟩:=hrel
    clear HF
    by_cases hlk:k < l.length
    ·have e1:decide ((k:Int) < (l.length:Int)) = true:=by simp; omega
     rcases hkrow with h0 | ⟨kg,rfl⟩
     ·omega
     have r0:=HH.out.2.2.2.1.cell0 k hlk
     have r1:=HH.out.2.2.2.1.cell1 k hlk
     have zkg:kg < wo.heap.size:=ownsRow_lt HH.out.2.2.2.1 kg rfl
     have i2:(0:Int) ≤ (k:Int):=by omega
     have i3:(k:Int) < (l.length:Int):=by omega
     have HFR:=hide hfr
     clear hfr
     cases hb1:((l[k].lo.toNat:Int) == (s.lo.toNat:Int)) with
     |false =>
      have HN:=hide (PSet.ne_lo hb1)
      go_wp2_with fail
      go_quiet (fail)
      go_wp2_with fail
      go_roundg (l.length - (k + 1))
      case measure=>omega
      case rel =>
       have hfr:=HFR.out
       rw [idxF_drop l s k hlk,if_neg HN.out] at hfr
       exact ⟨k + 1,_,by omega,rfl,by go_num,rfl,by omega⟩
     |true =>
      cases hb2:((l[k].hi.toNat:Int) == (s.hi.toNat:Int)) with
      |false =>
       have HN:=hide (PSet.ne_hi hb2)
       go_wp2_with fail
       go_quiet (fail)
       go_wp2_with fail
       go_roundg (l.length - (k + 1))
       case measure=>omega
       case rel =>
        have hfr:=HFR.out
        rw [idxF_drop l s k hlk,if_neg HN.out] at hfr
        exact ⟨k + 1,_,by omega,rfl,by go_num,rfl,by omega⟩
      |true =>
       have hN:=PSet.eq_of hb1 hb2
       have hfe:F = k:=by
        have hfr:=HFR.out
        rw [idxF_drop l s k hlk,if_pos hN] at hfr
        omega
       subst hfe
       have e2:((F:Int) == (l.length:Int)) = false:=by simp; omega
       clear hN
       go_wp2_with fail
       go_quiet (fail)
       go_wp2_with fail
       go_roundg (256 - (b + 1))
       case measure=>omega
       case rel =>
        obtain ⟨q1,q2,q3,q4,q5⟩:=HH.out
        have hst:=HST.out
        rw [if_neg (by omega)] at hst
        refine ⟨b + 1,by omega,rfl,by go_num,?_,?_,?_,?_,q5⟩
        ·exact (Below_drewN (q1.alloc (by have:=q3.lt; omega) _) _).setCell (p:=⟨w.heap.size + 1,b,none⟩) (show w.heap.size ≤ w.heap.size + 1 by omega) _
        ·exact ((q2.alloc _).drewN _).setOther (p:=⟨w.heap.size + 1,b,none⟩) (show w.heap.size ≠ w.heap.size + 1 by omega) _
        ·rw [← HKST.out]; exact ((q3.alloc _).drewN _).set b _
        ·rw [hst]
         exact q4.kept (Kept.setCell (ex:=fun k=>k = w.heap.size + 1) (p:=⟨w.heap.size + 1,b,none⟩) (((Kept.refl (fun k=>k = w.heap.size + 1) wo).alloc _).drewN _) (fun _=>rfl) _) (fun b' hb e=>by have:=q5 b' hb; omega)
    ·have e1:decide ((k:Int) < (l.length:Int)) = false:=by simp; omega
     obtain rfl:k = l.length:=by omega
     rw [List.drop_of_length_le (by omega)] at hfr
     have hfe:F = l.length:=by simp [idxF] at hfr; omega
     subst hfe
     clear hfr
     have e2:((l.length:Int) == (l.length:Int)) = true:=by simp
     obtain ⟨ii,hi,hz0,hz1,hz2⟩:=info_parts Tryz.infoS3
     have hol:∀ nq:Nat,SetRow ((((wo.alloc (.cells (setC s) 109)).drewN m).drewN nq).alloc (.cells (setC s) 109)) (.slice kd l.length kcap) l:=fun nq =>
      HH.out.2.2.2.1.kept (((((Kept.refl (fun _=>False) wo).alloc _).drewN m).drewN nq).alloc _) (fun _ _ e=>e)
     have HOL:=hide hol
     clear hol
     go_wp2_with fail
     go_quiet (fail)
     go_wp2_with (at_builtin; (refine wpList_append_lies _ (by rfl) _ _ _ (by rfl) 0 109 ii _ 2 16 Tryz.underlying111 hi hz0 hz1 hz2 rfl (by omega) (.slice kd l.length kcap) l.length (setsC l) (by rfl) (HOL.out nq) ⟨wo.heap.size + 1,0,none⟩ 1 1 [.int .u64 (s.lo.toNat:Int),.int .u64 (s.hi.toNat:Int)] (by rfl) (by rfl) (World.news_of_block (cs:=setC s) (t:=109) (fr:=(0,0)) (by have:=heap_alloc_new (((wo.alloc (.cells (setC s) 109)).drewN m).drewN nq) (.cells (setC s) 109); simpa using this)) (by simp [Value.oneCell']) (by omega) (by unfold maxLen; omega) (by omega) (by simp) (wo.heap.size + 1 + 1) (by simp) ?_))
     intro gg cap2 w6 hown6 hgrow6 hat6 hlt6
     obtain ⟨q1,q2,q3,q4,q5⟩:=HH.out
     have hk1:Kept (fun k=>(Value.slice kd l.length kcap).ownBlock = some k) wo w6:=Kept.trans' (((((Kept.refl _ wo).alloc _).drewN m).drewN nq).alloc _) ⟨hgrow6.os,hgrow6.tape,hgrow6.output,hgrow6.size,fun k hk he=>hgrow6.block k hk (fun e=>he e.symm)⟩
     have q1':Below w.heap.size w w6:=q1.trans ⟨hk1.os,hk1.tape,hk1.output,hk1.size,fun k hk=>hk1.block k (by have:=q3.lt; omega) (fun e=>by have:=q5 k e; omega)⟩
     have q2':=q2.kept hk1 (fun e=>by have:=q5 _ e; omega)
     have q3':=q3.kept hk1 (fun e=>by have:=q5 _ e; omega)
     have q4':=setRow_push hown6
     have hgg:w.heap.size + 1 < gg:=by
      rcases hat6 with e | e
      ·exact q5 _ e
      ·have:=q3.lt; omega
     have k7:w6.cell? ⟨w.heap.size + 1,b,none⟩ = some (.int .i64 0):=by rw [q3'.cell,kindC_get _ b hlt]; simp
     have kf7:=q3'.frozen b
     have HHX:Hid (Below w.heap.size w w6∧Blk w6 w.heap.size Tryz.zeroCells59 59∧Blk w6 (w.heap.size + 1) (kindC (fun j=>if j < b then kindOf al j else 0)) 59∧SetRow w6 (.slice (some ⟨gg,0,none⟩) (l.length + 1) cap2) (l ++ [s])):=⟨q1',q2',q3',q4'⟩
     clear q1 q2 q3 q4 q5 q1' q2' q3' q4' hk1 hown6 hgrow6 hat6 HH HOL k0 kf0
     go_wp2_with fail
     go_roundg (256 - (b + 1))
     case measure=>omega
     case rel =>
      obtain ⟨q1,q2,q3,q4⟩:=HHX.out
      have hst:kindsAt al (b + 1) = l ++ [s]:=by simpa using HST.out
      refine ⟨b + 1,by omega,rfl,by go_num,q1.setCell (by simp) _,q2.setOther (by simp) _,?_,?_,?_⟩
      ·rw [← HKST.out]; exact q3.set b _
      ·rw [hst]
       exact q4.kept (Kept.setCell (ex:=fun k=>k = w.heap.size + 1) (p:=⟨w.heap.size + 1,b,none⟩) (Kept.refl _ _) (fun _=>rfl) _) (fun b' hb e=>by cases (Option.some.inj hb:gg = b'); omega)
      ·intro k e
       cases (Option.some.inj e:gg = k)
       exact hgg
  ·have e0:decide ((b:Int) < 256) = false:=by simp; omega
   obtain rfl:b = 256:=by omega
   have e1:kindC (fun j=>if j < 256 then kindOf al j else 0) = kindC (kindOf al):=kindC_congr (fun i hi=>by simp [hi])
   rw [e1] at hK
   obtain ⟨kd,kcap,rfl,hkrow⟩:=hS.form
   have HHX:Hid (Below w.heap.size w wr∧SetRow wr (.slice kd (kindsAt al 256).length kcap) (kindsAt al 256)∧∀ k,(Value.slice kd (kindsAt al 256).length kcap).ownBlock = some k→w.heap.size + 1 < k):=⟨hb,hS,hkO⟩
   have HZ:=hide hZ
   have HK:=hide hK
   clear hb hS hkO e1 hZ hK
   go_wp2_with (first | refine loadK rfl (.tmp 4) rfl (w.heap.size + 1) rfl HK.out ?_ | refine storeK rfl (.tmp 2) (.tmp 45) rfl w.heap.size rfl rfl HZ.out zeroK ?_)
   obtain ⟨q1,q2,q3⟩:=HHX.out
   refine bodyPost_ret (results_cell_tmp Tryz.results44 _ _ w.heap.size 59 _ (0,0) _ rfl (HZ.out.setRow _) Tryz.underlying59 rfl (by rw [kindC_size]; exact Tryz.infoK)) rfl ⟨_,rfl,?_,Below_setRow q1 (Nat.le_refl _) _⟩
   exact q2.kept (Kept.setRow (ex:=fun k=>k = w.heap.size) (Kept.refl _ _) (fun _=>rfl) _) (fun b' hb e=>by have:=q3 b' hb; omega)
end Go.Proofs.YtcckhngbdoiikaaGreat
