import Derived.Test.YtcckhngbdoiikaaGreatG12
import Derived.Deep.RegionLaw

namespace Go.Proofs.YtcckhngbdoiikaaGreat
open Go.RowKit Go.Deep
set_option linter.unusedVariables false
theorem RulesAt.growLast {w w':World} {gb g cap:Nat} {O:Nat→Prop} {R:RulesT} {fv lv:Value} {s:PSet} (h:RulesAt w gb O R fv lv)
  (hown:w'.ownsRow 0 109 2 (.slice (some ⟨g,0,none⟩) (R.last.length + 1) cap) (R.last.length + 1) (setsC R.last ++ setsC [s]))
  (hg:w.grownBy w' lv.ownBlock) (hat:lv.ownBlock = some g∨g = w.heap.size) (hlt:g < w'.heap.size) :
  RulesAt (w'.setCell ⟨gb,515,none⟩ (.slice (some ⟨g,0,none⟩) (R.last.length + 1) cap)) gb (fun k=>O k∨k = g) { R with last:=R.last ++ [s] } fv (.slice (some ⟨g,0,none⟩) (R.last.length + 1) cap)∧Kept O w w'∧Blk w' gb (rulesC R.allow R.first fv lv) 113:=by
 have hk:Kept O w w':=Kept_grown hg (fun k e=>(h.ola k e).1)
 have hgb:=h.blk.lt
 have hne:g ≠ gb:=by
  rcases hat with e | e
  ·exact (h.ola g e).2
  ·omega
 have hgl:∀ k,fv.ownBlock = some k→k ≠ g:=by
  intro k e he
  subst he
  rcases hat with e' | e'
  ·exact h.ne _ e e'
  ·have:=h.olt _ (h.ofo _ e).1; omega
 have hb:Blk w' gb (rulesC R.allow R.first fv lv) 113:=by
  have:=hg.block gb hgb (fun e=>(h.ola gb e.symm).2 rfl)
  unfold Blk
  rw [this]; exact h.blk
 have hl:w'.ownsRow 0 109 2 fv R.follow.length (setsC R.follow):=h.fol.kept hg (by
  cases e:fv.ownBlock with
  |none=>exact .inl rfl
  |some k=>exact .inr (fun e'=>h.ne k e e'.symm))
 refine ⟨⟨?_,?_,?_,.inl h.og,?_,?_,?_,?_⟩,hk,hb⟩
 ·have:=hb.set 515 (.slice (some ⟨g,0,none⟩) (R.last.length + 1) cap)
  rw [rulesC_setLast] at this
  exact this
 ·exact ownsRow_setOther hl (fun e=>(h.ofo _ e).2 rfl) _
 ·have:=ownsRow_setOther hown (p:=⟨gb,515,none⟩) (fun e=>hne (Option.some.inj e)) (.slice (some ⟨g,0,none⟩) (R.last.length + 1) cap)
  rw [← setsC_append] at this
  show World.ownsRow _ 0 109 2 _ (R.last ++ [s]).length _
  rw [List.length_append]
  exact this
 ·exact fun k e=>⟨.inl (h.ofo k e).1,(h.ofo k e).2⟩
 ·intro k e
  cases (Option.some.inj e:g = k)
  exact ⟨.inr rfl,hne⟩
 ·intro k e e'
  cases (Option.some.inj e':g = k)
  exact hgl _ e rfl
 ·intro k e
  simp
  rcases e with e | e
  ·exact Nat.lt_of_lt_of_le (h.olt k e) hk.size
  ·omega
set_option maxHeartbeats 3200000 in
theorem endRule_any (R:RulesT) (gb:Nat) (O:Nat→Prop) (fv lv:Value) (p:PartT) (w:World) (h:RulesAt w gb O R fv lv) (hl:R.last.length ≤ 1000) :
  Calls Tryz.prog 118 #[.pointer (some ⟨gb,0,none⟩),partV p] w fun e w' =>
   e = .returned (.tuple #[])∧∃ O' lv',RulesAt w' gb O' (R.endRule p) fv lv'∧Kept O w w'∧∀ k,O' k→O k∨w.heap.size ≤ k:=by
 obtain ⟨_,ad,cap,hlv,hrow⟩:=ownsRow_form h.las
 obtain ⟨pf,pl,pe⟩:=p
 have c512:w.cell? ⟨gb,512,none⟩ = some (.int .u64 (R.first.lo.toNat:Int)):=by rw [h.blk.cell]; exact rulesC_512 _ _ _ _
 have c513:w.cell? ⟨gb,513,none⟩ = some (.int .u64 (R.first.hi.toNat:Int)):=by rw [h.blk.cell]; exact rulesC_513 _ _ _ _
 have f512:=h.blk.frozen 512
 have f513:=h.blk.frozen 513
 have hgb:=h.blk.lt
 have hgb1:gb < w.heap.size + 1:=by omega
 have hgb9:gb < (w.alloc (.cells (partC ⟨pf,pl,pe⟩) 206)).drew.heap.size:=by simp; omega
 have cc512:(w.alloc (.cells (partC ⟨pf,pl,pe⟩) 206)).drew.cell? ⟨gb,512,none⟩ = some (.int .u64 (R.first.lo.toNat:Int)):=by rw [(h.alloc _).drew.blk.cell]; exact rulesC_512 _ _ _ _
 have cc513:(w.alloc (.cells (partC ⟨pf,pl,pe⟩) 206)).drew.cell? ⟨gb,513,none⟩ = some (.int .u64 (R.first.hi.toNat:Int)):=by rw [(h.alloc _).drew.blk.cell]; exact rulesC_513 _ _ _ _
 have ff512:=(h.alloc (.cells (partC ⟨pf,pl,pe⟩) 206)).drew.blk.frozen 512
 have ff513:=(h.alloc (.cells (partC ⟨pf,pl,pe⟩) 206)).drew.blk.frozen 513
 have HC:=hide (And.intro cc512 (And.intro cc513 (And.intro ff512 (And.intro ff513 hgb9))))
 clear cc512 cc513 ff512 ff513 hgb9
 have HR:=hide h
 have HLV:=hide hlv
 clear h hrow hlv
 go_enter Tryz.func118,Tryz.ntmps118
 go_wp2_with fail
 go_region_with (go_at_call 120; refine (or_any R.first pf _).mono ?_; rintro e w1 ⟨rfl,hb1⟩; have q0:=(hb1.cell (p:=⟨gb,512,none⟩) HC.out.2.2.2.2).trans HC.out.1; have q1:=(hb1.cell (p:=⟨gb,513,none⟩) HC.out.2.2.2.2).trans HC.out.2.1; have q2:=(hb1.frozen (p:=⟨gb,512,none⟩) HC.out.2.2.2.2).trans HC.out.2.2.1; have q3:=(hb1.frozen (p:=⟨gb,513,none⟩) HC.out.2.2.2.2).trans HC.out.2.2.2.1)
 all_goals
  have hR2:=((HR.out.alloc _).drew.below hb1).setFirst (R.first.or pf)
  have hOg:O gb:=HR.out.og
  have nO:∀ k,O k→k < w.heap.size:=HR.out.olt
  have hk2:=((((((Kept.refl O w).alloc (.cells (partC ⟨pf,pl,pe⟩) 206)).drew).below hb1).setCell (p:=⟨gb,512,none⟩) (fun _=>hOg) (.int .u64 ((R.first.or pf).lo.toNat:Int))).setCell (p:=⟨gb,513,none⟩) (fun _=>hOg) (.int .u64 ((R.first.or pf).hi.toNat:Int)))
  have hP2:=(((((Blk.new w (partC ⟨pf,pl,pe⟩) 206).drew).below hb1).setOther (p:=⟨gb,512,none⟩) (by simp; omega) (.int .u64 ((R.first.or pf).lo.toNat:Int))).setOther (p:=⟨gb,513,none⟩) (by simp; omega) (.int .u64 ((R.first.or pf).hi.toNat:Int)))
  clear q0 q1 q2 q3 c512 c513 f512 f513 HC hb1 HR
  generalize ((w1.setCell ⟨gb,512,none⟩ (.int .u64 ((R.first.or pf).lo.toNat:Int))).setCell ⟨gb,513,none⟩ (.int .u64 ((R.first.or pf).hi.toNat:Int))) = w2 at hR2 hk2 hP2 ⊢
  have c515:w2.cell? ⟨gb,515,none⟩ = some (.slice ad R.last.length cap):=by rw [hR2.blk.cell,rulesC_515,HLV.out]
  have f515:=hR2.blk.frozen 515
  have b2:w2.cell? ⟨w.heap.size,2,none⟩ = some (.int .u64 (pl.lo.toNat:Int)):=hP2.cell 2
  have b3:w2.cell? ⟨w.heap.size,3,none⟩ = some (.int .u64 (pl.hi.toNat:Int)):=hP2.cell 3
  have z1:gb < w2.heap.size:=hR2.blk.lt
  have z2:w.heap.size < w2.heap.size:=hP2.lt
  have hlvne:lv.ownBlock ≠ some gb:=fun e=>(hR2.ola gb e).2 rfl
  obtain ⟨i,hi,hz0,hz1,hz2⟩:=info_parts Tryz.infoS3
  have hol:=(hR2.las.alloc (.cells (setC pl) 109)).drew
  rw [HLV.out] at hol
  rw [HLV.out] at hlvne
  have HO:=hide hol
  have HHR:=hide hR2
  have HHK:=hide hk2
  have HHN:=hide hlvne
  have HNO:=hide nO
  clear hol hR2 hk2 hlvne hP2 nO
  go_wp2_with fail
  go_region_law ((refine step_append_lies _ (by rfl) _ _ _ (by rfl) 0 109 i _ 2 16 Tryz.underlying111 hi hz0 hz1 hz2 rfl (by omega) (.slice ad R.last.length cap) R.last.length (setsC R.last) (by rfl) HO.out ⟨w2.heap.size,0,none⟩ 1 1 [.int .u64 (pl.lo.toNat:Int),.int .u64 (pl.hi.toNat:Int)] (by rfl) (by rfl) (World.news_of_block (cs:=setC pl) (t:=109) (fr:=(0,0)) (heap_alloc_new w2 _)) (by simp [Value.oneCell']) (by omega) (by unfold maxLen; omega) (by omega) (by simp) (w2.heap.size + 1) (by simp) ?_; intro g cap2 w3 hown3 hgrow3 hat3 hlt3; have cg3:=(hgrow3.cell_far ⟨gb,515,none⟩ (by simp; omega) (Ne.symm HHN.out)).trans (((World.cell?_alloc_past _ _ _ z1)).trans c515); have fg3:=(hgrow3.frozen_far ⟨gb,515,none⟩ (by simp; omega) (Ne.symm HHN.out)).trans (((World.frozen?_alloc_past _ _ _ z1)).trans f515)))
  all_goals
   go_wp2_with fail
   go_end0
   have hR3:=((HHR.out).alloc (.cells (setC pl) 109)).drew
   rw [← HLV.out] at hgrow3 hat3
   obtain ⟨q1,q2,q3⟩:=hR3.growLast (s:=pl) hown3 hgrow3 (by simpa using hat3) hlt3
   refine ⟨rfl,_,_,q1,((((HHK.out).alloc _).drew).trans' q2).setCell (fun _=>hOg) _,fun k hk=>hk.elim .inl (fun e=>?_)⟩
   subst e
   rcases hat3 with e | e
   ·exact .inl ((HHR.out.ola _ e).1)
   ·exact .inr (by omega)
end Go.Proofs.YtcckhngbdoiikaaGreat
