import Derived.Test.YtcckhngbdoiikaaGreatG30

namespace Go.Proofs.YtcckhngbdoiikaaGreat
open Go.RowKit Go.Deep
set_option linter.unusedVariables false
theorem Kept.inner {c:AlC} {w wr w2:World} {g:Nat} (q2:Kept c.M w wr) (r2:Kept (fun x=>x = g) wr w2) (hg:w.heap.size ≤ g):Kept c.M w w2 :=
 ⟨r2.os.trans q2.os,r2.tape.trans q2.tape,r2.output.trans q2.output,by have:=q2.size; have:=r2.size; omega,fun k hk he=>(r2.block k (by have:=q2.size; omega) (by omega)).trans (q2.block k hk he)⟩
theorem some_fin {c:AlC} {A:Nat→Prop} {w wr:World} {p b k:Nat} {v:Value} {l:List MT} {lo:List Bool} (hkk:k = 2∨k = 4) (hA:∀ b,A b→b < w.heap.size) (hm:AMemo c A w) (hp:p ≤ c.s.size) (hs:c.s.size ≤ 20000) (q1:lo.length = c.N) (q2:∀ q,q ≤ c.s.size→(lo.getD q false = true↔EndsW (bytesN c.s) (anyWord (ntL l)) p q))
  (q3:AMemo c (fun b=>A b∨b = w.heap.size) wr) (q4:Kept c.M w wr) (q5:Blk wr w.heap.size (boolsA lo) 4) (xx:Bool) (hxx:xx = (lo.getD p false || decide (k = 4))) :
  ROut c A w (rowW (bytesN c.s) (MT.node b v k l).nt.Word p) (.returned (.slice (some ⟨w.heap.size,0,none⟩) c.N c.N)) (wr.setCell ⟨w.heap.size,p,none⟩ (.bool xx)):=by
 have hN2:c.N ≤ 20001:=by unfold AlC.N; omega
 have hpN:p < c.N:=AlC.ltN.2 hp
 have hu:=hm.ult
 have kS:=(Kept.refl (fun b=>b = w.heap.size) wr).setCell (p:=⟨w.heap.size,p,none⟩) (fun _=>rfl) (.bool xx)
 refine ⟨w.heap.size,rfl,fun e=>by have:=hA _ e; omega,?_,(q3.keptA kS (.inr rfl) (fun n hn=>by have:=hu n hn; omega) q5).weak (fun b e=>.inl e) (fun n hn=>(hm.wrow n hn).1),q4.inner kS (Nat.le_refl _)⟩
 have hB9:=q5.set p (.bool xx)
 rw [boolsA_set] at hB9
 have h6:=BRow.ofBlk hB9 (by rw [List.length_set,q1]; omega)
 rw [List.length_set,q1] at h6
 have e:lo.set p xx = rowW (bytesN c.s) (MT.node b v k l).nt.Word p:=by
  refine rowW_ext (by rw [List.length_set,q1,bytesN_len]; rfl) fun q hq=>?_
  rw [bytesN_len] at hq
  rw [getD_setB _ _ _ _ (by rw [q1]; exact hpN),hxx]
  simp only [MT.nt]
  have hq2:=q2 q hq
  rcases hkk with rfl | rfl
  ·rw [endsW_congr (word_ether _),← hq2]
   by_cases hqp:q = p
   ·subst hqp; simp
   ·simp [hqp]
  ·rw [endsW_congr (word_maybe _),ends_maybe (by rw [bytesN_len]; exact hp),← hq2]
   by_cases hqp:q = p
   ·subst hqp; simp
   ·simp [hqp]
 rw [← e]
 exact h6
set_option maxRecDepth 20000 in
set_option maxHeartbeats 6400000 in
theorem find_some (c:AlC) (b k:Nat) (v:Value) (l:List MT) (hkk:k = 2∨k = 4) (hT:(MT.node b v k l) ∈ subsL c.rules) (HE:∀ y ∈ l,EndsC c y) (hs:c.s.size ≤ 20000) (hl:l.length ≤ 100000):FindRC c (.node b v k l):=by
 intro A w p hA hm hp
 have hN2:c.N ≤ 20001:=by unfold AlC.N; omega
 have hN1:(c.s.size:Int) + 1 = (c.N:Int):=by unfold AlC.N; omega
 have hmk:=makeBools c.N (by omega)
 have hpN:p < c.N:=AlC.ltN.2 hp
 have s0:w.cell? ⟨c.ab,0,none⟩ = some (.string c.s):=hm.blk.cell 0
 obtain ⟨ad,cap,rfl,k0,_,_⟩:=kid_cells (AtL.sub c.rules _ hm.prt hT)
 have zb:b < w.heap.size:=MT.At.lt _ (AtL.sub c.rules _ hm.prt hT) b (by simp [MT.has])
 have HM:=hide hm
 have HAA:=hide hA
 have HU:=hide hm.ult
 have HEE:=hide HE
 have HT:=hide hT
 clear hm hA HE hT
 simp only [MT.root]
 rcases hkk with rfl | rfl
 all_goals
  go_enter Tryz.func131,Tryz.ntmps131
  go_wp2_with fail
  go_loopg [11] l.length (fun G kv wr=>∃ (k:Nat) (lo:List Bool),kv = .int .i64 (k:Int)∧k ≤ l.length∧G = l.length - k∧lo.length = c.N∧(∀ q,q ≤ c.s.size→(lo.getD q false = true↔EndsW (bytesN c.s) (anyWord (ntL (l.take k))) p q))∧AMemo c (fun b=>A b∨b = w.heap.size) wr∧Kept c.M w wr∧Blk wr w.heap.size (boolsA lo) 4)
  case atStart =>
   refine ⟨0,List.replicate c.N false,rfl,by omega,rfl,by simp,fun q hq=>?_,HM.out.fresh.below (Below1 _ _),(Kept.refl _ _).alloc _,Blk.new _ _ _⟩
   constructor
   ·intro h; simp [AlC.ltN.2 hq] at h
   ·rintro ⟨_,_,h⟩; simp [ntL,anyWord] at h
  case round =>
   obtain ⟨k,lo,rfl,hk,rfl,hlo,hsp,hmm,hkp,hB⟩:=hrel
   have zB:=hB.lt
   obtain ⟨ad',cap',hv',k0',c4,ck⟩:=kid_cells (AtL.sub c.rules _ hmm.prt HT.out)
   injection hv' with hv1 hv2 hv3
   subst hv1 hv3
   have hz:=hkp.size
   by_cases hlt:k < l.length
   ·have e0:decide ((k:Int) < (l.length:Int)) = true:=by simp; omega
    obtain ⟨g,rfl,cg⟩:=ck k hlt
    have i0:(0:Int) ≤ (k:Int):=by omega
    have i1:(k:Int) < (l.length:Int):=by omega
    have HF:=hide (HEE.out _ (List.getElem_mem hlt) (fun b=>A b∨b = w.heap.size) wr p (fun b hb=>by rcases hb with e | e; have:=HAA.out b e; omega; omega) hmm hp)
    have HK:=hide (And.intro hlo (And.intro hsp (And.intro hmm (And.intro hkp hB))))
    clear hlo hsp hmm hkp hB ck k0'
    go_wp2_with fail
    refine HF.out.mono ?_
    rintro e w1 ⟨b1,rfl,hnb,hBR,hm1,hk1⟩
    obtain ⟨q1,q2,q3,q4,q5⟩:=HK.out
    have hI1:Blk w1 w.heap.size (boolsA lo) 4:=q3.kept1 hk1 q5 (by decide)
    have HAD:=hide (refAdd_any w.heap.size c.N c.N lo (rowW (bytesN c.s) l[k].nt.Word p) (.slice (some ⟨b1,0,none⟩) c.N c.N) w1 hI1 hBR q1 (rowA_len _ _ _) (fun e=>hnb (.inr (Option.some.inj e))) (by omega))
    have HR:=hide (And.intro hm1 (And.intro (q4.trans hk1 (fun i _ e=>e)) hI1))
    clear q1 q2 q3 q4 q5 hnb hBR hm1 hk1 hI1 HF
    go_wp2_with fail
    refine HAD.out.mono ?_
    rintro e w2 ⟨rfl,hB2,hk2⟩
    have HB2:=hide (And.intro hB2 hk2)
    clear hB2 hk2 HAD
    go_wp2_with fail
    go_roundg (l.length - (k + 1))
    case measure=>omega
    case rel =>
     obtain ⟨r1,r2⟩:=HB2.out
     obtain ⟨a1,a2,a3⟩:=HR.out
     obtain ⟨q1,q2,q3,q4,q5⟩:=HK.out
     refine ⟨k + 1,orL lo (rowW (bytesN c.s) l[k].nt.Word p),by go_num,by omega,rfl,by rw [orL_len]; exact q1,fun q hq=>?_,a1.keptA r2 (.inr rfl) (fun n hn=>by have:=HU.out n hn; omega) a3,a2.inner r2 (Nat.le_refl _),r1⟩
     rw [orL_getD _ _ _ (by rw [q1]; exact AlC.ltN.2 hq) (by rw [rowA_len]; exact AlC.ltN.2 hq),Bool.or_eq_true,q2 q hq,rowW_getD,show l.take (k + 1) = l.take k ++ [l[k]] from (List.take_append_getElem hlt).symm,ntL_snoc,endsW_congr (anyWord_snoc _ _),ends_or]
   ·obtain rfl:k = l.length:=by omega
    have e0:decide ((l.length:Int) < (l.length:Int)) = false:=by simp
    have cP:=boolsA_cellD hB p (by rw [hlo]; exact hpN)
    have fP:=hB.frozen p
    have p0:(0:Int) ≤ (p:Int):=by omega
    have p1:(p:Int) < (c.N:Int):=by omega
    have HH:=hide (And.intro hlo (And.intro hsp (And.intro hmm (And.intro hkp hB))))
    generalize hx:lo.getD p false = x at cP
    have HX:=hide hx
    clear hlo hsp hmm hkp hB ck hx
    cases x
    all_goals
     go_wp2_with fail
     go_ret
     obtain ⟨q1,q2,q3,q4,q5⟩:=HH.out
     rw [List.take_of_length_le (Nat.le_refl _)] at q2
     exact some_fin (by simp) HAA.out HM.out hp hs q1 q2 q3 q4 q5 _ (by rw [HX.out]; rfl)
theorem bytesN_get {s:ByteArray} {p:Nat} (h:p < s.size):(bytesN s)[p]'(by rw [bytesN_len]; exact h) = s[p].toNat:=by
 simp only [bytesN,List.getElem_map,Array.getElem_toList]
 rfl
theorem place_ends {s:ByteArray} {i e p q:Nat} {A:Nat→Bool} (hp:p ≤ s.size):EndsW (bytesN s) (NT.place i e A).Word p q↔(q = p + 1∧∃ h:p < s.size,A s[p].toNat = true):=by
 constructor
 ·rintro ⟨h1,h2,h3⟩
  rw [word_place] at h3
  obtain ⟨x,hx,hA⟩:=h3
  rw [bytesN_len] at h2
  have hl:=congrArg List.length hx
  rw [seg_len (by rw [bytesN_len]; exact h2)] at hl
  simp at hl
  have hq:q = p + 1:=by omega
  subst hq
  have hlt:p < s.size:=by omega
  rw [seg_one (by rw [bytesN_len]; exact hlt),bytesN_get hlt] at hx
  injection hx with hx
  exact ⟨rfl,hlt,by rw [hx]; exact hA⟩
 ·rintro ⟨rfl,h,hA⟩
  refine ⟨by omega,by rw [bytesN_len]; omega,?_⟩
  rw [word_place,seg_one (by rw [bytesN_len]; exact h),bytesN_get h]
  exact ⟨_,rfl,hA⟩
set_option maxRecDepth 20000 in
set_option maxHeartbeats 6400000 in
theorem find_place (c:AlC) (b i e:Nat) (A0:Nat→Bool) (hT:(MT.place b i e A0) ∈ subsL c.rules) (HAL:AllC (c.rs.extract i e) A0) (hs:c.s.size ≤ 20000):FindRC c (.place b i e A0):=by
 intro A w p hA hm hp
 have hN2:c.N ≤ 20001:=by unfold AlC.N; omega
 have hN1:(c.s.size:Int) + 1 = (c.N:Int):=by unfold AlC.N; omega
 have hmk:=makeBools c.N (by omega)
 have s0:w.cell? ⟨c.ab,0,none⟩ = some (.string c.s):=hm.blk.cell 0
 have hbl:=AtL.sub c.rules _ hm.prt hT
 simp only [MT.At] at hbl
 have k0:w.cell? ⟨b,0,none⟩ = some (.int .i64 0):=hbl.cell 0
 have k3:w.cell? ⟨b,3,none⟩ = some (.string (c.rs.extract i e)):=hbl.cell 3
 have zb:=hbl.lt
 have zab:=hm.blk.lt
 have HM:=hide hm
 have HAA:=hide hA
 have HU:=hide hm.ult
 have hmF:=hm.fresh
 have fin:∀ (w1:World) (lo:List Bool),Below w.heap.size w w1→AMemo c (fun b=>A b∨b = w.heap.size) w1→lo.length = c.N→(∀ q,q ≤ c.s.size→(lo.getD q false = true↔EndsW (bytesN c.s) (NT.place i e A0).Word p q))→Blk w1 w.heap.size (boolsA lo) 4→ROut c A w (rowW (bytesN c.s) (MT.place b i e A0).nt.Word p) (.returned (.slice (some ⟨w.heap.size,0,none⟩) c.N c.N)) w1:=by
  intro w1 lo a1 a2 a3 a4 a5
  refine ⟨w.heap.size,rfl,fun e=>by have:=hA _ e; omega,?_,a2.weak (fun b e=>.inl e) (fun n hn=>(hm.wrow n hn).1),Kept.ofBelow a1⟩
  have h6:=BRow.ofBlk a5 (by rw [a3]; omega)
  rw [a3] at h6
  have e9:lo = rowW (bytesN c.s) (MT.place b i e A0).nt.Word p:=rowW_ext (by rw [a3,bytesN_len]; rfl) (fun q hq=>by simp only [MT.nt]; exact a4 q (by rw [bytesN_len] at hq; exact hq))
  rw [← e9]; exact h6
 have FIN:=hide fin
 have hF0:=hmF.below (Below1 w (.cells (boolsA (List.replicate c.N false)) 4))
 clear hm hA hT fin hbl hmF
 simp only [MT.root]
 by_cases hlt:p < c.s.size
 ·have e0:decide ((p:Int) < (c.s.size:Int)) = true:=by simp; omega
  have HF0:=hide hF0
  have HB0:=hide (Blk.new w (boolsA (List.replicate c.N false)) 4)
  obtain ⟨w1,hw1⟩:∃ w1:World,w.alloc (.cells (boolsA (List.replicate c.N false)) 4) = w1:=⟨_,rfl⟩
  have hb1:Below w.heap.size w w1:=by rw [← hw1]; exact Below1 _ _
  rw [hw1] at HF0 HB0
  have t0:w1.cell? ⟨c.ab,0,none⟩ = some (.string c.s):=(hb1.cell (p:=⟨c.ab,0,none⟩) zab).trans s0
  have t3:w1.cell? ⟨b,3,none⟩ = some (.string (c.rs.extract i e)):=(hb1.cell (p:=⟨b,3,none⟩) zb).trans k3
  have t00:w1.cell? ⟨b,0,none⟩ = some (.int .i64 0):=(hb1.cell (p:=⟨b,0,none⟩) zb).trans k0
  have HBW:=hide hb1
  have z1:w.heap.size < w1.heap.size:=HB0.out.lt
  have S0:w1.drew.cell? ⟨c.ab,0,none⟩ = some (.string c.s)∧w1.drew.cell? ⟨b,3,none⟩ = some (.string (c.rs.extract i e)):=⟨t0,t3⟩
  obtain ⟨ch,hch⟩:∃ ch,c.s[p].toNat = ch:=⟨_,rfl⟩
  have hch2:ch < 256:=by rw [← hch]; exact c.s[p].toNat_lt
  have hch3:(c.s[p].toNat:Int) = (ch:Int):=by rw [hch]
  have hwc:wrap64 ((c.s[p].toNat:Nat):Int) = (ch:Int):=by rw [hch]; unfold wrap64; omega
  have hwc2:IntKind.i64.wrap (ch:Int) = (ch:Int):=by rw [Go.IntWalk.i64_left]; unfold wrap64; omega
  have hwp:IntKind.i64.wrap ((p:Int) + 1) = (p:Int) + 1:=by rw [Go.IntWalk.i64_left]; unfold wrap64; omega
  have HCH:=hide hch
  have HC:=hide (HAL ch w1.drew hch2)
  have p0:(0:Int) ≤ (p:Int):=by omega
  have p1:(p:Int) < (c.s.size:Int):=by omega
  have p2:(0:Int) ≤ (p:Int) + 1:=by omega
  have p3:(p:Int) + 1 < (c.N:Int):=by omega
  have hpN:p + 1 < c.N:=by unfold AlC.N; omega
  obtain ⟨tx,htx⟩:∃ tx,c.rs.extract i e = tx:=⟨_,rfl⟩
  rw [htx] at t3 S0 HC k3
  clear hF0 hb1 HAL htx hch
  go_enter Tryz.func131,Tryz.ntmps131
  go_upto_region 15 with fail
  try rw [hw1]
  clear hw1 s0 k0 k3 hmk
  have hneg:w.heap.size ≠ c.ab:=by omega
  have hneb:w.heap.size ≠ b:=by omega
  have cO:=boolsA_cellD HB0.out (p + 1) (by simp; exact hpN)
  have fO:=HB0.out.frozen (p + 1)
  rw [hch3] at hwc
  go_region_held3 (fun w'=>w'.cell? ⟨c.ab,0,none⟩ = some (.string c.s)∧w'.cell? ⟨b,3,none⟩ = some (.string tx))
   (first | with_reducible exact S0 | with_reducible exact S1 | exact ⟨by simp [g0,hneg,World.cell?_setCell_far],by simp [g3,hneb,World.cell?_setCell_far]⟩)
   (first | (go_at_call 97; refine HC.out.mono ?_; rintro e w2 ⟨rfl,hb2⟩; have hb2':=(Below_drew' w1).trans (hb2.mono (Nat.le_refl _)); have g0:=(hb2'.cell (p:=⟨c.ab,0,none⟩) (by show c.ab < w1.heap.size; omega)).trans t0; have g3:=(hb2'.cell (p:=⟨b,3,none⟩) (by show b < w1.heap.size; omega)).trans t3; have S1:=And.intro g0 g3; have g5:=(hb2'.cell (p:=⟨w.heap.size,p + 1,none⟩) z1).trans cO; have g6:=(hb2'.frozen (p:=⟨w.heap.size,p + 1,none⟩) z1).trans fO; have HB2:=hide hb2'; clear hb2 hb2'))
  go_wp2_with fail
  go_ret
  have hb2:=HB2.out
  have hz2:=hb2.size
  have kS:=(Kept.refl (fun b=>b = w.heap.size) w2).setCell (p:=⟨w.heap.size,p + 1,none⟩) (fun _=>rfl) (.bool (A0 ch))
  have hBO:=HB0.out.below hb2
  refine FIN.out _ ((List.replicate c.N false).set (p + 1) (A0 ch)) (Below_kept (HBW.out.trans (hb2.mono (by omega))) kS (by omega) (fun x hx e=>by omega)) ((HF0.out.below hb2).keptA kS (.inr rfl) (fun n hn=>by have:=HU.out n hn; omega) hBO) (by simp) (fun q hq=>?_) (by rw [← boolsA_set]; exact hBO.set (p + 1) _)
  rw [place_ends hp,getD_setB _ _ _ _ (by simp; exact hpN)]
  by_cases hq1:q = p + 1
  ·rw [if_pos hq1]
   exact ⟨fun h=>⟨hq1,hlt,by rw [HCH.out]; exact h⟩,fun ⟨_,_,h⟩=>by rw [HCH.out] at h; exact h⟩
  ·rw [if_neg hq1]
   exact ⟨fun h=>by simp [AlC.ltN.2 hq] at h,fun ⟨h,_⟩=>absurd h hq1⟩
 ·have e0:decide ((p:Int) < (c.s.size:Int)) = false:=by simp; omega
  have HF0:=hide hF0
  clear hF0
  go_enter Tryz.func131,Tryz.ntmps131
  go_wp2_with fail
  go_ret
  refine FIN.out _ (List.replicate c.N false) (Below1 _ _) HF0.out (by simp) (fun q hq=>?_) (Blk.new _ _ _)
  rw [place_ends hp]
  constructor
  ·intro h; simp [AlC.ltN.2 hq] at h
  ·rintro ⟨_,h,_⟩; omega
mutual
theorem partsL_sub:∀ (L:List MT) (T:MT),T ∈ subsL L→T.nt.parts ≤ partsL (ntL L)
 | [],T,h=>by simp [subsL] at h
 |x :: L,T,h=>by
  simp only [subsL,List.mem_append] at h
  simp only [ntL,partsL]
  rcases h with h | h
  ·have:=MT.parts_sub x T h; omega
  ·have:=partsL_sub L T h; omega
theorem MT.parts_sub:∀ (U T:MT),T ∈ U.subs→T.nt.parts ≤ U.nt.parts
 | .place b i e A,T,h=>by
  simp only [MT.subs,List.mem_singleton] at h
  rw [h]; exact Nat.le_refl _
 | .node b v k l,T,h=>by
  simp only [MT.subs,List.mem_cons] at h
  rcases h with h | h
  ·rw [h]; exact Nat.le_refl _
  ·have:=partsL_sub l T h
   simp only [MT.nt,NT.parts]; omega
end
theorem PlaceIs.allows {s:ByteArray} {i e:Nat} {A:Nat→Bool} (hs:s.size ≤ 120) (h:PlaceIs s i e A):AllC (s.extract i e) A:=by
 have hl:=h.lt
 exact allows_place (by rw [extract_size hl.2]; omega) h.sub
mutual
theorem ends_all (c:AlC) (hs:c.s.size ≤ 20000) (hwf:WfL c.rs (ntL c.rules)) (hrs:c.rs.size ≤ 120) (hpt:c.parts ≤ 100000):∀ T:MT,T ∈ subsL c.rules→EndsC c T
 | .place b i e A,h=>by
  have hw:=wfL_sub c.rules _ hwf h
  simp only [MT.nt,NT.Wf] at hw
  exact ends_any c _ h (find_place c b i e A h (hw.allows hrs) hs)
 | .node b v k l,h=>by
  have hw:=wfL_sub c.rules _ hwf h
  have hp:=partsL_sub c.rules _ h
  have hl:=partsL_len l
  have hkid:=endsL_all c hs hwf hrs hpt l (fun y hy=>subsL_kid c.rules _ h b v k l rfl y hy)
  simp only [MT.nt,NT.Wf,NT.parts] at hw hp
  have hll:l.length ≤ 100000:=by unfold AlC.parts at hpt; omega
  rcases hw.1 with e | e | ⟨e,e2⟩ | e
  ·subst e; exact ends_any c _ h (find_row1 c b v l h hkid hs hll)
  ·exact ends_any c _ h (find_some c b k v l (.inl e) h hkid hs hll)
  ·subst e
   rw [ntL_len] at e2
   obtain ⟨y,rfl⟩:=List.length_eq_one_iff.1 e2
   exact ends_any c _ h (find_many c b v y h (hkid y (by simp)) hs)
  ·exact ends_any c _ h (find_some c b k v l (.inr e) h hkid hs hll)
theorem endsL_all (c:AlC) (hs:c.s.size ≤ 20000) (hwf:WfL c.rs (ntL c.rules)) (hrs:c.rs.size ≤ 120) (hpt:c.parts ≤ 100000):∀ (l:List MT),(∀ y ∈ l,y ∈ subsL c.rules)→∀ y ∈ l,EndsC c y
 | [],_,y,h=>by simp at h
 |x :: l,hl,y,h=>by
  rw [List.mem_cons] at h
  rcases h with rfl | h
  ·exact ends_all c hs hwf hrs hpt y (hl y (by simp))
  ·exact endsL_all c hs hwf hrs hpt l (fun z hz=>hl z (by simp [hz])) y h
end
def PL (c:AlC) (T:MT) (j a:Nat):Prop:=j < c.s.size∧T.nt.PLast ((bytesN c.s).drop j) a
theorem split_drop {L u v:List Nat} {i:Nat} (hi:i ≤ L.length):L.drop i = u ++ v↔∃ m,i ≤ m∧m ≤ L.length∧seg L i m = u∧L.drop m = v:=by
 constructor
 ·intro h
  have hl:=congrArg List.length h
  simp only [List.length_drop,List.length_append] at hl
  refine ⟨i + u.length,by omega,by omega,?_,?_⟩
  ·unfold seg; rw [h,show i + u.length - i = u.length by omega]; simp
  ·rw [← List.drop_drop,h]; simp
 ·rintro ⟨m,h1,h2,rfl,rfl⟩
  unfold seg
  have e:L.drop m = (L.drop i).drop (m - i):=by rw [List.drop_drop]; congr 1; omega
  rw [e,List.take_append_drop]
mutual
theorem NT.plast_ne:∀ (x:NT) (a:Nat),¬ x.PLast [] a
 | .place i e A,a,h=>by rw [last_place] at h; obtain ⟨x,h1,_⟩:=h; cases h1
 | .node k l,a,h=>by
  rw [NT.PLast] at h
  rcases h with ⟨_,h⟩ | ⟨_,h⟩ | ⟨_,u,v,h1,_,h3⟩
  ·exact rowLast_ne l a h
  ·exact anyLast_ne l a h
  ·have hv:v = []:=by cases u <;> simp at h1; exact h1
   rw [hv] at h3
   exact anyLast_ne l a h3
theorem rowLast_ne:∀ (l:List NT) (a:Nat),¬ rowLast l [] a
 | [],a,h=>by simp [rowLast] at h
 |y :: l,a,h=>by
  simp only [rowLast] at h
  rcases h with h | ⟨u,v,h1,_,h3⟩
  ·exact NT.plast_ne y a h
  ·have hv:v = []:=by cases u <;> simp at h1; exact h1
   rw [hv] at h3
   exact rowLast_ne l a h3
theorem anyLast_ne:∀ (l:List NT) (a:Nat),¬ anyLast l [] a
 | [],a,h=>by simp [anyLast] at h
 |y :: l,a,h=>by
  simp only [anyLast] at h
  rcases h with h | h
  ·exact NT.plast_ne y a h
  ·exact anyLast_ne l a h
end
theorem PL.lt {c:AlC} {T:MT} {j a:Nat} (h:T.nt.PLast ((bytesN c.s).drop j) a):j < c.s.size:=by
 refine Nat.lt_of_not_le fun hn=>?_
 rw [List.drop_eq_nil_of_le (by rw [bytesN_len]; exact hn)] at h
 exact NT.plast_ne _ _ h
structure LSt (c:AlC) (A:Nat→Prop) (og:Nat) (w:World) (lo:List Bool) (wl:Nat→List Bool):Prop where
 memo:AMemo c A w
 aog:A og
 alt:∀ b,A b→b < w.heap.size
 len:lo.length = 120
 blk:Blk w og (boolsA lo) 4
 was:∀ n,n < c.parts→(wl n).length = c.N∧Blk w (c.U n) (boolsA (wl n)) 4
 nog:∀ n,n < c.parts→c.U n ≠ og
theorem LSt.keptM {c:AlC} {A:Nat→Prop} {og:Nat} {w w':World} {lo:List Bool} {wl:Nat→List Bool} (h:LSt c A og w lo wl) (k:Kept c.M w w') (hm:AMemo c A w'):LSt c A og w' lo wl :=
 ⟨hm,h.aog,fun b hb=>Nat.lt_of_lt_of_le (h.alt b hb) k.size,h.len,h.memo.kept1 k h.blk (by decide),fun n hn=>⟨(h.was n hn).1,h.memo.kept1 k (h.was n hn).2 (by decide)⟩,h.nog⟩
theorem LSt.below {c:AlC} {A:Nat→Prop} {og:Nat} {w w':World} {lo:List Bool} {wl:Nat→List Bool} (h:LSt c A og w lo wl) (k:Below w.heap.size w w'):LSt c A og w' lo wl:=h.keptM (Kept.ofBelow k) (h.memo.below k)
def updW (wl:Nat→List Bool) (n:Nat) (l:List Bool):Nat→List Bool:=fun m=>if m = n then l else wl m
theorem LSt.mark {c:AlC} {A:Nat→Prop} {og:Nat} {w:World} {lo:List Bool} {wl:Nat→List Bool} (h:LSt c A og w lo wl) {n i:Nat} (hn:n < c.parts):LSt c A og (w.setCell ⟨c.U n,i,none⟩ (.bool true)) lo (updW wl n ((wl n).set i true)):=by
 have k:Kept (fun b=>b = c.U n) w (w.setCell ⟨c.U n,i,none⟩ (.bool true)):=(Kept.refl (fun b=>b = c.U n) _).setCell (p:=⟨c.U n,i,none⟩) (fun _=>rfl) _
 refine ⟨h.memo.setU hn,h.aog,fun b hb=>Nat.lt_of_lt_of_le (h.alt b hb) k.size,h.len,h.blk.kept k (fun e=>h.nog n hn e.symm),fun m hm=>?_,h.nog⟩
 unfold updW
 by_cases e:m = n
 ·subst e
  rw [if_pos rfl]
  exact ⟨by simp [(h.was m hm).1],by rw [← boolsA_set]; exact (h.was m hm).2.set i _⟩
 ·rw [if_neg e]
  exact ⟨(h.was m hm).1,(h.was m hm).2.kept k (fun e'=>e (h.memo.injU m n hm hn e'))⟩
theorem LSt.out {c:AlC} {A:Nat→Prop} {og:Nat} {w:World} {lo:List Bool} {wl:Nat→List Bool} (h:LSt c A og w lo wl) (a:Nat):LSt c A og (w.setCell ⟨og,a,none⟩ (.bool true)) (lo.set a true) wl:=by
 have k:Kept (fun b=>b = og) w (w.setCell ⟨og,a,none⟩ (.bool true)):=(Kept.refl (fun b=>b = og) _).setCell (p:=⟨og,a,none⟩) (fun _=>rfl) _
 exact ⟨h.memo.keptA k h.aog h.nog h.blk,h.aog,fun b hb=>Nat.lt_of_lt_of_le (h.alt b hb) k.size,by simp [h.len],by rw [← boolsA_set]; exact h.blk.set a _,fun m hm=>⟨(h.was m hm).1,(h.was m hm).2.kept k (h.nog m hm)⟩,h.nog⟩
def WasI (c:AlC) (wl:Nat→List Bool) (lo:List Bool) (n m:Nat):Prop:=∀ T ∈ subsL c.rules,∀ id:Nat,c.f T.root = (id:Int)→n ≤ id→id < m→∀ j,(wl id).getD j false = true→∀ a,PL c T j a→lo.getD a false = true
def LOut (c:AlC) (A:Nat→Prop) (og:Nat) (w:World) (lo:List Bool) (wl:Nat→List Bool) (n m:Nat) (Q:Nat→Prop) (e:Ending) (w':World):Prop :=
 e = .returned (.tuple #[])∧∃ lo' wl',LSt c A og w' lo' wl'∧(∀ a,lo'.getD a false = true↔(lo.getD a false = true∨Q a))∧(∀ id,¬ (n ≤ id∧id < m)→wl' id = wl id)∧WasI c wl' lo' n m∧Kept (fun b=>c.M b∨A b) w w'
theorem WasI.grow {c:AlC} {wl wl':Nat→List Bool} {lo lo':List Bool} {n0 m0 n m:Nat} (h0:WasI c wl lo n0 m0) (h:WasI c wl' lo' n m) (hlo:∀ a,lo.getD a false = true→lo'.getD a false = true) (hwl:∀ id,¬ (n ≤ id∧id < m)→wl' id = wl id):WasI c wl' lo' n0 m0:=by
 intro T hT id hid h1 h2 j hj a ha
 by_cases hr:n ≤ id∧id < m
 ·exact h T hT id hid hr.1 hr.2 j hj a ha
 ·rw [hwl id hr] at hj
  exact hlo a (h0 T hT id hid h1 h2 j hj a ha)
def LastC (c:AlC) (T:MT):Prop:=∀ (A:Nat→Prop) (og:Nat) (w:World) (lo:List Bool) (wl:Nat→List Bool) (n i:Nat),T.Numd c.f n→LSt c A og w lo wl→WasI c wl lo n (n + T.nt.parts)→i ≤ c.s.size →
 Calls Tryz.prog 95 #[.pointer (some ⟨c.ab,0,none⟩),.pointer (some ⟨T.root,0,none⟩),.int .i64 (i:Int),.slice (some ⟨og,0,none⟩) 120 120] w (LOut c A og w lo wl n (n + T.nt.parts) (fun a=>PL c T i a))
set_option maxRecDepth 20000 in
set_option maxHeartbeats 3200000 in
theorem lasts_any (c:AlC) (T:MT) (HL:LastC c T) (A:Nat→Prop) (og:Nat) (w:World) (lo:List Bool) (wl:Nat→List Bool) (n:Nat) (hN:T.Numd c.f n) (hst:LSt c A og w lo wl) (hwi:WasI c wl lo n (n + T.nt.parts)) (ng ncap:Nat) (now:List Bool) (hnow:BRow w (.slice (some ⟨ng,0,none⟩) c.N ncap) now) (hl:now.length = c.N) (hna:¬ A ng) (hs:c.s.size ≤ 20000) :
  Calls Tryz.prog 127 #[.pointer (some ⟨c.ab,0,none⟩),.pointer (some ⟨T.root,0,none⟩),.slice (some ⟨ng,0,none⟩) c.N ncap,.slice (some ⟨og,0,none⟩) 120 120] w (LOut c A og w lo wl n (n + T.nt.parts) (fun a=>∃ j,now.getD j false = true∧PL c T j a)):=by
 have hN2:c.N ≤ 20001:=by unfold AlC.N; omega
 have HLA:=hide HL
 have HI:=hide (And.intro hN (And.intro hst (And.intro hwi (And.intro hnow (And.intro hl hna)))))
 clear HL hN hst hwi hnow hl hna
 go_enter Tryz.func127,Tryz.ntmps127
 go_wp2_with fail
 go_loopg [8] c.N (fun G jv wr=>∃ (j:Nat) (lo':List Bool) (wl':Nat→List Bool),jv = .int .i64 (j:Int)∧j ≤ c.N∧G = c.N - j∧LSt c A og wr lo' wl'∧(∀ a,lo'.getD a false = true↔(lo.getD a false = true∨∃ i,i < j∧now.getD i false = true∧PL c T i a))∧(∀ id,¬ (n ≤ id∧id < n + T.nt.parts)→wl' id = wl id)∧WasI c wl' lo' n (n + T.nt.parts)∧Kept (fun b=>c.M b∨A b) w wr)
 case atStart =>
  obtain ⟨a1,a2,a3,a4,a5,a6⟩:=HI.out
  exact ⟨0,lo,wl,rfl,by omega,rfl,a2,fun a=>⟨fun h=>.inl h,fun h=>by rcases h with h | ⟨i,hi,_⟩; exact h; omega⟩,fun _ _=>rfl,a3,Kept.refl _ _⟩
 case round =>
  obtain ⟨j,lo',wl',rfl,hj,rfl,hst,hlo,hwl,hwi,hk⟩:=hrel
  by_cases hlt:j < c.N
  ·have e0:decide ((j:Int) < (c.N:Int)) = true:=by simp; omega
   obtain ⟨a1,a2,a3,a4,a5,a6⟩:=HI.out
   have hnw:BRow wr (.slice (some ⟨ng,0,none⟩) c.N ncap) now:=a4.kept hk (fun b hb e=>by
    cases (Option.some.inj hb:ng = b)
    rcases e with e | e
    ·obtain ⟨cs,h1⟩:=a2.memo.type e
     exact ownsRow_ne a4 h1 (by decide) rfl
    ·exact a6 e)
   have cN:=hnw.cellD j (by rw [a5]; exact hlt)
   have j0:(0:Int) ≤ (j:Int):=by omega
   have j1:(j:Int) < (c.N:Int):=by omega
   have HC:=hide (HLA.out A og wr lo' wl' n j a1 hst hwi (AlC.ltN.1 hlt))
   have HH:=hide (And.intro hst (And.intro hlo (And.intro hwl (And.intro hwi hk))))
   clear hst hlo hwl hwi hk a1 a2 a3 a4 a5 a6 hnw
   generalize hx:now.getD j false = x at cN
   have HX:=hide hx
   clear hx
   cases x with
   |false =>
    go_wp2_with fail
    go_roundg (c.N - (j + 1))
    case measure=>omega
    case rel =>
     obtain ⟨b1,b2,b3,b4,b5⟩:=HH.out
     refine ⟨j + 1,lo',wl',by go_num,by omega,rfl,b1,fun a=>?_,b3,b4,b5⟩
     rw [b2 a]
     refine ⟨fun h=>?_,fun h=>?_⟩
     ·rcases h with h | ⟨i,h1,h2⟩
      ·exact .inl h
      ·exact .inr ⟨i,by omega,h2⟩
     ·rcases h with h | ⟨i,h1,h2⟩
      ·exact .inl h
      ·refine .inr ⟨i,?_,h2⟩
       rcases Nat.lt_or_ge i j with e | e
       ·exact e
       ·rw [show i = j by omega,HX.out] at h2; exact absurd h2.1 (by simp)
   |true =>
    go_wp2_with fail
    refine HC.out.mono ?_
    rintro e w1 ⟨rfl,lo2,wl2,h1,h2,h3,h4,h5⟩
    have HR:=hide (And.intro h1 (And.intro h2 (And.intro h3 (And.intro h4 h5))))
    clear h1 h2 h3 h4 h5 HC
    go_wp2_with fail
    go_roundg (c.N - (j + 1))
    case measure=>omega
    case rel =>
     obtain ⟨b1,b2,b3,b4,b5⟩:=HH.out
     obtain ⟨h1,h2,h3,h4,h5⟩:=HR.out
     refine ⟨j + 1,lo2,wl2,by go_num,by omega,rfl,h1,fun a=>?_,fun id hid=>(h3 id hid).trans (b3 id hid),h4,b5.trans h5 (fun i _ e=>e)⟩
     rw [h2 a,b2 a]
     refine ⟨fun h=>?_,fun h=>?_⟩
     ·rcases h with (h | ⟨i,h1,h2⟩) | h
      ·exact .inl h
      ·exact .inr ⟨i,by omega,h2⟩
      ·exact .inr ⟨j,by omega,HX.out,h⟩
     ·rcases h with h | ⟨i,h1,h2⟩
      ·exact .inl (.inl h)
      ·rcases Nat.lt_or_ge i j with e | e
       ·exact .inl (.inr ⟨i,e,h2⟩)
       ·right; rw [show i = j by omega] at h2; exact h2.2
  ·obtain rfl:j = c.N:=by omega
   have e0:decide ((c.N:Int) < (c.N:Int)) = false:=by simp
   have HH:=hide (And.intro hst (And.intro hlo (And.intro hwl (And.intro hwi hk))))
   clear hst hlo hwl hwi hk
   go_wp2_with fail
   go_end0
   obtain ⟨b1,b2,b3,b4,b5⟩:=HH.out
   refine ⟨rfl,lo',wl',b1,fun a=>?_,b3,b4,b5⟩
   rw [b2 a]
   refine ⟨fun h=>?_,fun h=>?_⟩
   ·rcases h with h | ⟨i,_,h2⟩
    ·exact .inl h
    ·exact .inr ⟨i,h2⟩
   ·rcases h with h | ⟨i,h2,h3⟩
    ·exact .inl h
    ·exact .inr ⟨i,by have:=h3.1; unfold AlC.N; omega,h2,h3⟩
theorem LSt.cells {c:AlC} {A:Nat→Prop} {og:Nat} {w:World} {lo:List Bool} {wl:Nat→List Bool} (h:LSt c A og w lo wl) {T:MT} {n i:Nat} (hT:T ∈ subsL c.rules) (hN:T.Numd c.f n) (hi:i ≤ c.s.size) :
  n < c.parts∧w.cell? ⟨c.ab,0,none⟩ = some (.string c.s)∧w.cell? ⟨c.ab,2,none⟩ = some (.slice (some ⟨c.wg,0,none⟩) c.parts c.wcap)∧w.cell? ⟨c.wg,n,none⟩ = some (.slice (some ⟨c.U n,0,none⟩) c.N c.N)∧w.cell? ⟨c.U n,i,none⟩ = some (.bool ((wl n).getD i false))∧w.frozen? ⟨c.U n,i,none⟩ = false∧w.cell? ⟨T.root,1,none⟩ = some (.int .i64 (n:Int)):=by
 obtain ⟨m,hm,hid⟩:=h.memo.id hT
 have hr:=hN.root
 have:m = n:=by rw [hid] at hr; omega
 subst this
 obtain ⟨cs,h1,h2⟩:=h.memo.was
 have hw:=h.was m hm
 exact ⟨hm,h.memo.blk.cell 0,h.memo.blk.cell 2,by rw [h1.cell]; exact h2 m hm,boolsA_cellD hw.2 i (by rw [hw.1]; exact AlC.ltN.2 hi),hw.2.frozen i,by rw [← hid]; exact (AtL.sub c.rules T h.memo.prt hT).id⟩
theorem BelowN (w:World) (n:Nat):Below w.heap.size w (w.drewN n):=⟨rfl,rfl,rfl,Nat.le_refl _,fun _ _=>rfl⟩
set_option maxRecDepth 20000 in
set_option maxHeartbeats 6400000 in
theorem last_skip (c:AlC) (T:MT) (hT:T ∈ subsL c.rules) (A:Nat→Prop) (og:Nat) (w:World) (lo:List Bool) (wl:Nat→List Bool) (n i:Nat) (hN:T.Numd c.f n) (hst:LSt c A og w lo wl) (hwi:WasI c wl lo n (n + T.nt.parts)) (hi:i ≤ c.s.size) (hs:c.s.size ≤ 20000) (hsk:c.s.size ≤ i∨(wl n).getD i false = true) :
  Calls Tryz.prog 95 #[.pointer (some ⟨c.ab,0,none⟩),.pointer (some ⟨T.root,0,none⟩),.int .i64 (i:Int),.slice (some ⟨og,0,none⟩) 120 120] w (LOut c A og w lo wl n (n + T.nt.parts) (fun a=>PL c T i a)):=by
 obtain ⟨hn,s0,s2,s3,s4,_,s5⟩:=hst.cells hT hN hi
 have hpos:=T.nt.parts_pos
 have hfin:∀ W,Below w.heap.size w W→LOut c A og w lo wl n (n + T.nt.parts) (fun a=>PL c T i a) (.returned (.tuple #[])) W:=fun W hb=>by
  refine ⟨rfl,lo,wl,hst.below hb,fun a=>⟨fun h=>.inl h,fun h=>?_⟩,fun _ _=>rfl,hwi,Kept.ofBelow hb⟩
  rcases h with h | h
  ·exact h
  ·rcases hsk with e | e
   ·have:=h.1; omega
   ·exact hwi T hT n hN.root (Nat.le_refl _) (by omega) i e a h
 have HF:=hide hfin
 have n0:(0:Int) ≤ (n:Int):=by omega
 have n1:(n:Int) < (c.parts:Int):=by omega
 have i0:(0:Int) ≤ (i:Int):=by omega
 have i1:(i:Int) < (c.N:Int):=by unfold AlC.N; omega
 obtain ⟨tr,htr⟩:∃ tr,T.root = tr:=⟨_,rfl⟩
 rw [htr] at s5 ⊢
 clear hst hwi hN hT hfin htr
 by_cases hge:c.s.size ≤ i
 ·have e0:decide ((c.s.size:Int) ≤ (i:Int)) = true:=by simp; omega
  clear hsk
  go_enter Tryz.func95,Tryz.ntmps95
  go_wp2_with fail
  go_quiet (fail)
  go_wp2_with fail
  go_end0
  exact HF.out _ (BelowN _ _)
 ·have e0:decide ((c.s.size:Int) ≤ (i:Int)) = false:=by simp; omega
  have hw:(wl n).getD i false = true:=by rcases hsk with e | e; exact absurd e hge; exact e
  rw [hw] at s4
  clear hsk hw
  go_enter Tryz.func95,Tryz.ntmps95
  go_wp2_with fail
  go_quiet (fail)
  go_wp2_with fail
  go_end0
  exact HF.out _ (BelowN _ _)
theorem updW_self (wl:Nat→List Bool) (n:Nat) (l:List Bool):updW wl n l n = l:=by unfold updW; rw [if_pos rfl]
theorem updW_ne {wl:Nat→List Bool} {n m:Nat} {l:List Bool} (h:m ≠ n):updW wl n l m = wl m:=by unfold updW; rw [if_neg h]
theorem WasI.sub {c:AlC} {wl:Nat→List Bool} {lo:List Bool} {n m n' m':Nat} (h:WasI c wl lo n m) (h1:n ≤ n') (h2:m' ≤ m):WasI c wl lo n' m':=fun T hT id hid a b=>h T hT id hid (by omega) (by omega)
theorem WasI.mark {c:AlC} {wl:Nat→List Bool} {lo:List Bool} {n m:Nat} (h:WasI c wl lo n m) (l:List Bool):WasI c (updW wl n l) lo (n + 1) m:=fun T hT id hid a b j hj=>h T hT id hid (by omega) b j (by rw [updW_ne (by omega)] at hj; exact hj)
theorem last_fin {c:AlC} {A:Nat→Prop} {og:Nat} {w w':World} {lo lo':List Bool} {wl wl':Nat→List Bool} {T:MT} {n i:Nat} (hT:T ∈ subsL c.rules) (hN:T.Numd c.f n) (hwi:WasI c wl lo n (n + T.nt.parts)) (hin:i < (wl n).length) (h1:LSt c A og w' lo' wl') (h2:∀ a,lo'.getD a false = true↔(lo.getD a false = true∨PL c T i a))
  (h3:∀ id,¬ (n + 1 ≤ id∧id < n + T.nt.parts)→wl' id = updW wl n ((wl n).set i true) id) (h4:WasI c wl' lo' (n + 1) (n + T.nt.parts)) (h5:Kept (fun b=>c.M b∨A b) w w'):LOut c A og w lo wl n (n + T.nt.parts) (fun a=>PL c T i a) (.returned (.tuple #[])) w':=by
 refine ⟨rfl,lo',wl',h1,h2,fun id hid=>?_,fun U hU id hid a b j hj q hq=>?_,h5⟩
 ·have:=T.nt.parts_pos
  rw [h3 id (by omega),updW_ne (by omega)]
 ·by_cases e:id = n
  ·subst e
   have hTU:U = T:=NumdL.one c.rules 0 h1.memo.num U T hU hT (by rw [hid,hN.root])
   subst hTU
   rw [h3 id (by omega),updW_self,getD_setB _ _ _ _ hin] at hj
   by_cases e2:j = i
   ·subst e2; exact (h2 q).2 (.inr hq)
   ·rw [if_neg e2] at hj
    exact (h2 q).2 (.inl (hwi U hU id hid (Nat.le_refl _) b j hj q hq))
  ·exact h4 U hU id hid (by omega) b j hj q hq
theorem numd_kid {f:Nat→Int} {l:List MT} {n k:Nat} (h:NumdL f l n) (hk:k < l.length):l[k].Numd f (n + partsL (ntL (l.take k)))∧partsL (ntL (l.take k)) + l[k].nt.parts ≤ partsL (ntL l):=by
 have e:l = l.take k ++ (l[k] :: l.drop (k + 1)):=by rw [List.getElem_cons_drop,List.take_append_drop]
 have h2:=h
 rw [e,NumdL.append] at h2
 refine ⟨?_,?_⟩
 ·have:=h2.2
  simp only [NumdL] at this
  exact this.1
 ·have e3:partsL (ntL l) = partsL (ntL (l.take k)) + (l[k].nt.parts + partsL (ntL (l.drop (k + 1)))):=by
   have e4:=congrArg (fun x=>partsL (ntL x)) e
   simp only [ntL_map,List.map_append,partsL_append,List.map_cons,partsL] at e4
   simp only [ntL_map]
   exact e4
  omega
set_option maxRecDepth 20000 in
set_option maxHeartbeats 12800000 in
theorem last_row1 (c:AlC) (b:Nat) (v:Value) (l:List MT) (hT:(MT.node b v 1 l) ∈ subsL c.rules) (HE:∀ y ∈ l,EndsC c y) (HL:∀ y ∈ l,LastC c y) (hl:l.length ≤ 100000) (hs:c.s.size ≤ 20000) (A:Nat→Prop) (og:Nat) (w:World) (lo:List Bool) (wl:Nat→List Bool) (n i:Nat) (hN:(MT.node b v 1 l).Numd c.f n) (hst:LSt c A og w lo wl) (hwi:WasI c wl lo n (n + (MT.node b v 1 l).nt.parts)) (hi:i < c.s.size) (hsk:(wl n).getD i false = false) :
  Calls Tryz.prog 95 #[.pointer (some ⟨c.ab,0,none⟩),.pointer (some ⟨b,0,none⟩),.int .i64 (i:Int),.slice (some ⟨og,0,none⟩) 120 120] w (LOut c A og w lo wl n (n + (MT.node b v 1 l).nt.parts) (fun a=>PL c (MT.node b v 1 l) i a)):=by
 obtain ⟨ad,cap,rfl,_,_,_⟩:=kid_cells (AtL.sub c.rules _ hst.memo.prt hT)
 obtain ⟨hn,s0,s2,s3,s4,_,s5⟩:=hst.cells hT hN (Nat.le_of_lt hi)
 have hN2:c.N ≤ 20001:=by unfold AlC.N; omega
 have hN1:(c.s.size:Int) + 1 = (c.N:Int):=by unfold AlC.N; omega
 have hiN:i < c.N:=by unfold AlC.N; omega
 have n0:(0:Int) ≤ (n:Int):=by omega
 have n1:(n:Int) < (c.parts:Int):=by omega
 have i0:(0:Int) ≤ (i:Int):=by omega
 have i1:(i:Int) < (c.N:Int):=by omega
 have e0:decide ((c.s.size:Int) ≤ (i:Int)) = false:=by simp; omega
 rw [hsk] at s4
 simp only [MT.root] at s5
 have HPT:Hid ((MT.node b (.slice ad l.length cap) 1 l).nt.parts = 1 + partsL (ntL l)):=hide (by simp [MT.nt,NT.parts])
 have HS:=hide hst
 have HT:=hide hT
 have HN:=hide hN
 have HW:=hide hwi
 clear hst hT hN hwi hsk
 go_enter Tryz.func95,Tryz.ntmps95
 go_wp2_with fail
 go_quiet (fail)
 go_upto_region 1 with fail
 obtain ⟨w0,hw0⟩:∃ w0:World,w.drewN nq = w0:=⟨_,rfl⟩
 rw [hw0]
 have hb0:Below w.heap.size w w0:=by rw [← hw0]; exact BelowN _ _
 have hst0:=HS.out.below hb0
 obtain ⟨_,t0,t2,t3,t4,f4,t5⟩:=hst0.cells HT.out HN.out (Nat.le_of_lt hi)
 simp only [MT.root] at t5
 have HS0:=hide (And.intro hst0 hb0)
 have hwlen:Hid (i < (wl n).length):=hide (by rw [(HS.out.was n hn).1]; exact hiN)
 clear hst0 hb0 s0 s2 s3 s4 s5 hw0 HS
 go_region
 obtain ⟨w1,hw1⟩:∃ w1:World,(w0.setCell ⟨c.U n,i,none⟩ (.bool true)).drew = w1:=⟨_,rfl⟩
 rw [hw1]
 have hst1:LSt c A og w1 lo (updW wl n ((wl n).set i true)):=by rw [← hw1]; exact (HS0.out.1.mark hn).below (Below_drew' _)
 have hk1:Kept (fun b=>c.M b∨A b) w w1:=by rw [← hw1]; exact ((Kept.ofBelow HS0.out.2).setCell (p:=⟨c.U n,i,none⟩) (fun _=>.inr (HS0.out.1.memo.wrow n hn).1) _).drew
 have s0:w1.cell? ⟨c.ab,0,none⟩ = some (.string c.s):=hst1.memo.blk.cell 0
 have HS1:=hide (And.intro hst1 hk1)
 have HWM:Hid (WasI c (updW wl n ((wl n).set i true)) lo (n + 1) (n + (MT.node b (.slice ad l.length cap) 1 l).nt.parts)):=hide (HW.out.mark _)
 obtain ⟨_,_,_,k0,_,_⟩:=kid_cells (AtL.sub c.rules _ hst1.memo.prt HT.out)
 have HON:=hide (refOnly_any i c.N w1 hiN (by omega))
 have HEE:=hide HE
 have HLL:=hide HL
 clear hst1 hk1 t0 t2 t3 t4 f4 t5 hw1 HS0 HE HL
 go_wp2_with fail
 refine HON.out.mono ?_
 rintro e w2 ⟨rfl,hB2,hb2⟩
 have hz2:w1.heap.size < w2.heap.size:=hB2.lt
 have HS2:=hide (And.intro (HS1.out.1.below hb2) (And.intro (HS1.out.2.below hb2) hB2))
 have hal:=hide HS1.out.1.alt
 clear hB2 hb2 HON k0 s0
 go_wp2_with fail
 go_loopg [8,9] l.length (fun G nv kv wr=>∃ (k:Nat) (now:List Bool) (ng:Nat) (lo':List Bool) (wl':Nat→List Bool),kv = .int .i64 (k:Int)∧k ≤ l.length∧G = l.length - k∧nv = .slice (some ⟨ng,0,none⟩) c.N c.N∧¬ A ng∧BRow wr (.slice (some ⟨ng,0,none⟩) c.N c.N) now∧now = rowW (bytesN c.s) (rowWord (ntL (l.take k))) i∧LSt c A og wr lo' wl'∧(∀ a,lo'.getD a false = true↔(lo.getD a false = true∨rowLast (ntL (l.take k)) ((bytesN c.s).drop i) a))∧(∀ id,¬ (n + 1 ≤ id∧id < n + (MT.node b (.slice ad l.length cap) 1 l).nt.parts)→wl' id = updW wl n ((wl n).set i true) id)∧WasI c wl' lo' (n + 1) (n + (MT.node b (.slice ad l.length cap) 1 l).nt.parts)∧Kept (fun b=>c.M b∨A b) w wr)
 case atStart =>
  obtain ⟨a1,a2,a3⟩:=HS2.out
  refine ⟨0,onlyL i c.N,w1.heap.size,lo,_,rfl,by omega,rfl,rfl,fun e=>by have:=hal.out _ e; omega,?_,?_,a1,fun a=>?_,fun _ _=>rfl,HWM.out,a2⟩
  ·have:=BRow.ofBlk a3 (by rw [onlyL_len]; omega)
   rw [onlyL_len] at this
   exact this
  ·refine rowW_ext (by rw [onlyL_len,bytesN_len]; rfl) fun q hq=>?_
   rw [bytesN_len] at hq
   rw [onlyL_getD hiN (AlC.ltN.2 hq)]
   simp only [List.take_zero,ntL]
   rw [endsW_congr (Q:=fun w=>w = []) (fun w=>by simp [rowWord]),endsW_nil (by rw [bytesN_len]; omega)]
   simp
  ·simp [ntL,rowLast]
 case round =>
  obtain ⟨k,now,ng,lo',wl',rfl,hk,rfl,rfl,hng,hBR,hnow,hst',hlo,hwl,hwi',hkp⟩:=hrel
  obtain ⟨ad',cap',hv',_,c4,ck⟩:=kid_cells (AtL.sub c.rules _ hst'.memo.prt HT.out)
  injection hv' with hv1 hv2 hv3
  subst hv1 hv3
  by_cases hlt:k < l.length
  ·have e1:decide ((k:Int) < (l.length:Int)) = true:=by simp; omega
   obtain ⟨g,hg,cg⟩:=ck k hlt
   subst hg
   have j0:(0:Int) ≤ (k:Int):=by omega
   have j1:(k:Int) < (l.length:Int):=by omega
   have hnl:now.length = c.N:=by rw [hnow,rowA_len]
   have hNL:=HN.out
   simp only [MT.Numd] at hNL
   obtain ⟨hkn,hkp2⟩:=numd_kid hNL.2 hlt
   have hpt:=HPT.out
   have HLS:=hide (lasts_any c l[k] (HLL.out _ (List.getElem_mem hlt)) A og wr lo' wl' _ hkn hst' (hwi'.sub (by omega) (by omega)) ng c.N now hBR hnl hng hs)
   have HH:=hide (And.intro hng (And.intro hBR (And.intro hnow (And.intro hst' (And.intro hlo (And.intro hwl (And.intro hwi' hkp)))))))
   have HNL:=hide hnl
   have HP:=hide (And.intro hkp2 hpt)
   clear hng hBR hnow hst' hlo hwl hwi' hkp ck hnl hNL hkn hkp2 hpt
   go_wp2_with fail
   refine HLS.out.mono ?_
   rintro e w3 ⟨rfl,lo2,wl2,h1,h2,h3,h4,h5⟩
   obtain ⟨a1,a2,a3,a4,a5,a6,a7,a8⟩:=HH.out
   have hBR3:BRow w3 (.slice (some ⟨ng,0,none⟩) c.N c.N) now:=a2.kept h5 (fun b hb e=>by
    cases (Option.some.inj hb:ng = b)
    rcases e with e | e
    ·obtain ⟨cs,h1⟩:=a4.memo.type e
     exact ownsRow_ne a2 h1 (by decide) rfl
    ·exact a1 e)
   have HFR:=hide (from_any c l[k] (HEE.out _ (List.getElem_mem hlt)) A w3 ng c.N now h1.alt h1.memo hBR3 HNL.out hs)
   obtain ⟨ad3,cap3,hv3,_,c43,ck3⟩:=kid_cells (AtL.sub c.rules _ h1.memo.prt HT.out)
   injection hv3 with hv31 hv32 hv33
   subst hv31 hv33
   obtain ⟨g3,hg3,cg3⟩:=ck3 k hlt
   cases hg3
   have HR:=hide (And.intro h1 (And.intro h2 (And.intro h3 (And.intro h4 (a8.trans h5 (fun i _ e=>e))))))
   clear a1 a2 a3 a4 a5 a6 a7 a8 h1 h2 h3 h4 h5 hBR3 HLS c4 cg ck3
   go_wp2_with fail
   refine HFR.out.mono ?_
   rintro e w4 ⟨l4,hl4,hsp4,b4,rfl,hnb4,hBR4,hm4,hk4⟩
   have HR4:=hide (And.intro hl4 (And.intro hsp4 (And.intro hnb4 (And.intro hBR4 (And.intro hm4 hk4)))))
   clear hl4 hsp4 hnb4 hBR4 hm4 hk4 HFR
   go_wp2_with fail
   go_roundg (l.length - (k + 1))
   case measure=>omega
   case rel =>
    obtain ⟨a1,a2,a3,a4,a5,a6,a7,a8⟩:=HH.out
    obtain ⟨h1,h2,h3,h4,h5⟩:=HR.out
    obtain ⟨g1,g2,g3,g4,g5,g6⟩:=HR4.out
    obtain ⟨p1,p2⟩:=HP.out
    have htk:l.take (k + 1) = l.take k ++ [l[k]]:=(List.take_append_getElem hlt).symm
    refine ⟨k + 1,l4,b4,lo2,wl2,by go_num,by omega,rfl,rfl,g3,g4,?_,h1.keptM g6 g5,fun a=>?_,fun id hid=>?_,a7.grow h4 (fun a ha=>(h2 a).2 (.inl ha)) h3,h5.trans g6 (fun i _ e=>.inl e)⟩
    ·refine rowW_ext (by rw [g1,bytesN_len]; rfl) fun q hq=>?_
     rw [bytesN_len] at hq
     rw [g2 q hq,htk,ntL_snoc,endsW_congr (rowWord_snoc _ _),ends_row,a3]
     simp only [rowW_getD]
    ·rw [h2 a,a5 a,htk,ntL_snoc,rowLast_snoc,or_assoc]
     refine or_congr Iff.rfl (or_congr Iff.rfl ?_)
     constructor
     ·rintro ⟨j,hj,hpl⟩
      rw [a3,rowW_getD] at hj
      exact ⟨_,_,(split_drop (by rw [bytesN_len]; omega)).2 ⟨j,hj.1,hj.2.1,rfl,rfl⟩,hj.2.2,hpl.2⟩
     ·rintro ⟨u,v,huv,hu,hv⟩
      obtain ⟨m,m1,m2,rfl,rfl⟩:=(split_drop (by rw [bytesN_len]; omega)).1 huv
      exact ⟨m,by rw [a3,rowW_getD]; exact ⟨m1,m2,hu⟩,PL.lt hv,hv⟩
    ·rw [h3 id (by omega)]; exact a6 id hid
  ·obtain rfl:k = l.length:=by omega
   have e1:decide ((l.length:Int) < (l.length:Int)) = false:=by simp
   have HH:=hide (And.intro hst' (And.intro hlo (And.intro hwl (And.intro hwi' hkp))))
   clear hng hBR hnow hst' hlo hwl hwi' hkp ck
   go_wp2_with fail
   go_end0
   obtain ⟨a4,a5,a6,a7,a8⟩:=HH.out
   refine last_fin HT.out HN.out HW.out hwlen.out a4 (fun a=>?_) a6 a7 a8
   rw [a5 a,List.take_of_length_le (Nat.le_refl _)]
   refine or_congr Iff.rfl ⟨fun h=>⟨hi,?_⟩,fun h=>?_⟩
   ·simp only [MT.nt]; rw [last_row]; exact h
   ·have h2:=h.2; simp only [MT.nt] at h2; rw [last_row] at h2; exact h2
end Go.Proofs.YtcckhngbdoiikaaGreat
