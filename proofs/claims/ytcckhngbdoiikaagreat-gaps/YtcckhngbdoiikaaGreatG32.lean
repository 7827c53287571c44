import Derived.Test.YtcckhngbdoiikaaGreatG31

namespace Go.Proofs.YtcckhngbdoiikaaGreat
open Go.RowKit Go.Deep
set_option linter.unusedVariables false
set_option maxRecDepth 20000 in
set_option maxHeartbeats 12800000 in
theorem lastP_many (c:AlC) (b:Nat) (v:Value) (y:MT) (hT:(MT.node b v 3 [y]) ∈ subsL c.rules) (HE:EndsC c y) (HL:LastC c y) (hs:c.s.size ≤ 20000) (A:Nat→Prop) (og:Nat) (w:World) (lo:List Bool) (wl:Nat→List Bool) (n i:Nat) (hN:(MT.node b v 3 [y]).Numd c.f n) (hst:LSt c A og w lo wl) (hwi:WasI c wl lo n (n + (MT.node b v 3 [y]).nt.parts)) (hi:i < c.s.size) (hsk:(wl n).getD i false = false) :
  Calls Tryz.prog 95 #[.pointer (some ⟨c.ab,0,none⟩),.pointer (some ⟨b,0,none⟩),.int .i64 (i:Int),.slice (some ⟨og,0,none⟩) 120 120] w (LOut c A og w lo wl n (n + (MT.node b v 3 [y]).nt.parts) (fun a=>PL c (MT.node b v 3 [y]) i a)):=by
 obtain ⟨ad,cap,rfl,_,_,_⟩:=kid_cells (AtL.sub c.rules _ hst.memo.prt hT)
 obtain ⟨hn,s0,s2,s3,s4,_,s5⟩:=hst.cells hT hN (Nat.le_of_lt hi)
 have hN2:c.N ≤ 20001:=by unfold AlC.N; omega
 have hN1:(c.s.size:Int) + 1 = (c.N:Int):=by unfold AlC.N; omega
 have hiN:i < c.N:=by unfold AlC.N; omega
 have n0:(0:Int) ≤ (n:Int):=by omega
 have n1:(n:Int) < (c.parts:Int):=by omega
 have i0:(0:Int) ≤ (i:Int):=by omega
 have i1:(i:Int) < (c.N:Int):=by omega
 have e0:decide ((c.s.size:Int) ≤ (i:Int)) = false:=by simp; omega
 rw [hsk] at s4
 simp only [MT.root] at s5
 have HPT:Hid ((MT.node b (.slice ad [y].length cap) 3 [y]).nt.parts = 1 + partsL (ntL [y])):=hide (by simp [MT.nt,NT.parts])
 have HS:=hide hst
 have HT:=hide hT
 have HN:=hide hN
 have HW:=hide hwi
 clear hst hT hN hwi hsk
 go_enter Tryz.func95,Tryz.ntmps95
 go_wp2_with fail
 go_quiet (fail)
 go_upto_region 1 with fail
 obtain ⟨w0,hw0⟩:∃ w0:World,w.drewN nq = w0:=⟨_,rfl⟩
 rw [hw0]
 have hb0:Below w.heap.size w w0:=by rw [← hw0]; exact BelowN _ _
 have hst0:=HS.out.below hb0
 obtain ⟨_,t0,t2,t3,t4,f4,t5⟩:=hst0.cells HT.out HN.out (Nat.le_of_lt hi)
 simp only [MT.root] at t5
 have HS0:=hide (And.intro hst0 hb0)
 have hwlen:Hid (i < (wl n).length):=hide (by rw [(HS.out.was n hn).1]; exact hiN)
 clear hst0 hb0 s0 s2 s3 s4 s5 hw0 HS
 go_region
 obtain ⟨w1,hw1⟩:∃ w1:World,(w0.setCell ⟨c.U n,i,none⟩ (.bool true)).drew = w1:=⟨_,rfl⟩
 rw [hw1]
 have hst1:LSt c A og w1 lo (updW wl n ((wl n).set i true)):=by rw [← hw1]; exact (HS0.out.1.mark hn).below (Below_drew' _)
 have hk1:Kept (fun b=>c.M b∨A b) w w1:=by rw [← hw1]; exact ((Kept.ofBelow HS0.out.2).setCell (p:=⟨c.U n,i,none⟩) (fun _=>.inr (HS0.out.1.memo.wrow n hn).1) _).drew
 have s0:w1.cell? ⟨c.ab,0,none⟩ = some (.string c.s):=hst1.memo.blk.cell 0
 have HS1:=hide (And.intro hst1 hk1)
 have HWM:Hid (WasI c (updW wl n ((wl n).set i true)) lo (n + 1) (n + (MT.node b (.slice ad [y].length cap) 3 [y]).nt.parts)):=hide (HW.out.mark _)
 obtain ⟨_,_,hvv,k0,k4,kk⟩:=kid_cells (AtL.sub c.rules _ hst1.memo.prt HT.out)
 injection hvv with hv1 hv2 hv3
 subst hv1 hv3
 obtain ⟨g,hg,cg⟩:=kk 0 (by simp)
 subst hg
 simp only [List.length_singleton,List.getElem_cons_zero] at k4 cg
 have HAG:=hide (again_any c y HE A w1 i hst1.alt hst1.memo (Nat.le_of_lt hi) hs)
 have HLL:=hide HL
 clear hst1 hk1 t0 t2 t3 t4 f4 t5 hw1 HS0 HE HL kk
 go_wp2_with fail
 refine HAG.out.mono ?_
 rintro e w2 ⟨b2,rfl,hnb2,hBR2,hm2,hk2⟩
 have hst2:=HS1.out.1.keptM hk2 hm2
 obtain ⟨ad3,cap3,hv3,_,c43,ck3⟩:=kid_cells (AtL.sub c.rules _ hst2.memo.prt HT.out)
 injection hv3 with hv31 hv32 hv33
 subst hv31 hv33
 obtain ⟨g3,hg3,cg3⟩:=ck3 0 (by simp)
 cases hg3
 simp only [List.length_singleton,List.getElem_cons_zero] at c43 cg3
 have hNL:=HN.out
 simp only [MT.Numd,NumdL] at hNL
 have hpt:=HPT.out
 have hp1:partsL (ntL [y]) = y.nt.parts:=by simp [ntL,partsL]
 rw [hp1] at hpt
 have HLS:=hide (lasts_any c y HLL.out A og w2 lo _ (n + 1) hNL.2.1 hst2 (HWM.out.sub (Nat.le_refl _) (by omega)) b2 c.N _ hBR2 (rowA_len _ _ _) hnb2 hs)
 have HK:=hide (HS1.out.2.trans hk2 (fun i _ e=>.inl e))
 have HP:=hide hpt
 clear hnb2 hBR2 hm2 hk2 hst2 hNL hpt hp1 HAG k0 k4 cg ck3 s0
 go_wp2_with fail
 refine HLS.out.mono ?_
 rintro e w3 ⟨rfl,lo2,wl2,h1,h2,h3,h4,h5⟩
 have HR:=hide (And.intro h1 (And.intro h2 (And.intro h3 (And.intro h4 h5))))
 clear h1 h2 h3 h4 h5 HLS
 go_wp2_with fail
 go_end0
 obtain ⟨h1,h2,h3,h4,h5⟩:=HR.out
 have hpt:=HP.out
 refine last_fin HT.out HN.out HW.out hwlen.out h1 (fun a=>?_) (fun id hid=>h3 id (by simp only [MT.nt,NT.parts,ntL,partsL] at hid; omega)) (HWM.out.grow h4 (fun a ha=>(h2 a).2 (.inl ha)) h3) (HK.out.trans h5 (fun i _ e=>e))
 rw [h2 a]
 refine or_congr Iff.rfl ?_
 have hm:=last_many y.nt ((bytesN c.s).drop i) a
 constructor
 ·rintro ⟨j,hj,hpl⟩
  rw [rowW_getD] at hj
  refine ⟨hi,?_⟩
  simp only [MT.nt,ntL]
  exact hm.2 ⟨_,_,(split_drop (by rw [bytesN_len]; omega)).2 ⟨j,hj.1,hj.2.1,rfl,rfl⟩,hj.2.2,hpl.2⟩
 ·rintro ⟨_,h⟩
  simp only [MT.nt,ntL] at h
  obtain ⟨u,v,huv,hu,hv⟩:=hm.1 h
  obtain ⟨m,m1,m2,rfl,rfl⟩:=(split_drop (by rw [bytesN_len]; omega)).1 huv
  exact ⟨m,by rw [rowW_getD]; exact ⟨m1,m2,hu⟩,PL.lt hv,hv⟩
set_option maxRecDepth 20000 in
set_option maxHeartbeats 12800000 in
theorem last_some2 (c:AlC) (b:Nat) (v:Value) (l:List MT) (hT:(MT.node b v 2 l) ∈ subsL c.rules) (HL:∀ y ∈ l,LastC c y) (hl:l.length ≤ 100000) (hs:c.s.size ≤ 20000) (A:Nat→Prop) (og:Nat) (w:World) (lo:List Bool) (wl:Nat→List Bool) (n i:Nat) (hN:(MT.node b v 2 l).Numd c.f n) (hst:LSt c A og w lo wl) (hwi:WasI c wl lo n (n + (MT.node b v 2 l).nt.parts)) (hi:i < c.s.size) (hsk:(wl n).getD i false = false) :
  Calls Tryz.prog 95 #[.pointer (some ⟨c.ab,0,none⟩),.pointer (some ⟨b,0,none⟩),.int .i64 (i:Int),.slice (some ⟨og,0,none⟩) 120 120] w (LOut c A og w lo wl n (n + (MT.node b v 2 l).nt.parts) (fun a=>PL c (MT.node b v 2 l) i a)):=by
 obtain ⟨ad,cap,rfl,_,_,_⟩:=kid_cells (AtL.sub c.rules _ hst.memo.prt hT)
 obtain ⟨hn,s0,s2,s3,s4,_,s5⟩:=hst.cells hT hN (Nat.le_of_lt hi)
 have hN2:c.N ≤ 20001:=by unfold AlC.N; omega
 have hN1:(c.s.size:Int) + 1 = (c.N:Int):=by unfold AlC.N; omega
 have hiN:i < c.N:=by unfold AlC.N; omega
 have n0:(0:Int) ≤ (n:Int):=by omega
 have n1:(n:Int) < (c.parts:Int):=by omega
 have i0:(0:Int) ≤ (i:Int):=by omega
 have i1:(i:Int) < (c.N:Int):=by omega
 have e0:decide ((c.s.size:Int) ≤ (i:Int)) = false:=by simp; omega
 rw [hsk] at s4
 simp only [MT.root] at s5
 have HPT:Hid ((MT.node b (.slice ad l.length cap) 2 l).nt.parts = 1 + partsL (ntL l)):=hide (by simp [MT.nt,NT.parts])
 have HS:=hide hst
 have HT:=hide hT
 have HN:=hide hN
 have HW:=hide hwi
 clear hst hT hN hwi hsk
 go_enter Tryz.func95,Tryz.ntmps95
 go_wp2_with fail
 go_quiet (fail)
 go_upto_region 1 with fail
 obtain ⟨w0,hw0⟩:∃ w0:World,w.drewN nq = w0:=⟨_,rfl⟩
 rw [hw0]
 have hb0:Below w.heap.size w w0:=by rw [← hw0]; exact BelowN _ _
 have hst0:=HS.out.below hb0
 obtain ⟨_,t0,t2,t3,t4,f4,t5⟩:=hst0.cells HT.out HN.out (Nat.le_of_lt hi)
 simp only [MT.root] at t5
 have HS0:=hide (And.intro hst0 hb0)
 have hwlen:Hid (i < (wl n).length):=hide (by rw [(HS.out.was n hn).1]; exact hiN)
 clear hst0 hb0 s0 s2 s3 s4 s5 hw0 HS
 go_region
 obtain ⟨w1,hw1⟩:∃ w1:World,(w0.setCell ⟨c.U n,i,none⟩ (.bool true)).drew = w1:=⟨_,rfl⟩
 rw [hw1]
 have hst1:LSt c A og w1 lo (updW wl n ((wl n).set i true)):=by rw [← hw1]; exact (HS0.out.1.mark hn).below (Below_drew' _)
 have hk1:Kept (fun b=>c.M b∨A b) w w1:=by rw [← hw1]; exact ((Kept.ofBelow HS0.out.2).setCell (p:=⟨c.U n,i,none⟩) (fun _=>.inr (HS0.out.1.memo.wrow n hn).1) _).drew
 have s0:w1.cell? ⟨c.ab,0,none⟩ = some (.string c.s):=hst1.memo.blk.cell 0
 have HS1:=hide (And.intro hst1 hk1)
 have HWM:Hid (WasI c (updW wl n ((wl n).set i true)) lo (n + 1) (n + (MT.node b (.slice ad l.length cap) 2 l).nt.parts)):=hide (HW.out.mark _)
 obtain ⟨_,_,hvv,k0,_,_⟩:=kid_cells (AtL.sub c.rules _ hst1.memo.prt HT.out)
 injection hvv with hv1 hv2 hv3
 subst hv1 hv3
 have HLL:=hide HL
 clear hst1 hk1 t0 t2 t3 t4 f4 t5 hw1 HS0 HL
 go_wp2_with fail
 go_loopg [11] l.length (fun G kv wr=>∃ (k:Nat) (lo':List Bool) (wl':Nat→List Bool),kv = .int .i64 (k:Int)∧k ≤ l.length∧G = l.length - k∧LSt c A og wr lo' wl'∧(∀ a,lo'.getD a false = true↔(lo.getD a false = true∨anyLast (ntL (l.take k)) ((bytesN c.s).drop i) a))∧(∀ id,¬ (n + 1 ≤ id∧id < n + (MT.node b (.slice ad l.length cap) 2 l).nt.parts)→wl' id = updW wl n ((wl n).set i true) id)∧WasI c wl' lo' (n + 1) (n + (MT.node b (.slice ad l.length cap) 2 l).nt.parts)∧Kept (fun b=>c.M b∨A b) w wr)
 case atStart =>
  obtain ⟨a1,a2⟩:=HS1.out
  exact ⟨0,lo,_,rfl,by omega,rfl,a1,fun a=>by simp [ntL,anyLast],fun _ _=>rfl,HWM.out,a2⟩
 case round =>
  obtain ⟨k,lo',wl',rfl,hk,rfl,hst',hlo,hwl,hwi',hkp⟩:=hrel
  obtain ⟨ad',cap',hv',_,c4,ck⟩:=kid_cells (AtL.sub c.rules _ hst'.memo.prt HT.out)
  injection hv' with hv1 hv2 hv3
  subst hv1 hv3
  by_cases hlt:k < l.length
  ·have e1:decide ((k:Int) < (l.length:Int)) = true:=by simp; omega
   obtain ⟨g,hg,cg⟩:=ck k hlt
   subst hg
   have j0:(0:Int) ≤ (k:Int):=by omega
   have j1:(k:Int) < (l.length:Int):=by omega
   have hNL:=HN.out
   simp only [MT.Numd] at hNL
   obtain ⟨hkn,hkp2⟩:=numd_kid hNL.2 hlt
   have hpt:=HPT.out
   have HLS:=hide (HLL.out _ (List.getElem_mem hlt) A og wr lo' wl' _ i hkn hst' (hwi'.sub (by omega) (by omega)) (Nat.le_of_lt hi))
   have HH:=hide (And.intro hst' (And.intro hlo (And.intro hwl (And.intro hwi' hkp))))
   have HP:=hide (And.intro hkp2 hpt)
   clear hst' hlo hwl hwi' hkp ck hNL hkn hkp2 hpt
   go_wp2_with fail
   refine HLS.out.mono ?_
   rintro e w3 ⟨rfl,lo2,wl2,h1,h2,h3,h4,h5⟩
   have HR:=hide (And.intro h1 (And.intro h2 (And.intro h3 (And.intro h4 h5))))
   clear h1 h2 h3 h4 h5 HLS
   go_wp2_with fail
   go_roundg (l.length - (k + 1))
   case measure=>omega
   case rel =>
    obtain ⟨a4,a5,a6,a7,a8⟩:=HH.out
    obtain ⟨h1,h2,h3,h4,h5⟩:=HR.out
    obtain ⟨p1,p2⟩:=HP.out
    have htk:l.take (k + 1) = l.take k ++ [l[k]]:=(List.take_append_getElem hlt).symm
    refine ⟨k + 1,lo2,wl2,by go_num,by omega,rfl,h1,fun a=>?_,fun id hid=>?_,a7.grow h4 (fun a ha=>(h2 a).2 (.inl ha)) h3,a8.trans h5 (fun i _ e=>e)⟩
    ·rw [h2 a,a5 a,htk,ntL_snoc,anyLast_snoc,or_assoc]
     exact or_congr Iff.rfl (or_congr Iff.rfl ⟨fun h=>h.2,fun h=>⟨hi,h⟩⟩)
    ·rw [h3 id (by omega)]; exact a6 id hid
  ·obtain rfl:k = l.length:=by omega
   have e1:decide ((l.length:Int) < (l.length:Int)) = false:=by simp
   have HH:=hide (And.intro hst' (And.intro hlo (And.intro hwl (And.intro hwi' hkp))))
   clear hst' hlo hwl hwi' hkp ck
   go_wp2_with fail
   go_end0
   obtain ⟨a4,a5,a6,a7,a8⟩:=HH.out
   refine last_fin HT.out HN.out HW.out hwlen.out a4 (fun a=>?_) a6 a7 a8
   rw [a5 a,List.take_of_length_le (Nat.le_refl _)]
   refine or_congr Iff.rfl ⟨fun h=>⟨hi,?_⟩,fun h=>?_⟩
   ·simp only [MT.nt]; rw [last_ether]; exact h
   ·have h2:=h.2; simp only [MT.nt] at h2; rw [last_ether] at h2; exact h2
set_option maxRecDepth 20000 in
set_option maxHeartbeats 12800000 in
theorem last_some4 (c:AlC) (b:Nat) (v:Value) (l:List MT) (hT:(MT.node b v 4 l) ∈ subsL c.rules) (HL:∀ y ∈ l,LastC c y) (hl:l.length ≤ 100000) (hs:c.s.size ≤ 20000) (A:Nat→Prop) (og:Nat) (w:World) (lo:List Bool) (wl:Nat→List Bool) (n i:Nat) (hN:(MT.node b v 4 l).Numd c.f n) (hst:LSt c A og w lo wl) (hwi:WasI c wl lo n (n + (MT.node b v 4 l).nt.parts)) (hi:i < c.s.size) (hsk:(wl n).getD i false = false) :
  Calls Tryz.prog 95 #[.pointer (some ⟨c.ab,0,none⟩),.pointer (some ⟨b,0,none⟩),.int .i64 (i:Int),.slice (some ⟨og,0,none⟩) 120 120] w (LOut c A og w lo wl n (n + (MT.node b v 4 l).nt.parts) (fun a=>PL c (MT.node b v 4 l) i a)):=by
 obtain ⟨ad,cap,rfl,_,_,_⟩:=kid_cells (AtL.sub c.rules _ hst.memo.prt hT)
 obtain ⟨hn,s0,s2,s3,s4,_,s5⟩:=hst.cells hT hN (Nat.le_of_lt hi)
 have hN2:c.N ≤ 20001:=by unfold AlC.N; omega
 have hN1:(c.s.size:Int) + 1 = (c.N:Int):=by unfold AlC.N; omega
 have hiN:i < c.N:=by unfold AlC.N; omega
 have n0:(0:Int) ≤ (n:Int):=by omega
 have n1:(n:Int) < (c.parts:Int):=by omega
 have i0:(0:Int) ≤ (i:Int):=by omega
 have i1:(i:Int) < (c.N:Int):=by omega
 have e0:decide ((c.s.size:Int) ≤ (i:Int)) = false:=by simp; omega
 rw [hsk] at s4
 simp only [MT.root] at s5
 have HPT:Hid ((MT.node b (.slice ad l.length cap) 4 l).nt.parts = 1 + partsL (ntL l)):=hide (by simp [MT.nt,NT.parts])
 have HS:=hide hst
 have HT:=hide hT
 have HN:=hide hN
 have HW:=hide hwi
 clear hst hT hN hwi hsk
 go_enter Tryz.func95,Tryz.ntmps95
 go_wp2_with fail
 go_quiet (fail)
 go_upto_region 1 with fail
 obtain ⟨w0,hw0⟩:∃ w0:World,w.drewN nq = w0:=⟨_,rfl⟩
 rw [hw0]
 have hb0:Below w.heap.size w w0:=by rw [← hw0]; exact BelowN _ _
 have hst0:=HS.out.below hb0
 obtain ⟨_,t0,t2,t3,t4,f4,t5⟩:=hst0.cells HT.out HN.out (Nat.le_of_lt hi)
 simp only [MT.root] at t5
 have HS0:=hide (And.intro hst0 hb0)
 have hwlen:Hid (i < (wl n).length):=hide (by rw [(HS.out.was n hn).1]; exact hiN)
 clear hst0 hb0 s0 s2 s3 s4 s5 hw0 HS
 go_region
 obtain ⟨w1,hw1⟩:∃ w1:World,(w0.setCell ⟨c.U n,i,none⟩ (.bool true)).drew = w1:=⟨_,rfl⟩
 rw [hw1]
 have hst1:LSt c A og w1 lo (updW wl n ((wl n).set i true)):=by rw [← hw1]; exact (HS0.out.1.mark hn).below (Below_drew' _)
 have hk1:Kept (fun b=>c.M b∨A b) w w1:=by rw [← hw1]; exact ((Kept.ofBelow HS0.out.2).setCell (p:=⟨c.U n,i,none⟩) (fun _=>.inr (HS0.out.1.memo.wrow n hn).1) _).drew
 have s0:w1.cell? ⟨c.ab,0,none⟩ = some (.string c.s):=hst1.memo.blk.cell 0
 have HS1:=hide (And.intro hst1 hk1)
 have HWM:Hid (WasI c (updW wl n ((wl n).set i true)) lo (n + 1) (n + (MT.node b (.slice ad l.length cap) 4 l).nt.parts)):=hide (HW.out.mark _)
 obtain ⟨_,_,hvv,k0,_,_⟩:=kid_cells (AtL.sub c.rules _ hst1.memo.prt HT.out)
 injection hvv with hv1 hv2 hv3
 subst hv1 hv3
 have HLL:=hide HL
 clear hst1 hk1 t0 t2 t3 t4 f4 t5 hw1 HS0 HL
 go_wp2_with fail
 go_loopg [11] l.length (fun G kv wr=>∃ (k:Nat) (lo':List Bool) (wl':Nat→List Bool),kv = .int .i64 (k:Int)∧k ≤ l.length∧G = l.length - k∧LSt c A og wr lo' wl'∧(∀ a,lo'.getD a false = true↔(lo.getD a false = true∨anyLast (ntL (l.take k)) ((bytesN c.s).drop i) a))∧(∀ id,¬ (n + 1 ≤ id∧id < n + (MT.node b (.slice ad l.length cap) 4 l).nt.parts)→wl' id = updW wl n ((wl n).set i true) id)∧WasI c wl' lo' (n + 1) (n + (MT.node b (.slice ad l.length cap) 4 l).nt.parts)∧Kept (fun b=>c.M b∨A b) w wr)
 case atStart =>
  obtain ⟨a1,a2⟩:=HS1.out
  exact ⟨0,lo,_,rfl,by omega,rfl,a1,fun a=>by simp [ntL,anyLast],fun _ _=>rfl,HWM.out,a2⟩
 case round =>
  obtain ⟨k,lo',wl',rfl,hk,rfl,hst',hlo,hwl,hwi',hkp⟩:=hrel
  obtain ⟨ad',cap',hv',_,c4,ck⟩:=kid_cells (AtL.sub c.rules _ hst'.memo.prt HT.out)
  injection hv' with hv1 hv2 hv3
  subst hv1 hv3
  by_cases hlt:k < l.length
  ·have e1:decide ((k:Int) < (l.length:Int)) = true:=by simp; omega
   obtain ⟨g,hg,cg⟩:=ck k hlt
   subst hg
   have j0:(0:Int) ≤ (k:Int):=by omega
   have j1:(k:Int) < (l.length:Int):=by omega
   have hNL:=HN.out
   simp only [MT.Numd] at hNL
   obtain ⟨hkn,hkp2⟩:=numd_kid hNL.2 hlt
   have hpt:=HPT.out
   have HLS:=hide (HLL.out _ (List.getElem_mem hlt) A og wr lo' wl' _ i hkn hst' (hwi'.sub (by omega) (by omega)) (Nat.le_of_lt hi))
   have HH:=hide (And.intro hst' (And.intro hlo (And.intro hwl (And.intro hwi' hkp))))
   have HP:=hide (And.intro hkp2 hpt)
   clear hst' hlo hwl hwi' hkp ck hNL hkn hkp2 hpt
   go_wp2_with fail
   refine HLS.out.mono ?_
   rintro e w3 ⟨rfl,lo2,wl2,h1,h2,h3,h4,h5⟩
   have HR:=hide (And.intro h1 (And.intro h2 (And.intro h3 (And.intro h4 h5))))
   clear h1 h2 h3 h4 h5 HLS
   go_wp2_with fail
   go_roundg (l.length - (k + 1))
   case measure=>omega
   case rel =>
    obtain ⟨a4,a5,a6,a7,a8⟩:=HH.out
    obtain ⟨h1,h2,h3,h4,h5⟩:=HR.out
    obtain ⟨p1,p2⟩:=HP.out
    have htk:l.take (k + 1) = l.take k ++ [l[k]]:=(List.take_append_getElem hlt).symm
    refine ⟨k + 1,lo2,wl2,by go_num,by omega,rfl,h1,fun a=>?_,fun id hid=>?_,a7.grow h4 (fun a ha=>(h2 a).2 (.inl ha)) h3,a8.trans h5 (fun i _ e=>e)⟩
    ·rw [h2 a,a5 a,htk,ntL_snoc,anyLast_snoc,or_assoc]
     exact or_congr Iff.rfl (or_congr Iff.rfl ⟨fun h=>h.2,fun h=>⟨hi,h⟩⟩)
    ·rw [h3 id (by omega)]; exact a6 id hid
  ·obtain rfl:k = l.length:=by omega
   have e1:decide ((l.length:Int) < (l.length:Int)) = false:=by simp
   have HH:=hide (And.intro hst' (And.intro hlo (And.intro hwl (And.intro hwi' hkp))))
   clear hst' hlo hwl hwi' hkp ck
   go_wp2_with fail
   go_end0
   obtain ⟨a4,a5,a6,a7,a8⟩:=HH.out
   refine last_fin HT.out HN.out HW.out hwlen.out a4 (fun a=>?_) a6 a7 a8
   rw [a5 a,List.take_of_length_le (Nat.le_refl _)]
   refine or_congr Iff.rfl ⟨fun h=>⟨hi,?_⟩,fun h=>?_⟩
   ·simp only [MT.nt]; rw [last_maybe]; exact h
   ·have h2:=h.2; simp only [MT.nt] at h2; rw [last_maybe] at h2; exact h2
set_option maxRecDepth 20000 in
set_option maxHeartbeats 12800000 in
theorem lastP_place (c:AlC) (b pi pe:Nat) (A0:Nat→Bool) (hT:(MT.place b pi pe A0) ∈ subsL c.rules) (HAL:AllC (c.rs.extract pi pe) A0) (hpi:pi < 120) (hs:c.s.size ≤ 20000) (A:Nat→Prop) (og:Nat) (w:World) (lo:List Bool) (wl:Nat→List Bool) (n i:Nat) (hN:(MT.place b pi pe A0).Numd c.f n) (hst:LSt c A og w lo wl) (hwi:WasI c wl lo n (n + (MT.place b pi pe A0).nt.parts)) (hi:i < c.s.size) (hsk:(wl n).getD i false = false) :
  Calls Tryz.prog 95 #[.pointer (some ⟨c.ab,0,none⟩),.pointer (some ⟨b,0,none⟩),.int .i64 (i:Int),.slice (some ⟨og,0,none⟩) 120 120] w (LOut c A og w lo wl n (n + (MT.place b pi pe A0).nt.parts) (fun a=>PL c (MT.place b pi pe A0) i a)):=by
 obtain ⟨hn,s0,s2,s3,s4,_,s5⟩:=hst.cells hT hN (Nat.le_of_lt hi)
 have hN2:c.N ≤ 20001:=by unfold AlC.N; omega
 have hN1:(c.s.size:Int) + 1 = (c.N:Int):=by unfold AlC.N; omega
 have hiN:i < c.N:=by unfold AlC.N; omega
 have n0:(0:Int) ≤ (n:Int):=by omega
 have n1:(n:Int) < (c.parts:Int):=by omega
 have i0:(0:Int) ≤ (i:Int):=by omega
 have i1:(i:Int) < (c.N:Int):=by omega
 have e0:decide ((c.s.size:Int) ≤ (i:Int)) = false:=by simp; omega
 rw [hsk] at s4
 simp only [MT.root] at s5
 have HS:=hide hst
 have HT:=hide hT
 have HN:=hide hN
 have HW:=hide hwi
 clear hst hT hN hwi hsk
 go_enter Tryz.func95,Tryz.ntmps95
 go_wp2_with fail
 go_quiet (fail)
 go_upto_region 1 with fail
 obtain ⟨w0,hw0⟩:∃ w0:World,w.drewN nq = w0:=⟨_,rfl⟩
 rw [hw0]
 have hb0:Below w.heap.size w w0:=by rw [← hw0]; exact BelowN _ _
 have hst0:=HS.out.below hb0
 obtain ⟨_,t0,t2,t3,t4,f4,t5⟩:=hst0.cells HT.out HN.out (Nat.le_of_lt hi)
 simp only [MT.root] at t5
 have HS0:=hide (And.intro hst0 hb0)
 have hwlen:Hid (i < (wl n).length):=hide (by rw [(HS.out.was n hn).1]; exact hiN)
 clear hst0 hb0 s0 s2 s3 s4 s5 hw0 HS
 go_region
 obtain ⟨w1,hw1⟩:∃ w1:World,(w0.setCell ⟨c.U n,i,none⟩ (.bool true)).drew = w1:=⟨_,rfl⟩
 rw [hw1]
 have hst1:LSt c A og w1 lo (updW wl n ((wl n).set i true)):=by rw [← hw1]; exact (HS0.out.1.mark hn).below (Below_drew' _)
 have hk1:Kept (fun b=>c.M b∨A b) w w1:=by rw [← hw1]; exact ((Kept.ofBelow HS0.out.2).setCell (p:=⟨c.U n,i,none⟩) (fun _=>.inr (HS0.out.1.memo.wrow n hn).1) _).drew
 have s0:w1.cell? ⟨c.ab,0,none⟩ = some (.string c.s):=hst1.memo.blk.cell 0
 have HS1:=hide (And.intro hst1 hk1)
 have HWM:Hid (WasI c (updW wl n ((wl n).set i true)) lo (n + 1) (n + (MT.place b pi pe A0).nt.parts)):=hide (HW.out.mark _)
 have hbl:=AtL.sub c.rules _ hst1.memo.prt HT.out
 simp only [MT.At] at hbl
 have k0:w1.cell? ⟨b,0,none⟩ = some (.int .i64 0):=hbl.cell 0
 have k2:w1.cell? ⟨b,2,none⟩ = some (.int .i64 (pi:Int)):=hbl.cell 2
 have k3:w1.cell? ⟨b,3,none⟩ = some (.string (c.rs.extract pi pe)):=hbl.cell 3
 have zb:=hbl.lt
 have zab:=hst1.memo.blk.lt
 obtain ⟨ch,hch⟩:∃ ch,c.s[i].toNat = ch:=⟨_,rfl⟩
 have hch2:ch < 256:=by rw [← hch]; exact c.s[i].toNat_lt
 have hsem:Hid (∀ a,PL c (MT.place b pi pe A0) i a↔(i + 1 = c.s.size∧A0 ch = true∧a = pi)):=hide (fun a=>by
  unfold PL
  simp only [MT.nt]
  rw [last_place]
  have hd:(bytesN c.s).drop i = ch :: (bytesN c.s).drop (i + 1):=by rw [List.drop_eq_getElem_cons (by rw [bytesN_len]; exact hi),bytesN_get hi,hch]
  rw [hd]
  have hlen:((bytesN c.s).drop (i + 1)).length = c.s.size - (i + 1):=by rw [List.length_drop,bytesN_len]
  constructor
  ·rintro ⟨_,x,h1,h2,h3⟩
   injection h1 with h1 h4
   rw [h4] at hlen
   simp at hlen
   exact ⟨by omega,by rw [h1]; exact h2,h3⟩
  ·rintro ⟨h1,h2,h3⟩
   have hnil:(bytesN c.s).drop (i + 1) = []:=List.eq_nil_of_length_eq_zero (by rw [hlen]; omega)
   exact ⟨hi,ch,by rw [hnil],h2,h3⟩)
 have hpt:Hid ((MT.place b pi pe A0).nt.parts = 1):=hide (by simp [MT.nt,NT.parts])
 have fin:Hid (∀ (W:World) (lo':List Bool),LSt c A og W lo' (updW wl n ((wl n).set i true))→(∀ a,lo'.getD a false = true↔(lo.getD a false = true∨PL c (MT.place b pi pe A0) i a))→Kept (fun b=>c.M b∨A b) w W→LOut c A og w lo wl n (n + (MT.place b pi pe A0).nt.parts) (fun a=>PL c (MT.place b pi pe A0) i a) (.returned (.tuple #[])) W):=hide (fun W lo' a1 a2 a3=>last_fin HT.out HN.out HW.out hwlen.out a1 a2 (fun _ _=>rfl) (HWM.out.grow (n:=n + 1) (m:=n + 1) (fun T hT id hid x y=>by omega) (fun a ha=>(a2 a).2 (.inl ha)) (fun _ _=>rfl)) a3)
 have hch3:(c.s[i].toNat:Int) = (ch:Int):=by rw [hch]
 have e2:(i:Int) < (c.s.size:Int):=by omega
 obtain ⟨tx,htx⟩:∃ tx,c.rs.extract pi pe = tx:=⟨_,rfl⟩
 rw [htx] at k3 HAL
 have HA:=hide HAL
 clear hst1 hk1 t0 t2 t3 t4 f4 t5 hw1 HS0 hbl htx hch HAL
 by_cases hlast:i + 1 = c.s.size
 ·have e1:((i:Int) == (c.s.size:Int) - 1) = true:=by simp; omega
  have hwc2:IntKind.i64.wrap (ch:Int) = (ch:Int):=by rw [Go.IntWalk.i64_left]; unfold wrap64; omega
  have hws:IntKind.i64.wrap ((c.s.size:Int) - 1) = (c.s.size:Int) - 1:=by rw [Go.IntWalk.i64_left]; unfold wrap64; omega
  have S0:w1.drew.cell? ⟨c.ab,0,none⟩ = some (.string c.s)∧w1.drew.cell? ⟨b,3,none⟩ = some (.string tx):=⟨s0,k3⟩
  have HC:=hide (HA.out ch w1.drew hch2)
  go_upto_region 3 with fail
  go_cut [71] (fun bv wx=>bv = .bool (A0 ch)∧Below w1.heap.size w1 wx)
  case first =>
   go_region_held3 (fun w'=>w'.cell? ⟨c.ab,0,none⟩ = some (.string c.s)∧w'.cell? ⟨b,3,none⟩ = some (.string tx))
    (first | with_reducible exact S0 | with_reducible exact S1)
    (first | (go_at_call 97; refine HC.out.mono ?_; rintro e w2 ⟨rfl,hb2⟩; have hb2':=(Below_drew' w1).trans (hb2.mono (Nat.le_refl _)); have g0:=(hb2'.cell (p:=⟨c.ab,0,none⟩) zab).trans s0; have g3:=(hb2'.cell (p:=⟨b,3,none⟩) zb).trans k3; have S1:=And.intro g0 g3; have HB2:=hide hb2'; clear hb2 hb2'))
   all_goals
    go_wp2_with fail
    go_meet
    exact ⟨rfl,HB2.out⟩
  case rest =>
   obtain ⟨rfl,hbc⟩:=hcut
   have hstc:=HS1.out.1.below hbc
   have kc2:wc.cell? ⟨b,2,none⟩ = some (.int .i64 (pi:Int)):=(hbc.cell (p:=⟨b,2,none⟩) zb).trans k2
   have co:=boolsA_cellD hstc.blk pi (by rw [hstc.len]; exact hpi)
   have fo:=hstc.blk.frozen pi
   have p0:(0:Int) ≤ (pi:Int):=by omega
   have p1:(pi:Int) < 120:=by omega
   have HSC:=hide (And.intro hstc (HS1.out.2.below hbc))
   clear hstc hbc HC S0 k0 k2 k3 s0 HA hwc2 hws
   generalize A0 ch = x at hsem ⊢
   cases x with
   |false =>
    go_wp2_with fail
    go_end0
    exact fin.out _ lo HSC.out.1 (fun a=>⟨fun h=>.inl h,fun h=>by rcases h with h | h; exact h; exact absurd ((hsem.out a).1 h).2.1 (by simp)⟩) HSC.out.2
   |true =>
    go_wp2_with fail
    go_end0
    refine fin.out _ (lo.set pi true) (HSC.out.1.out pi) (fun a=>?_) (HSC.out.2.setCell (p:=⟨og,pi,none⟩) (fun _=>.inr HSC.out.1.aog) _)
    rw [getD_setB _ _ _ _ (by rw [HSC.out.1.len]; exact hpi),hsem.out a]
    by_cases hap:a = pi
    ·rw [if_pos hap]; exact ⟨fun _=>.inr ⟨hlast,by simp,hap⟩,fun _=>rfl⟩
    ·rw [if_neg hap]; exact ⟨fun h=>.inl h,fun h=>by rcases h with h | h; exact h; exact absurd h.2.2 hap⟩
 ·have e1:((i:Int) == (c.s.size:Int) - 1) = false:=by simp; omega
  clear HA
  go_wp2_with fail
  go_quiet (fail)
  go_wp2_with fail
  go_end0
  exact fin.out _ lo (HS1.out.1.below (BelowN _ _)) (fun a=>⟨fun h=>.inl h,fun h=>by rcases h with h | h; exact h; exact absurd ((hsem.out a).1 h).1 hlast⟩) (HS1.out.2.drewN _)
mutual
theorem last_all (c:AlC) (hs:c.s.size ≤ 20000) (hwf:WfL c.rs (ntL c.rules)) (hrs:c.rs.size ≤ 120) (hpt:c.parts ≤ 100000):∀ T:MT,T ∈ subsL c.rules→LastC c T
 | .place b i e A,h=>by
  have hw:=wfL_sub c.rules _ hwf h
  simp only [MT.nt,NT.Wf] at hw
  have hl:=hw.lt
  intro A' og w lo wl n j hN hst hwi hj
  by_cases hsk:c.s.size ≤ j∨(wl n).getD j false = true
  ·exact last_skip c _ h A' og w lo wl n j hN hst hwi hj hs hsk
  ·rw [not_or] at hsk
   exact lastP_place c b i e A h (hw.allows hrs) (by omega) hs A' og w lo wl n j hN hst hwi (by omega) (by simpa using hsk.2)
 | .node b v k l,h=>by
  have hw:=wfL_sub c.rules _ hwf h
  have hp:=partsL_sub c.rules _ h
  have hl:=partsL_len l
  have hE:=endsL_all c hs hwf hrs hpt l (fun y hy=>subsL_kid c.rules _ h b v k l rfl y hy)
  have hkid:=lastL_all c hs hwf hrs hpt l (fun y hy=>subsL_kid c.rules _ h b v k l rfl y hy)
  simp only [MT.nt,NT.Wf,NT.parts] at hw hp
  have hll:l.length ≤ 100000:=by unfold AlC.parts at hpt; omega
  intro A' og w lo wl n j hN hst hwi hj
  by_cases hsk:c.s.size ≤ j∨(wl n).getD j false = true
  ·exact last_skip c _ h A' og w lo wl n j hN hst hwi hj hs hsk
  ·rw [not_or] at hsk
   have hsk2:(wl n).getD j false = false:=by simpa using hsk.2
   have hj2:j < c.s.size:=by omega
   rcases hw.1 with e | e | ⟨e,e2⟩ | e
   ·subst e; exact last_row1 c b v l h hE hkid hll hs A' og w lo wl n j hN hst hwi hj2 hsk2
   ·subst e; exact last_some2 c b v l h hkid hll hs A' og w lo wl n j hN hst hwi hj2 hsk2
   ·subst e
    rw [ntL_len] at e2
    obtain ⟨y,rfl⟩:=List.length_eq_one_iff.1 e2
    exact lastP_many c b v y h (hE y (by simp)) (hkid y (by simp)) hs A' og w lo wl n j hN hst hwi hj2 hsk2
   ·subst e; exact last_some4 c b v l h hkid hll hs A' og w lo wl n j hN hst hwi hj2 hsk2
theorem lastL_all (c:AlC) (hs:c.s.size ≤ 20000) (hwf:WfL c.rs (ntL c.rules)) (hrs:c.rs.size ≤ 120) (hpt:c.parts ≤ 100000):∀ (l:List MT),(∀ y ∈ l,y ∈ subsL c.rules)→∀ y ∈ l,LastC c y
 | [],_,y,h=>by simp at h
 |x :: l,hl,y,h=>by
  rw [List.mem_cons] at h
  rcases h with rfl | h
  ·exact last_all c hs hwf hrs hpt y (hl y (by simp))
  ·exact lastL_all c hs hwf hrs hpt l (fun z hz=>hl z (by simp [hz])) y h
end
end Go.Proofs.YtcckhngbdoiikaaGreat
