import Derived.Test.YtcckhngbdoiikaaGreatG14
import Derived.Deep.AppendLies

namespace Go.Proofs.YtcckhngbdoiikaaGreat
open Go.RowKit Go.Deep
set_option linter.unusedVariables false
def finAt (g:Graph) (cls:List Int) (N n:Nat):List Int:=(refineAt g cls n).1 ++ List.replicate (N - n) 0
theorem finAt_len (g:Graph) (cls:List Int) (N n:Nat) (h:n ≤ N):(finAt g cls N n).length = N:=by simp [finAt,refineAt_len]; omega
theorem finAt_get (g:Graph) (cls:List Int) (N n e:Nat) (he:e < n):(finAt g cls N n).getD e 0 = (refineAt g cls n).1.getD e 0:=by
 simp [finAt,List.getElem?_append_left (show e < (refineAt g cls n).1.length by rw [refineAt_len]; exact he)]
theorem finAt_step (g:Graph) (cls:List Int) (N n:Nat) (x:Int) (h:n < N) (hx:(refineAt g cls (n + 1)).1 = (refineAt g cls n).1 ++ [x]):finAt g cls N (n + 1) = (finAt g cls N n).set n x:=by
 unfold finAt
 have hl:=refineAt_len g cls n
 rw [hx,List.set_append_right _ _ (by omega),hl,Nat.sub_self,show N - n = (N - (n + 1)) + 1 by omega,List.replicate_succ,List.set_cons_zero,List.append_assoc]
 rfl
set_option maxHeartbeats 3200000 in
theorem refine_any (rv nv cv:Value) (g:Graph) (K:Nat) (cls:List Int) (w:World) (hg:GraphAt w rv nv g) (ho:GOk g K) (hc:IRow w cv cls) (hcl:cls.length = g.rule.length) (hn:g.rule.length ≤ 1000) (hK:K ≤ 1000) :
  Calls Tryz.prog 89 #[.agg #[rv,nv],cv] w fun e w'=>∃ fb,e = .returned (.tuple #[.slice (some ⟨fb,0,none⟩) g.rule.length g.rule.length,.int .i64 ((refineAt g cls g.rule.length).2:Int)]) ∧
   IRow w' (.slice (some ⟨fb,0,none⟩) g.rule.length g.rule.length) (refineAt g cls g.rule.length).1∧Below w.heap.size w w':=by
 have hT:=fun (W:World) (hb:Below w.heap.size w W) (a b:Nat) (ha:a < g.rule.length) (hb':b < g.rule.length)=>together_any rv nv cv g K cls a b W (hg.below hb) ho (hc.below hb) hcl ha hb' hn hK
 obtain ⟨vs,hN,hvl,hvs⟩:=hg.next
 obtain ⟨cd,ccap,rfl,_⟩:=hc.form
 obtain ⟨rd,rcap,rfl,_⟩:=hg.rule.form
 obtain ⟨nd,ncap,rfl,_⟩:=hN.form
 rw [← hcl] at hT ⊢
 have HT:=hide hT
 have HCL:=hide hcl
 have hcl1:cls.length ≤ 1000:=by omega
 clear hT hg ho hc hN hvl hvs hcl
 have hmk:=makeInts cls.length (by omega)
 go_enter Tryz.func89,Tryz.ntmps89
 go_wp2_with fail
 go_loopg [7,15] cls.length (fun G c i wr=>∃ n:Nat,n ≤ cls.length∧G = cls.length - n∧i = .int .i64 (n:Int)∧c = .int .i64 ((refineAt g cls n).2:Int)∧Below w.heap.size w wr ∧
  Blk wr w.heap.size #[.slice rd cls.length rcap,.slice nd vs.length ncap] 63∧Blk wr (w.heap.size + 1) (intsA (finAt g cls cls.length n)) 3)
 case atStart =>
  refine ⟨0,by omega,rfl,rfl,rfl,Below2 _ _ _,(Blk.new w _ _).alloc _,?_⟩
  have e0:finAt g cls cls.length 0 = List.replicate cls.length 0:=by simp [finAt,refineAt]
  rw [e0]
  exact Blk.at1 w _ _ _
 case round =>
  obtain ⟨n,hnl,rfl,rfl,rfl,hb,hG,hI⟩:=hrel
  by_cases hlt:n < cls.length
  ·have e0:decide ((n:Int) < (cls.length:Int)) = true:=by simp; omega
   have hlen:=finAt_len g cls cls.length n (by omega)
   have c0:=intsA_cell hI n (by omega)
   have f0:=hI.frozen n
   have i0:(0:Int) ≤ (n:Int):=by omega
   have i1:(n:Int) < (cls.length:Int):=by omega
   have hcb:=(refineAt_bd g cls n).2
   have hcN:(refineAt g cls n).2 ≤ 1000:=by omega
   generalize (finAt g cls cls.length n)[n]'(by omega) = old at c0
   have HI:=hide hI
   have HB:=hide hb
   have HG:=hide hG
   have HLEN:=hide hlen
   generalize hcnt:(refineAt g cls n).2 = cnt at hcb hcN ⊢
   have HCNT:=hide hcnt
   have HM:Hid (∃ M,mateF g cls n (n + 1) 0 = M):=⟨_,rfl⟩
   obtain ⟨M,hM⟩:=HM.out
   have HMM:=hide hM
   clear hI hb hG hlen hcnt hM HM
   obtain ⟨wo,rfl⟩:∃ wo:World,wo = wr:=⟨_,rfl⟩
   go_wp2_with fail
   go_loopg [9] (n + 1) (fun G i wi=>∃ k:Nat,k ≤ n∧G = n + 1 - k∧i = .int .i64 (k:Int)∧Below w.heap.size w wi ∧
    Blk wi w.heap.size #[.slice rd cls.length rcap,.slice nd vs.length ncap] 63∧Blk wi (w.heap.size + 1) (intsA ((finAt g cls cls.length n).set n (cnt:Int))) 3∧mateF g cls n (n + 1 - k) k = M)
   case atStart =>
    refine ⟨0,by omega,rfl,rfl,HB.out.setCell (by simp) _,HG.out.setOther (by simp) _,?_,HMM.out⟩
    rw [← intsA_set]; exact HI.out.set n _
   case round =>
    obtain ⟨k,hk,rfl,rfl,hb2,hG2,hI2,hm2⟩:=hrel
    clear HB HG HI c0 f0
    have hz1:=hI2.lt
    have g0:wr.cell? ⟨w.heap.size,0,none⟩ = some (.slice rd cls.length rcap):=hG2.cell 0
    have g1:wr.cell? ⟨w.heap.size,1,none⟩ = some (.slice nd vs.length ncap):=hG2.cell 1
    have hls:((finAt g cls cls.length n).set n (cnt:Int)).length = cls.length:=by rw [List.length_set]; exact HLEN.out
    have cn:wr.cell? ⟨w.heap.size + 1,n,none⟩ = some (.int .i64 (cnt:Int)):=by
     rw [intsA_cell hI2 n (by omega)]; simp
    have fn:=hI2.frozen n
    have HH:Hid (Below w.heap.size w wr∧Blk wr w.heap.size #[.slice rd cls.length rcap,.slice nd vs.length ncap] 63∧Blk wr (w.heap.size + 1) (intsA ((finAt g cls cls.length n).set n (cnt:Int))) 3∧mateF g cls n (n + 1 - k) k = M):=⟨hb2,hG2,hI2,hm2⟩
    have HLS:=hide hls
    clear hb2 hG2 hI2 hm2 hls
    by_cases hkn:k < n
    ·have e1:decide ((k:Int) < (n:Int)) = true:=by simp; omega
     have k0:(0:Int) ≤ (k:Int):=by omega
     have k1:(k:Int) < (cls.length:Int):=by omega
     go_wp2_with fail
     refine (HT.out wr HH.out.1 k n (by omega) (by omega)).mono ?_
     rintro e w4 ⟨rfl,hb4⟩
     obtain ⟨hb2,hG2,hI2,hm2⟩:=HH.out
     have hG4:=hG2.below hb4
     have hI4:=hI2.below hb4
     have hb5:Below w.heap.size w w4:=hb2.trans (hb4.mono hb2.size)
     rw [show n + 1 - k = (n - k) + 1 by omega] at hm2
     unfold mateF at hm2
     rw [if_pos hkn] at hm2
     cases htg:togetherF g cls k n with
     |false =>
      rw [htg,if_neg (by simp)] at hm2
      have HH4:Hid (Below w.heap.size w w4∧Blk w4 w.heap.size #[.slice rd cls.length rcap,.slice nd vs.length ncap] 63∧Blk w4 (w.heap.size + 1) (intsA ((finAt g cls cls.length n).set n (cnt:Int))) 3∧mateF g cls n (n - k) (k + 1) = M):=⟨hb5,hG4,hI4,hm2⟩
      clear hb2 hG2 hI2 hm2 hG4 hI4 hb5 hb4 HH htg g0 g1 cn fn
      go_wp2_with fail
      go_roundg (n - k)
      case measure=>omega
      case rel =>
       obtain ⟨q1,q2,q3,q4⟩:=HH4.out
       exact ⟨k + 1,by omega,by omega,by go_num,q1,q2,q3,by rw [show n + 1 - (k + 1) = n - k by omega]; exact q4⟩
     |true =>
      rw [htg,if_pos rfl] at hm2
      have hls:=HLS.out
      have ck:w4.cell? ⟨w.heap.size + 1,k,none⟩ = some (.int .i64 ((refineAt g cls n).1.getD k 0)):=by
       rw [intsA_cell hI4 k (by omega)]
       congr 2
       rw [List.getElem_set_ne (by omega)]
       have hl0:=HLEN.out
       have:=finAt_get g cls cls.length n k hkn
       rw [← this]
       simp [show k < (finAt g cls cls.length n).length by omega]
      have cn4:w4.cell? ⟨w.heap.size + 1,n,none⟩ = some (.int .i64 (cnt:Int)):=by
       rw [intsA_cell hI4 n (by omega)]; simp
      have fn4:=hI4.frozen n
      have hbd:=(refineAt_bd g cls n).1
      have hrl:=refineAt_len g cls n
      have hmem:(refineAt g cls n).1.getD k 0 ∈ (refineAt g cls n).1:=by
       simp [show k < (refineAt g cls n).1.length by omega]
      have hx:=hbd _ hmem
      have hxr:(refineAt g cls (n + 1)).1 = (refineAt g cls n).1 ++ [(refineAt g cls n).1.getD k 0]∧(refineAt g cls (n + 1)).2 = cnt:=by
       have hMe:=HMM.out
       rw [← hm2] at hMe
       have:refineAt g cls (n + 1) = ((refineAt g cls n).1 ++ [(refineAt g cls n).1.getD k 0],(refineAt g cls n).2):=by
        conv=>lhs; unfold refineAt
        rw [hMe]
       rw [this]
       exact ⟨rfl,HCNT.out⟩
      rw [HCNT.out] at hx
      generalize (refineAt g cls n).1.getD k 0 = x at ck hx hxr
      have ene:(x == (cnt:Int)) = false:=by simp; omega
      have HXR:=hide hxr
      have HH4:Hid (Below w.heap.size w w4∧Blk w4 w.heap.size #[.slice rd cls.length rcap,.slice nd vs.length ncap] 63∧Blk w4 (w.heap.size + 1) (intsA ((finAt g cls cls.length n).set n (cnt:Int))) 3):=⟨hb5,hG4,hI4⟩
      clear hb2 hG2 hI2 hm2 hG4 hI4 hb5 hb4 HH htg g0 g1 cn fn hls hbd hrl hmem hxr hx
      go_wp2_with fail
      go_roundg (cls.length - (n + 1))
      case measure=>omega
      case rel =>
       obtain ⟨q1,q2,q3⟩:=HH4.out
       obtain ⟨hx1,hx2⟩:=HXR.out
       refine ⟨n + 1,by omega,rfl,by go_num,by rw [hx2],q1.setCell (by simp) _,q2.setOther (by simp) _,?_⟩
       rw [finAt_step g cls cls.length n x hlt hx1]
       have:=q3.set n (.int .i64 x)
       rw [intsA_set,List.set_set] at this
       exact this
    ·have e1:decide ((k:Int) < (n:Int)) = false:=by simp; omega
     obtain rfl:k = n:=by omega
     have hMn:M = none:=by
      have hm2:=HH.out.2.2.2
      rw [show k + 1 - k = 0 + 1 by omega] at hm2
      unfold mateF at hm2
      rw [if_neg (by omega)] at hm2
      exact hm2.symm
     have hxr:(refineAt g cls (k + 1)).1 = (refineAt g cls k).1 ++ [(cnt:Int)]∧(refineAt g cls (k + 1)).2 = cnt + 1:=by
      have hMe:=HMM.out
      rw [hMn] at hMe
      have:refineAt g cls (k + 1) = ((refineAt g cls k).1 ++ [((refineAt g cls k).2:Int)],(refineAt g cls k).2 + 1):=by
       conv=>lhs; unfold refineAt
       rw [hMe]
      rw [this,HCNT.out]
      exact ⟨rfl,rfl⟩
     have HXR:=hide hxr
     clear hxr hMn
     go_wp2_with fail
     go_roundg (cls.length - (k + 1))
     case measure=>omega
     case rel =>
      obtain ⟨q1,q2,q3,_⟩:=HH.out
      obtain ⟨hx1,hx2⟩:=HXR.out
      refine ⟨k + 1,by omega,rfl,by go_num,by rw [hx2]; go_num,q1,q2,?_⟩
      rw [finAt_step g cls cls.length k _ hlt hx1]
      exact q3
  ·have e0:decide ((n:Int) < (cls.length:Int)) = false:=by simp; omega
   obtain rfl:n = cls.length:=by omega
   go_wp2_with fail
   go_ret2
   refine ⟨_,rfl,?_,hb⟩
   have e1:finAt g cls cls.length cls.length = (refineAt g cls cls.length).1:=by simp [finAt]
   rw [e1] at hI
   have:=IRow.ofBlk hI (by rw [refineAt_len]; omega)
   rw [refineAt_len] at this
   exact this
theorem mateF_none (g:Graph) (cls:List Int) (n:Nat):∀ (f k:Nat),(∀ j,k ≤ j→j < n→togetherF g cls j n = false)→mateF g cls n f k = none
 | 0,k,h=>rfl
 |f + 1,k,h=>by
  unfold mateF
  split
  ·rename_i hk
   rw [h k (Nat.le_refl _) hk,if_neg (by simp)]
   exact mateF_none g cls n f (k + 1) (fun j hj hj'=>h j (by omega) hj')
  ·rfl
theorem refineAt_succ (g:Graph) (cls:List Int) (n:Nat):∃ x,(refineAt g cls (n + 1)).1 = (refineAt g cls n).1 ++ [x]∧(mateF g cls n (n + 1) 0 = none→x = ((refineAt g cls n).2:Int)∧(refineAt g cls (n + 1)).2 = (refineAt g cls n).2 + 1)∧(refineAt g cls n).2 ≤ (refineAt g cls (n + 1)).2∧((∃ e,mateF g cls n (n + 1) 0 = some e)→(refineAt g cls (n + 1)).2 = (refineAt g cls n).2):=by
 cases hm:mateF g cls n (n + 1) 0 with
 |none =>
  have:refineAt g cls (n + 1) = ((refineAt g cls n).1 ++ [((refineAt g cls n).2:Int)],(refineAt g cls n).2 + 1):=by
   conv=>lhs; unfold refineAt
   rw [hm]
  rw [this]
  exact ⟨_,rfl,fun _=>⟨rfl,rfl⟩,Nat.le_succ _,fun ⟨e,he⟩=>by cases he⟩
 |some e =>
  have:refineAt g cls (n + 1) = ((refineAt g cls n).1 ++ [(refineAt g cls n).1.getD e 0],(refineAt g cls n).2):=by
   conv=>lhs; unfold refineAt
   rw [hm]
  rw [this]
  exact ⟨_,rfl,(fun h=>by cases h),Nat.le_refl _,fun _=>rfl⟩
theorem refineAt_prefix (g:Graph) (cls:List Int) (n:Nat):∀ d,(refineAt g cls (n + d)).1.take n = (refineAt g cls n).1
 | 0=>by rw [Nat.add_zero,List.take_of_length_le (by rw [refineAt_len]; omega)]
 |d + 1=>by
  obtain ⟨x,hx,_⟩:=refineAt_succ g cls (n + d)
  rw [show n + (d + 1) = (n + d) + 1 by omega,hx,List.take_append_of_le_length (by rw [refineAt_len]; omega)]
  exact refineAt_prefix g cls n d
theorem refineAt_get (g:Graph) (cls:List Int) (N n k:Nat) (hn:n ≤ N) (hk:k < n):(refineAt g cls N).1.getD k 0 = (refineAt g cls n).1.getD k 0:=by
 have:=refineAt_prefix g cls n (N - n)
 rw [show n + (N - n) = N by omega] at this
 rw [← this]
 simp [hk]
theorem refineAt_mono (g:Graph) (cls:List Int) (N:Nat):∀ n,n ≤ N→(refineAt g cls n).2 ≤ (refineAt g (refineAt g cls N).1 n).2
 | 0,_=>Nat.le_refl _
 |n + 1,h=>by
  have ih:=refineAt_mono g cls N n (by omega)
  obtain ⟨x,hx,hnone,hle,hsome⟩:=refineAt_succ g cls n
  obtain ⟨y,hy,hnone',hle',_⟩:=refineAt_succ g (refineAt g cls N).1 n
  cases hm:mateF g cls n (n + 1) 0 with
  |some e=>rw [hsome ⟨e,hm⟩]; omega
  |none =>
   have hx':=hnone hm
   rw [hx'.2]
   have:mateF g (refineAt g cls N).1 n (n + 1) 0 = none:=by
    apply mateF_none
    intro j _ hj
    unfold togetherF
    rw [if_pos]
    left
    rw [refineAt_get g cls N (n + 1) j h (by omega),refineAt_get g cls N (n + 1) n h (by omega),hx]
    have hl:=refineAt_len g cls n
    have e1:((refineAt g cls n).1 ++ [x]).getD n 0 = x:=by simp [hl]
    have e2:((refineAt g cls n).1 ++ [x]).getD j 0 ∈ (refineAt g cls n).1:=by
     simp [List.getElem?_append_left (show j < (refineAt g cls n).1.length by omega),show j < (refineAt g cls n).1.length by omega]
    have hq:=(refineAt_bd g cls n).1 _ e2
    have hx1:=hx'.1
    rw [e1]
    omega
   have:=(hnone' this).2
   omega
set_option maxHeartbeats 1600000 in
theorem merge_any (rv nv:Value) (g:Graph) (K:Nat) (w:World) (hg:GraphAt w rv nv g) (ho:GOk g K) (hn:g.rule.length ≤ 1000) (hK:K ≤ 1000) :
  Calls Tryz.prog 47 #[.agg #[rv,nv]] w fun e w'=>∃ cv,e = .returned cv∧IRow w' cv (mergeF g)∧(mergeF g).length = g.rule.length∧Below w.heap.size w w':=by
 have hT:=fun (W:World) (hb:Below w.heap.size w W) (cv:Value) (cls:List Int) (hc:IRow W cv cls) (hl:cls.length = g.rule.length)=>refine_any rv nv cv g K cls W (hg.below hb) ho hc hl hn hK
 obtain ⟨vs,hN,hvl,hvs⟩:=hg.next
 obtain ⟨rd,rcap,rfl,_⟩:=hg.rule.form
 obtain ⟨nd,ncap,rfl,_⟩:=hN.form
 have HT:=hide hT
 clear hT hg ho hN hvl hvs
 generalize hF:mergeF g = F
 have HF:=hide hF
 clear hF
 have hmk:=makeInts g.rule.length (by omega)
 go_enter Tryz.func47,Tryz.ntmps47
 go_wp2_with fail
 go_loopg [3,4] (g.rule.length + 1) (fun G c i wr=>∃ (cls:List Int) (cnt:Nat) (cg:Nat),c = .slice (some ⟨cg,0,none⟩) g.rule.length g.rule.length∧i = .int .i64 (cnt:Int)∧cls.length = g.rule.length∧IRow wr c cls∧g.rule.length + 1 ≤ G + cnt∧cnt ≤ (refineAt g cls g.rule.length).2∧mergeLoop g G cls cnt = F ∧
  Below w.heap.size w wr∧Blk wr w.heap.size #[.slice rd g.rule.length rcap,.slice nd vs.length ncap] 63)
 case atStart =>
  have h1:=IRow.ofBlk (l:=List.replicate g.rule.length 0) (Blk.at1 w (.cells #[.slice rd g.rule.length rcap,.slice nd vs.length ncap] 63) _ _) (by simp; omega)
  simp only [List.length_replicate] at h1
  exact ⟨List.replicate g.rule.length 0,0,w.heap.size + 1,rfl,rfl,by simp,h1,by omega,Nat.zero_le _,HF.out,Below2 _ _ _,(Blk.new w _ _).alloc _⟩
 case round =>
  obtain ⟨cls,cnt,cg,rfl,rfl,hcl,hI,hfu,hmo,hFl,hb,hG⟩:=hrel
  clear HF
  have g0:wr.cell? ⟨w.heap.size,0,none⟩ = some (.slice rd g.rule.length rcap):=hG.cell 0
  have g1:wr.cell? ⟨w.heap.size,1,none⟩ = some (.slice nd vs.length ncap):=hG.cell 1
  have hRf:=HT.out wr hb _ cls hI hcl
  have hbd:=(refineAt_bd g cls g.rule.length).2
  have hlen:=refineAt_len g cls g.rule.length
  have hmon:=refineAt_mono g cls g.rule.length g.rule.length (Nat.le_refl _)
  rw [show gk = (gk - 1) + 1 by omega] at hFl
  unfold mergeLoop at hFl
  generalize refineAt g cls g.rule.length = r at hRf hbd hlen hmon hFl hmo
  obtain ⟨cls2,cnt2⟩:=r
  simp only at hRf hbd hlen hmon hFl hmo
  have HR:=hide hRf
  have HH:Hid (Below w.heap.size w wr∧Blk wr w.heap.size #[.slice rd g.rule.length rcap,.slice nd vs.length ncap] 63∧cls2.length = g.rule.length):=⟨hb,hG,hlen⟩
  clear hRf hb hG hlen hI hcl HT
  by_cases hc:cnt2 = cnt
  ·rw [if_pos hc] at hFl
   subst hFl
   subst hc
   have e1:((cnt2:Int) == (cnt2:Int)) = true:=by simp
   clear hmon hmo
   go_wp2_with fail
   refine HR.out.mono ?_
   rintro e w2 ⟨fb,rfl,hI2,hb2⟩
   have HI2:=hide hI2
   have HB2:=hide hb2
   clear hI2 hb2
   go_wp2_with fail
   go_ret
   exact ⟨_,rfl,HI2.out,HH.out.2.2,HH.out.1.trans (HB2.out.mono HH.out.1.size)⟩
  ·rw [if_neg hc] at hFl
   have e1:((cnt2:Int) == (cnt:Int)) = false:=by simp; omega
   have HFL:=hide hFl
   have HMON:=hide hmon
   clear hFl hmon
   go_wp2_with fail
   refine HR.out.mono ?_
   rintro e w2 ⟨fb,rfl,hI2,hb2⟩
   have HI2:=hide hI2
   have HB2:=hide hb2
   clear hI2 hb2
   go_wp2_with fail
   go_roundg (gk - 1)
   case measure=>omega
   case rel =>
    obtain ⟨q1,q2,q3⟩:=HH.out
    exact ⟨cls2,cnt2,fb,rfl,rfl,q3,HI2.out,by omega,HMON.out,HFL.out,q1.trans (HB2.out.mono q1.size),q2.below HB2.out⟩
theorem passF_len (g:Graph) (al:List Bool):∀ k,(passF g al k).1.length = al.length
 | 0=>rfl
 |k + 1=>by unfold passF; split; rw [List.length_set]; exact passF_len g al k; exact passF_len g al k
def dead (al:List Bool):Nat:=(al.filter (fun b=>!b)).length
theorem dead_le (al:List Bool):dead al ≤ al.length:=List.length_filter_le _ _
theorem dead_set:∀ (al:List Bool) (k:Nat),k < al.length→al.getD k false = false→dead (al.set k true) + 1 = dead al
 |b :: r,0,_,h=>by
  simp at h; subst h
  simp [dead]
 |b :: r,k + 1,hk,h=>by
  have ih:=dead_set r k (by simpa using hk) (by simpa using h)
  unfold dead at ih ⊢
  cases b <;> simp at ih ⊢ <;> omega
theorem passF_dead (g:Graph) (al:List Bool):∀ k,k ≤ al.length→dead (passF g al k).1 ≤ dead al∧((passF g al k).2 = true→dead (passF g al k).1 < dead al)
 | 0,_=>by simp [passF]
 |k + 1,h=>by
  have ih:=passF_dead g al k (by omega)
  have hl:=passF_len g al k
  unfold passF
  split
  ·rename_i hc
   have:=dead_set (passF g al k).1 k (by omega) hc.1
   exact ⟨by simp; omega,fun _=>by simp; omega⟩
  ·exact ih
def firstAt (rule:List Int) (n:Nat):List Bool:=(rule.take n).map (fun r=>r != -1) ++ List.replicate (rule.length - n) false
theorem firstAt_len (rule:List Int) (n:Nat) (h:n ≤ rule.length):(firstAt rule n).length = rule.length:=by simp [firstAt]; omega
theorem firstAt_step (rule:List Int) (n:Nat) (h:n < rule.length):firstAt rule (n + 1) = (firstAt rule n).set n (rule[n] != -1):=by
 unfold firstAt
 have hl:((rule.take n).map (fun r=>r != -1)).length = n:=by simp; omega
 rw [List.set_append_right _ _ (by omega),hl,Nat.sub_self,show rule.length - n = (rule.length - (n + 1)) + 1 by omega,List.replicate_succ,List.set_cons_zero,List.take_succ_eq_append_getElem h,List.map_append,List.append_assoc]
 rfl
set_option maxHeartbeats 3200000 in
theorem alive_any (rv nv:Value) (g:Graph) (K:Nat) (w:World) (hg:GraphAt w rv nv g) (ho:GOk g K) (hn:g.rule.length ≤ 1000) (hK:K ≤ 1000) :
  Calls Tryz.prog 88 #[.agg #[rv,nv]] w fun e w'=>∃ ab,e = .returned (.slice (some ⟨ab,0,none⟩) g.rule.length g.rule.length)∧BRow w' (.slice (some ⟨ab,0,none⟩) g.rule.length g.rule.length) (aliveF g)∧(aliveF g).length = g.rule.length∧Below w.heap.size w w':=by
 obtain ⟨vs,hN,hvl,hvs⟩:=hg.next
 have hrule:=hg.rule
 obtain ⟨rd,rcap,rfl,hrrow⟩:=hg.rule.form
 obtain ⟨nd,ncap,rfl,hnrow⟩:=hN.form
 have hlen:=ho.len
 have HVS:=hide hvs
 have HN:=hide hN
 have HRU:=hide hrule
 have HO:=hide ho
 have hvn:vs.length ≤ g.rule.length:=by omega
 have hvn2:g.rule.length ≤ vs.length:=by omega
 have HLEN:=hide hlen
 have HVL:=hide hvl
 clear hvs hN hrule ho hg hlen hvl
 generalize hF:aliveF g = F
 unfold aliveF at hF
 have HF:=hide hF
 clear hF
 have hmk:=makeBools g.rule.length (by omega)
 go_enter Tryz.func88,Tryz.ntmps88
 go_wp2_with fail
 go_loopg [16] g.rule.length (fun G i wr=>∃ n:Nat,n ≤ g.rule.length∧G = g.rule.length - n∧i = .int .i64 (n:Int)∧Below w.heap.size w wr ∧
  Blk wr w.heap.size #[.slice rd g.rule.length rcap,.slice nd vs.length ncap] 63∧Blk wr (w.heap.size + 1) (boolsA (firstAt g.rule n)) 4)
 case atStart =>
  refine ⟨0,by omega,rfl,rfl,Below2 _ _ _,(Blk.new w _ _).alloc _,?_⟩
  have e0:firstAt g.rule 0 = List.replicate g.rule.length false:=by simp [firstAt]
  rw [e0]
  exact Blk.at1 w _ _ _
 case round =>
  obtain ⟨n,hnl,rfl,rfl,hb,hG,hI⟩:=hrel
  have hfl:=firstAt_len g.rule n (by omega)
  by_cases hlt:n < g.rule.length
  ·have e0:decide ((n:Int) < (g.rule.length:Int)) = true:=by simp; omega
   rcases hrrow with h0 | ⟨rg,rfl⟩
   ·omega
   have r0:=(HRU.out.below hb).cell n hlt
   have c0:=boolsA_cell hI n (by omega)
   generalize (firstAt g.rule n)[n]'(by omega) = old at c0
   have f0:=hI.frozen n
   have i0:(0:Int) ≤ (n:Int):=by omega
   have i1:(n:Int) < (g.rule.length:Int):=by omega
   have HH:Hid (Below w.heap.size w wr∧Blk wr w.heap.size #[.slice (some ⟨rg,0,none⟩) g.rule.length rcap,.slice nd vs.length ncap] 63∧Blk wr (w.heap.size + 1) (boolsA (firstAt g.rule n)) 4):=⟨hb,hG,hI⟩
   clear hb hG hI hfl HF
   go_wp2_with fail
   go_roundg (g.rule.length - (n + 1))
   case measure=>omega
   case rel =>
    obtain ⟨hb,hG,hI⟩:=HH.out
    refine ⟨n + 1,by omega,rfl,by go_num,hb.setCell (by simp) _,hG.setOther (by simp) _,?_⟩
    rw [firstAt_step g.rule n hlt,← boolsA_set]
    exact hI.set n _
  ·have e0:decide ((n:Int) < (g.rule.length:Int)) = false:=by simp; omega
   obtain rfl:n = g.rule.length:=by omega
   have HH0:Hid (Below w.heap.size w wr∧Blk wr w.heap.size #[.slice rd g.rule.length rcap,.slice nd vs.length ncap] 63∧Blk wr (w.heap.size + 1) (boolsA (firstAt g.rule g.rule.length)) 4):=⟨hb,hG,hI⟩
   clear hb hG hI hfl hnl hlt
   obtain ⟨wo,rfl⟩:∃ wo:World,wo = wr:=⟨_,rfl⟩
   go_wp2_with fail
   go_loopg [6] (g.rule.length + 2) (fun G c wr=>∃ (al:List Bool) (ch:Bool),c = .bool ch∧al.length = g.rule.length∧(ch = true→dead al + 1 < G∧aliveLoop g (G - 1) al = F)∧(ch = false→al = F)∧Below w.heap.size w wr ∧
    Blk wr w.heap.size #[.slice rd g.rule.length rcap,.slice nd vs.length ncap] 63∧Blk wr (w.heap.size + 1) (boolsA al) 4)
   case atStart =>
    obtain ⟨q1,q2,q3⟩:=HH0.out
    have e1:firstAt g.rule g.rule.length = g.rule.map (fun r=>r != -1):=by simp [firstAt]
    rw [e1] at q3
    refine ⟨_,true,rfl,by simp,fun _=>⟨?_,HF.out⟩,(fun h=>by cases h),q1,q2,q3⟩
    have:=dead_le (g.rule.map (fun r=>r != -1))
    simp at this
    omega
   case round =>
    obtain ⟨al,ch,rfl,hal,hch,hnc,hb,hG,hI⟩:=hrel
    clear HH0 HF
    cases ch with
    |false =>
     have hFe:=hnc rfl
     have HH:Hid (Below w.heap.size w wr∧Blk wr (w.heap.size + 1) (boolsA al) 4∧al.length = g.rule.length∧al = F):=⟨hb,hI,hal,hFe⟩
     clear hb hG hI hal hch hnc hFe
     go_wp2_with fail
     go_ret
     obtain ⟨q1,q2,q3,rfl⟩:=HH.out
     have:=BRow.ofBlk q2 (by omega)
     rw [q3] at this
     exact ⟨_,rfl,this,q3,q1⟩
    |true =>
     obtain ⟨hd,hl⟩:=hch rfl
     have hgk:gk - 1 = (gk - 2) + 1:=by omega
     rw [hgk] at hl
     unfold aliveLoop at hl
     have HL:=hide hl
     have g1:wr.cell? ⟨w.heap.size,1,none⟩ = some (.slice nd vs.length ncap):=hG.cell 1
     have HH:Hid (Below w.heap.size w wr∧Blk wr w.heap.size #[.slice rd g.rule.length rcap,.slice nd vs.length ncap] 63∧Blk wr (w.heap.size + 1) (boolsA al) 4):=⟨hb,hG,hI⟩
     have HAL:=hide hal
     clear hb hG hI hl hnc hch hgk hal
     obtain ⟨w2,rfl⟩:∃ wo:World,wo = wr:=⟨_,rfl⟩
     go_wp2_with fail
     go_loopg [6,31] vs.length (fun G c i wr=>∃ (k:Nat),k ≤ vs.length∧G = vs.length - k∧i = .int .i64 (k:Int)∧c = .bool (passF g al k).2∧Below w.heap.size w wr ∧
      Blk wr w.heap.size #[.slice rd g.rule.length rcap,.slice nd vs.length ncap] 63∧Blk wr (w.heap.size + 1) (boolsA (passF g al k).1) 4)
     case atStart =>
      obtain ⟨q1,q2,q3⟩:=HH.out
      exact ⟨0,by omega,rfl,rfl,rfl,q1,q2,q3⟩
     case round =>
      obtain ⟨k,hk,rfl,rfl,rfl,hb,hG,hI⟩:=hrel
      clear HH g1
      by_cases hlt:k < vs.length
      ·have e1:decide ((k:Int) < (vs.length:Int)) = true:=by simp; omega
       rcases hnrow with h0 | ⟨ng,rfl⟩
       ·omega
       have hpl:=passF_len g al k
       have hal:=HAL.out
       have n0:=(HN.out.below hb).cell k hlt
       have hrow:=(HVS.out k vs[k] (List.getElem?_eq_getElem _)).below hb
       have hok:=HO.out.row k (by have:=HVL.out; omega)
       have hBR:=BRow.ofBlk hI (by omega)
       have hLd:=leads_any vs[k] _ (g.next.getD k []) (passF g al k).1 wr hrow hBR (by omega) (by omega) (by rw [hpl,hal]; exact hok.2)
       rw [hpl,hal] at hLd
       have c0:=boolsA_cell hI k (by omega)
       have hgd:(passF g al k).1.getD k false = (passF g al k).1[k]'(by omega):=by simp [show k < (passF g al k).1.length by omega]
       have f0:=hI.frozen k
       have i0:(0:Int) ≤ (k:Int):=by omega
       have i1:(k:Int) < (vs.length:Int):=by omega
       have i2:(k:Int) < (g.rule.length:Int):=by omega
       generalize vs[k] = vk at n0 hLd
       have hstep:passF g al (k + 1) = if (passF g al k).1.getD k false = false∧leadsF (g.next.getD k []) (passF g al k).1 = true then ((passF g al k).1.set k true,true) else passF g al k:=by
        conv=>lhs; unfold passF
       rw [hgd] at hstep
       generalize leadsF (g.next.getD k []) (passF g al k).1 = ld at hLd hstep
       generalize hb0:(passF g al k).1[k]'(by omega) = b0 at c0 hstep
       have HLD:=hide hLd
       have HST:=hide hstep
       have HH:Hid (Below w.heap.size w wr∧Blk wr w.heap.size #[.slice rd g.rule.length rcap,.slice (some ⟨ng,0,none⟩) vs.length ncap] 63∧Blk wr (w.heap.size + 1) (boolsA (passF g al k).1) 4):=⟨hb,hG,hI⟩
       clear hb hG hI hpl hal hrow hok hBR hLd hgd hb0 hstep HL
       cases b0 with
       |true =>
        go_wp2_with fail
        go_roundg (vs.length - (k + 1))
        case measure=>omega
        case rel =>
         obtain ⟨q1,q2,q3⟩:=HH.out
         have hs:=HST.out
         rw [if_neg (by simp)] at hs
         exact ⟨k + 1,by omega,rfl,by go_num,by rw [hs],q1,q2,by rw [hs]; exact q3⟩
       |false =>
        cases ld with
        |false =>
         go_wp2_with fail
         refine HLD.out.mono ?_
         rintro e w5 ⟨rfl,rfl⟩
         go_wp2_with fail
         go_roundg (vs.length - (k + 1))
         case measure=>omega
         case rel =>
          obtain ⟨q1,q2,q3⟩:=HH.out
          have hs:=HST.out
          rw [if_neg (by simp)] at hs
          exact ⟨k + 1,by omega,rfl,by go_num,by rw [hs],q1,q2,by rw [hs]; exact q3⟩
        |true =>
         go_wp2_with fail
         refine HLD.out.mono ?_
         rintro e w5 ⟨rfl,rfl⟩
         go_wp2_with fail
         go_roundg (vs.length - (k + 1))
         case measure=>omega
         case rel =>
          obtain ⟨q1,q2,q3⟩:=HH.out
          have hs:=HST.out
          rw [if_pos (by simp)] at hs
          exact ⟨k + 1,by omega,rfl,by go_num,by rw [hs],q1.setCell (by simp) _,q2.setOther (by simp) _,by rw [hs,← boolsA_set]; exact q3.set k _⟩
      ·have e1:decide ((k:Int) < (vs.length:Int)) = false:=by simp; omega
       obtain rfl:k = vs.length:=by omega
       have HH:Hid (Below w.heap.size w wr∧Blk wr w.heap.size #[.slice rd g.rule.length rcap,.slice nd vs.length ncap] 63∧Blk wr (w.heap.size + 1) (boolsA (passF g al vs.length).1) 4):=⟨hb,hG,hI⟩
       clear hb hG hI
       go_wp2_with fail
       go_roundg (gk - 1)
       case measure=>omega
       case rel =>
        obtain ⟨q1,q2,q3⟩:=HH.out
        have hl:=HL.out
        have hvl:=HVL.out
        have hal:=HAL.out
        rw [← hvl] at hl
        have hpd:=passF_dead g al vs.length (by omega)
        refine ⟨_,_,rfl,by rw [passF_len]; exact hal,fun e=>?_,fun e=>?_,q1,q2,q3⟩
        ·rw [if_pos e] at hl
         have:=hpd.2 e
         exact ⟨by omega,by rw [show gk - 1 - 1 = gk - 2 by omega]; exact hl⟩
        ·rw [if_neg (by simp [e])] at hl
         exact hl
def keptAt (al:List Bool) (row:List Int) (k:Nat):List Int:=pruneRow al (row.take k) ++ List.replicate (row.length - k) 0
theorem keptAt_len (al:List Bool) (row:List Int) (k:Nat) (h:k ≤ row.length):(keptAt al row k).length = row.length:=by simp [keptAt,pruneRow]; omega
theorem keptAt_step (al:List Bool) (row:List Int) (k:Nat) (h:k < row.length):keptAt al row (k + 1) = (keptAt al row k).set k (if row[k] != -1 && al.getD row[k].toNat false then row[k] else -1):=by
 unfold keptAt
 have hl:(pruneRow al (row.take k)).length = k:=by simp [pruneRow]; omega
 rw [List.set_append_right _ _ (by omega),hl,Nat.sub_self,show row.length - k = (row.length - (k + 1)) + 1 by omega,List.replicate_succ,List.set_cons_zero,List.take_succ_eq_append_getElem h]
 unfold pruneRow
 rw [List.map_append,List.append_assoc]
 rfl
theorem keptAt_all (al:List Bool) (row:List Int):keptAt al row row.length = pruneRow al row:=by simp [keptAt]
set_option maxHeartbeats 3200000 in
theorem prune_any (rv nv:Value) (g:Graph) (K:Nat) (w:World) (hg:GraphAt w rv nv g) (ho:GOk g K) (hn:g.rule.length ≤ 1000) (hK:K ≤ 1000) :
  Calls Tryz.prog 46 #[.agg #[rv,nv]] w fun e w'=>∃ pv,e = .returned (.agg #[rv,pv])∧GraphAt w' rv pv (pruneF g)∧Below w.heap.size w w':=by
 have hA:=fun (W:World) (hb:Below w.heap.size w W)=>alive_any rv nv g K W (hg.below hb) ho hn hK
 obtain ⟨vs,hN,hvl,hvs⟩:=hg.next
 have hrule:=hg.rule
 obtain ⟨rd,rcap,rfl,hrrow⟩:=hg.rule.form
 obtain ⟨nd,ncap,rfl,hnrow⟩:=hN.form
 have hlen:=ho.len
 have HVS:=hide hvs
 have HN:=hide hN
 have HRU:=hide hrule
 have HO:=hide ho
 have HA:=hide hA
 have hvn:vs.length ≤ 1000:=by omega
 have HLEN:=hide hlen
 have HVL:=hide hvl
 clear hvs hN hrule ho hg hlen hvl hA
 generalize hal:aliveF g = al
 have HAL:=hide hal
 clear hal
 go_enter Tryz.func46,Tryz.ntmps46
 go_wp2_with fail
 refine (HA.out _ (Below2 _ _ _)).mono ?_
 rw [HAL.out]
 rintro e w1 ⟨ab,rfl,hB1,hall,hb1⟩
 have hG1:=((Blk.new w #[.slice rd g.rule.length rcap,.slice nd vs.length ncap] 63).alloc (.cells #[.slice none 0 0,.slice none 0 0] 63)).below hb1
 have hZ1:=(Blk.at1 w (.cells #[.slice rd g.rule.length rcap,.slice nd vs.length ncap] 63) #[.slice none 0 0,.slice none 0 0] 63).below hb1
 have hb2:Below w.heap.size w w1:=(Below2 w _ _).trans (hb1.mono (by simp; omega))
 have g0:w1.cell? ⟨w.heap.size,0,none⟩ = some (.slice rd g.rule.length rcap):=hG1.cell 0
 have g1:w1.cell? ⟨w.heap.size,1,none⟩ = some (.slice nd vs.length ncap):=hG1.cell 1
 have z1:w.heap.size + 1 < w1.heap.size:=hZ1.lt
 have z0:w.heap.size < w1.heap.size:=by omega
 have HALL:=hide hall
 have HB1:=hide hB1
 have HH1:Hid (Below w.heap.size w w1∧Blk w1 w.heap.size #[.slice rd g.rule.length rcap,.slice nd vs.length ncap] 63∧Blk w1 (w.heap.size + 1) #[.slice none 0 0,.slice none 0 0] 63):=⟨hb2,hG1,hZ1⟩
 clear hb2 hG1 hZ1 hb1 hB1 hall
 go_wp2_with fail
 go_loopg [18] vs.length (fun G i wr=>∃ (n:Nat) (O:Nat→Prop) (pv:Value),n ≤ vs.length∧G = vs.length - n∧i = .int .i64 (n:Int)∧Below w1.heap.size w1 wr ∧
  Blk wr w1.heap.size #[.slice rd g.rule.length rcap,pv] 63∧Rows2 wr O pv ((g.next.take n).map (pruneRow al))∧∀ k,O k→w1.heap.size < k)
 case atStart =>
  exact ⟨0,fun _=>False,.slice none 0 0,by omega,rfl,rfl,Below1 _ _,Blk.new _ _ _,by simpa using Rows2.nil _,fun k h=>h.elim⟩
 case round =>
  obtain ⟨n,O,pv,hnl,rfl,rfl,hb,hP,hR,hO⟩:=hrel
  by_cases hlt:n < vs.length
  ·have e0:decide ((n:Int) < (vs.length:Int)) = true:=by simp; omega
   rcases hnrow with h0 | ⟨ng,rfl⟩
   ·omega
   have hbw:Below w.heap.size w wr:=HH1.out.1.trans (hb.mono (by omega))
   have hvl:=HVL.out
   have n0:=(HN.out.below hbw).cell n hlt
   have hrow:=HVS.out n vs[n] (List.getElem?_eq_getElem _)
   have hok:=HO.out.row n (by omega)
   generalize vs[n] = vn at n0 hrow
   have hgn:g.next[n]? = some (g.next.getD n []):=by simp [show n < g.next.length by omega]
   generalize hrw:g.next.getD n [] = row at hrow hok hgn
   obtain ⟨ed,ecap,rfl,herow⟩:=hrow.form
   have i0:(0:Int) ≤ (n:Int):=by omega
   have i1:(n:Int) < (vs.length:Int):=by omega
   have zr:w1.heap.size < wr.heap.size:=hP.lt
   have hrl:row.length ≤ 1000:=by omega
   have hmk:=makeInts row.length (by omega)
   obtain ⟨hokl,hokr⟩:=hok
   have HOK:=hide hokr
   have HROW:=hide hrow
   have HGN:=hide hgn
   have HH:Hid (Below w1.heap.size w1 wr∧Blk wr w1.heap.size #[.slice rd g.rule.length rcap,pv] 63∧Rows2 wr O pv ((g.next.take n).map (pruneRow al))∧∀ k,O k→w1.heap.size < k):=⟨hb,hP,hR,hO⟩
   have HBW:=hide hbw
   clear hb hP hR hO hvl hokl hokr hrow hgn hrw hbw g0 g1
   obtain ⟨wo,rfl⟩:∃ wo:World,wo = wr:=⟨_,rfl⟩
   go_wp2_with fail
   go_loopg [27] row.length (fun G i wr=>∃ (k:Nat),k ≤ row.length∧G = row.length - k∧i = .int .i64 (k:Int)∧Below wo.heap.size wo wr∧Blk wr wo.heap.size (intsA (keptAt al row k)) 3)
   case atStart =>
    refine ⟨0,by omega,rfl,rfl,Below1 _ _,?_⟩
    have e1:keptAt al row 0 = List.replicate row.length 0:=by simp [keptAt,pruneRow]
    rw [e1]
    exact Blk.new _ _ _
   case round =>
    obtain ⟨k,hk,rfl,rfl,hb,hI⟩:=hrel
    have hkl:=keptAt_len al row k hk
    by_cases hlk:k < row.length
    ·have e1:decide ((k:Int) < (row.length:Int)) = true:=by simp; omega
     rcases herow with h0 | ⟨eg,rfl⟩
     ·omega
     have hbw2:Below w.heap.size w wr:=HBW.out.trans (hb.mono (by omega))
     have r0:=(HROW.out.below hbw2).cell k hlk
     have hto:=HOK.out row[k] (List.getElem_mem hlk)
     have hst:=keptAt_step al row k hlk
     have c0:=intsA_cell hI k (by omega)
     generalize (keptAt al row k)[k]'(by omega) = old at c0
     have f0:=hI.frozen k
     have i2:(0:Int) ≤ (k:Int):=by omega
     have i3:(k:Int) < (row.length:Int):=by omega
     generalize row[k] = to at r0 hto hst
     have hBR:=HB1.out.below (hb.mono (Nat.le_refl _) |> fun h=>(HH.out.1.trans (h.mono (by omega))))
     have hall:=HALL.out
     by_cases hn1:to = -1
     ·subst hn1
      have HST:=hide hst
      have HHI:Hid (Below wo.heap.size wo wr∧Blk wr wo.heap.size (intsA (keptAt al row k)) 3):=⟨hb,hI⟩
      clear hst hb hI hbw2 hto hBR hall hkl
      go_wp2_with fail
      go_roundg (row.length - (k + 1))
      case measure=>omega
      case rel =>
       obtain ⟨q1,q2⟩:=HHI.out
       refine ⟨k + 1,by omega,rfl,by go_num,q1.setCell (Nat.le_refl _) _,?_⟩
       have hs:=HST.out
       simp only [bne_self_eq_false,Bool.false_and,Bool.false_eq_true,if_false] at hs
       rw [hs,← intsA_set]
       exact q2.set k _
     ·have e2:(to != -1) = true:=by simp [hn1]
      obtain ⟨j,rfl⟩:∃ j:Nat,to = (j:Int):=⟨to.toNat,by omega⟩
      have hj:j < al.length:=by omega
      have m0:wr.cell? ⟨ab,j,none⟩ = some (.bool al[j]):=by
       have hBR':=hBR
       rw [← hall] at hBR'
       exact hBR'.cell j hj
      have hgd:al.getD j false = al[j]:=by simp [hj]
      simp only [Int.toNat_natCast,hgd,e2,Bool.true_and] at hst
      have j0:(0:Int) ≤ (j:Int):=by omega
      have j1:(j:Int) < (g.rule.length:Int):=by omega
      have zab:ab < w1.heap.size:=ownsRow_lt HB1.out ab rfl
      have hneab:ab ≠ wo.heap.size:=by omega
      generalize al[j] = aj at m0 hst
      have HST:=hide hst
      have HHI:Hid (Below wo.heap.size wo wr∧Blk wr wo.heap.size (intsA (keptAt al row k)) 3):=⟨hb,hI⟩
      clear hst hb hI hbw2 hto hBR hall hkl hgd hn1
      cases aj with
      |true =>
       go_wp2_with fail
       go_roundg (row.length - (k + 1))
       case measure=>omega
       case rel =>
        obtain ⟨q1,q2⟩:=HHI.out
        refine ⟨k + 1,by omega,rfl,by go_num,(q1.setCell (Nat.le_refl _) _).setCell (Nat.le_refl _) _,?_⟩
        have hs:=HST.out
        simp only [if_true] at hs
        have q3:=(q2.set k (.int .i64 (-1))).set k (.int .i64 (j:Int))
        rw [intsA_set,intsA_set,List.set_set] at q3
        rw [hs]
        exact q3
      |false =>
       go_wp2_with fail
       go_roundg (row.length - (k + 1))
       case measure=>omega
       case rel =>
        obtain ⟨q1,q2⟩:=HHI.out
        refine ⟨k + 1,by omega,rfl,by go_num,q1.setCell (Nat.le_refl _) _,?_⟩
        have hs:=HST.out
        simp only [Bool.false_eq_true,if_false] at hs
        rw [hs,← intsA_set]
        exact q2.set k _
    ·have e1:decide ((k:Int) < (row.length:Int)) = false:=by simp; omega
     obtain rfl:k = row.length:=by omega
     rw [keptAt_all] at hI
     obtain ⟨hb3,hP3,hR3,hO3⟩:=HH.out
     have hP4:=hP3.below hb
     have hR4:=hR3.below hb
     obtain ⟨us,hU1,hU2,hU3⟩:=hR4.ex
     have hpr:(pruneRow al row).length = row.length:=by simp [pruneRow]
     have hrow4:=IRow.ofBlk hI (by omega)
     rw [hpr] at hrow4
     obtain ⟨pd,pcap,rfl,_⟩:=hU1.form
     have c1:wr.cell? ⟨w1.heap.size,1,none⟩ = some (.slice pd us.length pcap):=hP4.cell 1
     have f1:=hP4.frozen 1
     have hul:us.length ≤ 1000:=by rw [hU2]; simp; omega
     obtain ⟨ii,hi,hz0,hz1,hz2⟩:=info_parts Tryz.infoN3
     have hol:=hU1.below (Below1 wr (.cells #[.slice (some ⟨wo.heap.size,0,none⟩) row.length row.length] 60))
     have zw:w1.heap.size < wr.heap.size:=hP4.lt
     have zz:wo.heap.size < wr.heap.size:=hI.lt
     have hnO:¬ O wo.heap.size:=fun e=>by have:=hR3.olt _ e; omega
     have hnP:¬ O w1.heap.size:=fun e=>by have:=hO3 _ e; omega
     have hR5:=hR4.alloc (.cells #[.slice (some ⟨wo.heap.size,0,none⟩) row.length row.length] 60)
     have HOL:=hide hol
     have HU:=hide (And.intro hU2 hU3)
     have HHH:Hid (Below wo.heap.size wo wr∧Below w1.heap.size w1 wo∧Blk wr w1.heap.size #[.slice rd g.rule.length rcap,.slice pd us.length pcap] 63∧IRow wr (.slice (some ⟨wo.heap.size,0,none⟩) row.length row.length) (pruneRow al row)∧∀ k,O k→w1.heap.size < k):=⟨hb,hb3,hP4,hrow4,hO3⟩
     have HR5:=hide hR5
     clear hb hI hb3 hP3 hR3 hO3 hP4 hR4 hU1 hU2 hU3 hrow4 hol hR5 hpr hkl HH
     go_wp2_with (at_builtin; (refine wpList_append_lies _ (by rfl) _ _ _ (by rfl) 0 60 ii _ 1 24 Tryz.underlying61 hi hz0 hz1 hz2 rfl (by omega) (.slice pd us.length pcap) us.length us (by rfl) HOL.out ⟨wr.heap.size,0,none⟩ 1 1 [.slice (some ⟨wo.heap.size,0,none⟩) row.length row.length] (by rfl) (by rfl) (World.news_of_block (cs:=#[.slice (some ⟨wo.heap.size,0,none⟩) row.length row.length]) (t:=60) (fr:=(0,0)) (heap_alloc_new wr _)) (by simp [Value.oneCell']) (by omega) (by unfold maxLen; omega) (by omega) (by simp) (wr.heap.size + 1) (by simp) ?_))
     intro gg cap2 w6 hown6 hgrow6 hat6 hlt6
     obtain ⟨q1,q1',q2,q3,q4⟩:=HHH.out
     obtain ⟨hR7,hk7⟩:=Rows2.push HR5.out HOL.out HU.out.1 (fun i v hv=>⟨((HU.out.2 i v hv).1).below (Below1 _ _),(HU.out.2 i v hv).2⟩) (q3.below (Below1 _ _)) hnO hown6 hgrow6 (by simpa using hat6) hlt6
     have hP7:=(q2.alloc (.cells #[.slice (some ⟨wo.heap.size,0,none⟩) row.length row.length] 60)).kept hk7 hnP
     have c7:w6.cell? ⟨w1.heap.size,1,none⟩ = some (.slice pd us.length pcap):=hP7.cell 1
     have f7:=hP7.frozen 1
     have hgg:gg ≠ w1.heap.size:=by
      intro e
      subst e
      rcases hat6 with e | e
      ·exact hnP (HR5.out.ob _ e)
      ·omega
     have hggb:w1.heap.size < gg:=by
      rcases hat6 with e | e
      ·exact q4 _ (HR5.out.ob _ e)
      ·omega
     have hbb:Below w1.heap.size w1 w6:=by
      have h1:Below w1.heap.size w1 wr:=q1'.trans (q1.mono (by omega))
      refine (h1.alloc (by omega) _).trans ⟨hk7.os,hk7.tape,hk7.output,hk7.size,fun k hk=>hk7.block k (by simp; omega) (fun e=>by have:=q4 _ e; omega)⟩
     have HHX:Hid (Rows2 w6 (fun k=>O k∨k = gg∨k = wo.heap.size) (.slice (some ⟨gg,0,none⟩) (us.length + 1) cap2) ((g.next.take n).map (pruneRow al) ++ [pruneRow al row])∧Blk w6 w1.heap.size #[.slice rd g.rule.length rcap,.slice pd us.length pcap] 63∧Below w1.heap.size w1 w6∧∀ k,O k→w1.heap.size < k):=⟨hR7,hP7,hbb,q4⟩
     clear hR7 hk7 hP7 hbb q1 q1' q2 q3 q4 hown6 hgrow6 hat6 HHH HR5 HU HOL c1 f1
     go_wp2_with fail
     go_roundg (vs.length - (n + 1))
     case measure=>omega
     case rel =>
      obtain ⟨q1,q2,q3,q4⟩:=HHX.out
      refine ⟨n + 1,(fun k=>O k∨k = gg∨k = wo.heap.size),_,by omega,rfl,by go_num,q3.setCell (Nat.le_refl _) _,q2.set 1 _,?_,?_⟩
      ·have e9:(g.next.take (n + 1)).map (pruneRow al) = (g.next.take n).map (pruneRow al) ++ [pruneRow al row]:=by
        rw [List.take_add_one,HGN.out,List.map_append]; rfl
       rw [e9]
       exact q1.setCell (fun e=>by rcases e with e | e | e; exact absurd (q4 _ e) (by simp); exact hgg e.symm; simp at e; omega) _
      ·intro k e
       rcases e with e | e | e
       ·exact q4 k e
       ·omega
       ·omega
  ·have e0:decide ((n:Int) < (vs.length:Int)) = false:=by simp; omega
   obtain rfl:n = vs.length:=by omega
   obtain ⟨hb9,hG9,hZ9⟩:=HH1.out
   have hZw:=hZ9.below hb
   have hpc0:wr.cell? ⟨w1.heap.size,0,none⟩ = some (.slice rd g.rule.length rcap):=hP.cell 0
   obtain ⟨us,hU1,hU2,hU3⟩:=hR.ex
   obtain ⟨pd,pcap,rfl,_⟩:=hU1.form
   have hpc1:wr.cell? ⟨w1.heap.size,1,none⟩ = some (.slice pd us.length pcap):=hP.cell 1
   have hq0:wr.cell? ⟨w.heap.size + 1,0,none⟩ = some (.slice none 0 0):=hZw.cell 0
   have hq1:wr.cell? ⟨w.heap.size + 1,1,none⟩ = some (.slice none 0 0):=hZw.cell 1
   have fq0:=hZw.frozen 0
   have fq1:=hZw.frozen 1
   have HHF:Hid (Below w.heap.size w w1∧Below w1.heap.size w1 wr∧Blk wr (w.heap.size + 1) #[.slice none 0 0,.slice none 0 0] 63∧Rows2 wr O (.slice pd us.length pcap) ((g.next.take vs.length).map (pruneRow al))∧∀ k,O k→w1.heap.size < k):=⟨hb9,hb,hZw,hR,hO⟩
   clear hb9 hG9 hZ9 hb hZw hR hO hP hU1 hU2 hU3
   go_wp2_with fail
   obtain ⟨q1,q2,q3,q4,q5⟩:=HHF.out
   have hvl:=HVL.out
   rw [List.take_of_length_le (by omega)] at q4
   have q6:Below w.heap.size w wr:=q1.trans (q2.mono (by omega))
   have q7:=q4.setCell (a:=⟨w.heap.size + 1,0,none⟩) (fun e=>by have:=q5 _ e; simp at this; omega) (.slice rd g.rule.length rcap)
   have q8:=q7.setCell (a:=⟨w.heap.size + 1,1,none⟩) (fun e=>by have:=q5 _ e; simp at this; omega) (.slice pd us.length pcap)
   have hr9:=((HRU.out.below q6).below (w':=wr) (Below.refl _ _))
   have hbF:=(q6.setCell (p:=⟨w.heap.size + 1,0,none⟩) (by simp) (.slice rd g.rule.length rcap)).setCell (p:=⟨w.heap.size + 1,1,none⟩) (by simp) (.slice pd us.length pcap)
   refine bodyPost_ret (resultsGraph Tryz.results46 _ rfl rfl ((q3.set 0 _).set 1 _)) rfl ⟨_,rfl,?_,hbF⟩
   have e5:pruneF g = ⟨g.rule,g.next.map (pruneRow al)⟩:=by unfold pruneF; rw [HAL.out]
   rw [e5]
   exact Rows2.graph (g:=⟨g.rule,g.next.map (pruneRow al)⟩) q8 (HRU.out.below hbF)
end Go.Proofs.YtcckhngbdoiikaaGreat
