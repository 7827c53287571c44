import Derived.Test.YtcckhngbdoiikaaGreatG14
import Derived.Deep.RegionLaw
import Derived.Test.YtcckhngbdoiikaaGreatG16
import Derived.Test.YtcckhngbdoiikaaGreatG13
import Derived.Test.YtcckhngbdoiikaaGreatG17

namespace Go.Proofs.YtcckhngbdoiikaaGreat
open Go.RowKit Go.Deep
set_option linter.unusedVariables false
def numAt (cls nums:List Int) (row:List Int) (k:Nat):List Int:=numberRow cls nums (row.take k) ++ List.replicate (row.length - k) 0
theorem numAt_len (cls nums row:List Int) (k:Nat) (h:k ≤ row.length):(numAt cls nums row k).length = row.length:=by simp [numAt,numberRow]; omega
theorem numAt_step (cls nums row:List Int) (k:Nat) (h:k < row.length):numAt cls nums row (k + 1) = (numAt cls nums row k).set k (if row[k] != -1 then nums.getD (cls.getD row[k].toNat 0).toNat 0 else -1):=by
 unfold numAt
 have hl:(numberRow cls nums (row.take k)).length = k:=by simp [numberRow]; omega
 rw [List.set_append_right _ _ (by omega),hl,Nat.sub_self,show row.length - k = (row.length - (k + 1)) + 1 by omega,List.replicate_succ,List.set_cons_zero,List.take_succ_eq_append_getElem h]
 unfold numberRow
 rw [List.map_append,List.append_assoc]
 rfl
theorem numAt_all (cls nums row:List Int):numAt cls nums row row.length = numberRow cls nums row:=by simp [numAt]
theorem number_mid {w1 wr w5:World} {O:Nat→Prop} {pv:Value} {ud:Option Addr} {ucap wb gf cap5 n:Nat} {ul:List Int} {uy:Int} {rows:List (List Int)} {row:List Int}
  (h1:Below w1.heap.size w1 wr) (h2:Blk wr w1.heap.size #[.slice ud ul.length ucap,pv] 63) (h3:Rows2 wr O pv rows) (h4:IRow wr (.slice (some ⟨wb,0,none⟩) n n) row)
  (h5:∀ k,O k→w1.heap.size < k) (h6:∀ b,(Value.slice ud ul.length ucap).ownBlock = some b→w1.heap.size < b∧b < wb∧¬ O b) (zw:w1.heap.size < wr.heap.size) (zz:wb < wr.heap.size) (hnO:¬ O wb) (hnP:¬ O w1.heap.size) (hwb:w1.heap.size < wb)
  (hown:w5.ownsRow 0 3 1 (.slice (some ⟨gf,0,none⟩) (ul.length + 1) cap5) (ul.length + 1) (ul.map (Value.int .i64) ++ [.int .i64 uy]))
  (hgrow:(wr.alloc (.cells #[.int .i64 uy] 3)).drew.grownBy w5 (Value.slice ud ul.length ucap).ownBlock)
  (hat:(Value.slice ud ul.length ucap).ownBlock = some gf∨gf = wr.heap.size + 1) (hlt:gf < w5.heap.size) :
  ∀ w6,w6 = w5.setCell ⟨w1.heap.size,0,none⟩ (.slice (some ⟨gf,0,none⟩) (ul.length + 1) cap5)→Below w1.heap.size w1 w6∧Blk w6 w1.heap.size #[.slice (some ⟨gf,0,none⟩) (ul.length + 1) cap5,pv] 63∧Rows2 w6 O pv rows∧IRow w6 (.slice (some ⟨wb,0,none⟩) n n) row ∧
   IRow w6 (.slice (some ⟨gf,0,none⟩) (ul.length + 1) cap5) (ul ++ [uy])∧w1.heap.size < gf∧gf ≠ wb∧¬ O gf∧wb < w6.heap.size:=by
 rintro w6 rfl
 have hk:Kept (fun k=>(Value.slice ud ul.length ucap).ownBlock = some k) (wr.alloc (.cells #[.int .i64 uy] 3)).drew w5:=⟨hgrow.os,hgrow.tape,hgrow.output,hgrow.size,fun k hk he=>hgrow.block k hk (fun e=>he e.symm)⟩
 have hkd:Kept (fun _=>False) wr (wr.alloc (.cells #[.int .i64 uy] 3)).drew:=((Kept.refl (fun _=>False) wr).alloc _).drew
 have hks:Kept (fun k=>k = w1.heap.size) w5 (w5.setCell ⟨w1.heap.size,0,none⟩ (.slice (some ⟨gf,0,none⟩) (ul.length + 1) cap5)):=Kept.setCell (ex:=fun k=>k = w1.heap.size) (p:=⟨w1.heap.size,0,none⟩) (Kept.refl _ _) (fun _=>rfl) _
 have hgO:¬ O gf:=by
  intro e
  rcases hat with e' | e'
  ·exact (h6 _ e').2.2 e
  ·have:=h3.olt _ e; omega
 have hgw:w1.heap.size < gf:=by
  rcases hat with e' | e'
  ·exact (h6 _ e').1
  ·omega
 have hgwb:gf ≠ wb:=by
  rcases hat with e' | e'
  ·have:=(h6 _ e').2.1; omega
  ·omega
 have hsz:=hk.size
 simp at hsz
 refine ⟨?_,?_,?_,?_,?_,hgw,hgwb,hgO,by simp; omega⟩
 ·have hb1:Below w1.heap.size w1 (wr.alloc (.cells #[.int .i64 uy] 3)).drew:=⟨h1.os,h1.tape,h1.output,Nat.le_trans h1.size hkd.size,fun k hk'=>(hkd.block k (by omega) (fun e=>e)).trans (h1.block k hk')⟩
  have hb2:Below w1.heap.size w1 w5:=hb1.trans ⟨hk.os,hk.tape,hk.output,hk.size,fun k hk'=>hk.block k (by simp; omega) (fun e=>by have:=(h6 _ e).1; omega)⟩
  exact hb2.setCell (Nat.le_refl _) _
 ·exact (((h2.alloc _).drew).kept hk (fun e=>by have:=(h6 _ e).1; omega)).set 0 _
 ·exact (((h3.alloc _).drew).kept hk (fun b hb e=>(h6 _ e).2.2 hb)).setCell hnP _
 ·exact ((h4.kept hkd (fun _ _ e=>e)).kept hk (fun b hb e=>by cases (Option.some.inj hb:wb = b); have:=(h6 _ e).2.1; omega)).kept hks (fun b hb e=>by cases (Option.some.inj hb:wb = b); omega)
 ·exact (intI_push (w:=w5) (v:=.slice none 0 0) hown).kept hks (fun b hb e=>by cases (Option.some.inj hb:gf = b); omega)
set_option maxHeartbeats 4800000 in
theorem number_any (rv nv cv:Value) (g:Graph) (K:Nat) (cls:List Int) (w:World) (hg:GraphAt w rv nv g) (ho:GOk g K) (hc:IRow w cv cls) (hcl:cls.length = g.rule.length) (hcb:∀ x ∈ cls,0 ≤ x∧x < (g.rule.length:Int)) (hpos:0 < g.rule.length) (hn:g.rule.length ≤ 1000) (hK:K ≤ 1000) :
  Calls Tryz.prog 48 #[.agg #[rv,nv],cv] w fun e w'=>∃ ruv nxv,e = .returned (.agg #[ruv,nxv])∧GraphAt w' ruv nxv (numberF g cls)∧Below w.heap.size w w':=by
 have hV:=fun (W:World) (hb:Below w.heap.size w W)=>visit_any rv nv cv g K cls W (hg.below hb) ho (hc.below hb) hcl hcb hpos hn hK
 obtain ⟨vs,hN,hvl,hvs⟩:=hg.next
 have hrule:=hg.rule
 obtain ⟨rd,rcap,rfl,hrrow⟩:=hg.rule.form
 obtain ⟨nd,ncap,rfl,hnrow⟩:=hN.form
 obtain ⟨cd,ccap,rfl,hcrow⟩:=hc.form
 have hlen:=ho.len
 rcases hcrow with h0 | ⟨cg,rfl⟩
 ·omega
 rcases hnrow with h0 | ⟨ng,rfl⟩
 ·omega
 rcases hrrow with h0 | ⟨rg,rfl⟩
 ·omega
 have HVS:=hide hvs
 have HN:=hide hN
 have HRU:=hide hrule
 have HO:=hide ho
 have HC:=hide hc
 have HCB:=hide hcb
 have HCL:=hide hcl
 have HVL:=hide hvl
 have HLEN:=hide hlen
 have HVI:=hide hV
 have hvn:vs.length ≤ 1000:=by omega
 have hcl1:cls.length ≤ 1000:=by omega
 clear hvs hN hrule ho hg hlen hvl hc hcb hcl hV
 generalize hvf:visitF g cls = V
 have HVF:=hide hvf
 clear hvf
 go_enter Tryz.func48,Tryz.ntmps48
 go_wp2_with fail
 refine (HVI.out _ (Below2 _ _ _)).mono ?_
 rw [HVF.out]
 rintro e w1 ⟨fv,mv,rfl,hF1,hM1,hvo,hb1⟩
 obtain ⟨fd,fcap,rfl,hfrow⟩:=hF1.form
 obtain ⟨md,mcap,rfl,hmrow⟩:=hM1.form
 have hG1:=((Blk.new w #[.slice (some ⟨rg,0,none⟩) g.rule.length rcap,.slice (some ⟨ng,0,none⟩) vs.length ncap] 63).alloc (.cells #[.slice none 0 0,.slice none 0 0] 63)).below hb1
 have hZ1:=(Blk.at1 w (.cells #[.slice (some ⟨rg,0,none⟩) g.rule.length rcap,.slice (some ⟨ng,0,none⟩) vs.length ncap] 63) #[.slice none 0 0,.slice none 0 0] 63).below hb1
 have hb2:Below w.heap.size w w1:=(Below2 w _ _).trans (hb1.mono (by simp; omega))
 have z1:w.heap.size + 1 < w1.heap.size:=hZ1.lt
 have z0:w.heap.size < w1.heap.size:=by omega
 have hvsum:=hvo.sum
 have hvl1:V.1.length ≤ 1000:=by omega
 have HF1:=hide hF1
 have HM1:=hide hM1
 have HVO:=hide hvo
 have HH1:Hid (Below w.heap.size w w1∧Blk w1 w.heap.size #[.slice (some ⟨rg,0,none⟩) g.rule.length rcap,.slice (some ⟨ng,0,none⟩) vs.length ncap] 63∧Blk w1 (w.heap.size + 1) #[.slice none 0 0,.slice none 0 0] 63):=⟨hb2,hG1,hZ1⟩
 clear hb2 hG1 hZ1 hb1 hF1 hM1 hvo hvsum
 go_wp2_with fail
 go_loopg [22] V.1.length (fun G i wr=>∃ (n:Nat) (O:Nat→Prop) (uv pv:Value),n ≤ V.1.length∧G = V.1.length - n∧i = .int .i64 (n:Int)∧Below w1.heap.size w1 wr ∧
  Blk wr w1.heap.size #[uv,pv] 63∧Rows2 wr O pv ((V.1.take n).map (fun m=>numberRow cls V.2 (g.next.getD m.toNat [])))∧IRow wr uv ((V.1.take n).map (fun m=>g.rule.getD m.toNat 0))∧(∀ k,O k→w1.heap.size < k)∧∀ b,uv.ownBlock = some b→w1.heap.size < b∧¬ O b)
 case atStart =>
  refine ⟨0,fun _=>False,.slice none 0 0,.slice none 0 0,by omega,rfl,rfl,Below1 _ _,Blk.new _ _ _,by simpa using Rows2.nil _,?_,fun k h=>h.elim,fun b h=>by simp [Value.ownBlock] at h⟩
  exact World.ownsRow_nil _ _ _ _
 case round =>
  obtain ⟨n,O,uv,pv,hnl,rfl,rfl,hb,hP,hR,hU,hO,hUO⟩:=hrel
  by_cases hlt:n < V.1.length
  ·have e0:decide ((n:Int) < (V.1.length:Int)) = true:=by simp; omega
   rcases hfrow with h0 | ⟨fg,rfl⟩
   ·omega
   have hbw:Below w.heap.size w wr:=HH1.out.1.trans (hb.mono (by omega))
   have hvl:=HVL.out
   have hlen:=HLEN.out
   have f0:=(HF1.out.below hb).cell n hlt
   have hx:=HVO.out.ok V.1[n] (List.getElem_mem hlt)
   have hgv:V.1[n]? = some V.1[n]:=List.getElem?_eq_getElem hlt
   generalize V.1[n] = x at f0 hx hgv
   obtain ⟨x,rfl⟩:∃ j:Nat,x = (j:Int):=⟨x.toNat,by omega⟩
   have hxl:x < vs.length:=by omega
   have n0:=(HN.out.below hbw).cell x hxl
   have u0:=(HRU.out.below hbw).cell x (by omega)
   have hgu:g.rule.getD x 0 = g.rule[x]'(by omega):=by simp [show x < g.rule.length by omega]
   generalize hux:g.rule[x]'(by omega) = ux at u0 hgu
   have hrow:=HVS.out x vs[x] (List.getElem?_eq_getElem _)
   have hok:=HO.out.row x (by omega)
   generalize vs[x] = vn at n0 hrow
   generalize hrw:g.next.getD x [] = row at hrow hok
   obtain ⟨ed,ecap,rfl,herow⟩:=hrow.form
   have g1:wr.cell? ⟨w.heap.size,1,none⟩ = some (.slice (some ⟨ng,0,none⟩) vs.length ncap):=(HH1.out.2.1.below hb).cell 1
   have i0:(0:Int) ≤ (n:Int):=by omega
   have i1:(n:Int) < (V.1.length:Int):=by omega
   have i2:(0:Int) ≤ (x:Int):=by omega
   have i3:(x:Int) < (vs.length:Int):=by omega
   have zr:w1.heap.size < wr.heap.size:=hP.lt
   have hrl:row.length ≤ 1000:=by omega
   have hmk:=makeInts row.length (by omega)
   obtain ⟨hokl,hokr⟩:=hok
   have HOK:=hide hokr
   have HROW:=hide hrow
   have HGV:=hide hgv
   have HGU:=hide hgu
   have HRW:=hide hrw
   have HH:Hid (Below w1.heap.size w1 wr∧Blk wr w1.heap.size #[uv,pv] 63∧Rows2 wr O pv ((V.1.take n).map (fun m=>numberRow cls V.2 (g.next.getD m.toNat [])))∧IRow wr uv ((V.1.take n).map (fun m=>g.rule.getD m.toNat 0))∧(∀ k,O k→w1.heap.size < k)∧∀ b,uv.ownBlock = some b→w1.heap.size < b∧¬ O b):=⟨hb,hP,hR,hU,hO,hUO⟩
   have HBW:=hide hbw
   clear hb hP hR hU hO hUO hvl hlen hokl hokr hrow hrw hbw hux hx hgv hgu u0
   obtain ⟨wo,rfl⟩:∃ wo:World,wo = wr:=⟨_,rfl⟩
   have g1n:∀ X:World,Below wo.heap.size wo X→X.cell? ⟨w.heap.size,1,none⟩ = some (.slice (some ⟨ng,0,none⟩) vs.length ncap):=fun X hX=>((HH1.out.2.1.below HH.out.1).below hX).cell 1
   have n0n:∀ X:World,Below wo.heap.size wo X→X.cell? ⟨ng,x,none⟩ = some (.slice ed row.length ecap):=fun X hX=>by rw [hX.cell (p:=⟨ng,x,none⟩) (show ng < wo.heap.size by have:=ownsRow_lt HN.out ng rfl; have:=HBW.out.size; omega)]; exact n0
   have g1a:=g1n (wo.alloc (.cells (intsA (List.replicate row.length 0)) 3)) (Below1 _ _)
   have n0a:=n0n (wo.alloc (.cells (intsA (List.replicate row.length 0)) 3)) (Below1 _ _)
   have zng:ng < wo.heap.size:=by have:=ownsRow_lt HN.out ng rfl; have:=HBW.out.size; omega
   have zn:w.heap.size < wo.heap.size:=by omega
   clear g1n n0n
   go_wp2_with fail
   go_loopg [39] row.length (fun G i wr=>∃ (k:Nat),k ≤ row.length∧G = row.length - k∧i = .int .i64 (k:Int)∧Below wo.heap.size wo wr∧Blk wr wo.heap.size (intsA (numAt cls V.2 row k)) 3)
   case atStart =>
    refine ⟨0,by omega,rfl,rfl,Below1 _ _,?_⟩
    have e1:numAt cls V.2 row 0 = List.replicate row.length 0:=by simp [numAt,numberRow]
    rw [e1]
    exact Blk.new _ _ _
   case round =>
    obtain ⟨k,hk,rfl,rfl,hb,hI⟩:=hrel
    have hkl:=numAt_len cls V.2 row k hk
    clear g1 g1a n0 n0a f0
    by_cases hlk:k < row.length
    ·have e1:decide ((k:Int) < (row.length:Int)) = true:=by simp; omega
     rcases herow with h0 | ⟨eg,rfl⟩
     ·omega
     have hbw2:Below w.heap.size w wr:=HBW.out.trans (hb.mono (by omega))
     have hb12:Below w1.heap.size w1 wr:=HH.out.1.trans (hb.mono (by omega))
     have r0:=(HROW.out.below hbw2).cell k hlk
     have hto:=HOK.out row[k] (List.getElem_mem hlk)
     have hst:=numAt_step cls V.2 row k hlk
     have c0:=intsA_cell hI k (by omega)
     generalize (numAt cls V.2 row k)[k]'(by omega) = old at c0
     have fk0:=hI.frozen k
     have i4:(0:Int) ≤ (k:Int):=by omega
     have i5:(k:Int) < (row.length:Int):=by omega
     generalize row[k] = to at r0 hto hst
     by_cases hn1:to = -1
     ·subst hn1
      have HST:=hide hst
      have HHI:Hid (Below wo.heap.size wo wr∧Blk wr wo.heap.size (intsA (numAt cls V.2 row k)) 3):=⟨hb,hI⟩
      clear hst hb hI hbw2 hb12 hto hkl
      go_wp2_with fail
      go_roundg (row.length - (k + 1))
      case measure=>omega
      case rel =>
       obtain ⟨q1,q2⟩:=HHI.out
       refine ⟨k + 1,by omega,rfl,by go_num,q1.setCell (Nat.le_refl _) _,?_⟩
       have hs:=HST.out
       simp only [bne_self_eq_false,Bool.false_eq_true,if_false] at hs
       rw [hs,← intsA_set]
       exact q2.set k _
     ·have e2:(to != -1) = true:=by simp [hn1]
      obtain ⟨j,rfl⟩:∃ j:Nat,to = (j:Int):=⟨to.toNat,by omega⟩
      have hcl:=HCL.out
      have hj:j < cls.length:=by omega
      have cj:=(HC.out.below hbw2).cell j hj
      have hcb:=HCB.out cls[j] (List.getElem_mem hj)
      have hgc:cls.getD j 0 = cls[j]:=by simp [hj]
      rw [Int.toNat_natCast,hgc,e2,if_pos rfl] at hst
      generalize cls[j] = ci at cj hcb hst
      obtain ⟨ci,rfl⟩:∃ i:Nat,ci = (i:Int):=⟨ci.toNat,by omega⟩
      rw [Int.toNat_natCast] at hst
      have hml:=HVO.out.len
      have hcil:ci < V.2.length:=by omega
      rcases hmrow with h0 | ⟨mg,rfl⟩
      ·omega
      have mc:=(HM1.out.below hb12).cell ci hcil
      have hgm:V.2.getD ci 0 = V.2[ci]:=by simp [hcil]
      rw [hgm] at hst
      generalize V.2[ci] = old2 at mc hst
      have zcg:cg < wo.heap.size:=by have:=ownsRow_lt HC.out cg rfl; have:=HBW.out.size; omega
      have zmg:mg < wo.heap.size:=by have:=ownsRow_lt HM1.out mg rfl; omega
      have hnc:cg ≠ wo.heap.size:=by omega
      have hnm:mg ≠ wo.heap.size:=by omega
      have j0:(0:Int) ≤ (j:Int):=by omega
      have j1:(j:Int) < (cls.length:Int):=by omega
      have k0:(0:Int) ≤ (ci:Int):=by omega
      have k1:(ci:Int) < (V.2.length:Int):=by omega
      have HST:=hide hst
      have HHI:Hid (Below wo.heap.size wo wr∧Blk wr wo.heap.size (intsA (numAt cls V.2 row k)) 3):=⟨hb,hI⟩
      clear hst hb hI hbw2 hb12 hto hkl hgc hgm hcb hcl hml hn1
      go_wp2_with fail
      go_roundg (row.length - (k + 1))
      case measure=>omega
      case rel =>
       obtain ⟨q1,q2⟩:=HHI.out
       refine ⟨k + 1,by omega,rfl,by go_num,(q1.setCell (Nat.le_refl _) _).setCell (Nat.le_refl _) _,?_⟩
       have q3:=(q2.set k (.int .i64 (-1))).set k (.int .i64 old2)
       rw [intsA_set,intsA_set,List.set_set] at q3
       rw [HST.out]
       exact q3
    ·have e1:decide ((k:Int) < (row.length:Int)) = false:=by simp; omega
     obtain rfl:k = row.length:=by omega
     rw [numAt_all] at hI
     obtain ⟨hb3,hP3,hR3,hU3,hO3,hUO3⟩:=HH.out
     have hbw2:Below w.heap.size w wr:=HBW.out.trans (hb.mono (by omega))
     have hP4:=hP3.below hb
     have hR4:=hR3.below hb
     have hU4:=hU3.below hb
     have hG4:=((HH1.out.2.1.below hb3).below hb)
     have u0:=(HRU.out.below hbw2).cell x (by have:=HVL.out; have:=HLEN.out; omega)
     have hul0:((V.1.take n).map (fun m=>g.rule.getD m.toNat 0)).length = n:=by simp; omega
     have hgu:g.rule.getD x 0 = g.rule[x]'(by have:=HVL.out; have:=HLEN.out; omega):=by simp [show x < g.rule.length by have:=HVL.out; have:=HLEN.out; omega]
     generalize g.rule[x]'(by have:=HVL.out; have:=HLEN.out; omega) = uy at u0 hgu
     generalize hUL:(V.1.take n).map (fun m=>g.rule.getD m.toNat 0) = ul at hU4 hul0 hU3
     obtain ⟨ud,ucap,rfl,_⟩:=hU4.form
     have hul1:ul.length ≤ 1000:=by omega
     clear hul0
     have p0:wr.cell? ⟨w1.heap.size,0,none⟩ = some (.slice ud ul.length ucap):=hP4.cell 0
     have pf0:=hP4.frozen 0
     have g0:wr.cell? ⟨w.heap.size,0,none⟩ = some (.slice (some ⟨rg,0,none⟩) g.rule.length rcap):=hG4.cell 0
     have i6:(x:Int) < (g.rule.length:Int):=by have:=HVL.out; have:=HLEN.out; omega
     have hpr:(numberRow cls V.2 row).length = row.length:=by simp [numberRow]
     have hrow4:=IRow.ofBlk hI (by omega)
     rw [hpr] at hrow4
     obtain ⟨ii,hi,hz0,hz1,hz2⟩:=info_parts Tryz.infoI3
     have zw:w1.heap.size < wr.heap.size:=hP4.lt
     have zz:wo.heap.size < wr.heap.size:=hI.lt
     have zrg:rg < wr.heap.size:=ownsRow_lt (HRU.out.below hbw2) rg rfl
     have zw0:w.heap.size < wr.heap.size:=by omega
     have hud:∀ b,(Value.slice ud ul.length ucap).ownBlock = some b→w1.heap.size < b∧b < wo.heap.size∧¬ O b:=fun b e=>⟨(hUO3 b e).1,ownsRow_lt hU3 b e,(hUO3 b e).2⟩
     have hune:(Value.slice ud ul.length ucap).ownBlock ≠ some w1.heap.size:=fun e=>by have:=(hud _ e).1; omega
     have hkd:Kept (fun _=>False) wr (wr.alloc (.cells #[.int .i64 uy] 3)).drew:=((Kept.refl (fun _=>False) wr).alloc _).drew
     have hol:IRow (wr.alloc (.cells #[.int .i64 uy] 3)).drew (.slice ud ul.length ucap) ul:=hU4.kept hkd (fun _ _ e=>e)
     have hbl5:Below w1.heap.size w1 wr:=hb3.trans (hb.mono (by omega))
     have hnO:¬ O wo.heap.size:=fun e=>by have:=hR3.olt _ e; omega
     have hnP:¬ O w1.heap.size:=fun e=>by have:=hO3 _ e; omega
     have HOL:=hide hol
     have HUNE:=hide hune
     have HHH:Hid (Below w1.heap.size w1 wr∧Blk wr w1.heap.size #[.slice ud ul.length ucap,pv] 63∧Rows2 wr O pv ((V.1.take n).map (fun m=>numberRow cls V.2 (g.next.getD m.toNat [])))∧IRow wr (.slice (some ⟨wo.heap.size,0,none⟩) row.length row.length) (numberRow cls V.2 row)∧(∀ k,O k→w1.heap.size < k)∧(∀ b,(Value.slice ud ul.length ucap).ownBlock = some b→w1.heap.size < b∧b < wo.heap.size∧¬ O b)):=⟨hbl5,hP4,hR4,hrow4,hO3,hud⟩
     have HGUX:=hide hgu
     have HULX:=hide hUL
     clear hb hI hb3 hP3 hR3 hU3 hU4 hO3 hUO3 hP4 hR4 hG4 hrow4 hol hune hud hkd hbl5 hbw2 hpr hkl hgu hUL HH
     go_wp2_with fail
     go_region_law ((refine step_append_lies _ (by rfl) _ _ _ (by rfl) 0 3 ii _ 1 8 Tryz.underlying60 hi hz0 hz1 hz2 rfl (by omega) (.slice ud ul.length ucap) ul.length (ul.map (Value.int .i64)) (by rfl) HOL.out ⟨wr.heap.size,0,none⟩ 1 1 [.int .i64 uy] (by rfl) (by rfl) (World.news_of_block (cs:=#[.int .i64 uy]) (t:=3) (fr:=(0,0)) (heap_alloc_new wr _)) (by simp [Value.oneCell']) (by omega) (by unfold maxLen; omega) (by omega) (by simp) (wr.heap.size + 1) (by simp) ?_; intro gf cap5 w5 hown5 hgrow5 hat5 hlt5; have cg3:=(hgrow5.cell_far ⟨w1.heap.size,0,none⟩ (by simp; omega) (Ne.symm HUNE.out)).trans (((World.cell?_alloc_past _ _ _ zw)).trans p0); have fg3:=(hgrow5.frozen_far ⟨w1.heap.size,0,none⟩ (by simp; omega) (Ne.symm HUNE.out)).trans (((World.frozen?_alloc_past _ _ _ zw)).trans pf0)))
     all_goals
      have hnum:=number_mid HHH.out.1 HHH.out.2.1 HHH.out.2.2.1 HHH.out.2.2.2.1 HHH.out.2.2.2.2.1 HHH.out.2.2.2.2.2 zw zz hnO hnP zr hown5 hgrow5 hat5 hlt5 _ rfl
      generalize w5.setCell ⟨w1.heap.size,0,none⟩ (.slice (some ⟨gf,0,none⟩) (ul.length + 1) cap5) = w7 at hnum ⊢
      obtain ⟨m1,m2,m3,m4,m5,m6,m7,m8,m9⟩:=hnum
      obtain ⟨us,hU1,hU2,hU3⟩:=m3.ex
      obtain ⟨pd,pcap,rfl,_⟩:=hU1.form
      have c1:w7.cell? ⟨w1.heap.size,1,none⟩ = some (.slice pd us.length pcap):=m2.cell 1
      have f1:=m2.frozen 1
      have hul:us.length ≤ 1000:=by rw [hU2]; simp; omega
      obtain ⟨ij,hj,hy0,hy1,hy2⟩:=info_parts Tryz.infoN3
      have hol:=hU1.below (Below1 w7 (.cells #[.slice (some ⟨wo.heap.size,0,none⟩) row.length row.length] 60))
      have z7:w1.heap.size < w7.heap.size:=m2.lt
      have hR5:=m3.alloc (.cells #[.slice (some ⟨wo.heap.size,0,none⟩) row.length row.length] 60)
      have HOM:=hide hol
      have HU:=hide (And.intro hU2 hU3)
      have HHM:Hid (Below w1.heap.size w1 w7∧Blk w7 w1.heap.size #[.slice (some ⟨gf,0,none⟩) (ul.length + 1) cap5,.slice pd us.length pcap] 63∧IRow w7 (.slice (some ⟨wo.heap.size,0,none⟩) row.length row.length) (numberRow cls V.2 row)∧IRow w7 (.slice (some ⟨gf,0,none⟩) (ul.length + 1) cap5) (ul ++ [uy])∧(∀ k,O k→w1.heap.size < k)):=⟨m1,m2,m4,m5,HHH.out.2.2.2.2.1⟩
      have HR5:=hide hR5
      have HM8:=hide m8
      clear m1 m2 m3 m4 m5 m8 hU1 hU2 hU3 hol hR5 HHH HOL hown5 hgrow5 hat5 hlt5 p0 pf0 g0 u0 HUNE cg3 fg3 hi hz0 hz1 hz2
      go_wp2_with (at_builtin; (refine wpList_append_lies _ (by rfl) _ _ _ (by rfl) 0 60 ij _ 1 24 Tryz.underlying61 hj hy0 hy1 hy2 rfl (by omega) (.slice pd us.length pcap) us.length us (by rfl) HOM.out ⟨w7.heap.size,0,none⟩ 1 1 [.slice (some ⟨wo.heap.size,0,none⟩) row.length row.length] (by rfl) (by rfl) (World.news_of_block (cs:=#[.slice (some ⟨wo.heap.size,0,none⟩) row.length row.length]) (t:=60) (fr:=(0,0)) (heap_alloc_new w7 _)) (by simp [Value.oneCell']) (by omega) (by unfold maxLen; omega) (by omega) (by simp) (w7.heap.size + 1) (by simp) ?_))
      intro gg cap2 w6 hown6 hgrow6 hat6 hlt6
      obtain ⟨q1,q2,q3,q5,q4⟩:=HHM.out
      obtain ⟨hR7,hk7⟩:=Rows2.push HR5.out HOM.out HU.out.1 (fun i v hv=>⟨((HU.out.2 i v hv).1).below (Below1 _ _),(HU.out.2 i v hv).2⟩) (q3.below (Below1 _ _)) hnO hown6 hgrow6 (by simpa using hat6) hlt6
      have hP7:=(q2.alloc (.cells #[.slice (some ⟨wo.heap.size,0,none⟩) row.length row.length] 60)).kept hk7 hnP
      have hU7:=(q5.below (Below1 w7 (.cells #[.slice (some ⟨wo.heap.size,0,none⟩) row.length row.length] 60))).kept hk7 (fun b hb=>by cases (Option.some.inj hb:gf = b); exact HM8.out)
      have c7:w6.cell? ⟨w1.heap.size,1,none⟩ = some (.slice pd us.length pcap):=hP7.cell 1
      have f7:=hP7.frozen 1
      have hgf7:gf < w7.heap.size:=ownsRow_lt q5 gf rfl
      have hgg:w1.heap.size < gg:=by
       rcases hat6 with e | e
       ·exact q4 _ (HR5.out.ob _ e)
       ·omega
      have hggf:gf ≠ gg:=by
       intro e
       subst e
       rcases hat6 with e | e
       ·exact HM8.out (HR5.out.ob _ e)
       ·omega
      have hbb:Below w1.heap.size w1 w6:=(q1.alloc (by omega) _).trans ⟨hk7.os,hk7.tape,hk7.output,hk7.size,fun k hk=>hk7.block k (by simp; omega) (fun e=>by have:=q4 _ e; omega)⟩
      have HHX:Hid (Rows2 w6 (fun k=>O k∨k = gg∨k = wo.heap.size) (.slice (some ⟨gg,0,none⟩) (us.length + 1) cap2) ((V.1.take n).map (fun m=>numberRow cls V.2 (g.next.getD m.toNat [])) ++ [numberRow cls V.2 row])∧Blk w6 w1.heap.size #[.slice (some ⟨gf,0,none⟩) (ul.length + 1) cap5,.slice pd us.length pcap] 63∧Below w1.heap.size w1 w6∧IRow w6 (.slice (some ⟨gf,0,none⟩) (ul.length + 1) cap5) (ul ++ [uy])∧∀ k,O k→w1.heap.size < k):=⟨hR7,hP7,hbb,hU7,q4⟩
      clear hR7 hk7 hP7 hbb q1 q2 q3 q4 q5 hU7 hown6 hgrow6 hat6 HHM HR5 HU HOM c1 f1
      go_wp2_with fail
      go_roundg (V.1.length - (n + 1))
      case measure=>omega
      case rel =>
       obtain ⟨q1,q2,q3,q5,q4⟩:=HHX.out
       refine ⟨n + 1,(fun k=>O k∨k = gg∨k = wo.heap.size),_,_,by omega,rfl,by go_num,q3.setCell (Nat.le_refl _) _,q2.set 1 _,?_,?_,?_,?_⟩
       ·have e9:(V.1.take (n + 1)).map (fun m=>numberRow cls V.2 (g.next.getD m.toNat [])) = (V.1.take n).map (fun m=>numberRow cls V.2 (g.next.getD m.toNat [])) ++ [numberRow cls V.2 row]:=by
         rw [List.take_add_one,HGV.out,List.map_append,← HRW.out]; simp
        rw [e9]
        exact q1.setCell (fun e=>by rcases e with e | e | e; exact absurd (q4 _ e) (by simp); simp at e; omega; simp at e; omega) _
       ·have e9:(V.1.take (n + 1)).map (fun m=>g.rule.getD m.toNat 0) = ul ++ [uy]:=by
         rw [List.take_add_one,HGV.out,List.map_append,HULX.out,← HGUX.out]; simp
        rw [e9]
        exact q5.kept (Kept.setCell (ex:=fun k=>k = w1.heap.size) (p:=⟨w1.heap.size,1,none⟩) (Kept.refl _ _) (fun _=>rfl) _) (fun b hb e=>by cases (Option.some.inj hb:gf = b); omega)
       ·intro k e
        rcases e with e | e | e
        ·exact q4 k e
        ·omega
        ·omega
       ·intro b hb
        cases (Option.some.inj hb:gf = b)
        refine ⟨by omega,fun e=>?_⟩
        rcases e with e | e | e
        ·exact HM8.out e
        ·exact hggf e
        ·exact m7 e
  ·have e0:decide ((n:Int) < (V.1.length:Int)) = false:=by simp; omega
   obtain rfl:n = V.1.length:=by omega
   obtain ⟨hb9,hG9,hZ9⟩:=HH1.out
   have hZw:=hZ9.below hb
   obtain ⟨us,hU1,hU2,hU3⟩:=hR.ex
   obtain ⟨pd,pcap,rfl,_⟩:=hU1.form
   rw [List.take_length] at hU hR
   generalize hUL:V.1.map (fun m=>g.rule.getD m.toNat 0) = ul at hU
   obtain ⟨ud,ucap,rfl,_⟩:=hU.form
   have hpc0:wr.cell? ⟨w1.heap.size,0,none⟩ = some (.slice ud ul.length ucap):=hP.cell 0
   have hpc1:wr.cell? ⟨w1.heap.size,1,none⟩ = some (.slice pd us.length pcap):=hP.cell 1
   have hq0:wr.cell? ⟨w.heap.size + 1,0,none⟩ = some (.slice none 0 0):=hZw.cell 0
   have hq1:wr.cell? ⟨w.heap.size + 1,1,none⟩ = some (.slice none 0 0):=hZw.cell 1
   have fq0:=hZw.frozen 0
   have fq1:=hZw.frozen 1
   have HHF:Hid (Below w.heap.size w w1∧Below w1.heap.size w1 wr∧Blk wr (w.heap.size + 1) #[.slice none 0 0,.slice none 0 0] 63∧Rows2 wr O (.slice pd us.length pcap) (V.1.map (fun m=>numberRow cls V.2 (g.next.getD m.toNat [])))∧(∀ k,O k→w1.heap.size < k)∧IRow wr (.slice ud ul.length ucap) ul∧∀ b,(Value.slice ud ul.length ucap).ownBlock = some b→w1.heap.size < b):=⟨hb9,hb,hZw,hR,hO,hU,fun b e=>(hUO b e).1⟩
   have HULX:=hide hUL
   clear hb9 hG9 hZ9 hb hZw hR hO hP hU1 hU2 hU3 hU hUO hUL
   go_wp2_with fail
   obtain ⟨q1,q2,q3,q4,q5,qu,qv⟩:=HHF.out
   have q6:Below w.heap.size w wr:=q1.trans (q2.mono (by omega))
   have q7:=q4.setCell (a:=⟨w.heap.size + 1,0,none⟩) (fun e=>by have:=q5 _ e; simp at this; omega) (.slice ud ul.length ucap)
   have q8:=q7.setCell (a:=⟨w.heap.size + 1,1,none⟩) (fun e=>by have:=q5 _ e; simp at this; omega) (.slice pd us.length pcap)
   have hbF:=(q6.setCell (p:=⟨w.heap.size + 1,0,none⟩) (by simp) (.slice ud ul.length ucap)).setCell (p:=⟨w.heap.size + 1,1,none⟩) (by simp) (.slice pd us.length pcap)
   have qw:=(qu.kept (Kept.setCell (ex:=fun k=>k = w.heap.size + 1) (p:=⟨w.heap.size + 1,0,none⟩) (Kept.refl _ _) (fun _=>rfl) (.slice ud ul.length ucap)) (fun b hb e=>by have:=qv b hb; omega)).kept (Kept.setCell (ex:=fun k=>k = w.heap.size + 1) (p:=⟨w.heap.size + 1,1,none⟩) (Kept.refl _ _) (fun _=>rfl) (.slice pd us.length pcap)) (fun b hb e=>by have:=qv b hb; omega)
   refine bodyPost_ret (resultsGraph Tryz.results48 _ rfl rfl ((q3.set 0 _).set 1 _)) rfl ⟨_,_,rfl,?_,hbF⟩
   have e5:numberF g cls = ⟨ul,V.1.map (fun m=>numberRow cls V.2 (g.next.getD m.toNat []))⟩:=by unfold numberF; rw [HVF.out,← HULX.out]
   rw [e5]
   exact Rows2.graph (g:=⟨ul,V.1.map (fun m=>numberRow cls V.2 (g.next.getD m.toNat []))⟩) q8 qw
structure RS (w:World) (rb gb:Nat) (s:ByteArray) (p:Nat) (R:RulesT) (O:Nat→Prop):Prop where
 rd:Rd w rb s p gb
 ru:∃ fv lv,RulesAt w gb O R fv lv
 no:¬ O rb
def RPost (w w':World) (rb gb:Nat) (s:ByteArray) (O:Nat→Prop) (p:Nat) (R:RulesT):Prop :=
 ∃ O',RS w' rb gb s p R O'∧Kept (fun k=>k = rb∨O k) w w'∧∀ k,O' k→O k∨w.heap.size ≤ k
section
variable {w w':World} {rb gb:Nat} {s:ByteArray} {p:Nat} {R:RulesT} {O:Nat→Prop}
theorem RS.olt (h:RS w rb gb s p R O):∀ k,O k→k < w.heap.size:=by obtain ⟨fv,lv,hr⟩:=h.ru; exact hr.olt
theorem RS.lt (h:RS w rb gb s p R O):rb < w.heap.size:=h.rd.lt
theorem RS.kept {ex:Nat→Prop} (h:RS w rb gb s p R O) (k:Kept ex w w') (h1:¬ ex rb) (h2:∀ b,O b→¬ ex b):RS w' rb gb s p R O:=by
 obtain ⟨fv,lv,hr⟩:=h.ru
 exact ⟨Blk.kept h.rd k h1,⟨fv,lv,hr.kept k h2⟩,h.no⟩
theorem RS.below (h:RS w rb gb s p R O) (k:Below w.heap.size w w'):RS w' rb gb s p R O:=h.kept (ex:=fun _=>False) (Kept.ofBelow k) (fun e=>e) (fun _ _ e=>e)
theorem RS.alloc (h:RS w rb gb s p R O) (o:Obj):RS (w.alloc o) rb gb s p R O:=h.below (Below1 _ _)
theorem RS.drew (h:RS w rb gb s p R O):RS w.drew rb gb s p R O:=h.kept (ex:=fun _=>False) (Kept.refl _ _).drew (fun e=>e) (fun _ _ e=>e)
theorem RS.drewN (h:RS w rb gb s p R O) (n:Nat):RS (w.drewN n) rb gb s p R O:=h.kept (ex:=fun _=>False) ((Kept.refl _ _).drewN n) (fun e=>e) (fun _ _ e=>e)
theorem RS.set1 (h:RS w rb gb s p R O):RS (w.setCell ⟨rb,1,none⟩ (.int .i64 ((p:Int) + 1))) rb gb s (p + 1) R O:=by
 obtain ⟨fv,lv,hr⟩:=h.ru
 exact ⟨h.rd.set1,⟨fv,lv,hr.kept (ex:=fun k=>k = rb) (Kept.setCell (ex:=fun k=>k = rb) (Kept.refl _ _) (fun _=>rfl) _) (fun b hb e=>h.no (e ▸ hb))⟩,h.no⟩
theorem RS.setOther (h:RS w rb gb s p R O) {a:Addr} (h1:a.block ≠ rb) (h2:¬ O a.block) (v:Value):RS (w.setCell a v) rb gb s p R O :=
 h.kept (ex:=fun k=>k = a.block) (Kept.setCell (ex:=fun k=>k = a.block) (Kept.refl _ _) (fun _=>rfl) _) (fun e=>h1 e.symm) (fun b hb e=>h2 (e ▸ hb))
theorem RS.setRow (h:RS w rb gb s p R O) {g:Nat} (h1:g ≠ rb) (h2:¬ O g) (c:Array Value):RS (w.setRow g c) rb gb s p R O :=
 h.kept (ex:=fun k=>k = g) (Kept.setRow (ex:=fun k=>k = g) (Kept.refl _ _) (fun _=>rfl) _) (fun e=>h1 e.symm) (fun b hb e=>h2 (e ▸ hb))
theorem RS.moved {q:Nat} (h:RS w rb gb s p R O) (hr:Rd w' rb s q gb) (k:Kept (· = rb) w w'):RS w' rb gb s q R O:=by
 obtain ⟨fv,lv,hru⟩:=h.ru
 exact ⟨hr,⟨fv,lv,hru.kept k (fun b hb e=>h.no (e ▸ hb))⟩,h.no⟩
theorem RS.turned {R':RulesT} (h:RS w rb gb s p R O) {fv lv:Value} (hr:RulesAt w' gb O R' fv lv) (k:Kept O w w'):RS w' rb gb s p R' O :=
 ⟨Blk.kept h.rd k h.no,⟨fv,lv,hr⟩,h.no⟩
theorem RS.turned' {R':RulesT} {O':Nat→Prop} (h:RS w rb gb s p R O) {fv lv:Value} (hr:RulesAt w' gb O' R' fv lv) (k:Kept O w w') (ho:∀ k,O' k→O k∨w.heap.size ≤ k):RS w' rb gb s p R' O' :=
 ⟨Blk.kept h.rd k h.no,⟨fv,lv,hr⟩,fun e=>by
  rcases ho rb e with e | e
  ·exact h.no e
  ·have:=h.lt; omega⟩
end
theorem loadP {q:PartT} {ops:Array Oper} {rest:List Oper} {o:Oper} {a:Act} {w:World} {Q:Exit→Act→World→Prop} (hgd:o.guard = none) (x:Operand) (ho:o.op = .load 206 x)
  (g:Nat) (hx:a.eval x = .pointer (some ⟨g,0,none⟩)) (hb:Blk w g (partC q) 206)
  (h:wpList Tryz.prog ops Q rest (a.put o.dst (partV q)) w):wpList Tryz.prog ops Q (o :: rest) a w :=
 wpList_load_row hgd 206 x ho g hx 206 _ (0,0) _ hb Tryz.underlying206 rfl Tryz.infoP h
theorem partC_one (q:PartT):(partC q).all (·.oneCell') = true:=by simp [Value.oneCell']
theorem storeP {q:PartT} {ops:Array Oper} {rest:List Oper} {o:Oper} {a:Act} {w:World} {Q:Exit→Act→World→Prop} (hgd:o.guard = none) (x y:Operand) (ho:o.op = .store 206 x y)
  (g:Nat) (hx:a.eval x = .pointer (some ⟨g,0,none⟩)) (hy:a.eval y = partV q) {old:Array Value} (hb:Blk w g old 206) (hold:old.size = 5)
  (h:wpList Tryz.prog ops Q rest (a.put o.dst undef) (w.setRow g (partC q))):wpList Tryz.prog ops Q (o :: rest) a w :=
 wpList_store_row hgd 206 x y ho g _ hx hy 206 _ hb Tryz.infoP hold (partC_one q) h
theorem resultsPartTmp {fn:Func} {p q:Tmp} (h:fn.results = #[.cell p 206,.tmp q]) {x:PartT} (tmps:Array Value) {w:World} {g:Nat}
  (hp:tmps.getD p undef = .pointer (some ⟨g,0,none⟩)) (hg:Blk w g (partC x) 206):(results fn tmps).run Tryz.prog w = .ok (.tuple #[partV x,tmps.getD q undef]) w :=
 results_cell_tmp h tmps w g 206 _ (0,0) _ hp hg Tryz.underlying206 rfl Tryz.infoP
def ExprG (s:ByteArray) (rb gb f:Nat):Prop:=∀ (w:World) (p:Nat) (R:RulesT) (O:Nat→Prop),RS w rb gb s p R O→p ≤ s.size→R.follow.length ≤ p→s.size - p < f →
 Calls Tryz.prog 117 #[.pointer (some ⟨rb,0,none⟩)] w fun e w' =>
  e = .returned (.tuple #[partV (exprF s f p R).part,.bool (exprF s f p R).ok])∧RPost w w' rb gb s O (exprF s f p R).at' (exprF s f p R).rules
set_option maxHeartbeats 1600000 in
theorem group_any (s:ByteArray) (rb gb f:Nat) (hE:ExprG s rb gb f) (hs:s.size ≤ 120) (w:World) (p:Nat) (R:RulesT) (O:Nat→Prop) (h:RS w rb gb s p R O) (hp:p < s.size) (hR:R.follow.length ≤ p) (hf:s.size - p ≤ f) :
  Calls Tryz.prog 146 #[.pointer (some ⟨rb,0,none⟩)] w fun e w' =>
   e = .returned (.tuple #[partV (groupF s (exprF s f) p R).part,.bool (groupF s (exprF s f) p R).ok])∧RPost w w' rb gb s O (groupF s (exprF s f) p R).at' (groupF s (exprF s f) p R).rules:=by
 have c1:=h.rd.c1
 have f1:=h.rd.f1
 have hrb:=h.lt
 have hK:Kept (fun k=>k = rb∨O k) w w:=Kept.refl _ _
 have nO:∀ k,O k→k < w.heap.size:=h.olt
 have hg:=exprF_good s f (p + 1) R (by omega) (by omega)
 have hEc:=fun W O h1=>hE W (p + 1) R O h1 (by omega) (by omega) (by omega)
 unfold groupF
 generalize exprF s f (p + 1) R = r at hg hEc ⊢
 obtain ⟨q,ok,p1,R1⟩:=r
 simp only at hEc ⊢
 have htop:=hg.top
 have HE:=hide hEc
 have HNO:=hide nO
 have HS:=hide h
 clear hE hEc hg nO h
 cases ok with
 |false =>
  rw [if_neg (by simp)]
  go_enter Tryz.func146,Tryz.ntmps146
  go_wp2_with fail
  refine (HE.out _ O (HS.out.set1.alloc _)).mono ?_
  rintro e w1 ⟨rfl,O1,hS1,hk1,ho1⟩
  have hz1:w.heap.size < w1.heap.size:=by have:=hk1.size; simp at this; omega
  have nO:=HNO.out
  have hZ1:Blk w1 w.heap.size part0 206:=by
   have h9:=Blk.new (w.setCell ⟨rb,1,none⟩ (.int .i64 ((p:Int) + 1))) part0 206
   rw [show (w.setCell ⟨rb,1,none⟩ (.int .i64 ((p:Int) + 1))).heap.size = w.heap.size by simp] at h9
   exact h9.kept hk1 (fun e=>by rcases e with e | e; omega; have:=nO _ e; omega)
  have hN1:=Blk.new w1 part0 206
  have hZ2:=(hZ1.alloc (.cells part0 206)).setRowOther (g:=w1.heap.size) (by omega) (partC q)
  have hkW:Kept (fun k=>k = rb∨O k) w w1:=((hK.setCell (fun _=>.inl rfl) _).alloc _).trans' hk1
  have hO1:∀ k,O1 k→O k∨w.heap.size < k:=by
   intro k hk
   rcases ho1 k hk with e | e
   ·exact .inl e
   ·exact .inr (by simp at e; omega)
  have HH:Hid (RS w1 rb gb s p1 R1 O1∧Kept (fun k=>k = rb∨O k) w w1∧(∀ k,O1 k→O k∨w.heap.size < k)):=⟨hS1,hkW,hO1⟩
  clear hS1 hk1 ho1 hkW hO1 nO
  go_wp2_with (first | refine storeP rfl (.tmp 4) (.tmp 16) rfl w1.heap.size rfl rfl hN1 rfl ?_ | refine storeP (q:=PartT.new) rfl (.tmp 2) (.tmp 25) rfl w.heap.size rfl rfl hZ2 rfl ?_)
  obtain ⟨hS1,hkW,hO1⟩:=HH.out
  have nO:=HNO.out
  have hn0:¬ O1 w.heap.size:=fun e=>by rcases hO1 _ e with e | e; have:=nO _ e; omega; omega
  have hn1:¬ O1 w1.heap.size:=fun e=>by have:=hS1.olt _ e; omega
  refine bodyPost_ret (resultsPartTmp Tryz.results146 _ rfl (hZ2.setRow _)) rfl ⟨rfl,O1,(((hS1.alloc _).setRow (by omega) hn1 _).setRow (by omega) hn0 _),?_,?_⟩
  ·exact ((hkW.alloc _).setRow (by omega) _).setRow (by omega) _
  ·exact fun k hk=>(hO1 k hk).imp id (fun e=>by omega)
 |true =>
  by_cases h41:peekI s p1 = 41
  ·rw [if_pos ⟨rfl,h41⟩]
   go_enter Tryz.func146,Tryz.ntmps146
   go_wp2_with fail
   refine (HE.out _ O (HS.out.set1.alloc _)).mono ?_
   rintro e w1 ⟨rfl,O1,hS1,hk1,ho1⟩
   have hz1:w.heap.size < w1.heap.size:=by have:=hk1.size; simp at this; omega
   have nO:=HNO.out
   have hZ1:Blk w1 w.heap.size part0 206:=by
    have h9:=Blk.new (w.setCell ⟨rb,1,none⟩ (.int .i64 ((p:Int) + 1))) part0 206
    rw [show (w.setCell ⟨rb,1,none⟩ (.int .i64 ((p:Int) + 1))).heap.size = w.heap.size by simp] at h9
    exact h9.kept hk1 (fun e=>by rcases e with e | e; omega; have:=nO _ e; omega)
   have hN1:=Blk.new w1 part0 206
   have hZ2:=(hZ1.alloc (.cells part0 206)).setRowOther (g:=w1.heap.size) (by omega) (partC q)
   have hkW:Kept (fun k=>k = rb∨O k) w w1:=((hK.setCell (fun _=>.inl rfl) _).alloc _).trans' hk1
   have hO1:∀ k,O1 k→O k∨w.heap.size < k:=by
    intro k hk
    rcases ho1 k hk with e | e
    ·exact .inl e
    ·exact .inr (by simp at e; omega)
   have HH:Hid (RS w1 rb gb s p1 R1 O1∧Kept (fun k=>k = rb∨O k) w w1∧(∀ k,O1 k→O k∨w.heap.size < k)):=⟨hS1,hkW,hO1⟩
   clear hS1 hk1 ho1 hkW hO1 nO
   have hr2:Rd ((w1.alloc (.cells part0 206)).setRow w1.heap.size (partC q)) rb s p1 gb:=Blk.setRowOther (Blk.alloc (HH.out.1.rd) _) (by have:=HH.out.1.lt; omega) _
   have hI2:Blk ((w1.alloc (.cells part0 206)).setRow w1.heap.size (partC q)) w1.heap.size (partC q) 206:=hN1.setRow _
   have c2:=hr2.c1
   have f2:=hr2.f1
   go_wp2_with (first | refine storeP rfl (.tmp 4) (.tmp 16) rfl w1.heap.size rfl rfl hN1 rfl ?_)
   refine (peek_any s p1 rb gb _ hr2 hs (by omega)).mono ?_
   rintro e w2 ⟨rfl,n,rfl⟩
   rw [h41]
   have hI3:=(hI2.drewN n).setOther (p:=⟨rb,1,none⟩) (by simp; have:=HH.out.1.lt; omega) (.int .i64 ((p1:Int) + 1))
   have hZ3:=(hZ2.drewN n).setOther (p:=⟨rb,1,none⟩) (by simp; omega) (.int .i64 ((p1:Int) + 1))
   go_wp2_with (first | refine loadP rfl (.tmp 4) rfl w1.heap.size rfl hI3 ?_ | refine storeP rfl (.tmp 2) (.tmp 33) rfl w.heap.size rfl rfl hZ3 rfl ?_)
   obtain ⟨hS1,hkW,hO1⟩:=HH.out
   have nO:=HNO.out
   have hn0:¬ O1 w.heap.size:=fun e=>by rcases hO1 _ e with e | e; have:=nO _ e; omega; omega
   have hn1:¬ O1 w1.heap.size:=fun e=>by have:=hS1.olt _ e; omega
   have hl1:=hS1.lt
   refine bodyPost_ret (resultsPartTmp Tryz.results146 _ rfl (hZ3.setRow _)) rfl ⟨rfl,O1,((((hS1.alloc _).setRow (by omega) hn1 _).drewN n).set1).setRow (by omega) hn0 _,?_,?_⟩
   ·exact ((((hkW.alloc _).setRow (by omega) _).drewN n).setCell (fun _=>.inl rfl) _).setRow (by omega) _
   ·exact fun k hk=>(hO1 k hk).imp id (fun e=>by omega)
  ·rw [if_neg (by simp [h41])]
   have e41:(peekI s p1 != 41) = true:=by simp [h41]
   go_enter Tryz.func146,Tryz.ntmps146
   go_wp2_with fail
   refine (HE.out _ O (HS.out.set1.alloc _)).mono ?_
   rintro e w1 ⟨rfl,O1,hS1,hk1,ho1⟩
   have hz1:w.heap.size < w1.heap.size:=by have:=hk1.size; simp at this; omega
   have nO:=HNO.out
   have hZ1:Blk w1 w.heap.size part0 206:=by
    have h9:=Blk.new (w.setCell ⟨rb,1,none⟩ (.int .i64 ((p:Int) + 1))) part0 206
    rw [show (w.setCell ⟨rb,1,none⟩ (.int .i64 ((p:Int) + 1))).heap.size = w.heap.size by simp] at h9
    exact h9.kept hk1 (fun e=>by rcases e with e | e; omega; have:=nO _ e; omega)
   have hN1:=Blk.new w1 part0 206
   have hZ2:=(hZ1.alloc (.cells part0 206)).setRowOther (g:=w1.heap.size) (by omega) (partC q)
   have hkW:Kept (fun k=>k = rb∨O k) w w1:=((hK.setCell (fun _=>.inl rfl) _).alloc _).trans' hk1
   have hO1:∀ k,O1 k→O k∨w.heap.size < k:=by
    intro k hk
    rcases ho1 k hk with e | e
    ·exact .inl e
    ·exact .inr (by simp at e; omega)
   have HH:Hid (RS w1 rb gb s p1 R1 O1∧Kept (fun k=>k = rb∨O k) w w1∧(∀ k,O1 k→O k∨w.heap.size < k)):=⟨hS1,hkW,hO1⟩
   clear hS1 hk1 ho1 hkW hO1 nO
   have hr2:Rd ((w1.alloc (.cells part0 206)).setRow w1.heap.size (partC q)) rb s p1 gb:=Blk.setRowOther (Blk.alloc (HH.out.1.rd) _) (by have:=HH.out.1.lt; omega) _
   go_wp2_with (first | refine storeP rfl (.tmp 4) (.tmp 16) rfl w1.heap.size rfl rfl hN1 rfl ?_)
   refine (peek_any s p1 rb gb _ hr2 hs (by omega)).mono ?_
   rintro e w2 ⟨rfl,n,rfl⟩
   have hZ3:=hZ2.drewN n
   go_wp2_with (first | refine storeP (q:=PartT.new) rfl (.tmp 2) (.tmp 25) rfl w.heap.size rfl rfl hZ3 rfl ?_)
   obtain ⟨hS1,hkW,hO1⟩:=HH.out
   have nO:=HNO.out
   have hn0:¬ O1 w.heap.size:=fun e=>by rcases hO1 _ e with e | e; have:=nO _ e; omega; omega
   have hn1:¬ O1 w1.heap.size:=fun e=>by have:=hS1.olt _ e; omega
   have hl1:=hS1.lt
   refine bodyPost_ret (resultsPartTmp Tryz.results146 _ rfl (hZ3.setRow _)) rfl ⟨rfl,O1,(((hS1.alloc _).setRow (by omega) hn1 _).drewN n).setRow (by omega) hn0 _,?_,?_⟩
   ·exact (((hkW.alloc _).setRow (by omega) _).drewN n).setRow (by omega) _
   ·exact fun k hk=>(hO1 k hk).imp id (fun e=>by omega)
end Go.Proofs.YtcckhngbdoiikaaGreat

namespace Go.Proofs.YtcckhngbdoiikaaGreat
open Go.RowKit Go.Deep
def PartC (fn:Nat) (s:ByteArray) (rb gb f:Nat) (F:PFn):Prop:=∀ (w:World) (p:Nat) (R:RulesT) (O:Nat→Prop),RS w rb gb s p R O→p ≤ s.size→R.follow.length ≤ p→s.size - p ≤ f →
 Calls Tryz.prog fn #[.pointer (some ⟨rb,0,none⟩)] w fun e w' =>
  e = .returned (.tuple #[partV (F p R).part,.bool (F p R).ok])∧RPost w w' rb gb s O (F p R).at' (F p R).rules
end Go.Proofs.YtcckhngbdoiikaaGreat
