import Derived.Test.YtcckhngbdoiikaaGreatG40
import Derived.Test.YtcckhngbdoiikaaGreatG51
import Derived.Test.YtcckhngbdoiikaaGreatG50
import Derived.Deep.RegionWith
import Derived.Deep.DeepCutAuto
import Derived.BigQuiet
import Derived.IntWalk

namespace Go.Proofs.YtcckhngbdoiikaaGreat
open Go.RowKit Go.Deep
set_option linter.unusedVariables false
theorem rowB_takeQ (kd:Nat→Nat) (g:Graph) (i b:Nat) (hb:b < 256):(rowB kd g i).take (b + 1) = (rowB kd g i).take b ++ [nextF kd g (i:Int) (b:Int)]:=by
 have h:b < (rowB kd g i).length:=by rw [rowB_len]; exact hb
 rw [List.take_succ_eq_append_getElem h]
 congr 2
 simp [rowB]
theorem RLexP.ofc {w:World} {yb:Nat} {kd:Nat→Nat} {g:Graph} {TX:List ByteArray} (h:RLexP w yb kd g TX):yb < w.heap.size∧∃ fg fcap,w.cell? ⟨yb,5,none⟩ = some (.slice (some ⟨fg,0,none⟩) g.rule.length fcap)∧∀ i:Nat,i < g.rule.length→w.cell? ⟨fg,i,none⟩ = some (.int .i64 (ruleOfF g (i:Int))):=by
 obtain ⟨h1,_,_,fg,fcap,h2,h3⟩:=h.cells
 refine ⟨h1,fg,fcap,h2,fun i hi=>?_⟩
 rw [h3 i hi]
 unfold ruleOfF
 rw [if_neg (by omega),Int.toNat_natCast]
set_option maxRecDepth 20000 in
set_option maxHeartbeats 6400000 in
theorem refFar_any (yb:Nat) (kd:Nat→Nat) (g:Graph) (TX:List ByteArray) (s:Nat) (w:World) (h:RLexP w yb kd g TX) (hf:LexFit kd g) (hs:s < g.rule.length) :
  Calls Tryz.prog 32 #[.pointer (some ⟨yb,0,none⟩),.int .i64 (s:Int)] w fun e w'=>∃ f,e = .returned (.int .i64 f)∧FrontIs kd g s f∧Below w.heap.size w w':=by
 have hfew:=hf.few
 have HF:=hide (And.intro hf h.nl)
 have HIN:=hide hf.into
 have HP:=hide h
 obtain ⟨zy,⟨tg,tcap,c3,_⟩,_⟩:=h.cells
 have hmk:=makeBools g.rule.length (by omega)
 have s0:(0:Int) ≤ (s:Int):=by omega
 have s1:(s:Int) < (g.rule.length:Int):=by omega
 have HS:=hide hs
 clear h hf
 obtain ⟨w1,hw1⟩:∃ w1:World,w.alloc (.cells (boolsA (List.replicate g.rule.length false)) 4) = w1:=⟨_,rfl⟩
 have hN1:Blk w1 w.heap.size (boolsA (List.replicate g.rule.length false)) 4:=by rw [← hw1]; exact Blk.new _ _ _
 have hb1:Below w.heap.size w w1:=by rw [← hw1]; exact Below1 _ _
 have x0:=boolsA_cellD hN1 s (by simp; omega)
 have xf:=hN1.frozen s
 have zx:=hN1.lt
 have HW1:=hide (And.intro hN1 hb1)
 clear hN1 hb1
 go_enter Tryz.func32,Tryz.ntmps32
 go_upto_region 3 with fail
 try rw [hw1]
 clear hw1
 go_wp2_with fail
 go_loopg [6,7,8] (g.rule.length + 1) (fun G nv fv kv wr=>∃ (k far nb:Nat) (now:List Bool),nv = .slice (some ⟨nb,0,none⟩) g.rule.length g.rule.length∧fv = .int .i64 (far:Int)∧kv = .int .i64 (((k + 1:Nat)):Int)∧k ≤ g.rule.length + 1∧G = g.rule.length + 1 - k∧FInv kd g s k now far∧Blk wr nb (boolsA now) 4∧w.heap.size ≤ nb∧Below w.heap.size w wr∧(0 < k→∃ u,FwdT kd g (s:Int) k u))
 case atStart =>
  refine ⟨0,0,w.heap.size,(List.replicate g.rule.length false).set s true,rfl,rfl,rfl,by omega,rfl,FInv.start HS.out,?_,by omega,?_,fun h0=>by omega⟩
  ·rw [← boolsA_set]; exact HW1.out.1.set s _
  ·exact HW1.out.2.setCell (p:=⟨w.heap.size,s,none⟩) (Nat.le_refl _) _
 case round =>
  obtain ⟨k,far,nb,now,rfl,rfl,rfl,hk,rfl,hFI,hN,hnb,hbw,hu⟩:=hrel
  by_cases hle:k ≤ g.rule.length
  ·have e0:decide (((k + 1:Nat):Int) ≤ (g.rule.length:Int) + 1) = true:=by simp; omega
   have hnl:=hFI.len
   have HFI:=hide hFI
   have HH:=hide (And.intro hN hbw)
   have znb:=hN.lt
   clear hFI hN hbw hu
   obtain ⟨wo,rfl⟩:∃ wo:World,wo = wr:=⟨_,rfl⟩
   obtain ⟨st0,hst0⟩:∃ st0:FroT,st0 = ⟨List.replicate g.rule.length false,false,far⟩:=⟨_,rfl⟩
   have HST0:=hide hst0
   have hx0:st0.next = List.replicate g.rule.length false:=by rw [hst0]
   have hx1:st0.any = false:=by rw [hst0]
   have hx2:st0.far = far:=by rw [hst0]
   have HX:=hide (And.intro hx0 (And.intro hx1 hx2))
   clear hst0 hx0 hx1 hx2
   go_wp2_with fail
   go_loopg [7,10,11] g.rule.length (fun G fv sv iv wi=>∃ (i:Nat) (st:FroT),fv = .int .i64 (st.far:Int)∧sv = .bool st.any∧iv = .int .i64 (i:Int)∧i ≤ g.rule.length∧G = g.rule.length - i∧(rowsTo kd g now i).foldl (fstep g (k + 1)) st0 = st∧Blk wi wo.heap.size (boolsA st.next) 4∧Below wo.heap.size wo wi)
   case atStart =>
    obtain ⟨x0,x1,x2⟩:=HX.out
    refine ⟨0,st0,by rw [x2],by rw [x1],rfl,by omega,rfl,rfl,?_,Below1 _ _⟩
    rw [x0]
    exact Blk.new _ _ _
   case round =>
    obtain ⟨i,st,rfl,rfl,rfl,hi,rfl,hst,hX,hbi⟩:=hrel
    by_cases hlt:i < g.rule.length
    ·have e1:decide ((i:Int) < (g.rule.length:Int)) = true:=by simp; omega
     have i0:(0:Int) ≤ (i:Int):=by omega
     have i1:(i:Int) < (g.rule.length:Int):=by omega
     have HI:=hide (And.intro hst (And.intro hX hbi))
     clear hst hX hbi
     obtain ⟨wm,rfl⟩:∃ wm:World,wm = wr:=⟨_,rfl⟩
     go_wp2_with fail
     go_loopg [7,10,12] 256 (fun G fv sv bv wj=>∃ (b:Nat) (st':FroT),fv = .int .i64 (st'.far:Int)∧sv = .bool st'.any∧bv = .int .i64 (b:Int)∧b ≤ 256∧G = 256 - b∧((now.getD i false = true∧((rowB kd g i).take b).foldl (fstep g (k + 1)) st = st')∨(now.getD i false = false∧st' = st∧b = 0))∧Blk wj wo.heap.size (boolsA st'.next) 4∧Below wo.heap.size wo wj)
     case atStart =>
      refine ⟨0,st,rfl,rfl,rfl,by omega,rfl,?_,HI.out.2.1,HI.out.2.2⟩
      cases hh:now.getD i false with
      |true=>exact .inl ⟨rfl,rfl⟩
      |false=>exact .inr ⟨rfl,rfl,rfl⟩
     case round =>
      obtain ⟨b,st',rfl,rfl,rfl,hb,rfl,hfo,hX,hbj⟩:=hrel
      have hN':=HH.out.1.below hbj
      have n0:=boolsA_cellD hN' i (by omega)
      have hsl:st'.next.length = g.rule.length:=by
       have h0:st.next.length = g.rule.length:=by rw [← HI.out.1,fsteps_len,HX.out.1]; simp
       rcases hfo with ⟨_,e⟩ | ⟨_,e,_⟩
       ·rw [← e,fsteps_len,h0]
       ·rw [e,h0]
      by_cases hb2:b < 256
      ·have e2:decide ((b:Int) < 256) = true:=by simp; omega
       rcases hfo with ⟨hm,hfo⟩ | ⟨hm,rfl,rfl⟩
       ·rw [hm] at n0
        have hbb:Below w.heap.size w wr:=HH.out.2.trans (hbj.mono HH.out.2.size)
        have hPj:=HP.out.below hbb
        have HNX:=hide (refNext_any yb kd g TX (i:Int) (b:Int) wr hPj)
        have hin:=HIN.out (i:Int) (b:Int)
        have htk:=rowB_takeQ kd g i b hb2
        have HJ:Hid (((rowB kd g i).take b).foldl (fstep g (k + 1)) st = st'∧Blk wr wo.heap.size (boolsA st'.next) 4∧Below wo.heap.size wo wr∧(rowB kd g i).take (b + 1) = (rowB kd g i).take b ++ [nextF kd g (i:Int) (b:Int)]∧RLexP wr yb kd g TX):=⟨hfo,hX,hbj,htk,hPj⟩
        generalize nextF kd g (i:Int) (b:Int) = u at HNX hin HJ
        clear hfo hX hbj htk hN' hbb hPj
        go_wp2_with fail
        refine HNX.out.mono ?_
        rintro e w2 ⟨rfl,hb2'⟩
        have HJ2:Hid (((rowB kd g i).take b).foldl (fstep g (k + 1)) st = st'∧Blk w2 wo.heap.size (boolsA st'.next) 4∧Below wo.heap.size wo w2∧(rowB kd g i).take (b + 1) = (rowB kd g i).take b ++ [u]∧RLexP w2 yb kd g TX):=by
         obtain ⟨q1,q2,q3,q4,q5⟩:=HJ.out
         exact ⟨q1,q2.below hb2',q3.trans (hb2'.mono q3.size),q4,q5.below hb2'⟩
        clear hb2' HJ HNX n0
        rcases hin with rfl | ⟨hu0,hu1⟩
        ·go_wp2_with fail
         go_roundg (256 - (b + 1))
         case measure=>omega
         case rel =>
          obtain ⟨r1,r2,r3,r4,r5⟩:=HJ2.out
          refine ⟨b + 1,st',rfl,rfl,by go_num,by omega,rfl,.inl ⟨hm,?_⟩,r2,r3⟩
          rw [r4,List.foldl_append,r1]
          rfl
        ·obtain ⟨q,rfl⟩:∃ q:Nat,u = (q:Int):=⟨u.toNat,by omega⟩
         have hq:q < g.rule.length:=by omega
         obtain ⟨zy2,og,ocap,c5,co⟩:=HJ2.out.2.2.2.2.ofc
         have o0:=co q hq
         have u0:(0:Int) ≤ (q:Int):=by omega
         have u1:(q:Int) < (g.rule.length:Int):=by omega
         have e3:((q:Int) == -1) = false:=by rw [beq_eq_false_iff_ne]; omega
         clear co
         by_cases hr:ruleOfF g (q:Int) = -1
         ·have e4:(ruleOfF g (q:Int) != -1) = false:=by simp [hr]
          have hst2:fstep g (k + 1) st' (q:Int) = ⟨st'.next.set q true,true,st'.far⟩:=by
           unfold fstep
           rw [if_neg (fun e=>e.2 hr),if_pos u0,Int.toNat_natCast]
          generalize ruleOfF g (q:Int) = r at o0 e4
          have x0:=boolsA_cellD HJ2.out.2.1 q (by omega)
          have xf:=HJ2.out.2.1.frozen q
          have xz:=HJ2.out.2.1.lt
          have HS2:=hide hst2
          clear hst2 hr
          go_wp2_with fail
          go_roundg (256 - (b + 1))
          case measure=>omega
          case rel =>
           obtain ⟨r1,r2,r3,r4,r5⟩:=HJ2.out
           refine ⟨b + 1,⟨st'.next.set q true,true,st'.far⟩,rfl,rfl,by go_num,by omega,rfl,.inl ⟨hm,?_⟩,?_,?_⟩
           ·rw [r4,List.foldl_append,r1]
            exact HS2.out
           ·show Blk _ _ (boolsA (st'.next.set q true)) _
            rw [← boolsA_set]
            exact r2.set q _
           ·exact r3.setCell (p:=⟨wo.heap.size,q,none⟩) (Nat.le_refl _) _
         ·have e4:(ruleOfF g (q:Int) != -1) = true:=by simp [hr]
          have hst2:fstep g (k + 1) st' (q:Int) = ⟨st'.next,st'.any,k + 1⟩:=by
           unfold fstep
           rw [if_pos ⟨u0,hr⟩]
          generalize ruleOfF g (q:Int) = r at o0 e4
          have HS2:=hide hst2
          clear hst2 hr
          go_wp2_with fail
          go_roundg (256 - (b + 1))
          case measure=>omega
          case rel =>
           obtain ⟨r1,r2,r3,r4,r5⟩:=HJ2.out
           refine ⟨b + 1,⟨st'.next,st'.any,k + 1⟩,rfl,rfl,by go_num,by omega,rfl,.inl ⟨hm,?_⟩,r2,r3⟩
           rw [r4,List.foldl_append,r1]
           exact HS2.out
       ·rw [hm] at n0
        have HJ:=hide (And.intro hX hbj)
        clear hX hbj hN'
        go_wp2_with fail
        go_roundg (g.rule.length - (i + 1))
        case measure=>omega
        case rel =>
         refine ⟨i + 1,st',rfl,rfl,by go_num,by omega,rfl,?_,HJ.out.1,HJ.out.2⟩
         rw [rowsTo_succ,hm,if_neg (by simp),List.append_nil]
         exact HI.out.1
      ·have e2:decide ((b:Int) < 256) = false:=by simp; omega
       obtain rfl:b = 256:=by omega
       rcases hfo with ⟨hm,hfo⟩ | ⟨_,_,h9⟩
       ·have HJ:=hide (And.intro hX (And.intro hbj hfo))
        clear hX hbj hN' hfo
        go_wp2_with fail
        go_roundg (g.rule.length - (i + 1))
        case measure=>omega
        case rel =>
         refine ⟨i + 1,st',rfl,rfl,by go_num,by omega,rfl,?_,HJ.out.1,HJ.out.2.1⟩
         rw [rowsTo_succ,if_pos hm,List.foldl_append,HI.out.1,← HJ.out.2.2,List.take_of_length_le (by rw [rowB_len]; exact Nat.le_refl _)]
       ·omega
    ·have e1:decide ((i:Int) < (g.rule.length:Int)) = false:=by simp; omega
     obtain rfl:i = g.rule.length:=by omega
     obtain ⟨f1,f2,f3⟩:=HFI.out.round HF.out.1 HF.out.2 st (by rw [← HST0.out]; exact hst)
     have HI:Hid (Blk wr wo.heap.size (boolsA st.next) 4∧Below wo.heap.size wo wr∧FInv kd g s (k + 1) st.next st.far∧(st.any = false→∀ d,LeadT kd g d (s:Int)→d + 1 ≤ st.far)∧(st.any = true→∃ u,FwdT kd g (s:Int) (k + 1) u)):=⟨hX,hbi,f1,f2,f3⟩
     clear hst hX hbi f1 f2 f3
     cases hsa:st.any with
     |true =>
      go_wp2_with fail
      go_roundg (g.rule.length + 1 - (k + 1))
      case measure=>omega
      case rel =>
       obtain ⟨r1,r2,r3,r4,r5⟩:=HI.out
       refine ⟨k + 1,st.far,wo.heap.size,st.next,rfl,rfl,by go_num,by omega,rfl,r3,r1,HH.out.2.size,HH.out.2.trans (r2.mono HH.out.2.size),fun _=>r5 hsa⟩
     |false =>
      go_wp2_with fail
      go_ret
      obtain ⟨r1,r2,r3,r4,r5⟩:=HI.out
      refine ⟨_,rfl,.inl ⟨st.far,rfl,?_,r4 hsa,r3.there⟩,HH.out.2.trans (r2.mono HH.out.2.size)⟩
      have:=r3.le
      omega
  ·have e0:decide (((k + 1:Nat):Int) ≤ (g.rule.length:Int) + 1) = false:=by simp; omega
   obtain rfl:k = g.rule.length + 1:=by omega
   have HU:=hide (And.intro (hu (by omega)) hbw)
   clear hu hbw hFI hN
   go_wp2_with fail
   go_ret
   exact ⟨_,rfl,.inr ⟨rfl,HU.out.1⟩,HU.out.2⟩
set_option maxRecDepth 20000 in
set_option maxHeartbeats 3200000 in
theorem refK_any (yb:Nat) {R:RulesT} (kd:Nat→Nat) (g:Graph) (TX:List ByteArray) (w:World) (h:RLexP w yb kd g TX) (hR:buildF R = some (kd,g)) (hf:LexFit kd g) :
  Calls Tryz.prog 15 #[.pointer (some ⟨yb,0,none⟩)] w fun e w'=>e = .returned (.tuple #[.int .i64 (if (gapOf kd g).bounded = true then ((gapOf kd g).k:Int) else 0),.bool (gapOf kd g).bounded])∧Below w.heap.size w w':=by
 have hfew:=hf.few
 have HFR:=hide (fun (W:World) (hb:Below w.heap.size w W) (s:Nat) (hs:s < g.rule.length)=>refFar_any yb kd g TX s W (h.below hb) hf hs)
 have HP:=hide h
 have HR:=hide hR
 have HF:=hide hf
 clear h hR hf
 obtain ⟨V,hV⟩:∃ V,(if (gapOf kd g).bounded = true then ((gapOf kd g).k:Int) else 0) = V:=⟨_,rfl⟩
 obtain ⟨B,hB0⟩:∃ B,(gapOf kd g).bounded = B:=⟨_,rfl⟩
 rw [hV,hB0]
 have HV:=hide (And.intro hV hB0)
 clear hV hB0
 go_enter Tryz.func15,Tryz.ntmps15
 go_wp2_with fail
 go_loopg [4,5] g.rule.length (fun G kv sv wr=>∃ (s k:Nat),kv = .int .i64 (k:Int)∧sv = .int .i64 (s:Int)∧s ≤ g.rule.length∧G = g.rule.length - s∧GrInv kd g s k∧Below w.heap.size w wr)
 case atStart=>exact ⟨0,0,rfl,rfl,by omega,rfl,GrInv.start kd g,Below.refl _ _⟩
 case round =>
  obtain ⟨s,k,rfl,rfl,hs,rfl,hG,hbw⟩:=hrel
  obtain ⟨zy,⟨tg,tcap,c3,_⟩,_⟩:=(HP.out.below hbw).cells
  have hkl:=hG.le
  by_cases hlt:s < g.rule.length
  ·have e0:decide ((s:Int) < (g.rule.length:Int)) = true:=by simp; omega
   obtain ⟨_,og,ocap,c5,co⟩:=(HP.out.below hbw).ofc
   have o0:=co s hlt
   have i0:(0:Int) ≤ (s:Int):=by omega
   have i1:(s:Int) < (g.rule.length:Int):=by omega
   have HH:=hide (And.intro hG hbw)
   have HF1:=hide (HFR.out wr hbw s hlt)
   clear hG hbw co
   by_cases hsk:0 < s∧ruleOfF g (s:Int) = -1
   ·have e1:decide ((0:Int) < (s:Int)) = true:=by simp; omega
    have e2:(ruleOfF g (s:Int) == -1) = true:=by simp [hsk.2]
    have HSK:=hide hsk
    have hs0:0 < s:=hsk.1
    generalize ruleOfF g (s:Int) = r at o0 e2
    clear hsk
    go_wp2_with fail
    go_roundg (g.rule.length - (s + 1))
    case measure=>omega
    case rel=>exact ⟨s + 1,k,rfl,by go_num,by omega,rfl,HH.out.1.skip HSK.out.1 HSK.out.2,HH.out.2⟩
   ·have htk:ruleOfF g (s:Int) ≠ -1∨s = 0:=by
     by_cases e:s = 0
     ·exact .inr e
     ·exact .inl (fun e'=>hsk ⟨by omega,e'⟩)
    have HTK:=hide htk
    have hway:(s = 0∧decide ((0:Int) < (s:Int)) = false)∨(decide ((0:Int) < (s:Int)) = true∧(ruleOfF g (s:Int) == -1) = false∧0 < s):=by
     by_cases e:s = 0
     ·exact .inl ⟨e,by simp [e]⟩
     ·exact .inr ⟨by simp; omega,by simp; exact fun e'=>hsk ⟨by omega,e'⟩,by omega⟩
    clear hsk htk
    go_upto_region 5 with fail
    go_cut [27] (fun cv wx=>cv = .bool false∧wx = wr)
    case first =>
     rcases hway with ⟨rfl,e1⟩ | ⟨e1,e2,e3⟩
     all_goals
      go_wp2_with fail
      go_meet
      exact ⟨rfl,rfl⟩
    case rest =>
     obtain ⟨rfl,rfl⟩:=hcut
     clear hway o0
     go_wp2_with fail
     refine HF1.out.mono ?_
     rintro e w1 ⟨f,rfl,hfi,hb1⟩
     have HH1:Hid (Below w.heap.size w w1):=hide (HH.out.2.trans (hb1.mono HH.out.2.size))
     clear hb1 HF1 c3 c5
     rcases hfi with ⟨far,rfl,h1,h2,h3⟩ | ⟨rfl,hbad⟩
     ·have e3:decide ((far:Int) < 0) = false:=by simp
      have hst:=HH.out.1.step hlt HTK.out h1 h2 h3
      have HST:=hide hst
      clear hst h2 h3
      by_cases hkf:k < far
      ·have e4:decide ((k:Int) < (far:Int)) = true:=by simp; omega
       go_wp2_with fail
       go_roundg (g.rule.length - (s + 1))
       case measure=>omega
       case rel=>exact ⟨s + 1,far,rfl,by go_num,by omega,rfl,by have h9:=HST.out; rw [if_pos hkf] at h9; exact h9,HH1.out⟩
      ·have e4:decide ((k:Int) < (far:Int)) = false:=by simp; omega
       go_wp2_with fail
       go_roundg (g.rule.length - (s + 1))
       case measure=>omega
       case rel=>exact ⟨s + 1,k,rfl,by go_num,by omega,rfl,by have h9:=HST.out; rw [if_neg hkf] at h9; exact h9,HH1.out⟩
     ·have hbf:=front_bad HR.out HF.out hlt HTK.out hbad
      have HBF:=hide hbf
      clear hbf hbad
      go_wp2_with fail
      go_ret2
      obtain ⟨v1,v2⟩:=HV.out
      rw [HBF.out] at v1 v2
      refine ⟨?_,HH1.out⟩
      rw [← v1,← v2]
      rfl
  ·have e0:decide ((s:Int) < (g.rule.length:Int)) = false:=by simp; omega
   obtain rfl:s = g.rule.length:=by omega
   obtain ⟨d1,d2⟩:=hG.done HR.out HF.out
   have HB:=hide (And.intro hbw (And.intro d1 d2))
   clear hG hbw d1 d2
   go_wp2_with fail
   go_ret2
   obtain ⟨v1,v2⟩:=HV.out
   rw [HB.out.2.1] at v1 v2
   refine ⟨?_,HB.out.1⟩
   rw [← v1,← v2,if_pos rfl,HB.out.2.2]
   rfl
theorem extract_appQ (x z:ByteArray):(x ++ z).extract 0 x.size = x:=by
 rw [ByteArray.ext_iff]
 apply Array.toList_inj.1
 have h9:x.data.toList.length = x.size:=by simp
 simp only [ByteArray.data_append,ByteArray.data_extract,Array.toList_append,Array.toList_extract,List.extract,List.drop_zero]
 rw [List.take_append_of_le_length (by omega),List.take_of_length_le (by omega)]
theorem extract_restQ (x z:ByteArray):(x ++ z).extract x.size (x ++ z).size = z:=by
 rw [ByteArray.ext_iff]
 apply Array.toList_inj.1
 have h9:x.data.toList.length = x.size:=by simp
 simp only [ByteArray.data_append,ByteArray.data_extract,Array.toList_append,Array.toList_extract,List.extract,ByteArray.size_append]
 rw [List.drop_append_of_le_length (by omega),List.drop_of_length_le (by omega),List.nil_append,List.take_of_length_le (by simp)]
theorem gapOf_kQ {kd:Nat→Nat} {g:Graph} (hf:LexFit kd g):(gapOf kd g).k ≤ 61:=by
 have hfew:=hf.few
 unfold gapOf
 split
 ·show 0 ≤ 61
  omega
 ·have h:=(farD_le (weaveF kd g) (layersF (weaveF kd g) g.rule.length) (layersF (weaveF kd g) g.rule.length).length).1
  rw [layersF_len] at h
  show (farD (weaveF kd g) (layersF (weaveF kd g) g.rule.length) (layersF (weaveF kd g) g.rule.length).length).2 ≤ 61
  rw [layersF_len]
  omega
def InS (g:Graph) (st:Int):Prop:=st = -1∨∃ j:Nat,j < g.rule.length∧st = (j:Int)
def runS (kd:Nat→Nat) (g:Graph) (st:Int) (w:ByteArray) (i:Nat):Int:=runK g st (((bytesN w).take i).map kd)
section
variable {kd:Nat→Nat} {g:Graph} {st:Int} {w:ByteArray} {i:Nat}
theorem bytes_lt (w:ByteArray):∀ b ∈ bytesN w,b < 256:=fun b hb=>by
 obtain ⟨k,hk,rfl⟩:=List.getElem_of_mem hb
 exact (peek_bytes w k (by rw [bytesN_len] at hk; exact hk) hk).2
theorem runS_zero:runS kd g st w 0 = st:=by unfold runS; simp [runK]
theorem runS_in (hG:LexG kd g) (hs:InS g st) (i:Nat):InS g (runS kd g st w i):=by
 unfold runS
 rcases hs with rfl | ⟨j,hj,rfl⟩
 ·rw [runK_neg]; exact .inl rfl
 ·rcases run_in hG ((bytesN w).take i) j (fun b hb=>bytes_lt w b (List.mem_of_mem_take hb)) hj with e | ⟨j',h1,h2⟩
  ·exact .inl e
  ·exact .inr ⟨j',h1,h2⟩
theorem runS_step (hG:LexG kd g) (hs:InS g st) (hi:i < w.size):runS kd g st w (i + 1) = nextF kd g (runS kd g st w i) (peekI w i):=by
 have hin:=runS_in (w:=w) hG hs i
 have hi':i < (bytesN w).length:=by rw [bytesN_len]; exact hi
 obtain ⟨p1,p2⟩:=peek_bytes w i hi hi'
 have e:runS kd g st w (i + 1) = stepK g (runS kd g st w i) (kd (bytesN w)[i]):=by
  unfold runS
  rw [List.take_succ_eq_append_getElem hi',List.map_append,runK_app]
  rfl
 rw [e,p1]
 rcases hin with h | ⟨j,hj,h⟩
 ·rw [h]
  unfold nextF stepK
  rw [if_pos (by omega),if_pos (.inl (by omega))]
 ·rw [h,nextF_step hG hj p2]
theorem runS_all:runS kd g st w w.size = runK g st ((bytesN w).map kd):=by unfold runS; rw [List.take_of_length_le (by rw [bytesN_len]; exact Nat.le_refl _)]
theorem runS_dead (h:runS kd g st w i = -1):runK g st ((bytesN w).map kd) = -1:=by
 have e:(bytesN w).map kd = ((bytesN w).take i).map kd ++ ((bytesN w).drop i).map kd:=by rw [← List.map_append,List.take_append_drop]
 rw [e,runK_app]
 unfold runS at h
 rw [h,runK_neg]
end
set_option maxRecDepth 20000 in
set_option maxHeartbeats 3200000 in
theorem refRun_any (yb:Nat) (kd:Nat→Nat) (g:Graph) (TX:List ByteArray) (st:Int) (s:ByteArray) (w:World) (h:RLexP w yb kd g TX) (hG:LexG kd g) (hs:s.size ≤ 4000000) (hst:InS g st) :
  Calls Tryz.prog 63 #[.pointer (some ⟨yb,0,none⟩),.int .i64 st,.string s] w fun e w'=>e = .returned (.int .i64 (runK g st ((bytesN s).map kd)))∧Below w.heap.size w w':=by
 have HP:=hide h
 have HG:=hide (And.intro hG hst)
 obtain ⟨X,hX⟩:∃ X,runK g st ((bytesN s).map kd) = X:=⟨_,rfl⟩
 rw [hX]
 have HX:=hide hX
 clear h hG hst hX
 go_enter Tryz.func63,Tryz.ntmps63
 go_wp2_with fail
 go_loopg [1,7] s.size (fun G sv iv wr=>∃ i:Nat,sv = .int .i64 (runS kd g st s i)∧iv = .int .i64 (i:Int)∧i ≤ s.size∧G = s.size - i∧Below w.heap.size w wr)
 case atStart=>exact ⟨0,by rw [runS_zero],rfl,by omega,rfl,Below.refl _ _⟩
 case round =>
  obtain ⟨i,rfl,rfl,hi,rfl,hB⟩:=hrel
  by_cases hlt:i < s.size
  ·have e0:decide ((i:Int) < (s.size:Int)) = true:=by simp; omega
   have p0:(0:Int) ≤ (i:Int):=by omega
   have p1:(i:Int) < (s.size:Int):=by omega
   have hstep:=runS_step (kd:=kd) (w:=s) HG.out.1 HG.out.2 hlt
   have HD:Hid (runS kd g st s i = -1→X = -1):=hide fun h=>by rw [← HX.out]; exact runS_dead h
   have HS:=hide hstep
   clear hstep
   obtain ⟨q,hq⟩:∃ q,runS kd g st s i = q:=⟨_,rfl⟩
   rw [hq] at HD HS ⊢
   have HQ:=hide hq
   clear hq
   by_cases hq1:q = -1
   ·have e1:(q != -1) = false:=by simp [hq1]
    have HBB:=hide (And.intro hB (HD.out hq1))
    clear hB HS HD
    go_wp2_with fail
    go_ret
    rw [HBB.out.2]
    exact ⟨by rw [hq1]; rfl,HBB.out.1⟩
   ·have e1:(q != -1) = true:=by simp [hq1]
    have HN:=hide (refNext_any yb kd g TX q (peekI s i) wr (HP.out.below hB))
    have HBB:=hide hB
    rw [← HS.out] at HN
    clear hB HD
    go_wp2_with fail
    rw [wrapByte s i hlt]
    refine HN.out.mono ?_
    rintro e w1 ⟨rfl,hb1⟩
    have HB1:=hide (HBB.out.trans (hb1.mono HBB.out.size))
    clear hb1 HN
    go_wp2_with fail
    go_roundg (s.size - (i + 1))
    case measure=>omega
    case rel=>exact ⟨i + 1,rfl,by go_num,by omega,rfl,HB1.out⟩
  ·have e0:decide ((i:Int) < (s.size:Int)) = false:=by rw [decide_eq_false_iff_not]; omega
   obtain rfl:i = s.size:=by omega
   have hr:=runS_all (kd:=kd) (g:=g) (st:=st) (w:=s)
   rw [hr,HX.out]
   have HBB:=hide hB
   clear hB hr
   go_wp2_with fail
   go_ret
   exact ⟨rfl,HBB.out⟩
set_option maxRecDepth 20000 in
set_option maxHeartbeats 3200000 in
theorem refSilent_any (yb:Nat) (kd:Nat→Nat) (g:Graph) (TX:List ByteArray) (st:Int) (s:ByteArray) (w:World) (h:RLexP w yb kd g TX) (hG:LexG kd g) (hs:s.size ≤ 4000000) (hst:InS g st) (hq:∀ k,0 < k→k ≤ s.size→∃ j:Nat,j < g.rule.length∧runS kd g st s k = (j:Int)∧ruleOfF g (j:Int) = -1) :
  Calls Tryz.prog 65 #[.pointer (some ⟨yb,0,none⟩),.int .i64 st,.string s] w fun e w'=>e = .returned (.bool true)∧Below w.heap.size w w':=by
 have HP:=hide h
 have HG:=hide (And.intro hG (And.intro hst hq))
 clear h hG hst hq
 go_enter Tryz.func65,Tryz.ntmps65
 go_wp2_with fail
 go_loopg [1,7] s.size (fun G sv iv wr=>∃ i:Nat,sv = .int .i64 (runS kd g st s i)∧iv = .int .i64 (i:Int)∧i ≤ s.size∧G = s.size - i∧Below w.heap.size w wr)
 case atStart=>exact ⟨0,by rw [runS_zero],rfl,by omega,rfl,Below.refl _ _⟩
 case round =>
  obtain ⟨i,rfl,rfl,hi,rfl,hB⟩:=hrel
  by_cases hlt:i < s.size
  ·have e0:decide ((i:Int) < (s.size:Int)) = true:=by simp; omega
   have p0:(0:Int) ≤ (i:Int):=by omega
   have p1:(i:Int) < (s.size:Int):=by omega
   have hstep:=runS_step (kd:=kd) (w:=s) HG.out.1 HG.out.2.1 hlt
   obtain ⟨j,hj,hj1,hj2⟩:=HG.out.2.2 (i + 1) (by omega) (by omega)
   have HN:=hide (refNext_any yb kd g TX (runS kd g st s i) (peekI s i) wr (HP.out.below hB))
   rw [← hstep,hj1] at HN
   have HJ:=hide (And.intro hj1 hj2)
   have HBB:=hide hB
   clear hB hstep hj1 hj2
   generalize runS kd g st s i = q at HN ⊢
   go_wp2_with fail
   rw [wrapByte s i hlt]
   refine HN.out.mono ?_
   rintro e w1 ⟨rfl,hb1⟩
   have hB1:=HBB.out.trans (hb1.mono HBB.out.size)
   obtain ⟨zy,og,ocap,c5,co⟩:=(HP.out.below hB1).ofc
   have o0:=co j hj
   rw [HJ.out.2] at o0
   have j0:(0:Int) ≤ (j:Int):=by omega
   have j1:(j:Int) < (g.rule.length:Int):=by omega
   have e1:((j:Int) == -1) = false:=by rw [beq_eq_false_iff_ne]; omega
   have HB1:=hide hB1
   clear hb1 hB1 HN co
   go_wp2_with fail
   go_roundg (s.size - (i + 1))
   case measure=>omega
   case rel=>exact ⟨i + 1,by rw [HJ.out.1],by go_num,by omega,rfl,HB1.out⟩
  ·have e0:decide ((i:Int) < (s.size:Int)) = false:=by rw [decide_eq_false_iff_not]; omega
   have HBB:=hide hB
   clear hB
   generalize runS kd g st s i = q
   go_wp2_with fail
   go_ret
   exact ⟨rfl,HBB.out⟩
structure NextIs (kd:Nat→Nat) (g:Graph) (s:Nat) (z:ByteArray):Prop where
 lt:s < g.rule.length
 pos:0 < z.size
 non:∀ k,0 < k→k < z.size→∃ j:Nat,j < g.rule.length∧runS kd g (s:Int) z k = (j:Int)∧ruleOfF g (j:Int) = -1
 tok:∃ j:Nat,j < g.rule.length∧runK g (s:Int) ((bytesN z).map kd) = (j:Int)∧ruleOfF g (j:Int) ≠ -1
theorem pair_next {kd:Nat→Nat} {g:Graph} (hG:LexG kd g) {u z:ByteArray} (h:PairIs kd g (bytesN u) (bytesN z)) (hz:0 < z.size):∃ s:Nat,runK g 0 ((bytesN u).map kd) = (s:Int)∧(u.size = 0∨ruleOfF g (s:Int) ≠ -1)∧NextIs kd g s z:=by
 have hin:InS g (runK g 0 ((bytesN u).map kd)):=by
  have:=runS_in (kd:=kd) (w:=u) hG (.inr ⟨0,hG.pos,rfl⟩) u.size
  rwa [runS_all] at this
 have htt:=h.tt
 rw [List.map_append,runK_app] at htt
 rcases hin with e | ⟨s,hs,e⟩
 ·exfalso
  rw [e,runK_neg] at htt
  exact htt rfl
 ·rw [e] at htt
  refine ⟨s,e,?_,hs,hz,fun k hk hkz=>?_,?_⟩
  ·rcases h.fr with h1 | h1
   ·left
    have:=congrArg List.length h1
    rw [bytesN_len] at this
    exact this
   ·right
    rw [e,← ruleOf_acc hs] at h1
    exact h1
  ·have hk':k < (bytesN z).length:=by rw [bytesN_len]; exact hkz
   obtain ⟨_,j,hj,hj2⟩:=pair_fwd hG h hs e k hk'
   refine ⟨j,hj,hj2,?_⟩
   have:=h.non k hk hk'
   rw [List.map_append,runK_app,e,hj2,← ruleOf_acc hj] at this
   exact this
  ·have hin2:=runS_in (kd:=kd) (w:=z) hG (.inr ⟨s,hs,rfl⟩) z.size
   rw [runS_all] at hin2
   rcases hin2 with e2 | ⟨j,hj,e2⟩
   ·rw [e2] at htt; exact absurd rfl htt
   ·rw [e2,← ruleOf_acc hj] at htt
    exact ⟨j,hj,e2,htt⟩
set_option maxRecDepth 20000 in
set_option maxHeartbeats 3200000 in
theorem refNextT_any (yb:Nat) (kd:Nat→Nat) (g:Graph) (TX:List ByteArray) (s:Nat) (z:ByteArray) (w:World) (h:RLexP w yb kd g TX) (hG:LexG kd g) (hs:z.size ≤ 4000000) (hn:NextIs kd g s z) :
  Calls Tryz.prog 34 #[.pointer (some ⟨yb,0,none⟩),.int .i64 (s:Int),.string z] w fun e w'=>e = .returned (.bool true)∧Below w.heap.size w w':=by
 obtain ⟨m,hm⟩:∃ m,z.size = m + 1:=⟨z.size - 1,by have:=hn.pos; omega⟩
 have n1:=notEmpty z (by omega)
 have e1:((s:Int) == -1) = false:=by rw [beq_eq_false_iff_ne]; omega
 have hin:InS g (s:Int):=.inr ⟨s,hn.lt,rfl⟩
 have hxs:(z.extract 0 m).size = m:=by rw [ByteArray.size_extract]; omega
 have HSI:=hide (refSilent_any yb kd g TX (s:Int) (z.extract 0 m) w h hG (by omega) hin (fun k hk hkm=>by
  obtain ⟨j,h1,h2,h3⟩:=hn.non k hk (by omega)
  refine ⟨j,h1,?_,h3⟩
  unfold runS at h2 ⊢
  rw [bytesN_extract,List.drop_zero,Nat.sub_zero,List.take_take,Nat.min_eq_left (by omega)]
  exact h2))
 have HRN:Hid (∀ W,Below w.heap.size w W→Calls Tryz.prog 63 #[.pointer (some ⟨yb,0,none⟩),.int .i64 (s:Int),.string z] W fun e w'=>e = .returned (.int .i64 (runK g (s:Int) ((bytesN z).map kd)))∧Below W.heap.size W w'):=hide fun W k=>refRun_any yb kd g TX (s:Int) z W (h.below k) hG hs hin
 obtain ⟨j,hj,hj1,hj2⟩:=hn.tok
 have HRU:Hid (∀ W,Below w.heap.size w W→Calls Tryz.prog 64 #[.pointer (some ⟨yb,0,none⟩),.int .i64 (j:Int)] W fun e w'=>e = .returned (.int .i64 (ruleOfF g (j:Int)))∧w' = W):=hide fun W k=>refRule_any yb kd g TX (j:Int) W (h.below k)
 rw [hj1] at HRN
 have e2:(ruleOfF g (j:Int) != -1) = true:=by simp [hj2]
 generalize ruleOfF g (j:Int) = r at HRU e2
 have hz1:(z.size:Int) - 1 = (m:Int):=by omega
 have m0:(0:Int) ≤ (m:Int):=by omega
 have m1:(m:Int) ≤ (z.size:Int):=by omega
 have hmz:m ≤ z.size:=by omega
 have hsm:m ≤ 4000000:=by omega
 have HZ:=hide hz1
 clear h hn hin hxs hj1 hj2 hz1 hm
 go_enter Tryz.func34,Tryz.ntmps34
 go_upto_region 3 with fail
 have b1:wrap64 ((z.size:Int) - 1) = (m:Int):=by rw [HZ.out]; unfold wrap64; omega
 have b2:IntKind.i64.wrap ((z.size:Int) - 1) = (m:Int):=(Go.IntWalk.i64_left _).trans b1
 go_wp2_with fail
 refine HSI.out.mono ?_
 rintro e w1 ⟨rfl,hb1⟩
 have HR1:=hide (HRN.out w1 hb1)
 have HB1:=hide hb1
 clear hb1 HSI HRN b1 b2
 go_wp2_with fail
 refine HR1.out.mono ?_
 rintro e w2 ⟨rfl,hb2⟩
 have HB2:=hide (HB1.out.trans (hb2.mono HB1.out.size))
 have HU2:=hide (HRU.out w2 HB2.out)
 clear hb2 HR1 HRU
 go_wp2_with fail
 refine HU2.out.mono ?_
 rintro e w3 ⟨rfl,rfl⟩
 go_wp2_with fail
 go_ret
 exact ⟨rfl,HB2.out⟩
set_option maxRecDepth 20000 in
set_option maxHeartbeats 3200000 in
theorem refStart_any (yb:Nat) (kd:Nat→Nat) (g:Graph) (TX:List ByteArray) (s:Nat) (u:ByteArray) (w:World) (h:RLexP w yb kd g TX) (hG:LexG kd g) (hs:u.size ≤ 4000000) (hr:runK g 0 ((bytesN u).map kd) = (s:Int)) (ht:u.size = 0∨ruleOfF g (s:Int) ≠ -1) :
  Calls Tryz.prog 33 #[.pointer (some ⟨yb,0,none⟩),.string u] w fun e w'=>e = .returned (.int .i64 (s:Int))∧Below w.heap.size w w':=by
 have HRN:=hide (refRun_any yb kd g TX 0 u w h hG hs (.inr ⟨0,hG.pos,rfl⟩))
 rw [hr] at HRN
 have HRU:Hid (∀ W,Below w.heap.size w W→Calls Tryz.prog 64 #[.pointer (some ⟨yb,0,none⟩),.int .i64 (s:Int)] W fun e w'=>e = .returned (.int .i64 (ruleOfF g (s:Int)))∧w' = W):=hide fun W k=>refRule_any yb kd g TX (s:Int) W (h.below k)
 clear h hr
 by_cases hz:u.size = 0
 ·have n1:u.toList.isEmpty = true:=isEmptyB u hz
  clear ht
  go_enter Tryz.func33,Tryz.ntmps33
  go_wp2_with fail
  refine HRN.out.mono ?_
  rintro e w1 ⟨rfl,hb1⟩
  have HB1:=hide hb1
  clear hb1 HRN HRU
  go_wp2_with fail
  go_ret
  exact ⟨rfl,HB1.out⟩
 ·have n1:=notEmpty u hz
  have hr2:ruleOfF g (s:Int) ≠ -1:=by
   rcases ht with e | e
   ·exact absurd e hz
   ·exact e
  have e2:(ruleOfF g (s:Int) == -1) = false:=by simp [hr2]
  generalize ruleOfF g (s:Int) = r at HRU e2
  clear ht hr2
  go_enter Tryz.func33,Tryz.ntmps33
  go_wp2_with fail
  refine HRN.out.mono ?_
  rintro e w1 ⟨rfl,hb1⟩
  have HU1:=hide (HRU.out w1 hb1)
  have HB1:=hide hb1
  clear hb1 HRN HRU
  go_wp2_with fail
  refine HU1.out.mono ?_
  rintro e w2 ⟨rfl,rfl⟩
  go_wp2_with fail
  go_ret
  exact ⟨rfl,HB1.out⟩
end Go.Proofs.YtcckhngbdoiikaaGreat
