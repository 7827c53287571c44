import Derived.Test.YtcckhngbdoiikaaGreatG38
import Derived.Deep.RegionLaw

namespace Go.Proofs.YtcckhngbdoiikaaGreat
open Go.RowKit Go.Deep
set_option linter.unusedVariables false
def natQ (F:List Nat):List Int:=F.map Int.ofNat
theorem natQ_len (F:List Nat):(natQ F).length = F.length:=by simp [natQ]
theorem natQ_getD (F:List Nat) {s:Nat} (hs:s < F.length):(natQ F).getD s 0 = (F[s]:Int):=by simp [natQ,hs]
theorem Below_drewQ {B:Nat} {a w:World} (h:Below B a w):Below B a w.drew:=⟨h.os,h.tape,h.output,h.size,h.block⟩
def numG (g:Graph):Graph:=numberF (pruneF g) (mergeF (pruneF g))
def StOut (w w':World) (xb:Nat) (rv pn pv:Value) (T:List ByteArray) (g:Graph) (K:Nat) (kd:Nat→Nat):Prop:=∃ (F:List Nat) (xt xo xf:Value) (OX:List (Nat × List Int)) (FX:List Int),Firsts g K F∧XO w w' xb rv pn pv xt xo xf (txts T F F.length) OX FX∧SP (fun i b=>stepK (numG g) (i:Int) (kd b)) (fun i=>(numG g).rule.getD i 0) F.length OX FX
set_option maxRecDepth 20000 in
set_option maxHeartbeats 12800000 in
theorem refStates_any (xb fb lo N:Nat) (rs:ByteArray) (f:Nat→Int) (rules:List MT) (tv sv ov:Value) (T:List ByteArray) (S:List (Nat × List Bool)) (To:List (Nat × List Int)) (g:Graph) (K:Nat) (kd:Nat→Nat) (w:World) (hL:LexR w xb rs f rules) (hF:FoundAt w lo fb tv sv ov T S To) (hG:GP T To g K kd rules) (hS:SetsG g K) (hN:N = g.rule.length) (rv pn pv:Value) (hX:XAt w xb rv pn pv (.slice none 0 0) (.slice none 0 0) (.slice none 0 0) [] [] []) :
  Calls Tryz.prog 30 #[.pointer (some ⟨xb,0,none⟩),.pointer (some ⟨fb,0,none⟩)] w fun e w'=>e = .returned (.tuple #[])∧StOut w w' xb rv pn pv T g K kd:=by
 have HX0:=hide hX
 clear hX
 have hto:=hG.top
 have hTN:T.length = N:=by rw [hG.tl,hN]
 have hN61:N ≤ 61:=by omega
 have hN0:0 < N:=by omega
 have hmk:=makeInts N (by omega)
 have HAL:=hide (refAlive_any xb fb lo rs f rules tv sv ov T S To g K kd w hL hF hG)
 have HC:=hide (And.intro hL (And.intro hF (And.intro hG (And.intro hS (And.intro hN hTN)))))
 rw [hTN] at HAL
 have zf:=hF.blk.lt
 have HN:=hide hN
 clear hL hF hG hS hto hTN hN
 go_enter Tryz.func30,Tryz.ntmps30
 go_wp2_with fail
 refine HAL.out.mono ?_
 rintro e w1 ⟨al,rfl,ha1,ha2,ha3,hb1⟩
 have HPA:=hide (refParted_any xb fb lo w.heap.size N rs f rules tv sv ov T S To g K kd al w1 (HC.out.1.below hb1) (HC.out.2.1.below hb1) HC.out.2.2.1 HN.out ha1 ha2 (fun i hi=>ha3 i (by rw [HN.out]; exact hi)))
 have H1:=hide (And.intro ha1 (And.intro ha2 (And.intro ha3 hb1)))
 clear ha1 ha2 ha3 hb1 HAL
 go_wp2_with fail
 refine HPA.out.mono ?_
 rintro e w2 ⟨db,R,D,rfl,hD,hDv,hb2⟩
 obtain ⟨a1,a2,a3,a4⟩:=H1.out
 have hb12:Below w.heap.size w w2:=a4.trans (hb2.mono a4.size)
 have hF2:=HC.out.2.1.below hb12
 obtain ⟨tg,tcap,c0,_⟩:=hF2.txt' (by have:=HC.out.2.2.2.2.2; omega)
 rw [HC.out.2.2.2.2.2] at c0
 have ha2:=a1.below hb2
 have H4:=hide (fun i (hi:i < N)=>a3 i hi)
 have H2:=hide (And.intro hD (And.intro hDv (And.intro hb12 (And.intro ha2 a2))))
 have zf2:=hF2.blk.lt
 obtain ⟨w3,hw3⟩:∃ w3:World,w2.alloc (.cells (intsA (List.replicate N 0)) 3) = w3:=⟨_,rfl⟩
 have hB3:Below w2.heap.size w2 w3:=by rw [← hw3]; exact Below1 _ _
 have hS3:Blk w3 w2.heap.size (intsA (List.replicate N 0)) 3:=by rw [← hw3]; exact Blk.new _ _ _
 have H3:=hide (And.intro hB3 hS3)
 clear hD hDv hb2 a1 a2 a3 a4 hb12 hF2 ha2 hB3 hS3 HPA H1
 go_upto_region 3 with fail
 try rw [hw3]
 clear hw3 hmk
 go_wp2_with fail
 go_loopg [7,8] N (fun G fv nv wr=>∃ (n:Nat) (F:List Nat) (st:List Int),nv = .int .i64 (n:Int)∧n ≤ N∧G = N - n∧StI g K n F st∧IRow wr fv (natQ F)∧(∀ b,fv.ownBlock = some b→w2.heap.size < b)∧Blk wr w2.heap.size (intsA st) 3∧Below w2.heap.size w2 wr)
 case atStart=>exact ⟨0,[],_,rfl,by omega,rfl,StI.start (by simp; exact HN.out),World.ownsRow_nil _ _ _ _,fun x hx=>by simp [Value.ownBlock] at hx,H3.out.2,H3.out.1⟩
 case round =>
  obtain ⟨n,F,st,rfl,hn,rfl,hI,hR,hRo,hSt,hB⟩:=hrel
  have c02:wr.cell? ⟨fb,0,none⟩ = some (.slice (some ⟨tg,0,none⟩) N tcap):=by rw [hB.cell zf2]; exact c0
  obtain ⟨fd,fcap,rfl,hfr⟩:=hR.form
  rw [natQ_len] at hfr hR hRo ⊢
  by_cases hlt:n < N
  ·have e0:decide ((n:Int) < (N:Int)) = true:=by simp; omega
   have n0:(0:Int) ≤ (n:Int):=by omega
   have n1:(n:Int) < (N:Int):=by omega
   have cs:=intsA_cellD hSt n (by rw [hI.len,← HN.out]; exact hlt)
   have fs:=hSt.frozen n
   generalize st.getD n 0 = y0 at cs
   have zs:=hSt.lt
   obtain ⟨hD,hDv,hb12,hA,hal⟩:=H2.out
   have zaw:=hA.lt
   have ca:=boolsA_cellD (hA.below hB) n (by omega)
   have hlv:al.getD n false = true↔Lives g K (n:Int):=H4.out n hlt
   have HK:=hide (And.intro hI (And.intro hR (And.intro hRo (And.intro hSt (And.intro hB hlv)))))
   have hFn:=hI.few
   clear hI hR hRo hSt hB hD hDv hb12 hA hal hlv
   generalize al.getD n false = x at ca HK
   have hgo:(0 < n∧x = false)∨(n = 0∨x = true):=by cases x <;> simp <;> omega
   rcases hgo with ⟨hn0,rfl⟩ | hgo
   ·have e1:decide ((0:Int) < (n:Int)) = true:=by simp; omega
    go_wp2_with fail
    go_roundg (N - (n + 1))
    case measure=>omega
    case rel =>
     obtain ⟨b1,b2,b3,b4,b5,b6⟩:=HK.out
     refine ⟨n + 1,F,st.set n (-1),by go_num,by omega,rfl,b1.skip (by rw [← HN.out]; exact hlt) (fun hg=>?_) _,?_,b3,by rw [← intsA_set]; exact b4.set n _,b5.setCell (Nat.le_refl _) _⟩
     ·rcases hg.2 with e | e
      ·omega
      ·have:=b6.2 e; cases this
     ·exact ownsRow_kept (ex:=fun x=>x = w2.heap.size) b2 (Kept.setCell (ex:=fun x=>x = w2.heap.size) (p:=⟨w2.heap.size,n,none⟩) (Kept.refl _ _) (fun _=>rfl) _) (fun b hb e=>by have:=b3 b hb; omega)
   ·have hgs:Hid (Goes g K n):=hide ⟨by rw [← HN.out]; exact hlt,by
     rcases hgo with e | e
     ·exact .inl e
     ·exact .inr (HK.out.2.2.2.2.2.1 e)⟩
    have e1:(¬ 0 < n∧decide ((0:Int) < (n:Int)) = false)∨(0 < n∧decide ((0:Int) < (n:Int)) = true∧x = true):=by
     by_cases e:n = 0
     ·exact .inl ⟨by omega,by simp; omega⟩
     ·exact .inr ⟨by omega,by simp; omega,by rcases hgo with e' | e'; exact absurd e' e; exact e'⟩
    clear hgo
    rcases e1 with ⟨hz,e1⟩ | ⟨hz,e1,rfl⟩
    all_goals
     go_wp2_with fail
     go_loopg [9] F.length (fun G sv wr=>∃ (s:Nat) (v:Int),sv = .int .i64 (s:Int)∧s ≤ F.length∧G = F.length - s∧((v = -1∧∀ s',(h:s' < F.length)→s' < s→ApartK g K (F[s']:Int) (n:Int))∨∃ s0,∃ h:s0 < F.length,v = (s0:Int)∧¬ ApartK g K (F[s0]:Int) (n:Int))∧IRow wr (.slice fd F.length fcap) (natQ F)∧Blk wr w2.heap.size (intsA (st.set n v)) 3∧Below w2.heap.size w2 wr)
     case atStart =>
      obtain ⟨b1,b2,b3,b4,b5,b6⟩:=HK.out
      exact ⟨0,-1,rfl,by omega,rfl,.inl ⟨rfl,fun s' _ hs=>by omega⟩,ownsRow_kept (ex:=fun x=>x = w2.heap.size) b2 (Kept.setCell (ex:=fun x=>x = w2.heap.size) (p:=⟨w2.heap.size,n,none⟩) (Kept.refl _ _) (fun _=>rfl) _) (fun b hb e=>by have:=b3 b hb; omega),by rw [← intsA_set]; exact b4.set n _,b5.setCell (Nat.le_refl _) _⟩
     case round =>
      obtain ⟨t,v,rfl,ht,rfl,hv,hR2,hSt2,hB2⟩:=hrel
      clear hz e1
      obtain ⟨hD,hDv,hb12,hA,hal⟩:=H2.out
      have zs2:=hSt2.lt
      have hstl:n < st.length:=by rw [HK.out.1.len,← HN.out]; exact hlt
      have cs2:=intsA_cellD hSt2 n (by simp; exact hstl)
      rw [getD_setI _ _ _ _ hstl,if_pos rfl] at cs2
      have fs2:=hSt2.frozen n
      have hFl:∀ q,(h:q < F.length)→F[q] < N:=fun q h=>by have:=HK.out.1.lt h; omega
      by_cases hv1:v = -1
      ·subst hv1
       have hap:∀ s',(h:s' < F.length)→s' < t→ApartK g K (F[s']:Int) (n:Int):=by
        rcases hv with ⟨_,h⟩ | ⟨s0,_,h,_⟩
        ·exact h
        ·omega
       by_cases htl:t < F.length
       ·have e3:decide ((t:Int) < (F.length:Int)) = true:=by simp; omega
        rcases hfr with e | ⟨fg,rfl⟩
        ·omega
        have t0:(0:Int) ≤ (t:Int):=by omega
        have t1:(t:Int) < (F.length:Int):=by omega
        have cf:wr.cell? ⟨fg,t,none⟩ = some (.int .i64 (F[t]:Int)):=by
         rw [← natQ_getD F htl]
         have h9:IRow wr (.slice (some ⟨fg,0,none⟩) (natQ F).length fcap) (natQ F):=by rw [natQ_len]; exact hR2
         exact h9.getD t (by rw [natQ_len]; exact htl)
        have hFt:=hFl t htl
        obtain ⟨d1,d2⟩:=(hD.below hB2).cells hFt hlt
        have hdv:=hDv F[t] n hFt hlt
        have hds:R F[t] ≠ w2.heap.size:=by have:=(hD.each F[t] hFt).1.lt; omega
        generalize hft:F[t] = ft at cf d1 d2 hdv hFt hds
        have q0:(0:Int) ≤ (ft:Int):=by omega
        have q1:(ft:Int) < (N:Int):=by omega
        generalize R ft = rb at d1 d2 hds
        generalize (D ft).getD n false = y at d2 hdv
        have HQ:=hide (And.intro hap (And.intro hR2 (And.intro hSt2 (And.intro hB2 (And.intro hdv hft)))))
        clear hap hR2 hSt2 hB2 hdv hft hD hDv hb12 hA hal hv hFl hstl
        cases y with
        |true =>
         go_wp2_with fail
         go_roundg (F.length - (t + 1))
         case measure=>omega
         case rel =>
          obtain ⟨b1,b2,b3,b4,b5,b6⟩:=HQ.out
          refine ⟨t + 1,-1,by go_num,by omega,rfl,.inl ⟨rfl,fun s' h hs=>?_⟩,b2,b3,b4⟩
          by_cases e:s' < t
          ·exact b1 s' h e
          ·have:s' = t:=by omega
           subst this
           rw [b6]; exact b5.1 (by simp)
        |false =>
         go_wp2_with fail
         go_roundg (F.length - (t + 1))
         case measure=>omega
         case rel =>
          obtain ⟨b1,b2,b3,b4,b5,b6⟩:=HQ.out
          refine ⟨t + 1,(t:Int),by go_num,by omega,rfl,.inr ⟨t,htl,rfl,fun h=>?_⟩,?_,?_,b4.setCell (Nat.le_refl _) _⟩
          ·rw [b6] at h; have:=b5.2 h; cases this
          ·exact ownsRow_kept (ex:=fun x=>x = w2.heap.size) b2 (Kept.setCell (ex:=fun x=>x = w2.heap.size) (p:=⟨w2.heap.size,n,none⟩) (Kept.refl _ _) (fun _=>rfl) _) (fun b hb e=>by have:=HK.out.2.2.1 b hb; omega)
          ·have:=b3.set n (.int .i64 (t:Int))
           rw [intsA_set,List.set_set] at this
           exact this
       ·have e3:decide ((t:Int) < (F.length:Int)) = false:=by simp; omega
        have hno:∀ s',(h:s' < F.length)→¬ AlikeN (pruneF g) K (F[s']:Int) (n:Int):=fun s' h hx=>by
         refine ((alike_apart HC.out.2.2.1.ok (a:=F[s']) (b:=n) ?_ ?_).1 hx) (hap s' h (by omega))
         ·have:=hFl s' h; rw [← HN.out]; exact this
         ·rw [← HN.out]; exact hlt
        have hfin:=StI.fresh HC.out.2.2.2.1 HK.out.1 hgs.out hno
        have hlo:∀ x,(Value.slice fd F.length fcap).ownBlock = some x→w2.heap.size + 1 ≤ x:=fun x hx=>HK.out.2.2.1 x hx
        have hRv:wr.ownsRow 0 3 1 (.slice fd F.length fcap) (intsV (natQ F)).length (intsV (natQ F)):=IRow.val hR2
        have hsz:(intsV (natQ F)).length + 1 ≤ 4000000:=by rw [intsV_len,natQ_len]; omega
        have HRV:=hide (ownsRow_kept (ex:=fun x=>x = w2.heap.size) hRv (Kept.setCell (ex:=fun x=>x = w2.heap.size) (p:=⟨w2.heap.size,n,none⟩) (Kept.refl _ _) (fun _=>rfl) (.int .i64 (F.length:Int))) (fun b hb e=>by have:=hlo b hb; omega))
        have hS5:=hSt2.set n (.int .i64 (F.length:Int))
        rw [intsA_set,List.set_set] at hS5
        have hB5:=hB2.setCell (p:=⟨w2.heap.size,n,none⟩) (Nat.le_refl _) (.int .i64 (F.length:Int))
        have HQ:=hide (And.intro hfin (And.intro hS5 (And.intro hB5 hlo)))
        obtain ⟨w5,hw5⟩:∃ w5,wr.setCell ⟨w2.heap.size,n,none⟩ (.int .i64 (F.length:Int)) = w5:=⟨_,rfl⟩
        rw [hw5] at HRV HQ
        have zs5:=HQ.out.2.1.lt
        clear hno hfin hlo hRv hS5 hB5 hap hR2 hSt2 hB2 hD hDv hb12 hA hal hv hFl hstl
        go_upto_region 16 with fail
        try rw [hw5]
        clear hw5
        go_wp2_with (at_builtin; (refine append1 Tryz.underlying60 Tryz.infoI3 rfl (by omega) (la:=intsV (natQ F)) (ll:=[.int .i64 (n:Int)]) (va:=.slice fd F.length fcap) (vl:=.slice (some ⟨w5.heap.size,0,none⟩) 1 1) (by rfl) _ _ (by rfl) (by rfl) (by rfl) (rowAl HRV.out _) (one_row w5 3 (.int .i64 (n:Int))) (fun u hu=>by rw [List.mem_singleton] at hu; rw [hu]; rfl) (w2.heap.size + 1) (by simp; omega) HQ.out.2.2.2 hsz ?_))
        intro v6 w6 r1 r2 r3
        have HR6:=hide (And.intro r1 (And.intro r2 r3))
        clear r1 r2 r3
        go_wp2_with fail
        go_roundg (N - (n + 1))
        case measure=>omega
        case rel =>
         obtain ⟨b1,b2,b3,b4⟩:=HQ.out
         obtain ⟨r1,r2,r3⟩:=HR6.out
         refine ⟨n + 1,F ++ [n],_,by go_num,by omega,rfl,b1,?_,fun b hb=>r2 b hb,(b2.alloc _).kept r3 (fun e=>by have:=b4 _ e; omega),Below_kept (b3.alloc b3.size _) r3 (by simp; omega) (fun x hx e=>by have:=b4 x e; omega)⟩
         have e9:intsV (natQ (F ++ [n])) = intsV (natQ F) ++ [.int .i64 (n:Int)]:=by simp [intsV,natQ]
         exact IRow.ofVal (by rw [e9]; simpa using r1)
      ·obtain ⟨s0,hs0,hvs,hal0⟩:∃ s0,∃ h:s0 < F.length,v = (s0:Int)∧¬ ApartK g K (F[s0]:Int) (n:Int):=by
        rcases hv with ⟨e,_⟩ | h
        ·exact absurd e hv1
        ·exact h
       subst hvs
       have hfin:=HK.out.1.known (by rw [← HN.out]; exact hlt) hs0 ((alike_apart HC.out.2.2.1.ok (a:=F[s0]) (b:=n) (by have:=hFl s0 hs0; rw [← HN.out]; exact this) (by rw [← HN.out]; exact hlt)).2 hal0)
       have e4:decide ((s0:Int) < 0) = false:=by simp
       have HQ:=hide (And.intro hfin (And.intro hR2 (And.intro hSt2 hB2)))
       clear hfin hR2 hSt2 hB2 hD hDv hb12 hA hal hv hFl hstl hv1 hal0
       by_cases htl:t < F.length
       ·have e3:decide ((t:Int) < (F.length:Int)) = true:=by simp; omega
        go_wp2_with fail
        go_roundg (N - (n + 1))
        case measure=>omega
        case rel =>
         obtain ⟨b1,b2,b3,b4⟩:=HQ.out
         exact ⟨n + 1,F,_,by go_num,by omega,rfl,b1,b2,HK.out.2.2.1,b3,b4⟩
       ·have e3:decide ((t:Int) < (F.length:Int)) = false:=by simp; omega
        go_wp2_with fail
        go_roundg (N - (n + 1))
        case measure=>omega
        case rel =>
         obtain ⟨b1,b2,b3,b4⟩:=HQ.out
         exact ⟨n + 1,F,_,by go_num,by omega,rfl,b1,b2,HK.out.2.2.1,b3,b4⟩
  ·obtain rfl:n = N:=by omega
   have e0:decide ((n:Int) < (n:Int)) = false:=by simp
   have hFn:=hI.few
   obtain ⟨hD,hDv,hb12,hA,hal⟩:=H2.out
   have hbz:Below w.heap.size w wr:=hb12.trans (hB.mono hb12.size)
   have hXz:=HX0.out.below hbz
   have hFz:=(HC.out.2.1.below hbz).blk
   have HW:Hid (∀ W,Kept (fun b=>b = xb) wr W→FoundAt W lo fb tv sv ov T S To∧IRow W (.slice fd F.length fcap) (natQ F)∧Blk W w.heap.size (boolsA al) 4∧Blk W w2.heap.size (intsA st) 3):=hide fun W k=>⟨(HC.out.2.1.below hbz).keptX hXz.blk k,ownsRow_kept hR k (fun b hb e=>by subst e; exact ownsRow_ne hR hXz.blk (by decide) hb),(hA.below hB).kept k ((hA.below hB).ne hXz.blk (by decide)),hSt.kept k (hSt.ne hXz.blk (by decide))⟩
   have HLW:Hid (∀ W tv' ov' fv' TX' OX' FX',XO wr W xb rv pn pv tv' ov' fv' TX' OX' FX'→LexR W xb rs f rules):=hide fun W tv' ov' fv' TX' OX' FX' h=>(HC.out.1.below hbz).written hXz h.kept h.x
   have HI:=hide (And.intro hI (And.intro hbz hXz))
   have hstl:st.length = n:=by rw [hI.len,← HN.out]
   have hall:al.length = n:=hal
   have hFl:∀ q,(h:q < F.length)→F[q] < n:=fun q h=>hI.lt h
   have HFl:=hide hFl
   have HAL:=hide (And.intro hstl hall)
   clear hI hR hRo hSt hB hD hDv hb12 hA hal hbz hXz hFz hstl hall hFl
   obtain ⟨wz,rfl⟩:∃ wz:World,wz = wr:=⟨_,rfl⟩
   go_wp2_with fail
   go_loopg [10] F.length (fun G sv wr=>∃ (s:Nat) (xt xo xf:Value) (OX:List (Nat × List Int)) (FX:List Int),sv = .int .i64 (s:Int)∧s ≤ F.length∧G = F.length - s∧XO wz wr xb rv pn pv xt xo xf (txts T F s) OX FX∧SP (fun i b=>stepK (numG g) (i:Int) (kd b)) (fun i=>(numG g).rule.getD i 0) s OX FX)
   case atStart=>exact ⟨0,_,_,_,[],[],rfl,by omega,rfl,⟨HI.out.2.2,Kept.refl _ _,fun b hb=>by simp [Value.ownBlock] at hb,fun b hb=>by simp [Value.ownBlock] at hb,fun b hb=>by simp [Value.ownBlock] at hb⟩,SP.start⟩
   case round =>
    obtain ⟨s,xt,xo,xf,OX,FX,rfl,hs,rfl,hX3,hP3⟩:=hrel
    by_cases hlt3:s < F.length
    ·have e1:decide ((s:Int) < (F.length:Int)) = true:=by simp; omega
     have hm2:=make256
     have HX:=hide (And.intro hX3 hP3)
     clear hX3 hP3
     obtain ⟨wo,rfl⟩:∃ wo:World,wo = wr:=⟨_,rfl⟩
     rcases hfr with e | ⟨fg,rfl⟩
     ·omega
     obtain ⟨fs,hfs⟩:∃ fs,F[s] = fs:=⟨_,rfl⟩
     have hfn:fs < n:=by rw [← hfs]; exact HFl.out s hlt3
     have HFS:=hide hfs
     clear hfs
     go_wp2_with fail
     go_loopg [12] 256 (fun G bv wr=>∃ (b:Nat) (l:List Int),bv = .int .i64 (b:Int)∧b ≤ 256∧G = 256 - b∧l.length = 256∧(∀ c,c < b→l.getD c 0 = stRow al st (stepK g (fs:Int) (kd c)))∧Blk wr wo.heap.size (intsA l) 3∧Below wo.heap.size wo wr)
     case atStart=>exact ⟨0,row256,rfl,by omega,rfl,row256_len,fun c hc=>by omega,Blk.new _ _ _,Below1 _ _⟩
     case round =>
      obtain ⟨b,l,rfl,hb,rfl,hl,hv,hB4,hBe⟩:=hrel
      have hKx:=HX.out.1.kept.below hBe
      obtain ⟨hF4,hR4,hA4,hS4⟩:=HW.out wr hKx
      by_cases hlt4:b < 256
      ·have e2:decide ((b:Int) < 256) = true:=by simp; omega
       have cl:=intsA_cellD hB4 b (by rw [hl]; exact hlt4)
       generalize l.getD b 0 = y at cl
       have fl:=hB4.frozen b
       have zl:=hB4.lt
       have b0:(0:Int) ≤ (b:Int):=by omega
       have b1:(b:Int) < 256:=by omega
       have hB5:=hB4.set b (.int .i64 (-1))
       rw [intsA_set] at hB5
       have hBe5:=hBe.setCell (p:=⟨wo.heap.size,b,none⟩) (Nat.le_refl _) (.int .i64 (-1))
       obtain ⟨w4,hw4⟩:∃ w4,wr.setCell ⟨wo.heap.size,b,none⟩ (.int .i64 (-1)) = w4:=⟨_,rfl⟩
       rw [hw4] at hB5 hBe5
       have HB5:=hide (And.intro hB5 (And.intro hBe5 (And.intro hl hv)))
       clear hB5 hBe5 hB4 hBe hKx hF4 hR4 hA4 hS4 hl hv
       go_upto_region 25 with fail
       try rw [hw4]
       clear hw4 cl fl zl
       obtain ⟨hF4,hR4,hA4,hS4⟩:=HW.out w4 (HX.out.1.kept.below HB5.out.2.1)
       have hGP:=HC.out.2.2.1
       have hol:To.length = n:=by rw [hGP.ol,HN.out]
       obtain ⟨og,ocap,c2,co⟩:=hF4.to (by rw [hol]; omega)
       rw [hol] at c2
       obtain ⟨c3,c4⟩:=co fs (by rw [hol]; exact hfn)
       have c5:=c4 b hlt4
       rw [hGP.step fs b (by rw [hol]; exact hfn) hlt4] at c5
       have cf:w4.cell? ⟨fg,s,none⟩ = some (.int .i64 (fs:Int)):=by
        have h9:IRow w4 (.slice (some ⟨fg,0,none⟩) (natQ F).length fcap) (natQ F):=by rw [natQ_len]; exact hR4
        have h8:=h9.getD s (by rw [natQ_len]; exact hlt3)
        rw [natQ_getD F hlt3,HFS.out] at h8
        exact h8
       have s0:(0:Int) ≤ (s:Int):=by omega
       have s1:(s:Int) < (F.length:Int):=by omega
       have q0:(0:Int) ≤ (fs:Int):=by omega
       have q1:(fs:Int) < (n:Int):=by omega
       have zfb:=hF4.blk.lt
       obtain ⟨tt,htt⟩:∃ tt,stepK g (fs:Int) (kd b) = tt:=⟨_,rfl⟩
       have hld:=hGP.leads (i:=fs) (b:=b) (by rw [← HN.out]; exact hfn) hlt4
       rw [htt] at c5 hld
       rw [← HN.out] at hld
       generalize To[fs].1 = ob at c3 c5
       have HTT:=hide htt
       have HM:=hide (And.intro hA4 hS4)
       clear htt hGP hol co c4 hF4 hR4 hA4 hS4
       go_quiet (fail)
       obtain ⟨w5,hw5⟩:∃ w5,w4.drewN nq = w5:=⟨_,rfl⟩
       have HB6:Hid (Below w4.heap.size w4 w5):=hide (by rw [← hw5]; exact Below_drewN (Below.refl _ _) _)
       rw [hw5]
       clear hw5 c2 c3 c5 cf
       rcases hld with rfl | ⟨t,ht,rfl⟩
       ·have e3:decide ((0:Int) ≤ -1) = false:=by simp
        go_wp2_with fail
        go_roundg (256 - (b + 1))
        case measure=>omega
        case rel =>
         obtain ⟨a1,a2,a3,a4⟩:=HB5.out
         refine ⟨b + 1,l.set b (-1),by go_num,by omega,rfl,by rw [List.length_set]; exact a3,fun c hc=>?_,a1.below HB6.out,a2.trans (HB6.out.mono a2.size)⟩
         rw [getD_setI _ _ _ _ (by omega)]
         split
         ·rename_i e; subst e; rw [HTT.out]; unfold stRow; rw [alS_dead]; rfl
         ·exact a4 c (by omega)
       ·have e3:decide ((0:Int) ≤ (t:Int)) = true:=by simp
        have ca:=boolsA_cellD (HM.out.1.below HB6.out) t (by have:=HAL.out.2; omega)
        have t0:(0:Int) ≤ (t:Int):=by omega
        have t1:(t:Int) < (n:Int):=by omega
        generalize hx:al.getD t false = x at ca
        have HXA:=hide hx
        clear hx
        cases x with
        |false =>
         go_wp2_with fail
         go_roundg (256 - (b + 1))
         case measure=>omega
         case rel =>
          obtain ⟨a1,a2,a3,a4⟩:=HB5.out
          refine ⟨b + 1,l.set b (-1),by go_num,by omega,rfl,by rw [List.length_set]; exact a3,fun c hc=>?_,a1.below HB6.out,a2.trans (HB6.out.mono a2.size)⟩
          rw [getD_setI _ _ _ _ (by omega)]
          split
          ·rename_i e; subst e; rw [HTT.out]; unfold stRow; rw [alS_nat,HXA.out]; rfl
          ·exact a4 c (by omega)
        |true =>
         have cs:=intsA_cellD (HM.out.2.below HB6.out) t (by have:=HAL.out.1; omega)
         generalize hy:st.getD t 0 = y at cs
         have HY:=hide hy
         clear hy
         have hB7:=HB5.out.1.below HB6.out
         have cl:=intsA_cellD hB7 b (by rw [List.length_set,HB5.out.2.2.1]; exact hlt4)
         generalize (l.set b (-1)).getD b 0 = z at cl
         have fl:=hB7.frozen b
         have zl:=hB7.lt
         have HB7:=hide hB7
         clear hB7
         go_wp2_with fail
         go_roundg (256 - (b + 1))
         case measure=>omega
         case rel =>
          obtain ⟨a1,a2,a3,a4⟩:=HB5.out
          have h7:=HB7.out.set b (.int .i64 y)
          rw [intsA_set,List.set_set] at h7
          refine ⟨b + 1,l.set b y,by go_num,by omega,rfl,by rw [List.length_set]; exact a3,fun c hc=>?_,h7,(a2.trans (HB6.out.mono a2.size)).setCell (p:=⟨wo.heap.size,b,none⟩) (Nat.le_refl _) _⟩
          rw [getD_setI _ _ _ _ (by omega)]
          split
          ·rename_i e; subst e; rw [HTT.out]; unfold stRow; rw [alS_nat,HXA.out,Int.toNat_natCast,HY.out]; rfl
          ·exact a4 c (by omega)
      ·obtain rfl:b = 256:=by omega
       have e2:decide (((256:Nat):Int) < 256) = false:=by simp
       have hX4:=HX.out.1.below hBe
       obtain ⟨_,od,ocap,e',_⟩:=ownsRow_form hX4.x.tos.row
       have hOl:=HX.out.2.ol
       have c4:wr.cell? ⟨xb,4,none⟩ = some (.slice od OX.length ocap):=by rw [← e']; exact hX4.x.blk.cell 4
       have HO:Hid (xo = .slice od OX.length ocap):=hide e'
       have zx:=hX4.x.blk.lt
       have hzz:wz.heap.size ≤ wr.heap.size:=hX4.kept.size
       have hTl:(OX.map (fun p:Nat × List Int=>slV 256 p.1)).length + 1 ≤ 4000000:=by rw [List.length_map,hOl]; omega
       have HA:Hid ((wr.alloc (.cells #[slV 256 wo.heap.size] 60)).ownsRow 0 60 1 (.slice od OX.length ocap) (OX.map (fun p:Nat × List Int=>slV 256 p.1)).length (OX.map (fun p:Nat × List Int=>slV 256 p.1))):=by rw [← e',List.length_map]; exact hide (rowAl hX4.x.tos.row _)
       have HOW:Hid (∀ x,(Value.slice od OX.length ocap).ownBlock = some x→wz.heap.size ≤ x):=by rw [← e']; exact hide hX4.o2
       have hsep:xf.ownBlock ≠ some wo.heap.size:=fun e=>by have:=ownsRow_lt HX.out.1.x.of _ e; omega
       have HJ:=hide (And.intro hX4 (And.intro hl (And.intro hv (And.intro hB4 (And.intro hBe hsep)))))
       clear hX4 hl hv hB4 hBe hsep hKx hF4 hR4 hA4 hS4 e' hOl
       go_wp2_with (at_builtin; (refine append1 Tryz.underlying61 Tryz.infoN3 rfl (by omega) (la:=OX.map (fun p:Nat × List Int=>slV 256 p.1)) (ll:=[slV 256 wo.heap.size]) (va:=.slice od OX.length ocap) (vl:=.slice (some ⟨wr.heap.size,0,none⟩) 1 1) (by rfl) _ _ (by rfl) (by rfl) (by rfl) HA.out (one_row wr 60 (slV 256 wo.heap.size)) (fun u hu=>by rw [List.mem_singleton] at hu; rw [hu]; rfl) wz.heap.size (by simp; omega) HOW.out hTl ?_))
       intro v6 w6 r1 r2 r3
       obtain ⟨d6,m6,cap6,rfl⟩:∃ d6 m6 cap6,v6 = .slice d6 m6 cap6:=by obtain ⟨_,d6,cap6,e,_⟩:=ownsRow_form r1; exact ⟨_,_,_,e⟩
       obtain ⟨j1,j2,j3,j4,j5,j6⟩:=HJ.out
       have hX5:=j1.below (Below1 wr (.cells #[slV 256 wo.heap.size] 60))
       have b6:Blk w6 xb #[rv,pn,pv,xt,xo,xf] 78:=hX5.x.blk.kept r3 (fun e=>by rw [← HO.out] at e; exact ownsRow_ne hX5.x.tos.row hX5.x.blk (by decide) e)
       have c6:w6.cell? ⟨xb,4,none⟩ = some xo:=b6.cell 4
       have f6:=b6.frozen 4
       have hX7:=hX5.to (j4.below (Below1 wr (.cells #[slV 256 wo.heap.size] 60))) j2 j6 (by simpa using r1) r2 (by rw [HO.out]; exact r3)
       obtain ⟨w7,hw7⟩:∃ w7,w6.setCell ⟨xb,4,none⟩ (.slice d6 m6 cap6) = w7:=⟨_,rfl⟩
       rw [hw7] at hX7
       have HX7:=hide hX7
       clear r1 r2 r3 hX5 b6 hX7 HA HOW hTl j1 j2 j3 j4 j5 j6
       go_upto_region 29 with fail
       try rw [hw7]
       clear hw7 c6 f6 c4 zx hzz
       obtain ⟨ii,hii,hz0,hz1,hz2⟩:=info_parts Tryz.infoTxt3
       obtain ⟨ij,hij,hy0,hy1,hy2⟩:=info_parts Tryz.infoI3
       obtain ⟨hF7,hR7,_,_⟩:=HW.out w7 HX7.out.kept
       have hGP:=HC.out.2.2.1
       have htl:T.length = n:=by rw [hGP.tl,HN.out]
       obtain ⟨tg7,tcap7,t0,tc⟩:=hF7.txt' (by rw [htl]; omega)
       rw [htl] at t0
       have hfT:fs < T.length:=by rw [htl]; exact hfn
       have ct:=tc fs hfT
       have hts:=hGP.size fs hfT
       have htk:=fun r=>hGP.tok fs r hfT
       have htx:T.getD (F.getD s 0) noT = T[fs]:=by
        rw [List.getD_eq_getElem?_getD (l:=F),List.getElem?_eq_getElem hlt3,Option.getD_some,HFS.out,List.getD_eq_getElem?_getD,List.getElem?_eq_getElem hfT,Option.getD_some]
       obtain ⟨tx,htx0⟩:∃ tx,T[fs] = tx:=⟨_,rfl⟩
       rw [htx0] at ct hts htk htx
       have HTX:=hide htx
       have HTX0:Hid (T[fs] = tx):=hide htx0
       have HTK:=hide htk
       have cf:w7.cell? ⟨fg,s,none⟩ = some (.int .i64 (fs:Int)):=by
        have h9:IRow w7 (.slice (some ⟨fg,0,none⟩) (natQ F).length fcap) (natQ F):=by rw [natQ_len]; exact hR7
        have h8:=h9.getD s (by rw [natQ_len]; exact hlt3)
        rw [natQ_getD F hlt3,HFS.out] at h8
        exact h8
       have s0:(0:Int) ≤ (s:Int):=by omega
       have s1:(s:Int) < (F.length:Int):=by omega
       have q0:(0:Int) ≤ (fs:Int):=by omega
       have q1:(fs:Int) < (n:Int):=by omega
       have zfb:=hF7.blk.lt
       obtain ⟨_,xd,xcap,e',_⟩:=ownsRow_form HX7.out.x.txt
       have htxl:=txts_len T F hs
       rw [htxl] at e'
       subst e'
       have k3:w7.cell? ⟨xb,3,none⟩ = some (.slice xd s xcap):=HX7.out.x.blk.cell 3
       have kf:=HX7.out.x.blk.frozen 3
       have zx:=HX7.out.x.blk.lt
       have hX8:=HX7.out.below (w':=(w7.alloc (.cells #[.string tx] 9)).drew) (Below_drewQ (Below1 _ _))
       have hol:=hX8.x.txt
       rw [htxl] at hol
       have HOL:=hide hol
       have hnk:some xb ≠ (Value.slice xd s xcap).ownBlock:=fun e=>ownsRow_ne hX8.x.txt hX8.x.blk (by decide) e.symm
       have CW:Hid ((w7.alloc (.cells #[.string tx] 9)).drew.cell? ⟨xb,3,none⟩ = some (.slice xd s xcap)):=hide (hX8.x.blk.cell 3)
       have FW:=hide (hX8.x.blk.frozen 3)
       have HNW:Hid ((w7.alloc (.cells #[.string tx] 9)).drew.heap[w7.heap.size]? = some (.cells #[.string tx] 9 (0,0))):=hide (heap_alloc_new w7 (.cells #[.string tx] 9))
       have HZL:Hid (xb < (w7.alloc (.cells #[.string tx] 9)).drew.heap.size):=hide hX8.x.blk.lt
       have H63:Hid (s + 1 ≤ maxLen):=hide (by unfold maxLen; omega)
       have HBY:Hid ((s + 1) * 16 ≤ 140737488355328):=hide (by omega)
       have HBI:Hid ((s + 1) * 8 ≤ 140737488355328):=hide (by omega)
       have HX8:=hide hX8
       have hz7:wz.heap.size ≤ w7.heap.size:=HX7.out.kept.size
       clear htx htk htx0 hGP htl tc hF7 hR7 htxl hX8 hol
       go_cut [] (fun wx=>∃ xt',XO wz wx xb rv pn pv xt' (.slice d6 m6 cap6) xf (txts T F (s + 1)) (OX ++ [(wo.heap.size,l)]) FX)
       case first =>
        go_region_law ((refine step_append_lies _ (by rfl) _ _ _ (by rfl) 0 9 ii _ 1 16 Tryz.underlying76 hii hz0 hz1 hz2 rfl (Nat.one_pos) (.slice xd s xcap) s ((txts T F s).map Value.string) (by rfl) HOL.out ⟨w7.heap.size,0,none⟩ 1 1 [.string tx] (by rfl) (by rfl) (World.news_of_block (cs:=#[.string tx]) (t:=9) (fr:=(0,0)) HNW.out) (by simp [Value.oneCell']) (Nat.one_pos) H63.out HBY.out (Nat.zero_le _) (w7.heap.size + 1) (by simp) ?_; intro gg cap9 w8 hown6 hgrow6 hat6 hlt6; have cg3:=(hgrow6.cell_far ⟨xb,3,none⟩ HZL.out hnk).trans CW.out; have fg3:=(hgrow6.frozen_far ⟨xb,3,none⟩ HZL.out hnk).trans FW.out))
        all_goals
         have HG6:=hide (And.intro hown6 (And.intro (Kept_grown (O:=fun b=>(Value.slice xd s xcap).ownBlock = some b) hgrow6 (fun k e=>e)) hat6))
         clear hown6 hgrow6 hat6
         go_wp2_with fail
         go_meet
         obtain ⟨g1,g2,g3⟩:=HG6.out
         refine ⟨.slice (some ⟨gg,0,none⟩) (s + 1) cap9,?_⟩
         rw [txts_succ T F hlt3,HTX.out]
         refine HX8.out.text (by simpa [txts_len T F hs] using g1) (fun b hb=>?_) g2
         cases (Option.some.inj hb:gg = b)
         rcases g3 with e | e
         ·exact HX8.out.o1 _ e
         ·omega
       case rest =>
        obtain ⟨xt',hX9⟩:=hcut
        clear HOL CW FW HNW HZL HX8 k3 kf zx t0 ct cf zfb hnk hz7
        obtain ⟨hF7,hR7,_,_⟩:=HW.out wc hX9.kept
        have hGP:=HC.out.2.2.1
        have htl:T.length = n:=by rw [hGP.tl,HN.out]
        obtain ⟨tg9,tcap9,t0,tc⟩:=hF7.txt' (by rw [htl]; omega)
        rw [htl] at t0
        have ct:=tc fs hfT
        rw [HTX0.out] at ct
        have cf:wc.cell? ⟨fg,s,none⟩ = some (.int .i64 (fs:Int)):=by
         have h9:IRow wc (.slice (some ⟨fg,0,none⟩) (natQ F).length fcap) (natQ F):=by rw [natQ_len]; exact hR7
         have h8:=h9.getD s (by rw [natQ_len]; exact hlt3)
         rw [natQ_getD F hlt3,HFS.out] at h8
         exact h8
        have zfb:=hF7.blk.lt
        have hfl:=HX.out.2.fl
        obtain ⟨od5,cap5,e5,_⟩:=hX9.x.of.form
        rw [hfl] at e5
        subst e5
        have k5:wc.cell? ⟨xb,5,none⟩ = some (.slice od5 s cap5):=hX9.x.blk.cell 5
        have kf:=hX9.x.blk.frozen 5
        have zx:=hX9.x.blk.lt
        have hLX:=HLW.out wc _ _ _ _ _ _ hX9
        have HTO:Hid (∀ W,Below wc.heap.size wc W→Calls Tryz.prog 57 #[.pointer (some ⟨xb,0,none⟩),.string tx] W fun e w'=>∃ r,e = .returned (.int .i64 r)∧MTokIs rules (bytesN tx) r∧Below W.heap.size W w'):=hide fun W k=>refTok_any xb rs tx f rules W (hLX.below k) hts
        have HQ1:Hid (∀ w5,Below wc.heap.size wc w5→Blk w5 xb #[rv,pn,pv,xt',.slice d6 m6 cap6,.slice od5 s cap5] 78):=hide fun w5 k=>(hX9.below k).x.blk
        have HQ:Hid (∀ w5 r,Below wc.heap.size wc w5→XO wz (w5.alloc (.cells #[.int .i64 r] 3)) xb rv pn pv xt' (.slice d6 m6 cap6) (.slice od5 s cap5) (txts T F (s + 1)) (OX ++ [(wo.heap.size,l)]) FX):=hide fun w5 r k=>(hX9.below k).below (Below1 _ _)
        have HR5:Hid (∀ w5 r,Below wc.heap.size wc w5→(w5.alloc (.cells #[.int .i64 r] 3)).ownsRow 0 3 1 (.slice od5 s cap5) s (intsV FX)):=hide fun w5 r k=>by
         have h1:=(HQ.out w5 r k).x.of.val
         rw [intsV_len,hfl] at h1
         exact h1
        have hnk:some xb ≠ (Value.slice od5 s cap5).ownBlock:=fun e=>ownsRow_ne hX9.x.of hX9.x.blk (by decide) e.symm
        have HFL:=hide hfl
        clear hGP htl tc hF7 hR7 hfl hLX hX9
        go_upto_region 30 with fail
        go_region_law (first
         |(refine step_append_lies _ (by rfl) _ _ _ (by rfl) 0 3 ij _ 1 8 Tryz.underlying60 hij hy0 hy1 hy2 rfl (Nat.one_pos) (.slice od5 s cap5) s (intsV FX) (by rfl) HOL5.out ⟨w5.heap.size,0,none⟩ 1 1 [.int .i64 r] (by rfl) (by rfl) (World.news_of_block (cs:=#[.int .i64 r]) (t:=3) (fr:=(0,0)) HNW5.out) (by simp [Value.oneCell']) (Nat.one_pos) H63.out HBI.out (Nat.zero_le _) (w5.heap.size + 1) (by simp) ?_; intro gg cap9 w8 hown6 hgrow6 hat6 hlt6; have cg3:=(hgrow6.cell_far ⟨xb,5,none⟩ HZL5.out hnk).trans CW5.out; have fg3:=(hgrow6.frozen_far ⟨xb,5,none⟩ HZL5.out hnk).trans FW5.out)
         |(go_simp; go_wp2_with (go_at_call 57; refine (HTO.out _ (Below_drewQ (Below.refl _ _))).mono ?_; rintro e w5 ⟨r,rfl,hr,hb5⟩; have HB5:Hid (Below wc.heap.size wc w5):=hide ((Below_drewQ (Below.refl _ _)).trans (hb5.mono (Nat.le_refl _))); have c55:w5.cell? ⟨xb,5,none⟩ = some (.slice od5 s cap5):=(HQ1.out w5 HB5.out).cell 5; have z55:xb < w5.heap.size:=(HQ1.out w5 HB5.out).lt; have HOL5:=hide (HR5.out w5 r HB5.out); have HNW5:Hid ((w5.alloc (.cells #[.int .i64 r] 3)).heap[w5.heap.size]? = some (.cells #[.int .i64 r] 3 (0,0))):=hide (heap_alloc_new w5 (.cells #[.int .i64 r] 3)); have HZL5:=hide (HQ.out w5 r HB5.out).x.blk.lt; have CW5:Hid ((w5.alloc (.cells #[.int .i64 r] 3)).cell? ⟨xb,5,none⟩ = some (.slice od5 s cap5)):=hide ((HQ.out w5 r HB5.out).x.blk.cell 5); have FW5:=hide ((HQ.out w5 r HB5.out).x.blk.frozen 5); have HRR:=hide hr; clear hr hb5)))
        all_goals
         have HG6:=hide (And.intro hown6 (And.intro (Kept_grown (O:=fun b=>(Value.slice od5 s cap5).ownBlock = some b) hgrow6 (fun k e=>e)) (And.intro hat6 (And.intro HRR.out HB5.out))))
         clear hown6 hgrow6 hat6
         go_wp2_with fail
         go_roundg (F.length - (s + 1))
         case measure=>omega
         case rel =>
          obtain ⟨g1,g2,g3,g4,g5⟩:=HG6.out
          have hfi:Firsts g K F:=StI.firsts (by rw [← HN.out]; exact HI.out.1)
          refine ⟨s + 1,xt',_,.slice (some ⟨gg,0,none⟩) (s + 1) cap9,_,FX ++ [r],by go_num,by omega,rfl,(HQ.out w5 r g5).rule ?_ (fun b hb=>?_) g2,HX.out.2.next (fun b hb=>?_) ?_⟩
          ·refine IRow.ofVal ?_
           rw [intsV_len,List.length_append,HFL.out]
           simpa [intsV] using g1
          ·cases (Option.some.inj hb:gg = b)
           rcases g3 with e | e
           ·exact .inl e
           ·right; rw [e]; simp
          ·have h1:=HJ.out.2.2.1 b hb
           have h2:=StI.next (al:=al) HC.out.2.2.2.1 (by rw [← HN.out]; exact HI.out.1) (fun i hi=>H4.out i (by rw [HN.out]; exact hi)) hlt3 (HC.out.2.2.1.kin b hb)
           rw [HFS.out] at h2
           rw [h1,h2]
           rfl
          ·have h1:=hfi.rule HC.out.2.2.2.1 hlt3
           rw [HFS.out] at h1
           rw [HTK.out r g4]
           exact h1.symm
    ·have e1:decide ((s:Int) < (F.length:Int)) = false:=by simp; omega
     have HX:=hide (And.intro hX3 hP3)
     clear hX3 hP3
     go_wp2_with fail
     go_end0
     obtain ⟨b1,b2⟩:=HX.out
     have es:s = F.length:=by omega
     subst es
     obtain ⟨q1,q2,q3⟩:=HI.out
     have hKz:Kept (fun b=>b = xb) w wr:=(Kept.ofBelow q2).trans b1.kept (fun _ _ e=>e)
     refine ⟨rfl,F,_,_,_,OX,FX,(StI.firsts (by rw [← HN.out]; exact q1)),⟨b1.x,hKz,fun b hb=>?_,fun b hb=>?_,fun b hb=>?_⟩,b2⟩
     ·exact Nat.le_trans q2.size (b1.o1 b hb)
     ·exact Nat.le_trans q2.size (b1.o2 b hb)
     ·exact Nat.le_trans q2.size (b1.o3 b hb)
end Go.Proofs.YtcckhngbdoiikaaGreat
