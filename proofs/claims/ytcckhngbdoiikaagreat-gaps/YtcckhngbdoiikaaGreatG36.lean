import Derived.Test.YtcckhngbdoiikaaGreatG35
import Derived.Test.YtcckhngbdoiikaaGreatG25

namespace Go.Proofs.YtcckhngbdoiikaaGreat
open Go.RowKit Go.Deep
set_option linter.unusedVariables false
theorem Tryz.infoTxt3:(Tryz.prog.info? 9).map (fun i=>(i.zero,i.size,i.bytes)) = some (some (.string ⟨#[]⟩),1,16):=by kernel_rfl
def FindOut (w w':World) (ts:List PT) (R:RulesT) (v:Value):Prop :=
 (v = .tuple #[.pointer none,.bool false]∧exploreF R (kindsAt R.allow 256) = none) ∨
 ∃ fb tv sv ov T S To PS g,v = .tuple #[.pointer (some ⟨fb,0,none⟩),.bool true]∧FoundAt w' w.heap.size fb tv sv ov T S To∧FP ts R PS.length T S To PS g∧exploreF R (kindsAt R.allow 256) = some g
theorem FoundAt.start (w:World) (tb sb gb fb:Nat) (h1:Blk w tb #[.string noT] 9) (h2:Blk w sb #[slV 120 gb] 130) (h3:Blk w gb (boolsA row120) 4) (h4:Blk w fb #[.slice (some ⟨tb,0,none⟩) 1 1,.slice (some ⟨sb,0,none⟩) 1 1,.slice none 0 0] 133) (lo:Nat) (l1:lo ≤ tb) (l2:lo ≤ sb) (l3:lo ≤ fb) :
  FoundAt w lo fb (.slice (some ⟨tb,0,none⟩) 1 1) (.slice (some ⟨sb,0,none⟩) 1 1) (.slice none 0 0) [noT] [(gb,row120)] [] :=
 ⟨h4,ownsRow_mk (by simp) h1 (Nat.le_refl _) (by unfold maxLen; omega) (by simp) (by simp),⟨ownsRow_mk (by simp) h2 (Nat.le_refl _) (by unfold maxLen; omega) (by simp) (by simp),fun p hp=>by rw [List.mem_singleton] at hp; subst hp; exact ⟨h3,row120_len⟩⟩,⟨World.ownsRow_nil _ _ _ _,fun p hp=>by simp at hp⟩,l3,fun b hb=>by cases (Option.some.inj hb:tb = b); exact l1,fun b hb=>by cases (Option.some.inj hb:sb = b); exact l2,fun b hb=>by simp [Value.ownBlock] at hb⟩
theorem conv1d (b:Nat) (hb:b < 256) (w:World):(convert 134 9 (.slice (some ⟨w.heap.size,0,none⟩) 1 1)).run Tryz.prog (w.alloc (.cells #[.int .u8 (b:Int)] 5)).drew = .ok (.string (bytesOf [b])) (w.alloc (.cells #[.int .u8 (b:Int)] 5)).drew :=
 run_convert_bytes_back _ 134 9 5 _ 1 [UInt8.ofNat b] Tryz.underlying134 Tryz.underlying5 Tryz.underlying9 (fun j hj=>by
  have:j = 0:=by simp at hj; omega
  subst this
  have e:(UInt8.ofNat b).toNat = b:=by simp; omega
  simp only [List.getElem_cons_zero,e]
  exact World.cell?_alloc_mark w _ _ _ 0)
structure FCtx (w:World) (xb:Nat) (rs:ByteArray) (f:Nat→Int) (rules:List MT) (ts:List PT) (R:RulesT) (lv:Value) (low:List Int):Prop where
 lex:LexR w xb rs f rules
 nt:ntL rules = ts.map PT.nt0
 read:ReadT rs R ts
 row:IRow w lv low
 len:low.length = 256
 low:∀ b,b < 256→∃ k:Nat,low.getD b 0 = (k:Int)∧LowIs R.allow b k
theorem FCtx.below {w w':World} {xb:Nat} {rs:ByteArray} {f:Nat→Int} {rules:List MT} {ts:List PT} {R:RulesT} {lv:Value} {low:List Int} (h:FCtx w xb rs f rules ts R lv low) (k:Below w.heap.size w w'):FCtx w' xb rs f rules ts R lv low:=⟨h.lex.below k,h.nt,h.read,h.row.below k,h.len,h.low⟩
set_option maxRecDepth 20000 in
set_option maxHeartbeats 12800000 in
theorem refFind_any (xb:Nat) (rs:ByteArray) (f:Nat→Int) (rules:List MT) (ts:List PT) (R:RulesT) (lv:Value) (low:List Int) (w:World) (h:FCtx w xb rs f rules ts R lv low) :
  Calls Tryz.prog 28 #[.pointer (some ⟨xb,0,none⟩),lv] w fun e w'=>∃ v,e = .returned v∧FindOut w w' ts R v∧Below w.heap.size w w':=by
 have hm1:=make120
 have hm2:=make256
 obtain ⟨ld,lcap,rfl,hlrow⟩:=h.row.form
 have hll:=h.len
 rw [hll] at hlrow
 rcases hlrow with e | ⟨lg,rfl⟩
 ·omega
 obtain ⟨L,hL⟩:∃ L,low.length = L:=⟨_,rfl⟩
 have HC:=hide h
 rw [hL] at HC hll ⊢
 subst hll
 have zx:=h.lex.cells.1
 clear h hL
 go_enter Tryz.func28,Tryz.ntmps28
 go_wp2_with fail
 obtain ⟨F,hF0⟩:∃ F,w.heap.size + 1 + 1 + 1 = F:=⟨_,rfl⟩
 have HF0:=hide hF0
 have hFl:w.heap.size ≤ F:=by omega
 try rw [hF0]
 clear hF0
 go_loopg [7] 62 (fun G nv wr=>∃ (n:Nat) (tv sv ov:Value) (T:List ByteArray) (S:List (Nat × List Bool)) (To:List (Nat × List Int)) (PS:List PSet) (g:Graph),nv = .int .i64 (n:Int)∧n ≤ T.length∧G = 62 - n∧FoundAt wr w.heap.size F tv sv ov T S To∧FP ts R n T S To PS g∧Below w.heap.size w wr)
 case atStart =>
  have e:=HF0.out
  subst e
  have b1:Blk (w.alloc (.cells #[.string noT] 9)) w.heap.size #[.string noT] 9:=Blk.new _ _ _
  have b2:Blk ((w.alloc (.cells #[.string noT] 9)).alloc (.cells (boolsA row120) 4)) (w.heap.size + 1) (boolsA row120) 4:=by
   have:=Blk.new (w.alloc (.cells #[.string noT] 9)) (boolsA row120) 4
   rwa [show (w.alloc (.cells #[.string noT] 9)).heap.size = w.heap.size + 1 by simp] at this
  have b3:Blk (((w.alloc (.cells #[.string noT] 9)).alloc (.cells (boolsA row120) 4)).alloc (.cells #[slV 120 (w.heap.size + 1)] 130)) (w.heap.size + 1 + 1) #[slV 120 (w.heap.size + 1)] 130:=by
   have:=Blk.new ((w.alloc (.cells #[.string noT] 9)).alloc (.cells (boolsA row120) 4)) #[slV 120 (w.heap.size + 1)] 130
   rwa [show ((w.alloc (.cells #[.string noT] 9)).alloc (.cells (boolsA row120) 4)).heap.size = w.heap.size + 1 + 1 by simp] at this
  have b4:Blk ((((w.alloc (.cells #[.string noT] 9)).alloc (.cells (boolsA row120) 4)).alloc (.cells #[slV 120 (w.heap.size + 1)] 130)).alloc (.cells #[.slice (some ⟨w.heap.size,0,none⟩) 1 1,.slice (some ⟨w.heap.size + 1 + 1,0,none⟩) 1 1,.slice none 0 0] 133)) (w.heap.size + 1 + 1 + 1) #[.slice (some ⟨w.heap.size,0,none⟩) 1 1,.slice (some ⟨w.heap.size + 1 + 1,0,none⟩) 1 1,.slice none 0 0] 133:=by
   have:=Blk.new (((w.alloc (.cells #[.string noT] 9)).alloc (.cells (boolsA row120) 4)).alloc (.cells #[slV 120 (w.heap.size + 1)] 130)) #[.slice (some ⟨w.heap.size,0,none⟩) 1 1,.slice (some ⟨w.heap.size + 1 + 1,0,none⟩) 1 1,.slice none 0 0] 133
   rwa [show (((w.alloc (.cells #[.string noT] 9)).alloc (.cells (boolsA row120) 4)).alloc (.cells #[slV 120 (w.heap.size + 1)] 130)).heap.size = w.heap.size + 1 + 1 + 1 by simp] at this
  exact ⟨0,_,_,_,[noT],[(w.heap.size + 1,row120)],[],_,_,rfl,by simp,rfl,FoundAt.start _ w.heap.size (w.heap.size + 1 + 1) (w.heap.size + 1) (w.heap.size + 1 + 1 + 1) (((b1.alloc _).alloc _).alloc _) (b3.alloc _) ((b2.alloc _).alloc _) b4 _ (by omega) (by omega) (by omega),FP.start ts R _,(((Below1 _ _).alloc (by simp) _).alloc (by simp; omega) _).alloc (by simp; omega) _⟩
 case round =>
  obtain ⟨n,tv,sv,ov,T,S,To,PS,g,rfl,hn,rfl,hF,hP,hB⟩:=hrel
  obtain ⟨_,td,tcap,rfl,htd⟩:=ownsRow_form hF.txt
  have c0:wr.cell? ⟨F,0,none⟩ = some (.slice td T.length tcap):=hF.blk.cell 0
  have hT61:T.length ≤ 61:=by rw [hP.sets.tl]; exact hP.inv.top
  have zf:=hF.blk.lt
  by_cases hlt:n < T.length
  ·have e0:decide ((n:Int) < (T.length:Int)) = true:=by simp; omega
   have HI:=hide (And.intro hF (And.intro hP hB))
   clear hF hP hB htd
   obtain ⟨wo,rfl⟩:∃ wo:World,wo = wr:=⟨_,rfl⟩
   go_wp2_with fail
   go_loopg [9] 256 (fun G bv wr=>∃ (b:Nat) (tv sv:Value) (T2:List ByteArray) (S:List (Nat × List Bool)) (PS2:List PSet) (row rl:List Int),bv = .int .i64 (b:Int)∧b ≤ 256∧G = 256 - b∧FoundAt wr w.heap.size F tv sv ov T2 S To∧RP ts R n b T2 S PS PS2 row rl∧Blk wr wo.heap.size (intsA rl) 3∧Below w.heap.size w wr)
   case atStart =>
    obtain ⟨hF,hP,hB⟩:=HI.out
    exact ⟨0,_,_,T,S,PS,[],row256,rfl,by omega,rfl,hF.below (Below1 _ _),hP.begins row256_len,Blk.new _ _ _,hB.alloc hB.size _⟩
   case round =>
    obtain ⟨b,tv2,sv2,T2,S2,PS2,row,rl,rfl,hb,rfl,hF2,hR,hRB,hB2⟩:=hrel
    by_cases hlt2:b < 256
    ·obtain ⟨k,hk1,hk2⟩:=HC.out.low b hlt2
     have cl:wr.cell? ⟨lg,b,none⟩ = some (.int .i64 (k:Int)):=by rw [← hk1]; exact (HC.out.below hB2).row.getD b (by rw [HC.out.len]; exact hlt2)
     have e1:decide ((b:Int) < 256) = true:=by simp; omega
     have b0:(0:Int) ≤ (b:Int):=by omega
     have b1:(b:Int) < 256:=by omega
     have k0:(0:Int) ≤ (k:Int):=by omega
     have cb:=intsA_cellD hRB b (by rw [hR.rlen]; exact hlt2)
     have fb:=hRB.frozen b
     have zr:=hRB.lt
     have hTo:∀ p ∈ To,p.1 ≠ wo.heap.size:=fun p hp e=>by have:=(HI.out.1.tos.each p hp).1.lt; omega
     have HTo:=hide hTo
     clear hTo
     by_cases hkb:k < b
     ·have e2:decide ((k:Int) < (b:Int)) = true:=by simp; omega
      have k1:(k:Int) < 256:=by omega
      have ck:=intsA_cellD hRB k (by rw [hR.rlen]; omega)
      have HJ:=hide (And.intro hF2 (And.intro hR (And.intro hRB (And.intro hB2 hk2))))
      clear hF2 hR hRB hB2 hk2 hk1
      generalize hx:rl.getD k 0 = x at ck
      generalize rl.getD b 0 = y at cb
      have HX:=hide hx
      clear hx
      go_wp2_with fail
      go_roundg (256 - (b + 1))
      case measure=>omega
      case rel =>
       obtain ⟨q1,q2,q3,q4,q5⟩:=HJ.out
       have q9:=q2.skip hlt2 q5 hkb
       rw [HX.out] at q9
       refine ⟨b + 1,_,_,T2,S2,PS2,row,_,by go_num,by omega,rfl,q1.write q3 HTo.out b _,q9,by rw [← intsA_set]; exact q3.set b _,q4.setCell (show w.heap.size ≤ wo.heap.size by omega) _⟩
     ·obtain rfl:k = b:=by have:=hk2.1; omega
      have e2:decide ((k:Int) < (k:Int)) = false:=by simp
      have hpre:=hR.inv.pre.length_le
      have hnP:n < PS.length:=by rw [← HI.out.2.1.sets.tl]; exact hlt
      have hTl:=hR.sets.tl
      have hnT:n < T2.length:=by omega
      obtain ⟨_,td2,tcap2,rfl,hf2⟩:=ownsRow_form hF2.txt
      rcases hf2 with ⟨_,e⟩ | ⟨tg,tc,rfl,htb,_⟩
      ·omega
      have c02:wr.cell? ⟨F,0,none⟩ = some (.slice (some ⟨tg,0,none⟩) T2.length tcap2):=hF2.blk.cell 0
      have ct:wr.cell? ⟨tg,n,none⟩ = some (.string T2[n]):=by rw [ownsRow_cell hF2.txt n (by omega)]; simp [hnT]
      have hsz:=(hR.size hnT).1
      have h61:=(hR.size hnT).2.2
      obtain ⟨s,hs⟩:∃ s,T2[n] ++ bytesOf [k] = s:=⟨_,rfl⟩
      have hss:s.size ≤ 20000:=by rw [← hs,ByteArray.size_append,bytesOf_size]; simp; omega
      have n0:(0:Int) ≤ (n:Int):=by omega
      have n1:(n:Int) < (T2.length:Int):=by omega
      have hcv:=conv1d k hlt2 wr
      have hkw:IntKind.u8.wrap (k:Int) = (k:Int):=by unfold IntKind.wrap; simp [IntKind.bits,IntKind.signed]; omega
      have zf2:=hF2.blk.lt
      have ztg:=htb.lt
      have hnl:¬ (9223372036854775807 < T2[n].size + (bytesOf [k]).size):=by rw [bytesOf_size]; simp; omega
      have HS:=hide hs
      have HS0:=hide hs
      have HJ:=hide (And.intro hF2 (And.intro hR (And.intro hRB (And.intro hB2 hk2))))
      have hzz:=hB2.size
      clear hF2 hR hRB hB2 hk2 hk1 hTl hpre htb
      generalize T2[n] = tn at ct HS hs hsz hnl
      clear hs
      go_upto_region 11 with fail
      go_cut [10] (fun sv wx=>sv = .string s∧Below wr.heap.size wr wx)
      case first =>
       go_region
       all_goals
        go_wp2_with fail
        go_meet
        exact ⟨by rw [← HS.out],Below_drewN ((Below.refl _ _).alloc (Nat.le_refl _) _) 1⟩
      case rest =>
       obtain ⟨rfl,hbc⟩:=hcut
       obtain ⟨q1,q2,q3,q4,q5⟩:=HJ.out
       have g1:=q1.below hbc
       have g3:=q3.below hbc
       have g4:Below w.heap.size w wc:=q4.trans (hbc.mono q4.size)
       have HSet:=hide (refSet_any xb rs s f rules wc (HC.out.below g4).lex hss)
       have hS100:S2.length ≤ 100:=by have:=(q2.size hnT).2.1; omega
       have HG:=hide (And.intro g1 (And.intro g3 g4))
       clear q1 q2 q3 q4 q5 g1 g3 g4 hbc c02 ct cl cb fb hcv hkw hnl hsz c0
       go_wp2_with fail
       refine HSet.out.mono ?_
       rintro e w1 ⟨l,rfl,hl,hls,hlb,hb1⟩
       have HE:=hide (refEmpty_any wc.heap.size 120 120 l w1 hlb hl (by omega))
       have HL:=hide (And.intro hl (And.intro hls (And.intro hlb hb1)))
       clear hl hls hlb hb1 HSet
       go_wp2_with fail
       refine HE.out.mono ?_
       rintro e w2 ⟨x,rfl,hx,hb2⟩
       have HAt:=hide (refAt_any F wc.heap.size w.heap.size _ _ _ T2 S2 To l w2 ((HG.out.1.below HL.out.2.2.2).below hb2) (HL.out.2.2.1.below hb2) HL.out.1 hS100)
       unfold slV at HAt
       have HX:=hide (And.intro hx hb2)
       clear hx hb2 HE
       go_wp2_with fail
       refine HAt.out.mono ?_
       rintro e w3 ⟨r,rfl,hr,hb3⟩
       obtain ⟨q1,q2,q3,q4,q5⟩:=HJ.out
       obtain ⟨g1,g3,g4⟩:=HG.out
       obtain ⟨l1,l2,l3,l4⟩:=HL.out
       obtain ⟨x1,x2⟩:=HX.out
       have hb23:Below wc.heap.size wc w3:=(l4.trans (x2.mono l4.size)).trans (hb3.mono (Nat.le_trans l4.size x2.size))
       have hF4:=g1.below hb23
       have hR4:=g3.below hb23
       have hB4:Below w.heap.size w w3:=g4.trans (hb23.mono g4.size)
       have hS4:=(l3.below x2).below hb3
       have hset:RSetIs ts (bytesN s) l:=⟨l1,fun a=>by rw [l2 a]; exact rules_ts HC.out.nt (fun x=>x.PLast (bytesN s) a)⟩
       have hne:bytesN s ≠ []:=fun e=>by
        have:=congrArg List.length e
        rw [bytesN_len,← HS0.out,ByteArray.size_append,bytesOf_size] at this
        simp at this
       have hat:=SetsOf.at HC.out.read q2.inv.texts q2.inv.nodup q2.sets hne hset hr x1
       have c0:w3.cell? ⟨F,0,none⟩ = some (.slice (some ⟨tg,0,none⟩) T2.length tcap2):=hF4.blk.cell 0
       have cb:=intsA_cellD hR4 k (by rw [q2.rlen]; exact hlt2)
       generalize rl.getD k 0 = y at cb
       have fb:=hR4.frozen k
       have zf4:=hF4.blk.lt
       have zr4:=hR4.lt
       have HTL:=hide q2.sets.tl
       have hh:Hid (∀ v,findF PS2 (setW R (bytesN s)) = v→v ≠ (PS2.length:Int)→RP ts R n (k + 1) T2 S2 PS PS2 (row ++ [v]) (rl.set k v)):=hide fun v hv hn'=>q2.known hnP hlt2 q5 hnT (by rw [HS0.out]; exact hv) hn'
       have HF:=hide (And.intro hF4 (And.intro hR4 (And.intro hB4 hS4)))
       have HQ:=hide (And.intro q2 (And.intro q5 hset))
       have hzw:=hB4.size
       clear q1 q2 q3 q4 q5 g1 g3 g4 l1 l2 l3 l4 x1 x2 hb23 hF4 hR4 hB4 hS4 hset hne hr hb3 HG HL HX HJ HAt
       rcases hat with ⟨rfl,rfl,hf⟩ | ⟨rfl,rfl,hf⟩ | ⟨rfl,i,h0,hi,rfl,hf⟩
       ·have HV:=hide (hh.out _ hf (by omega))
        have e3:decide ((60:Int) < (T2.length:Int) - 1) = false:=by simp; omega
        clear hh hf HQ
        go_wp2_with fail
        go_roundg (256 - (k + 1))
        case measure=>omega
        case rel =>
         obtain ⟨a1,a2,a3,a4⟩:=HF.out
         exact ⟨k + 1,_,_,T2,S2,PS2,_,_,by go_num,by omega,rfl,a1.write a2 HTo.out k _,HV.out,by rw [← intsA_set]; exact a2.set k _,a3.setCell (show w.heap.size ≤ wo.heap.size by omega) _⟩
       ·have hsz1:(T2.map Value.string).length + 1 ≤ 4000000:=by rw [List.length_map]; omega
        have hsz2:(S2.map (fun p:Nat × List Bool=>slV 120 p.1)).length + 1 ≤ 4000000:=by rw [List.length_map]; omega
        have HA:Hid ((w3.alloc (.cells #[.string s] 9)).ownsRow 0 9 1 (.slice (some ⟨tg,0,none⟩) T2.length tcap2) (T2.map Value.string).length (T2.map Value.string)):=by rw [List.length_map]; exact hide (rowAl HF.out.1.txt _)
        have HOW:Hid (∀ x,(Value.slice (some ⟨tg,0,none⟩) T2.length tcap2).ownBlock = some x→w.heap.size ≤ x):=hide HF.out.1.own.2.1
        obtain ⟨m,hm⟩:∃ m,T2.length + 1 = m:=⟨_,rfl⟩
        have HV:=hide hf
        have HM:=hide hm
        have hm62:m ≤ 62:=by omega
        clear hf hh hm
        go_wp2_with (at_builtin; (refine append1 Tryz.underlying76 Tryz.infoTxt3 rfl (by omega) (la:=T2.map Value.string) (ll:=[.string s]) (va:=.slice (some ⟨tg,0,none⟩) T2.length tcap2) (vl:=.slice (some ⟨w3.heap.size,0,none⟩) 1 1) (by rfl) _ _ (by rfl) (by rfl) (by rfl) HA.out (one_row w3 9 (.string s)) (fun u hu=>by rw [List.mem_singleton] at hu; rw [hu]; rfl) w.heap.size (by simp; omega) HOW.out hsz1 ?_))
        intro v6 w6 r1 r2 r3
        obtain ⟨d6,cap6,rfl⟩:∃ d6 cap6,v6 = .slice d6 m cap6:=by obtain ⟨_,d6,cap6,e,_⟩:=ownsRow_form r1; exact ⟨d6,cap6,by rw [← HM.out]; simpa using e⟩
        have hF3:=HF.out.1.below (Below1 w3 (.cells #[.string s] 9))
        have hR3:=HF.out.2.1.below (Below1 w3 (.cells #[.string s] 9))
        have hS3:=HF.out.2.2.2.below (Below1 w3 (.cells #[.string s] 9))
        have b6:Blk w6 F #[.slice (some ⟨tg,0,none⟩) T2.length tcap2,sv2,ov] 133:=hF3.blk.kept r3 (fun e=>ownsRow_ne hF3.txt hF3.blk (by decide) e)
        have c6:w6.cell? ⟨F,0,none⟩ = some (.slice (some ⟨tg,0,none⟩) T2.length tcap2):=b6.cell 0
        have f6:=b6.frozen 0
        have z6:=b6.lt
        have hB6:Below w.heap.size w w6:=Below_kept (HF.out.2.2.1.alloc hzw _) r3 (by simp; omega) (fun x hx e=>by have:=HOW.out x e; omega)
        have hF7:=hF3.text (by simpa using r1) r2 r3
        have hR7:=hF3.other (v6:=.slice d6 m cap6) hF3.txt r3 0 hR3 (by decide) (by decide)
        have hS7:=hF3.other (v6:=.slice d6 m cap6) hF3.txt r3 0 hS3 (by decide) (by decide)
        have hB7:=hB6.setCell (p:=⟨F,0,none⟩) hFl (.slice d6 m cap6)
        obtain ⟨w7,hw7⟩:∃ w7,w6.setCell ⟨F,0,none⟩ (.slice d6 m cap6) = w7:=⟨_,rfl⟩
        rw [hw7] at hF7 hR7 hS7 hB7
        have HF7:=hide (And.intro hF7 (And.intro hR7 (And.intro hB7 hS7)))
        clear r1 r2 r3 hF3 hR3 hS3 b6 hB6 hF7 hR7 hS7 hB7 HA HOW hsz1 cb fb c0
        go_upto_region 18 with fail
        try rw [hw7]
        clear hw7 c6 f6
        obtain ⟨_,sd2,scap2,e9,_⟩:=ownsRow_form HF7.out.1.sets.row
        subst e9
        have c7:w7.cell? ⟨F,1,none⟩ = some (.slice sd2 S2.length scap2):=HF7.out.1.blk.cell 1
        have z7:=HF7.out.1.blk.lt
        have hz7:=HF7.out.2.2.1.size
        have HA:Hid ((w7.alloc (.cells #[slV 120 wc.heap.size] 130)).ownsRow 0 130 1 (.slice sd2 S2.length scap2) (S2.map (fun p:Nat × List Bool=>slV 120 p.1)).length (S2.map (fun p:Nat × List Bool=>slV 120 p.1))):=by rw [List.length_map]; exact hide (rowAl HF7.out.1.sets.row _)
        have HOW:Hid (∀ x,(Value.slice sd2 S2.length scap2).ownBlock = some x→w.heap.size ≤ x):=hide HF7.out.1.own.2.2.1
        go_wp2_with (at_builtin; (refine append1 Tryz.underlying131 Tryz.infoRB3 rfl (by omega) (la:=S2.map (fun p:Nat × List Bool=>slV 120 p.1)) (ll:=[slV 120 wc.heap.size]) (va:=.slice sd2 S2.length scap2) (vl:=.slice (some ⟨w7.heap.size,0,none⟩) 1 1) (by rfl) _ _ (by rfl) (by rfl) (by rfl) HA.out (one_row w7 130 (slV 120 wc.heap.size)) (fun u hu=>by rw [List.mem_singleton] at hu; rw [hu]; rfl) w.heap.size (by simp; omega) HOW.out hsz2 ?_))
        intro v8 w8 r1 r2 r3
        obtain ⟨d8,m8,cap8,rfl⟩:∃ d8 m8 cap8,v8 = .slice d8 m8 cap8:=by obtain ⟨_,d6,cap6,e,_⟩:=ownsRow_form r1; exact ⟨_,_,_,e⟩
        have hF3:=HF7.out.1.below (Below1 w7 (.cells #[slV 120 wc.heap.size] 130))
        have hR3:=HF7.out.2.1.below (Below1 w7 (.cells #[slV 120 wc.heap.size] 130))
        have hS3:=HF7.out.2.2.2.below (Below1 w7 (.cells #[slV 120 wc.heap.size] 130))
        have b8:Blk w8 F #[.slice d6 m cap6,.slice sd2 S2.length scap2,ov] 133:=hF3.blk.kept r3 (fun e=>ownsRow_ne hF3.sets.row hF3.blk (by decide) e)
        have c8:w8.cell? ⟨F,1,none⟩ = some (.slice sd2 S2.length scap2):=b8.cell 1
        have f8:=b8.frozen 1
        have hB8:Below w.heap.size w w8:=Below_kept (HF7.out.2.2.1.alloc hz7 _) r3 (by simp; omega) (fun x hx e=>by have:=HOW.out x e; omega)
        have hF9:=hF3.set hS3 HQ.out.2.2.1 (by simpa using r1) r2 r3
        have hR9:=hF3.other (v6:=.slice d8 m8 cap8) hF3.sets.row r3 1 hR3 (by decide) (by decide)
        have hB9:=hB8.setCell (p:=⟨F,1,none⟩) hFl (.slice d8 m8 cap8)
        obtain ⟨w9,hw9⟩:∃ w9,w8.setCell ⟨F,1,none⟩ (.slice d8 m8 cap8) = w9:=⟨_,rfl⟩
        rw [hw9] at hF9 hR9 hB9
        have HF9:=hide (And.intro hF9 (And.intro hR9 hB9))
        clear r1 r2 r3 hF3 hR3 hS3 b8 hB8 hF9 hR9 hB9 HA HOW hsz2 c7
        go_upto_region 19 with fail
        try rw [hw9]
        clear hw9 c8 f8
        have c9:w9.cell? ⟨F,0,none⟩ = some (.slice d6 m cap6):=HF9.out.1.blk.cell 0
        have z9:=HF9.out.1.blk.lt
        by_cases ht:PS2.length + 1 ≤ 61
        ·have e3:decide ((60:Int) < (m:Int) - 1) = false:=by have:=HTL.out; have:=HM.out; simp; omega
         obtain ⟨q2,q5,hset⟩:=HQ.out
         have hfr:=q2.fresh (gb:=wc.heap.size) (l:=l) hnP hlt2 q5 hnT (by rw [HS0.out]; exact hset) (by rw [HS0.out]; exact HV.out) ht
         rw [HS0.out,← HTL.out] at hfr
         have cb:=intsA_cellD HF9.out.2.1 k (by rw [q2.rlen]; exact hlt2)
         generalize rl.getD k 0 = y at cb
         have fb:=HF9.out.2.1.frozen k
         have HFR:=hide hfr
         clear q2 q5 hset hfr
         go_wp2_with fail
         go_roundg (256 - (k + 1))
         case measure=>omega
         case rel =>
          obtain ⟨a1,a2,a3⟩:=HF9.out
          exact ⟨k + 1,_,_,_,_,_,_,_,by go_num,by omega,rfl,a1.write a2 HTo.out k _,HFR.out,by rw [← intsA_set]; exact a2.set k _,a3.setCell (show w.heap.size ≤ wo.heap.size by omega) _⟩
        ·have e3:decide ((60:Int) < (m:Int) - 1) = true:=by have:=HTL.out; have:=HM.out; simp; omega
         go_wp2_with fail
         go_ret2
         obtain ⟨q2,q5,hset⟩:=HQ.out
         exact ⟨_,rfl,.inl ⟨rfl,q2.fail HI.out.2.1.inv hnP hlt2 q5 hnT (by rw [HS0.out]; exact HV.out) (by omega)⟩,HF9.out.2.2⟩
       ·have HV:=hide (hh.out _ hf (by omega))
        have e3:decide ((60:Int) < (T2.length:Int) - 1) = false:=by simp; omega
        have e4:decide ((i:Int) < 0) = false:=by simp
        clear hh hf HQ
        go_wp2_with fail
        go_roundg (256 - (k + 1))
        case measure=>omega
        case rel =>
         obtain ⟨a1,a2,a3,a4⟩:=HF.out
         exact ⟨k + 1,_,_,T2,S2,PS2,_,_,by go_num,by omega,rfl,a1.write a2 HTo.out k _,HV.out,by rw [← intsA_set]; exact a2.set k _,a3.setCell (show w.heap.size ≤ wo.heap.size by omega) _⟩
    ·obtain rfl:b = 256:=by omega
     have e1:decide (((256:Nat):Int) < 256) = false:=by simp
     obtain ⟨_,od,ocap,e',_⟩:=ownsRow_form hF2.tos.row
     have c2:wr.cell? ⟨F,2,none⟩ = some (.slice od To.length ocap):=by rw [← e']; exact hF2.blk.cell 2
     have HO:Hid (ov = .slice od To.length ocap):=hide e'
     have zf2:=hF2.blk.lt
     have hzz:=hB2.size
     have hTl:(To.map (fun p:Nat × List Int=>slV 256 p.1)).length + 1 ≤ 4000000:=by rw [List.length_map,HI.out.2.1.tl]; omega
     have HA:Hid ((wr.alloc (.cells #[slV 256 wo.heap.size] 60)).ownsRow 0 60 1 (.slice od To.length ocap) (To.map (fun p:Nat × List Int=>slV 256 p.1)).length (To.map (fun p:Nat × List Int=>slV 256 p.1))):=by rw [← e',List.length_map]; exact hide (rowAl hF2.tos.row _)
     have HOW:Hid (∀ x,(Value.slice od To.length ocap).ownBlock = some x→w.heap.size ≤ x):=by rw [← e']; exact hide hF2.own.2.2.2
     have HJ:=hide (And.intro hF2 (And.intro hR (And.intro hRB hB2)))
     clear hF2 hR hRB hB2 e'
     go_wp2_with (at_builtin; (refine append1 Tryz.underlying61 Tryz.infoN3 rfl (by omega) (la:=To.map (fun p:Nat × List Int=>slV 256 p.1)) (ll:=[slV 256 wo.heap.size]) (va:=.slice od To.length ocap) (vl:=.slice (some ⟨wr.heap.size,0,none⟩) 1 1) (by rfl) _ _ (by rfl) (by rfl) (by rfl) HA.out (one_row wr 60 (slV 256 wo.heap.size)) (fun u hu=>by rw [List.mem_singleton] at hu; rw [hu]; rfl) w.heap.size (by simp; omega) HOW.out hTl ?_))
     intro v6 w6 r1 r2 r3
     obtain ⟨d6,m6,cap6,rfl⟩:∃ d6 m6 cap6,v6 = .slice d6 m6 cap6:=by obtain ⟨_,d6,cap6,e,_⟩:=ownsRow_form r1; exact ⟨_,_,_,e⟩
     have hF3:=HJ.out.1.below (Below1 wr (.cells #[slV 256 wo.heap.size] 60))
     have hRB3:=HJ.out.2.2.1.below (Below1 wr (.cells #[slV 256 wo.heap.size] 60))
     have b6:Blk w6 F #[tv2,sv2,ov] 133:=hF3.blk.kept r3 (fun e=>by rw [← HO.out] at e; exact ownsRow_ne hF3.tos.row hF3.blk (by decide) e)
     have c6:w6.cell? ⟨F,2,none⟩ = some ov:=b6.cell 2
     have f6:=b6.frozen 2
     have hB6:Below w.heap.size w w6:=Below_kept (HJ.out.2.2.2.alloc hzz _) r3 (by simp; omega) (fun x hx e=>by have:=HOW.out x e; omega)
     have HK:Hid (FoundAt (w6.setCell ⟨F,2,none⟩ (.slice d6 m6 cap6)) w.heap.size F tv2 sv2 (.slice d6 m6 cap6) T2 S2 (To ++ [(wo.heap.size,rl)])∧Below w.heap.size w (w6.setCell ⟨F,2,none⟩ (.slice d6 m6 cap6))):=hide ⟨hF3.tos' hRB3 HJ.out.2.1.rlen (by simpa using r1) r2 (by rw [HO.out]; exact r3),hB6.setCell hFl _⟩
     clear r1 r2 r3 hF3 hRB3 b6 hB6 HA HOW
     go_wp2_with fail
     go_roundg (62 - (n + 1))
     case measure=>omega
     case rel =>
      obtain ⟨q1,q2,q3,q4⟩:=HJ.out
      obtain ⟨p1,p2,p3⟩:=HI.out
      have hnn:n < PS.length:=by rw [← p2.sets.tl]; exact hlt
      have:=q2.inv.pre.length_le
      have:=q2.sets.tl
      refine ⟨n + 1,_,_,_,T2,S2,_,PS2,_,by go_num,by omega,rfl,HK.out.1,q2.done p2 hnn wo.heap.size,HK.out.2⟩
  ·have e0:decide ((n:Int) < (T.length:Int)) = false:=by simp; omega
   have HI:=hide (And.intro hF (And.intro hP hB))
   clear hF hP hB htd
   go_wp2_with fail
   go_ret2
   obtain ⟨hF,hP,hB⟩:=HI.out
   have hnn:n = PS.length:=by have:=hP.sets.tl; omega
   exact ⟨_,rfl,.inr ⟨_,_,_,_,T,S,To,PS,g,rfl,hF,by rw [← hnn]; exact hP,hP.inv.done (by omega)⟩,hB⟩
structure GP (T:List ByteArray) (To:List (Nat × List Int)) (g:Graph) (K:Nat) (kd:Nat→Nat) (rules:List MT):Prop where
 tl:T.length = g.rule.length
 ol:To.length = g.rule.length
 ok:GOk g K
 top:0 < g.rule.length∧g.rule.length ≤ 61
 size:∀ i,(h:i < T.length)→T[i].size ≤ 20000
 step:∀ i b,(h:i < To.length)→b < 256→To[i].2.getD b 0 = stepK g (i:Int) (kd b)
 kin:∀ b,b < 256→kd b < K
 onto:∀ k,k < K→∃ b,b < 256∧kd b = k
 tok:∀ i r,(h:i < T.length)→MTokIs rules (bytesN T[i]) r→r = g.rule.getD i 0
section
variable {T:List ByteArray} {To:List (Nat × List Int)} {g:Graph} {K:Nat} {kd:Nat→Nat} {rules:List MT} {l l0:List Bool}
theorem GP.leads (h:GP T To g K kd rules) {i b:Nat} (hi:i < g.rule.length) (hb:b < 256):stepK g (i:Int) (kd b) = -1∨∃ t:Nat,t < g.rule.length∧stepK g (i:Int) (kd b) = (t:Int):=by
 rcases stepK_in h.ok (s:=(i:Int)) (by omega) (by omega) (h.kin b hb) with e | ⟨e1,e2⟩
 ·exact .inl e
 ·exact .inr ⟨(stepK g (i:Int) (kd b)).toNat,by omega,by omega⟩
theorem acc_nat (g:Graph) (i:Nat):accK g (i:Int) = g.rule.getD i 0:=by unfold accK; rw [if_neg (by omega),Int.toNat_natCast]
theorem lives_acc {g:Graph} {K i:Nat} (h:g.rule.getD i 0 ≠ -1):Lives g K (i:Int):=⟨[],by simp,by show accK g (i:Int) ≠ -1; rw [acc_nat]; exact h⟩
theorem lives_step {g:Graph} {K i k t:Nat} (hk:k < K) (e:stepK g (i:Int) k = (t:Int)) (h:Lives g K (t:Int)):Lives g K (i:Int):=by
 obtain ⟨ks,h1,h2⟩:=h
 refine ⟨k :: ks,fun x hx=>?_,?_⟩
 ·rw [List.mem_cons] at hx
  rcases hx with rfl | hx
  ·exact hk
  ·exact h1 x hx
 ·show accK g (runK g (stepK g (i:Int) k) ks) ≠ -1
  rw [e]; exact h2
def SoundA (g:Graph) (K:Nat) (l:List Bool):Prop:=∀ i:Nat,i < g.rule.length→l.getD i false = true→Lives g K (i:Int)
def AccA (g:Graph) (l:List Bool):Prop:=∀ i,i < g.rule.length→g.rule.getD i 0 ≠ -1→l.getD i false = true
def VisA (g:Graph) (kd:Nat→Nat) (l:List Bool) (n b:Nat):Prop:=∀ i c t:Nat,i < g.rule.length→c < 256→(i < n∨(i = n∧c < b))→stepK g (i:Int) (kd c) = (t:Int)→l.getD t false = true→l.getD i false = true
def ClosedA (g:Graph) (kd:Nat→Nat) (l:List Bool):Prop:=VisA g kd l g.rule.length 0
theorem VisA.row {n:Nat} (h:VisA g kd l n 256):VisA g kd l (n + 1) 0:=fun i c t hi hc hv=>h i c t hi hc (by omega)
theorem VisA.next {n b:Nat} (h:VisA g kd l n b) (hx:∀ t:Nat,stepK g (n:Int) (kd b) = (t:Int)→l.getD t false = true→l.getD n false = true):VisA g kd l n (b + 1):=fun i c t hi hc hv=>by
 by_cases e:i = n∧c = b
 ·obtain ⟨rfl,rfl⟩:=e; exact hx t
 ·exact h i c t hi hc (by omega)
theorem closed_lives (h:GP T To g K kd rules) (ha:AccA g l) (hc:ClosedA g kd l):∀ (ks:List Nat) (i:Nat),i < g.rule.length→(∀ k ∈ ks,k < K)→accK g (runK g (i:Int) ks) ≠ -1→l.getD i false = true
 | [],i,hi,_,hx=>ha i hi (by rw [← acc_nat]; exact hx)
 |k :: ks,i,hi,hk,hx=>by
  have hx':accK g (runK g (stepK g (i:Int) k) ks) ≠ -1:=hx
  obtain ⟨b,hb,rfl⟩:=h.onto k (hk k (by simp))
  rcases h.leads hi hb with e | ⟨t,ht,e⟩
  ·rw [e,runK_dead g ks (-1) (by omega)] at hx'
   exfalso
   apply hx'
   have h1:accK g (-1) = -1:=by unfold accK; rw [if_pos (by omega)]
   split <;> exact h1
  ·rw [e] at hx'
   have:=closed_lives h ha hc ks t ht (fun x hx=>hk x (by simp [hx])) hx'
   exact hc i b t hi hb (.inl hi) e this
structure SweepA (g:Graph) (K:Nat) (kd:Nat→Nat) (l0 l:List Bool) (n b:Nat):Prop where
 len:l.length = g.rule.length
 sound:SoundA g K l
 acc:AccA g l
 or:(l = l0∧VisA g kd l0 n b)∨(¬ ClosedA g kd l0∧l0.count true < l.count true)
theorem countB_set:∀ (l:List Bool) (i:Nat),i < l.length→l.getD i false = false→(l.set i true).count true = l.count true + 1
 | [],i,h,_=>by simp at h
 |a :: l,0,_,h=>by
  simp at h
  subst h
  simp
 |a :: l,i + 1,h,hx=>by
  have:=countB_set l i (by simpa using h) (by simpa using hx)
  rw [List.set_cons_succ,List.count_cons,List.count_cons,this]
  omega
theorem SweepA.start (h1:l0.length = g.rule.length) (h2:SoundA g K l0) (h3:AccA g l0):SweepA g K kd l0 l0 0 0:=⟨h1,h2,h3,.inl ⟨rfl,fun i c t hi hc hv=>by omega⟩⟩
theorem SweepA.row {n:Nat} (h:SweepA g K kd l0 l n 256):SweepA g K kd l0 l (n + 1) 0:=⟨h.len,h.sound,h.acc,h.or.imp (fun e=>⟨e.1,e.2.row⟩) id⟩
theorem SweepA.pass {n b:Nat} (h:SweepA g K kd l0 l n b) (hx:∀ t:Nat,stepK g (n:Int) (kd b) = (t:Int)→l.getD t false = false):SweepA g K kd l0 l n (b + 1):=⟨h.len,h.sound,h.acc,h.or.imp (fun e=>⟨e.1,e.2.next (fun t ht hl=>by rw [← e.1,hx t ht] at hl; cases hl)⟩) id⟩
theorem SweepA.mark (hg:GP T To g K kd rules) {n b t:Nat} (h:SweepA g K kd l0 l n b) (hn:n < g.rule.length) (hb:b < 256) (ht:t < g.rule.length) (e:stepK g (n:Int) (kd b) = (t:Int)) (hl:l.getD t false = true):SweepA g K kd l0 (l.set n true) n (b + 1):=by
 have hlen:=h.len
 refine ⟨by simp [hlen],fun i hi hx=>?_,fun i hi hx=>?_,?_⟩
 ·rw [getD_setB _ _ _ _ (by omega)] at hx
  by_cases ei:i = n
  ·rw [ei]; exact lives_step (hg.kin b hb) e (h.sound t ht hl)
  ·rw [if_neg ei] at hx; exact h.sound i hi hx
 ·rw [getD_setB _ _ _ _ (by omega)]
  by_cases ei:i = n
  ·rw [if_pos ei]
  ·rw [if_neg ei]; exact h.acc i hi hx
 ·cases hln:l.getD n false with
  |true =>
   have es:l.set n true = l:=by
    refine bools_ext (by simp) fun a=>?_
    rw [getD_setB _ _ _ _ (by omega)]
    by_cases ea:a = n
    ·rw [if_pos ea,ea,hln]
    ·rw [if_neg ea]
   rw [es]
   refine h.or.imp (fun e'=>⟨e'.1,e'.2.next (fun t' _ _=>by rw [← e'.1]; exact hln)⟩) id
  |false =>
   have hc:=countB_set l n (by omega) hln
   rcases h.or with ⟨e1,e2⟩ | ⟨e1,e2⟩
   ·refine .inr ⟨fun hcl=>?_,by rw [hc,e1]; omega⟩
    have:=hcl n b t hn hb (.inl hn) e (by rw [← e1]; exact hl)
    rw [← e1,hln] at this; cases this
   ·exact .inr ⟨e1,by omega⟩
structure TopA (g:Graph) (K:Nat) (kd:Nat→Nat) (l:List Bool) (k:Nat):Prop where
 len:l.length = g.rule.length
 sound:SoundA g K l
 acc:AccA g l
 or:ClosedA g kd l∨k ≤ l.count true
theorem SweepA.done {k:Nat} (h:SweepA g K kd l0 l g.rule.length 0) (h0:TopA g K kd l0 k):TopA g K kd l (k + 1):=by
 refine ⟨h.len,h.sound,h.acc,?_⟩
 rcases h.or with ⟨e1,e2⟩ | ⟨e1,e2⟩
 ·exact .inl (by rw [e1]; exact e2)
 ·rcases h0.or with e | e
  ·exact absurd e e1
  ·exact .inr (by omega)
theorem TopA.end (hg:GP T To g K kd rules) (h:TopA g K kd l g.rule.length) {i:Nat} (hi:i < g.rule.length):l.getD i false = true↔Lives g K (i:Int):=by
 refine ⟨h.sound i hi,fun ⟨ks,h1,h2⟩=>?_⟩
 rcases h.or with e | e
 ·exact closed_lives hg h.acc e ks i hi h1 h2
 ·have h3:l.count true = l.length:=Nat.le_antisymm List.count_le_length (by rw [h.len]; exact e)
  rw [List.count_eq_length] at h3
  have hlen:=h.len
  rw [List.getD_eq_getElem?_getD,List.getElem?_eq_getElem (by omega)]
  exact (h3 _ (List.getElem_mem _)).symm
end
theorem FoundAt.to {w:World} {lo fb:Nat} {tv sv ov:Value} {T:List ByteArray} {S:List (Nat × List Bool)} {To:List (Nat × List Int)} (h:FoundAt w lo fb tv sv ov T S To) (h0:0 < To.length):∃ og ocap,w.cell? ⟨fb,2,none⟩ = some (.slice (some ⟨og,0,none⟩) To.length ocap)∧∀ i,(hi:i < To.length)→w.cell? ⟨og,i,none⟩ = some (.slice (some ⟨To[i].1,0,none⟩) 256 256)∧∀ b,b < 256→w.cell? ⟨To[i].1,b,none⟩ = some (.int .i64 (To[i].2.getD b 0)):=by
 have hr:=h.tos.row
 obtain ⟨_,od,ocap,rfl,⟨_,e⟩ | ⟨og,oc,rfl,_⟩⟩:=ownsRow_form hr
 ·omega
 refine ⟨og,ocap,h.blk.cell 2,fun i hi=>⟨by rw [ownsRow_cell hr i (by omega)]; simp [slV,hi],fun b hb=>?_⟩⟩
 obtain ⟨h1,h2⟩:=h.tos.each To[i] (List.getElem_mem hi)
 exact intsA_cellD h1 b (by omega)
theorem FoundAt.txt' {w:World} {lo fb:Nat} {tv sv ov:Value} {T:List ByteArray} {S:List (Nat × List Bool)} {To:List (Nat × List Int)} (h:FoundAt w lo fb tv sv ov T S To) (h0:0 < T.length):∃ tg tcap,w.cell? ⟨fb,0,none⟩ = some (.slice (some ⟨tg,0,none⟩) T.length tcap)∧∀ i,(hi:i < T.length)→w.cell? ⟨tg,i,none⟩ = some (.string T[i]):=by
 have hr:=h.txt
 obtain ⟨_,od,ocap,rfl,⟨_,e⟩ | ⟨og,oc,rfl,_⟩⟩:=ownsRow_form hr
 ·omega
 exact ⟨og,ocap,h.blk.cell 0,fun i hi=>by rw [ownsRow_cell hr i (by omega)]; simp [hi]⟩
set_option maxRecDepth 20000 in
set_option maxHeartbeats 12800000 in
theorem refAlive_any (xb fb lo:Nat) (rs:ByteArray) (f:Nat→Int) (rules:List MT) (tv sv ov:Value) (T:List ByteArray) (S:List (Nat × List Bool)) (To:List (Nat × List Int)) (g:Graph) (K:Nat) (kd:Nat→Nat) (w:World) (hL:LexR w xb rs f rules) (hF:FoundAt w lo fb tv sv ov T S To) (hG:GP T To g K kd rules) :
  Calls Tryz.prog 55 #[.pointer (some ⟨xb,0,none⟩),.pointer (some ⟨fb,0,none⟩)] w fun e w'=>∃ l,e = .returned (.slice (some ⟨w.heap.size,0,none⟩) T.length T.length)∧Blk w' w.heap.size (boolsA l) 4∧l.length = T.length∧(∀ i:Nat,i < T.length→(l.getD i false = true↔Lives g K (i:Int)))∧Below w.heap.size w w':=by
 have htl:=hG.tl
 have hto:=hG.top
 obtain ⟨N,hN⟩:∃ N,T.length = N:=⟨_,rfl⟩
 have hN61:N ≤ 61:=by omega
 have hN0:0 < N:=by omega
 have hmk:=makeBools N (by omega)
 obtain ⟨tg,tcap,c0,ct⟩:=hF.txt' (by omega)
 have zf:=hF.blk.lt
 have HC:=hide (And.intro hL (And.intro hF (And.intro hG (And.intro hN ct))))
 rw [hN] at c0 ⊢
 obtain ⟨w1,hw1⟩:∃ w1:World,w.alloc (.cells (boolsA (List.replicate N false)) 4) = w1:=⟨_,rfl⟩
 have hB1:Below w.heap.size w w1:=by rw [← hw1]; exact Below1 _ _
 have hO1:Blk w1 w.heap.size (boolsA (List.replicate N false)) 4:=by rw [← hw1]; exact Blk.new _ _ _
 have H1:=hide (And.intro hB1 hO1)
 clear hL hF hG hN ct htl hto hB1 hO1
 go_enter Tryz.func55,Tryz.ntmps55
 go_upto_region 2 with fail
 try rw [hw1]
 clear hw1 hmk
 go_wp2_with fail
 go_loopg [6] N (fun G nv wr=>∃ (n:Nat) (l:List Bool),nv = .int .i64 (n:Int)∧n ≤ N∧G = N - n∧l.length = N∧(∀ i,i < N→l.getD i false = decide (i < n∧g.rule.getD i 0 ≠ -1))∧Blk wr w.heap.size (boolsA l) 4∧Below w.heap.size w wr)
 case atStart =>
  refine ⟨0,_,rfl,by omega,rfl,by simp,fun i hi=>?_,H1.out.2,H1.out.1⟩
  rw [List.getD_eq_getElem?_getD,List.getElem?_replicate]; split <;> simp
 case round =>
  obtain ⟨n,l,rfl,hn,rfl,hl,hlv,hO,hB⟩:=hrel
  have zo:=hO.lt
  have hzz:=hB.size
  by_cases hlt:n < N
  ·have e0:decide ((n:Int) < (N:Int)) = true:=by simp; omega
   obtain ⟨hL,hF,hG,hN,ct⟩:=HC.out
   have hnT:n < T.length:=by omega
   have c02:wr.cell? ⟨fb,0,none⟩ = some (.slice (some ⟨tg,0,none⟩) N tcap):=by rw [hB.cell zf]; exact c0
   obtain ⟨tg',tcap',c9,ct9⟩:=(hF.below hB).txt' (by omega)
   have e9:tg' = tg:=by rw [c02] at c9; injection c9 with e; injection e with e; injection e with e; injection e with e; exact e.symm
   subst e9
   have ct2:=ct9 n hnT
   have HT:=hide (refTok_any xb rs T[n] f rules wr (hL.below hB) (hG.size n hnT))
   have htok:=hide (hG.tok n · hnT)
   generalize T[n] = tn at ct2 HT htok
   have n0:(0:Int) ≤ (n:Int):=by omega
   have n1:(n:Int) < (N:Int):=by omega
   have HI:=hide (And.intro hl (And.intro hlv (And.intro hO hB)))
   clear hL hF hG hN ct ct9 c9 hnT hl hlv hO hB
   go_wp2_with fail
   refine HT.out.mono ?_
   rintro e w2 ⟨r,rfl,hr,hb2⟩
   have hrr:=htok.out r hr
   obtain ⟨x,hx⟩:∃ x,(r != -1) = x:=⟨_,rfl⟩
   obtain ⟨a1,a2,a3,a4⟩:=HI.out
   have a3':=a3.below hb2
   have cb:=boolsA_cellD a3' n (by omega)
   generalize l.getD n false = y at cb
   have fb2:=a3'.frozen n
   have zo2:=a3'.lt
   have HR:=hide (And.intro hrr (And.intro hb2 hx))
   clear hrr hb2 hr a1 a2 a3 a4 a3' HT htok
   go_wp2_with fail
   go_roundg (N - (n + 1))
   case measure=>omega
   case rel =>
    obtain ⟨a1,a2,a3,a4⟩:=HI.out
    obtain ⟨b1,b2,b3⟩:=HR.out
    refine ⟨n + 1,l.set n x,by go_num,by omega,rfl,by simp [a1],fun i hi=>?_,by rw [← boolsA_set]; exact (a3.below b2).set n _,(a4.trans (b2.mono a4.size)).setCell (Nat.le_refl _) _⟩
    rw [getD_setB _ _ _ _ (by omega)]
    by_cases ei:i = n
    ·subst ei
     rw [if_pos rfl,← b3,b1]
     generalize g.rule.getD i 0 = q
     by_cases e5:q = -1
     ·simp [e5]
     ·simp [e5]
    ·rw [if_neg ei,a2 i hi]
     have:(i < n + 1∧g.rule.getD i 0 ≠ -1)↔(i < n∧g.rule.getD i 0 ≠ -1):=by
      constructor
      ·rintro ⟨p,q⟩; exact ⟨by omega,q⟩
      ·rintro ⟨p,q⟩; exact ⟨by omega,q⟩
     simp only [this]
  ·have e0:decide ((n:Int) < (N:Int)) = false:=by simp; omega
   have hnN:n = N:=by omega
   obtain ⟨hL,hF,hG,hN,ct⟩:=HC.out
   have htl:=hG.tl
   have top0:TopA g K kd l 0:=by
    refine ⟨by omega,fun i hi hx=>?_,fun i hi hx=>?_,.inr (Nat.zero_le _)⟩
    ·rw [hlv i (by omega)] at hx
     exact lives_acc (of_decide_eq_true hx).2
    ·rw [hlv i (by omega)]
     exact decide_eq_true ⟨by omega,hx⟩
   have hON:To.length = N:=by have:=hG.ol; omega
   have HO:=hide (And.intro hON hF)
   have HN:=hide (hN.symm.trans htl)
   have HG:=hide hG
   have HT0:=hide (And.intro top0 (And.intro hO hB))
   clear hL hF hG hN ct htl top0 hl hlv hO hB hnN c0 hON HC
   go_wp2_with fail
   go_loopg [7] N (fun G kv wr=>∃ (k:Nat) (l:List Bool),kv = .int .i64 (k:Int)∧k ≤ N∧G = N - k∧TopA g K kd l k∧Blk wr w.heap.size (boolsA l) 4∧Below w.heap.size w wr)
   case atStart=>exact ⟨0,l,rfl,by omega,rfl,HT0.out.1,HT0.out.2.1,HT0.out.2.2⟩
   case round =>
    obtain ⟨k,l,rfl,hk,rfl,hT,hO,hB⟩:=hrel
    by_cases hkN:k < N
    ·have e1:decide ((k:Int) < (N:Int)) = true:=by simp; omega
     have HI:=hide (And.intro hT (And.intro hO hB))
     clear hT hO hB
     go_wp2_with fail
     go_loopg [8] N (fun G nv wr=>∃ (n:Nat) (l2:List Bool),nv = .int .i64 (n:Int)∧n ≤ N∧G = N - n∧SweepA g K kd l l2 n 0∧Blk wr w.heap.size (boolsA l2) 4∧Below w.heap.size w wr)
     case atStart=>exact ⟨0,l,rfl,by omega,rfl,SweepA.start HI.out.1.len HI.out.1.sound HI.out.1.acc,HI.out.2.1,HI.out.2.2⟩
     case round =>
      obtain ⟨n,l2,rfl,hn,rfl,hS,hO,hB⟩:=hrel
      by_cases hnN:n < N
      ·have e2:decide ((n:Int) < (N:Int)) = true:=by simp; omega
       have HJ:=hide (And.intro hS (And.intro hO hB))
       clear hS hO hB
       go_wp2_with fail
       go_loopg [9] 256 (fun G bv wr=>∃ (b:Nat) (l3:List Bool),bv = .int .i64 (b:Int)∧b ≤ 256∧G = 256 - b∧SweepA g K kd l l3 n b∧Blk wr w.heap.size (boolsA l3) 4∧Below w.heap.size w wr)
       case atStart=>exact ⟨0,l2,rfl,by omega,rfl,HJ.out.1,HJ.out.2.1,HJ.out.2.2⟩
       case round =>
        obtain ⟨b,l3,rfl,hb,rfl,hS,hO,hB⟩:=hrel
        by_cases hbl:b < 256
        ·have e3:decide ((b:Int) < 256) = true:=by simp; omega
         obtain ⟨hON,hF⟩:=HO.out
         obtain ⟨og,ocap,o1,o2⟩:=(hF.below hB).to (by omega)
         obtain ⟨p1,p2⟩:=o2 n (by omega)
         have p3:=p2 b hbl
         rw [HG.out.step n b (by omega) hbl] at p3
         rw [hON] at o1
         generalize To[n].1 = ob at p1 p3
         have n0:(0:Int) ≤ (n:Int):=by omega
         have n1:(n:Int) < (N:Int):=by omega
         have b0:(0:Int) ≤ (b:Int):=by omega
         have b1:(b:Int) < 256:=by omega
         have cn:=boolsA_cellD hO n (by rw [hS.len,← HN.out]; exact hnN)
         have fn:=hO.frozen n
         generalize hyn:l3.getD n false = yn at cn
         clear hyn
         have zo3:=hO.lt
         rcases HG.out.leads (i:=n) (b:=b) (by rw [← HN.out]; exact hnN) hbl with e | ⟨t,ht,e⟩
         ·rw [e] at p3
          have HQ:=hide (And.intro hS (And.intro hO (And.intro hB e)))
          clear hS hO hB e hF o2 p2 hON
          go_wp2_with fail
          go_roundg (256 - (b + 1))
          case measure=>omega
          case rel =>
           obtain ⟨a1,a2,a3,a4⟩:=HQ.out
           exact ⟨b + 1,l3,by go_num,by omega,rfl,a1.pass (fun t ht=>by rw [a4] at ht; omega),a2,a3⟩
         ·rw [e] at p3
          have htN:t < N:=by rw [HN.out]; exact ht
          have t0:(0:Int) ≤ (t:Int):=by omega
          have t1:(t:Int) < (N:Int):=by omega
          have e5:decide ((0:Int) ≤ (t:Int)) = true:=by simp
          have cy:=boolsA_cellD hO t (by rw [hS.len,← HN.out]; exact htN)
          generalize hy:l3.getD t false = y at cy
          have HQ:=hide (And.intro hS (And.intro hO (And.intro hB (And.intro e (And.intro hy ht)))))
          clear hS hO hB e hF o2 p2 hON hy ht
          cases y with
          |true =>
           go_wp2_with fail
           go_roundg (256 - (b + 1))
           case measure=>omega
           case rel =>
            obtain ⟨a1,a2,a3,a4,a5,a6⟩:=HQ.out
            exact ⟨b + 1,l3.set n true,by go_num,by omega,rfl,a1.mark HG.out (by rw [← HN.out]; exact hnN) hbl a6 a4 a5,by rw [← boolsA_set]; exact a2.set n _,a3.setCell (Nat.le_refl _) _⟩
          |false =>
           go_wp2_with fail
           go_roundg (256 - (b + 1))
           case measure=>omega
           case rel =>
            obtain ⟨a1,a2,a3,a4,a5,a6⟩:=HQ.out
            exact ⟨b + 1,l3,by go_num,by omega,rfl,a1.pass (fun t' ht=>by rw [a4] at ht; rw [show t' = t by omega]; exact a5),a2,a3⟩
        ·have e3:decide ((b:Int) < 256) = false:=by simp; omega
         have hb256:b = 256:=by omega
         have HQ:=hide (And.intro hS (And.intro hO hB))
         clear hS hO hB
         go_wp2_with fail
         go_roundg (N - (n + 1))
         case measure=>omega
         case rel =>
          obtain ⟨a1,a2,a3⟩:=HQ.out
          rw [hb256] at a1
          exact ⟨n + 1,l3,by go_num,by omega,rfl,a1.row,a2,a3⟩
      ·have e2:decide ((n:Int) < (N:Int)) = false:=by simp; omega
       have hnn:n = N:=by omega
       have HQ:=hide (And.intro hS (And.intro hO hB))
       clear hS hO hB
       go_wp2_with fail
       go_roundg (N - (k + 1))
       case measure=>omega
       case rel =>
        obtain ⟨a1,a2,a3⟩:=HQ.out
        rw [hnn,HN.out] at a1
        exact ⟨k + 1,l2,by go_num,by omega,rfl,a1.done HI.out.1,a2,a3⟩
    ·have e1:decide ((k:Int) < (N:Int)) = false:=by simp; omega
     have hkk:k = N:=by omega
     have HQ:=hide (And.intro hT (And.intro hO hB))
     clear hT hO hB
     go_wp2_with fail
     go_ret
     obtain ⟨a1,a2,a3⟩:=HQ.out
     rw [hkk,HN.out] at a1
     refine ⟨l,rfl,a2,by rw [a1.len]; exact HN.out.symm,fun i hi=>a1.end HG.out (by rw [← HN.out]; exact hi),a3⟩
end Go.Proofs.YtcckhngbdoiikaaGreat
