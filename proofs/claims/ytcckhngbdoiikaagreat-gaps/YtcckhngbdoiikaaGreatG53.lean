import Derived.Test.YtcckhngbdoiikaaGreatG52

namespace Go.Proofs.YtcckhngbdoiikaaGreat
open Go.RowKit Go.Deep
set_option linter.unusedVariables false
structure BoundIs (kd:Nat→Nat) (g:Graph) (k:Nat) (gf gt gl gp ga:ByteArray):Prop where
 e1:gl.size = 0
 e2:gp.size = 0
 e3:ga.size = 0
 zero:k = 0→gf.size = 0∧gt.size = 0
 some:0 < k→gf.size ≤ g.rule.length∧∃ (z:ByteArray) (s:Nat),z.size = k∧gt = gf ++ z∧runK g 0 ((bytesN gf).map kd) = (s:Int)∧(gf.size = 0∨ruleOfF g (s:Int) ≠ -1)∧NextIs kd g s z
abbrev gapCs (gb:Bool) (gk:Nat) (gf gt gl gp ga:ByteArray):Array Value:=#[.bool gb,.int .i64 (gk:Int),.string gf,.string gt,.string gl,.string gp,.string ga]
set_option maxRecDepth 20000 in
set_option maxHeartbeats 6400000 in
theorem refBounded_any (yb:Nat) (kd:Nat→Nat) (g:Graph) (TX:List ByteArray) (k:Nat) (gf gt gl gp ga:ByteArray) (w:World) (h:RLexP w yb kd g TX) (hG:LexG kd g) (hk:k ≤ 61) (hb:BoundIs kd g k gf gt gl gp ga) :
  Calls Tryz.prog 16 #[.pointer (some ⟨yb,0,none⟩),.agg (gapCs true k gf gt gl gp ga),.int .i64 (k:Int)] w fun e w'=>e = .returned (.bool true)∧Below w.heap.size w w':=by
 have h1:=isEmptyB gl hb.e1
 have h2:=isEmptyB gp hb.e2
 have h3:=isEmptyB ga hb.e3
 have kk:((k:Int) != (k:Int)) = false:=by simp
 by_cases hk0:k = 0
 ·have hz:=hb.zero hk0
  have h4:=isEmptyB gf hz.1
  have h5:=isEmptyB gt hz.2
  subst hk0
  clear hb hz h hG
  go_enter Tryz.func16,Tryz.ntmps16
  go_wp2_with fail
  go_ret
  exact ⟨rfl,Below1 _ _⟩
 ·obtain ⟨hgf,z,s,z1,z2,z3,z4,z5⟩:=hb.some (by omega)
  have k2:((k:Int) == 0) = false:=by rw [beq_eq_false_iff_ne]; omega
  have hts:gt.size = gf.size + k:=by rw [z2,ByteArray.size_append,z1]
  have hfew:=h.pos.2
  have hx1:gt.extract 0 gf.size = gf:=by rw [z2]; exact extract_appQ _ _
  have hx2:gt.extract gf.size gt.size = z:=by rw [z2]; exact extract_restQ _ _
  have m1:((gt.extract 0 gf.size).toList != gf.toList) = false:=by rw [hx1]; simp
  have m1':((gt.extract 0 gf.size).toList == gf.toList) = true:=by rw [hx1]; simp
  obtain ⟨zy,⟨tg,tcap,c3,_⟩,_⟩:=h.cells
  obtain ⟨w1,hw1⟩:∃ w1:World,w.alloc (.cells (gapCs true k gf gt gl gp ga) 42) = w1:=⟨_,rfl⟩
  have hb1:Below w.heap.size w w1:=by rw [← hw1]; exact Below1 _ _
  have hB1:Blk w1 w.heap.size (gapCs true k gf gt gl gp ga) 42:=by rw [← hw1]; exact Blk.new _ _ _
  have HST:Hid (∀ W,Below w.heap.size w W→Calls Tryz.prog 33 #[.pointer (some ⟨yb,0,none⟩),.string gf] W fun e w'=>e = .returned (.int .i64 (s:Int))∧Below W.heap.size W w'):=hide fun W q=>refStart_any yb kd g TX s gf W (h.below q) hG (by omega) z3 z4
  have HNX:Hid (∀ W,Below w.heap.size w W→Calls Tryz.prog 34 #[.pointer (some ⟨yb,0,none⟩),.int .i64 (s:Int),.string (gt.extract gf.size gt.size)] W fun e w'=>e = .returned (.bool true)∧Below W.heap.size W w'):=hide fun W q=>by rw [hx2]; exact refNextT_any yb kd g TX s z W (h.below q) hG (by omega) z5
  have e1:decide ((g.rule.length:Int) < (gf.size:Int)) = false:=by rw [decide_eq_false_iff_not]; omega
  have e1':¬ g.rule.length < gf.size:=by omega
  have j0:(0:Int) ≤ (gf.size:Int):=by omega
  have j1:(gf.size:Int) ≤ (gt.size:Int):=by omega
  obtain ⟨q,hq⟩:∃ q:Nat,(gf.size:Int) + (k:Int) = (q:Int):=⟨gf.size + k,by omega⟩
  have m2:((gt.size:Int) != (q:Int)) = false:=by rw [bne_eq_false_iff_eq]; omega
  have hqs:gt.size = q:=by omega
  have hq9:q ≤ 200:=by omega
  have b1:IntKind.i64.wrap ((gf.size:Int) + (k:Int)) = (q:Int):=(Go.IntWalk.i64_left _).trans (by rw [hq]; unfold wrap64; omega)
  have HB1:=hide (And.intro hb1 hB1)
  have hk3:¬ k = 0:=hk0
  have g0:=hB1.cell 0
  have g1:=hB1.cell 1
  have g2:=hB1.cell 2
  have g3:=hB1.cell 3
  have g4:=hB1.cell 4
  have g5:=hB1.cell 5
  have g6:=hB1.cell 6
  have c3':=(hb1.cell (p:=⟨yb,3,none⟩) zy).trans c3
  have zg:=hB1.lt
  have zy1:yb < w1.heap.size:=by have:=hb1.size; omega
  clear hts hx1 hx2 z1 z2 z3 z4 z5 hb h hG hk0 hq hqs hb1 hB1 c3
  go_enter Tryz.func16,Tryz.ntmps16
  go_upto_region 6 with fail
  try rw [hw1]
  clear hw1
  go_quiet (fail)
  obtain ⟨w2,hw2⟩:∃ w2:World,w1.drewN nq = w2:=⟨_,rfl⟩
  have hb2:Below w1.heap.size w1 w2:=by rw [← hw2]; exact Below_drewN (Below.refl _ _) _
  try rw [hw2]
  clear hw2 b1 m2 g0 g1 g2 g3 g4 g5 g6 c3'
  have hB2:=HB1.out.2.below hb2
  have hbb2:=HB1.out.1.trans (hb2.mono HB1.out.1.size)
  have g2:=hB2.cell 2
  have zg2:=hB2.lt
  have HB2:=hide (And.intro hbb2 hB2)
  have HST2:=hide (HST.out w2 hbb2)
  clear hb2 hB2 hbb2 HST
  go_wp2_with fail
  refine HST2.out.mono ?_
  rintro e w3 ⟨rfl,hb3⟩
  have hB3:=HB2.out.2.below hb3
  have hbb3:=HB2.out.1.trans (hb3.mono HB2.out.1.size)
  have g3:=hB3.cell 3
  have zg3:=hB3.lt
  have HNX3:=hide (HNX.out w3 hbb3)
  have HB3:=hide hbb3
  clear hb3 hB3 hbb3 HNX HST2 g2
  go_wp2_with fail
  refine HNX3.out.mono ?_
  rintro e w4 ⟨rfl,hb4⟩
  have HB4:=hide (HB3.out.trans (hb4.mono HB3.out.size))
  clear hb4 HNX3
  go_wp2_with fail
  go_ret
  exact ⟨rfl,HB4.out⟩
structure EndlessIs (kd:Nat→Nat) (g:Graph) (gf gt gl gp ga:ByteArray):Prop where
 e3:gt.size = 0
 p1:0 < gp.size
 p2:0 < ga.size
 l1:gf.size ≤ g.rule.length
 l2:gl.size ≤ g.rule.length
 l3:gp.size ≤ g.rule.length
 l4:ga.size ≤ g.rule.length
 next:∃ s:Nat,runK g 0 ((bytesN gf).map kd) = (s:Int)∧(gf.size = 0∨ruleOfF g (s:Int) ≠ -1)∧∀ i,NextIs kd g s (turnsB gl gp i ++ ga)
set_option maxRecDepth 20000 in
set_option maxHeartbeats 6400000 in
theorem refEndless_any (yb:Nat) (kd:Nat→Nat) (g:Graph) (TX:List ByteArray) (gf gt gl gp ga:ByteArray) (w:World) (h:RLexP w yb kd g TX) (hG:LexG kd g) (hb:EndlessIs kd g gf gt gl gp ga) :
  Calls Tryz.prog 17 #[.pointer (some ⟨yb,0,none⟩),.agg (gapCs false 0 gf gt gl gp ga)] w fun e w'=>e = .returned (.bool true)∧Below w.heap.size w w':=by
 have n3:=isEmptyB gt hb.e3
 have n1:=notEmpty gp (by have:=hb.p1; omega)
 have n2:=notEmpty ga (by have:=hb.p2; omega)
 have hfew:=h.pos.2
 have l1:=hb.l1
 have l2:=hb.l2
 have l3:=hb.l3
 have l4:=hb.l4
 obtain ⟨s,z3,z4,z5⟩:=hb.next
 obtain ⟨zy,⟨tg,tcap,c3,_⟩,_⟩:=h.cells
 obtain ⟨n,hn⟩:∃ n,g.rule.length = n:=⟨_,rfl⟩
 have hsz:∀ i,i ≤ n + 2→(turnsB gl gp i).size ≤ 4000∧(turnsB gl gp i ++ ga).size ≤ 4000:=fun i hi=>by
  have h1:=turnsB_size gl gp i
  have h2:i * gp.size ≤ 63 * 61:=Nat.mul_le_mul (by omega) (by omega)
  rw [ByteArray.size_append]
  omega
 have HSZ:=hide hsz
 have HST:Hid (∀ W,Below w.heap.size w W→Calls Tryz.prog 33 #[.pointer (some ⟨yb,0,none⟩),.string gf] W fun e w'=>e = .returned (.int .i64 (s:Int))∧Below W.heap.size W w'):=hide fun W q=>refStart_any yb kd g TX s gf W (h.below q) hG (by omega) z3 z4
 have HNX:Hid (∀ W i,i ≤ n + 2→Below w.heap.size w W→Calls Tryz.prog 34 #[.pointer (some ⟨yb,0,none⟩),.int .i64 (s:Int),.string (turnsB gl gp i ++ ga)] W fun e w'=>e = .returned (.bool true)∧Below W.heap.size W w'):=hide fun W i hi q=>refNextT_any yb kd g TX s _ W (h.below q) hG (by have:=(hsz i hi).2; omega) (z5 i)
 rw [hn] at c3 l1 l2 l3 l4 hfew
 have e3:decide ((n:Int) < (gf.size:Int)) = false:=by rw [decide_eq_false_iff_not]; omega
 have e4:decide ((n:Int) < (gl.size:Int)) = false:=by rw [decide_eq_false_iff_not]; omega
 have e5:decide ((n:Int) < (gp.size:Int)) = false:=by rw [decide_eq_false_iff_not]; omega
 have e6:decide ((n:Int) < (ga.size:Int)) = false:=by rw [decide_eq_false_iff_not]; omega
 have e3':¬ n < gf.size:=by omega
 have e4':¬ n < gl.size:=by omega
 have e5':¬ n < gp.size:=by omega
 have e6':¬ n < ga.size:=by omega
 obtain ⟨w1,hw1⟩:∃ w1:World,w.alloc (.cells (gapCs false 0 gf gt gl gp ga) 42) = w1:=⟨_,rfl⟩
 have hb1:Below w.heap.size w w1:=by rw [← hw1]; exact Below1 _ _
 have hB1:Blk w1 w.heap.size (gapCs false 0 gf gt gl gp ga) 42:=by rw [← hw1]; exact Blk.new _ _ _
 have HB1:=hide (And.intro hb1 hB1)
 have HST1:=hide (HST.out w1 hb1)
 have g0:=hB1.cell 0
 have g1:=hB1.cell 1
 have g2:=hB1.cell 2
 have g3:=hB1.cell 3
 have g4:=hB1.cell 4
 have g5:=hB1.cell 5
 have g6:=hB1.cell 6
 have c3':=(hb1.cell (p:=⟨yb,3,none⟩) zy).trans c3
 have zg:=hB1.lt
 have zy1:yb < w1.heap.size:=by have:=hb1.size; omega
 clear hb h hG z3 z4 z5 hsz HST hn hb1 hB1 c3
 go_enter Tryz.func17,Tryz.ntmps17
 go_upto_region 6 with fail
 try rw [hw1]
 clear hw1 e3 e4 e5 e6 e3' e4' e5' e6' c3' n1 n2 n3 g0 g1 g3 g4 g5 g6
 go_wp2_with fail
 refine HST1.out.mono ?_
 rintro e w2 ⟨rfl,hb2⟩
 have hB2:=HB1.out.2.below hb2
 have hbb2:=HB1.out.1.trans (hb2.mono HB1.out.1.size)
 have g4:=hB2.cell 4
 have zg2:=hB2.lt
 have HB2:=hide (And.intro hbb2 hB2)
 clear hb2 hB2 hbb2 HST1 g2 HB1
 go_wp2_with fail
 go_loopg [7,8] (n + 2) (fun G wv iv wr=>∃ i:Nat,wv = .string (turnsB gl gp i)∧iv = .int .i64 (i:Int)∧i ≤ n + 2∧G = n + 2 - i∧Below w.heap.size w wr∧Blk wr w.heap.size (gapCs false 0 gf gt gl gp ga) 42)
 case atStart=>exact ⟨0,rfl,rfl,by omega,rfl,HB2.out.1,HB2.out.2⟩
 case round =>
  obtain ⟨i,rfl,rfl,hi,rfl,hB,hBk⟩:=hrel
  obtain ⟨y1,y2⟩:=HSZ.out i hi
  by_cases hlt:i < n + 2
  ·have e0:decide ((i:Int) ≤ (n:Int) + 1) = true:=by rw [decide_eq_true_iff]; omega
   have e0':i ≤ n + 1:=by omega
   have g6:=hBk.cell 6
   have zg3:=hBk.lt
   have u1:∀ W:World,(Op.stringOp .add (turnsB gl gp i) ga).run Tryz.prog W = .ok (.string (turnsB gl gp i ++ ga)) W:=fun W=>run_string_add_sum W _ _ (by rw [ByteArray.size_append] at y2; omega)
   have HN1:=hide (HNX.out wr i hi hB)
   have HB:=hide (And.intro hB hBk)
   clear hB hBk y1 y2
   go_wp2_with fail
   refine HN1.out.mono ?_
   rintro e w3 ⟨rfl,hb3⟩
   have hB3:=HB.out.2.below hb3
   have g5:=hB3.cell 5
   have zg4:=hB3.lt
   have HB3:=hide (And.intro (HB.out.1.trans (hb3.mono HB.out.1.size)) hB3)
   obtain ⟨y1,_⟩:=HSZ.out (i + 1) (by omega)
   have u2:∀ W:World,(Op.stringOp .add (turnsB gl gp i) gp).run Tryz.prog W = .ok (.string (turnsB gl gp i ++ gp)) W:=fun W=>run_string_add_sum W _ _ (by
    have e:turnsB gl gp (i + 1) = turnsB gl gp i ++ gp:=rfl
    rw [e,ByteArray.size_append] at y1
    omega)
   clear hb3 hB3 HN1 g6 u1 y1
   go_wp2_with fail
   go_roundg (n + 2 - (i + 1))
   case measure=>omega
   case rel=>exact ⟨i + 1,rfl,by go_num,by omega,rfl,HB3.out.1,HB3.out.2⟩
  ·have e0:decide ((i:Int) ≤ (n:Int) + 1) = false:=by rw [decide_eq_false_iff_not]; omega
   have e0':¬ i ≤ n + 1:=by omega
   have HB:=hide hB
   clear hB hBk y1 y2
   go_wp2_with fail
   go_ret
   exact ⟨rfl,HB.out⟩
theorem gap_held {R:RulesT} {kd:Nat→Nat} {g:Graph} (hR:buildF R = some (kd,g)) (hf:LexFit kd g):((gapOf kd g).bounded = true→BoundIs kd g (gapOf kd g).k (gapOf kd g).fr (gapOf kd g).tt (gapOf kd g).lead (gapOf kd g).lp (gapOf kd g).tail)∧((gapOf kd g).bounded = false→(gapOf kd g).k = 0∧EndlessIs kd g (gapOf kd g).fr (gapOf kd g).tt (gapOf kd g).lead (gapOf kd g).lp (gapOf kd g).tail):=by
 have hG:=build_lexG hR
 obtain ⟨sh1,sh2,sh3,sh4⟩:=gap_short hR hf
 refine ⟨fun hb=>?_,fun hb=>?_⟩
 ·obtain ⟨p1,p2,p3,p4,p5⟩:=gap_bounded hR hf hb
  refine ⟨p1,p2,p3,p4,fun hk=>?_⟩
  obtain ⟨z,z1,z2,z3⟩:=p5 hk
  obtain ⟨s,q1,q2,q3⟩:=pair_next hG z3 (by omega)
  exact ⟨sh1,z,s,z1,z2,q1,q2,q3⟩
 ·obtain ⟨_,p2,p3,p4,p5⟩:=gap_endless hR hb 0
  refine ⟨p5,p4,p2,p3,sh1,sh2,sh3,sh4,?_⟩
  have hz:∀ i,0 < (turnsB (gapOf kd g).lead (gapOf kd g).lp i ++ (gapOf kd g).tail).size:=fun i=>by rw [ByteArray.size_append]; omega
  obtain ⟨s,q1,q2,_⟩:=pair_next hG (gap_endless hR hb 0).1 (hz 0)
  refine ⟨s,q1,q2,fun i=>?_⟩
  obtain ⟨s',r1,_,r3⟩:=pair_next hG (gap_endless hR hb i).1 (hz i)
  rw [q1] at r1
  have:s = s':=by omega
  rw [this]
  exact r3
set_option maxRecDepth 20000 in
set_option maxHeartbeats 6400000 in
theorem pairGap_any (pb xb yb:Nat) {R:RulesT} (kd:Nat→Nat) (g:Graph) (TX:List ByteArray) (w:World) (h:PairAt w pb xb yb kd g TX) (hR:buildF R = some (kd,g)) (hf:LexFit kd g) :
  Calls Tryz.prog 7 #[.pointer (some ⟨pb,0,none⟩)] w fun e w'=>e = .returned (.bool true)∧Below w.heap.size w w':=by
 have hG:=build_lexG hR
 have hheld:=gap_held hR hf
 have hgk:=gapOf_kQ hf
 have HBL:=hide h.blk
 have HGA:Hid (∀ W,Below w.heap.size w W→Calls Tryz.prog 14 #[.pointer (some ⟨xb,0,none⟩)] W fun e w'=>e = .returned (gapV (gapOf kd g))∧Below W.heap.size W w'):=hide fun W k=>gap_any xb kd g W (h.lex.below' k) hf
 have HK:Hid (∀ W,Below w.heap.size w W→Calls Tryz.prog 15 #[.pointer (some ⟨yb,0,none⟩)] W fun e w'=>e = .returned (.tuple #[.int .i64 (if (gapOf kd g).bounded = true then ((gapOf kd g).k:Int) else 0),.bool (gapOf kd g).bounded])∧Below W.heap.size W w'):=hide fun W k=>refK_any yb kd g TX W (h.ref.below k) hR hf
 have HBO:Hid (∀ W k gf gt gl gp ga,Below w.heap.size w W→k ≤ 61→BoundIs kd g k gf gt gl gp ga→Calls Tryz.prog 16 #[.pointer (some ⟨yb,0,none⟩),.agg (gapCs true k gf gt gl gp ga),.int .i64 (k:Int)] W fun e w'=>e = .returned (.bool true)∧Below W.heap.size W w'):=hide fun W k gf gt gl gp ga q hk hb=>refBounded_any yb kd g TX k gf gt gl gp ga W (h.ref.below q) hG hk hb
 have HEN:Hid (∀ W gf gt gl gp ga,Below w.heap.size w W→EndlessIs kd g gf gt gl gp ga→Calls Tryz.prog 17 #[.pointer (some ⟨yb,0,none⟩),.agg (gapCs false 0 gf gt gl gp ga)] W fun e w'=>e = .returned (.bool true)∧Below W.heap.size W w'):=hide fun W gf gt gl gp ga q hb=>refEndless_any yb kd g TX gf gt gl gp ga W (h.ref.below q) hG hb
 have c0:w.cell? ⟨pb,0,none⟩ = some (.pointer (some ⟨xb,0,none⟩)):=h.blk.cell 0
 have zb:=h.blk.lt
 clear h hG hR hf
 generalize gapOf kd g = GK at HGA HK hheld hgk
 obtain ⟨gb,gk,gf,gt,gl,gp,ga⟩:=GK
 simp only [gapV] at HGA HK hheld hgk
 have HHE:=hide hheld
 clear hheld
 have hsame:∀ W:World,Blk W w.heap.size (gapCs gb gk gf gt gl gp ga) 42→True:=fun _ _=>trivial
 clear hsame
 go_enter Tryz.func7,Tryz.ntmps7
 go_wp2_with fail
 refine (HGA.out w (Below.refl _ _)).mono ?_
 rintro e w1 ⟨rfl,hb1⟩
 obtain ⟨w1',hw1⟩:∃ w1':World,w1.alloc (.cells (gapCs gb gk gf gt gl gp ga) 42) = w1':=⟨_,rfl⟩
 have hb1':Below w.heap.size w w1':=by rw [← hw1]; exact hb1.alloc hb1.size _
 have hG1:Blk w1' w1.heap.size (gapCs gb gk gf gt gl gp ga) 42:=by rw [← hw1]; exact Blk.new _ _ _
 have c1:w1'.cell? ⟨pb,1,none⟩ = some (.pointer (some ⟨yb,0,none⟩)):=(HBL.out.below hb1').cell 1
 have zb1:=(HBL.out.below hb1').lt
 have HB1:=hide (And.intro hb1' hG1)
 have HK1:=hide (HK.out w1' hb1')
 have hzb:w.heap.size ≤ w1.heap.size:=hb1.size
 clear hb1 hb1' hG1 HK
 go_wp2_with fail
 try rw [hw1]
 clear hw1
 refine HK1.out.mono ?_
 rintro e w2 ⟨rfl,hb2⟩
 have hb2':=HB1.out.1.trans (hb2.mono HB1.out.1.size)
 have hG2:=HB1.out.2.below hb2
 have HB2:=hide (And.intro hb2' hG2)
 clear hb2 HK1 c1 c0 HB1
 have c1:w2.cell? ⟨pb,1,none⟩ = some (.pointer (some ⟨yb,0,none⟩)):=(HBL.out.below hb2').cell 1
 have zb2:=(HBL.out.below hb2').lt
 have zg:=hG2.lt
 clear hb2' hG2
 cases gb with
 |true =>
  have HB3:Hid (∀ W,Below w.heap.size w W→Calls Tryz.prog 16 #[.pointer (some ⟨yb,0,none⟩),.agg (gapCs true gk gf gt gl gp ga),.int .i64 (gk:Int)] W fun e w'=>e = .returned (.bool true)∧Below W.heap.size W w'):=hide fun W q=>HBO.out W gk gf gt gl gp ga q hgk (HHE.out.1 rfl)
  have g0:=HB2.out.2.cell 0
  have g1:=HB2.out.2.cell 1
  have g2:=HB2.out.2.cell 2
  have g3:=HB2.out.2.cell 3
  have g4:=HB2.out.2.cell 4
  have g5:=HB2.out.2.cell 5
  have g6:=HB2.out.2.cell 6
  clear HBO HEN HHE
  go_upto_region 5 with fail
  go_cut [6] (fun rv wx=>rv = .bool true∧Below w.heap.size w wx∧Blk wx w1.heap.size (gapCs true gk gf gt gl gp ga) 42)
  case first =>
   go_region_with (go_at_call 16; refine (HB3.out _ (Below_drew HB2.out.1)).mono ?_; rintro e w5 ⟨rfl,hb5⟩; have HB5:Hid (Below w2.heap.size w2 w5):=hide ((Below_drew (Below.refl _ _)).trans (hb5.mono (Nat.le_refl _))); clear hb5)
   all_goals
    go_wp2_with fail
    go_meet
    exact ⟨rfl,HB2.out.1.trans (HB5.out.mono HB2.out.1.size),HB2.out.2.below HB5.out⟩
  case rest =>
   obtain ⟨rfl,hb5,hG5⟩:=hcut
   clear g0 g1 g2 g3 g4 g5 g6 HB3 c1
   have c0:wc.cell? ⟨pb,0,none⟩ = some (.pointer (some ⟨xb,0,none⟩)):=(HBL.out.below hb5).cell 0
   have zb5:=(HBL.out.below hb5).lt
   have HGA5:=hide (HGA.out wc hb5)
   have HB5:=hide (And.intro hb5 hG5)
   clear hb5 hG5 HGA
   go_wp2_with fail
   refine HGA5.out.mono ?_
   rintro e w6 ⟨rfl,hb6⟩
   obtain ⟨w6',hw6⟩:∃ w6':World,w6.alloc (.cells (gapCs true gk gf gt gl gp ga) 42) = w6':=⟨_,rfl⟩
   have hb6':Below wc.heap.size wc w6':=by rw [← hw6]; exact hb6.alloc hb6.size _
   have hH6:Blk w6' w6.heap.size (gapCs true gk gf gt gl gp ga) 42:=by rw [← hw6]; exact Blk.new _ _ _
   have hG6:=HB5.out.2.below hb6'
   have g0:=hG6.cell 0
   have g1:=hG6.cell 1
   have g2:=hG6.cell 2
   have g3:=hG6.cell 3
   have g4:=hG6.cell 4
   have g5:=hG6.cell 5
   have g6:=hG6.cell 6
   have k0:=hH6.cell 0
   have k1:=hH6.cell 1
   have k2:=hH6.cell 2
   have k3:=hH6.cell 3
   have k4:=hH6.cell 4
   have k5:=hH6.cell 5
   have k6:=hH6.cell 6
   have HB6:=hide (HB5.out.1.trans (hb6'.mono HB5.out.1.size))
   clear hb6 hb6' hH6 hG6 HGA5
   go_upto_region 8 with fail
   try rw [hw6]
   clear hw6
   go_wp2_with fail
   go_ret
   exact ⟨by simp,HB6.out⟩
 |false =>
  obtain ⟨hk0,hen⟩:=HHE.out.2 rfl
  subst hk0
  have HB3:Hid (∀ W,Below w.heap.size w W→Calls Tryz.prog 17 #[.pointer (some ⟨yb,0,none⟩),.agg (gapCs false 0 gf gt gl gp ga)] W fun e w'=>e = .returned (.bool true)∧Below W.heap.size W w'):=hide fun W q=>HEN.out W gf gt gl gp ga q hen
  have g0:=HB2.out.2.cell 0
  have g1:=HB2.out.2.cell 1
  have g2:=HB2.out.2.cell 2
  have g3:=HB2.out.2.cell 3
  have g4:=HB2.out.2.cell 4
  have g5:=HB2.out.2.cell 5
  have g6:=HB2.out.2.cell 6
  clear HBO HEN HHE hen
  go_upto_region 6 with fail
  go_cut [6] (fun rv wx=>rv = .bool true∧Below w.heap.size w wx∧Blk wx w1.heap.size (gapCs false 0 gf gt gl gp ga) 42)
  case first =>
   go_region_with (go_at_call 17; refine (HB3.out _ (Below_drew HB2.out.1)).mono ?_; rintro e w5 ⟨rfl,hb5⟩; have HB5:Hid (Below w2.heap.size w2 w5):=hide ((Below_drew (Below.refl _ _)).trans (hb5.mono (Nat.le_refl _))); clear hb5)
   all_goals
    go_wp2_with fail
    go_meet
    exact ⟨rfl,HB2.out.1.trans (HB5.out.mono HB2.out.1.size),HB2.out.2.below HB5.out⟩
  case rest =>
   obtain ⟨rfl,hb5,hG5⟩:=hcut
   clear g0 g1 g2 g3 g4 g5 g6 HB3 c1
   have c0:wc.cell? ⟨pb,0,none⟩ = some (.pointer (some ⟨xb,0,none⟩)):=(HBL.out.below hb5).cell 0
   have zb5:=(HBL.out.below hb5).lt
   have HGA5:=hide (HGA.out wc hb5)
   have HB5:=hide (And.intro hb5 hG5)
   clear hb5 hG5 HGA
   go_wp2_with fail
   refine HGA5.out.mono ?_
   rintro e w6 ⟨rfl,hb6⟩
   obtain ⟨w6',hw6⟩:∃ w6':World,w6.alloc (.cells #[.bool false,.int .i64 0,.string gf,.string gt,.string gl,.string gp,.string ga] 42) = w6':=⟨_,rfl⟩
   have hb6':Below wc.heap.size wc w6':=by rw [← hw6]; exact hb6.alloc hb6.size _
   have hH6:Blk w6' w6.heap.size #[.bool false,.int .i64 0,.string gf,.string gt,.string gl,.string gp,.string ga] 42:=by rw [← hw6]; exact Blk.new _ _ _
   have hG6:=HB5.out.2.below hb6'
   have g0:=hG6.cell 0
   have g1:=hG6.cell 1
   have g2:=hG6.cell 2
   have g3:=hG6.cell 3
   have g4:=hG6.cell 4
   have g5:=hG6.cell 5
   have g6:=hG6.cell 6
   have k0:=hH6.cell 0
   have k1:=hH6.cell 1
   have k2:=hH6.cell 2
   have k3:=hH6.cell 3
   have k4:=hH6.cell 4
   have k5:=hH6.cell 5
   have k6:=hH6.cell 6
   have HB6:=hide (HB5.out.1.trans (hb6'.mono HB5.out.1.size))
   clear hb6 hb6' hH6 hG6 HGA5
   go_upto_region 8 with fail
   try rw [hw6]
   clear hw6
   go_wp2_with fail
   go_ret
   exact ⟨by simp,HB6.out⟩
set_option maxRecDepth 20000 in
set_option maxHeartbeats 6400000 in
theorem gaps_any (s:ByteArray) (hm:s.size ≤ maxLen) (w:World):Calls Tryz.prog 3 #[.string s] w fun e w'=>e = .returned (.bool true)∧Below w.heap.size w w':=by
 have HK:=hide (known_any w)
 have HM:=hide (fun w=>made_any s hm w)
 have HX:Hid (∀ kd g,newF s = .lexer kd g→∃ R,buildF R = some (kd,g)∧LexFit kd g):=hide fun kd g h=>by
  obtain ⟨R,hR⟩:=newF_build h
  exact ⟨R,hR,newF_fit h⟩
 obtain ⟨X,hX⟩:∃ X,newF s = X:=⟨_,rfl⟩
 rw [hX] at HM HX
 clear hm hX
 go_enter Tryz.func3,Tryz.ntmps3
 go_wp2_with fail
 refine HK.out.mono ?_
 rintro e w1 ⟨rfl,hb1⟩
 have HM1:=hide (HM.out w1)
 have HB1:=hide hb1
 clear hb1 HK HM
 cases X with
 |bad c a =>
  go_wp2_with fail
  refine HM1.out.mono ?_
  rintro e w2 ⟨hb2,rfl⟩
  have HB2:=hide hb2
  clear hb2 HM1
  go_wp2_with fail
  go_ret
  exact ⟨rfl,HB1.out.trans (HB2.out.mono HB1.out.size)⟩
 |lexer kd g =>
  obtain ⟨R,hR,hf⟩:=HX.out kd g rfl
  go_wp2_with fail
  refine HM1.out.mono ?_
  rintro e w2 ⟨hb2,pb,xb,yb,TX,rfl,hP⟩
  have HS:=hide (pairGap_any pb xb yb kd g TX w2 hP hR hf)
  have HB2:Hid (Below w.heap.size w w2):=hide (HB1.out.trans (hb2.mono HB1.out.size))
  clear hb2 HM1 hP HB1 hR hf HX
  go_wp2_with fail
  refine HS.out.mono ?_
  rintro e w3 ⟨rfl,hb3⟩
  have HB3:=hide hb3
  clear hb3 HS
  go_wp2_with fail
  go_ret
  exact ⟨rfl,HB2.out.trans (HB3.out.mono HB2.out.size)⟩
end Go.Proofs.YtcckhngbdoiikaaGreat
