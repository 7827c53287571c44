import Derived.Test.YtcckhngbdoiikaaGreatG09
import Derived.Test.YtcckhngbdoiikaaGreatG10

namespace Go.Proofs.YtcckhngbdoiikaaGreat
open Go.RowKit Go.Deep
set_option linter.unusedVariables false
theorem Rd.setM {w:World} {rb:Nat} {s:ByteArray} {p gb:Nat} (h:Rd w rb s p gb) (h1:1 ≤ p):Rd (w.setCell ⟨rb,1,none⟩ (.int .i64 ((p:Int) - 1))) rb s (p - 1) gb:=by
 have:=h.set (p - 1)
 rwa [show (((p - 1:Nat):Int)) = (p:Int) - 1 from by omega] at this
set_option maxHeartbeats 800000 in
theorem member_any (s:ByteArray) (p rb gb:Nat) (w:World) (hr:Rd w rb s p gb) (hs:s.size ≤ 120) (hp:p ≤ s.size) :
  Calls Tryz.prog 153 #[.pointer (some ⟨rb,0,none⟩)] w fun e w' =>
   e = .returned (.tuple #[.int .i64 (memberF s p).1,.int .i64 (memberF s p).2.1,.bool (memberF s p).2.2.1])∧Rd w' rb s (memberF s p).2.2.2 gb∧Kept (· = rb) w w':=by
 have hK:Kept (· = rb) w w:=Kept.refl _ _
 have hI1:=item_any s p rb gb w hr hs (by omega)
 have hpos:=itemF_pos s p hp
 unfold memberF
 rcases hI:itemF s p with ⟨lo,ok,q⟩
 rw [hI] at hI1 hpos
 simp only at hI1 hpos ⊢
 have HI1:=hide hI1
 clear hI1 hI
 cases ok with
 |false =>
  rw [if_pos (Or.inl rfl)]
  go_enter Tryz.func153,Tryz.ntmps153
  go_wp2_with fail
  refine (unhide HI1).mono ?_
  rintro e w1 ⟨rfl,hr1,hk1⟩
  have HH:Hid (Rd w1 rb s q gb∧Kept (· = rb) w w1):=⟨hr1,hk1⟩
  clear hr1 hk1
  go_wp2_with fail
  go_ret3
  exact ⟨rfl,HH.out.1,HH.out.2⟩
 |true =>
  by_cases h45:peekI s q = 45
  ·rw [if_neg (by simp [h45])]
   have hq:q < s.size:=peekI_in (by rw [h45]; decide)
   have hpos2:=itemF_pos s (q + 1) (by omega)
   rcases hI:itemF s (q + 1) with ⟨hi,ok2,q2⟩
   rw [hI] at hpos2
   simp only at hpos2 ⊢
   have hI2:∀ W,Rd W rb s (q + 1) gb→_:=fun W h=>item_any s (q + 1) rb gb W h hs (by omega)
   rw [hI] at hI2
   have HI2:=hide hI2
   clear hI2 hI
   by_cases hlt:ok2 = true∧hi < lo
   ·rw [if_pos hlt]
    obtain ⟨rfl,hlt⟩:=hlt
    go_enter Tryz.func153,Tryz.ntmps153
    go_wp2_with fail
    refine (unhide HI1).mono ?_
    rintro e w1 ⟨rfl,hr1,hk1⟩
    have c1:=hr1.c1
    have f1:=hr1.f1
    go_wp2_with fail
    refine (peek_any s q rb gb _ hr1 hs (by omega)).mono ?_
    rintro e w2 ⟨rfl,n,rfl⟩
    rw [h45]
    go_wp2_with fail
    refine ((unhide HI2) _ (hr1.drewN n).set1).mono ?_
    rintro e w2 ⟨rfl,hr2,hk2⟩
    have c2:=hr2.c1
    have f2:=hr2.f1
    go_wp2_with fail
    go_ret3
    exact ⟨rfl,hr2.setM (by omega),(((hk1.drewN n).setCell (fun _=>rfl) _).trans' hk2).setCell (fun _=>rfl) _⟩
   ·rw [if_neg hlt]
    cases ok2 with
    |false =>
     go_enter Tryz.func153,Tryz.ntmps153
     go_wp2_with fail
     refine (unhide HI1).mono ?_
     rintro e w1 ⟨rfl,hr1,hk1⟩
     have c1:=hr1.c1
     have f1:=hr1.f1
     go_wp2_with fail
     refine (peek_any s q rb gb _ hr1 hs (by omega)).mono ?_
     rintro e w2 ⟨rfl,n,rfl⟩
     rw [h45]
     go_wp2_with fail
     refine ((unhide HI2) _ (hr1.drewN n).set1).mono ?_
     rintro e w2 ⟨rfl,hr2,hk2⟩
     go_wp2_with fail
     go_ret3
     exact ⟨rfl,hr2,((hk1.drewN n).setCell (fun _=>rfl) _).trans' hk2⟩
    |true =>
     have hge:¬ hi < lo:=fun e=>hlt ⟨rfl,e⟩
     clear hlt
     go_enter Tryz.func153,Tryz.ntmps153
     go_wp2_with fail
     refine (unhide HI1).mono ?_
     rintro e w1 ⟨rfl,hr1,hk1⟩
     have c1:=hr1.c1
     have f1:=hr1.f1
     go_wp2_with fail
     refine (peek_any s q rb gb _ hr1 hs (by omega)).mono ?_
     rintro e w2 ⟨rfl,n,rfl⟩
     rw [h45]
     go_wp2_with fail
     refine ((unhide HI2) _ (hr1.drewN n).set1).mono ?_
     rintro e w2 ⟨rfl,hr2,hk2⟩
     go_wp2_with fail
     go_ret3
     exact ⟨rfl,hr2,((hk1.drewN n).setCell (fun _=>rfl) _).trans' hk2⟩
  ·rw [if_pos (Or.inr h45)]
   have e1:(peekI s q != 45) = true:=by simp [h45]
   go_enter Tryz.func153,Tryz.ntmps153
   go_wp2_with fail
   refine (unhide HI1).mono ?_
   rintro e w1 ⟨rfl,hr1,hk1⟩
   go_wp2_with fail
   refine (peek_any s q rb gb _ hr1 hs (by omega)).mono ?_
   rintro e w2 ⟨rfl,n,rfl⟩
   have HH:Hid (Rd w1 rb s q gb∧Kept (· = rb) w w1):=⟨hr1,hk1⟩
   clear hr1 hk1
   go_wp2_with fail
   go_ret3
   exact ⟨rfl,HH.out.1.drewN n,HH.out.2.drewN n⟩
theorem Rd.alloc {w:World} {rb:Nat} {s:ByteArray} {p gb:Nat} (h:Rd w rb s p gb) (o:Obj):Rd (w.alloc o) rb s p gb:=Blk.alloc h o
theorem Rd.below {w w':World} {rb:Nat} {s:ByteArray} {p gb:Nat} (h:Rd w rb s p gb) (k:Below w.heap.size w w'):Rd w' rb s p gb:=Blk.below h k
theorem Rd.lt {w:World} {rb:Nat} {s:ByteArray} {p gb:Nat} (h:Rd w rb s p gb):rb < w.heap.size:=Blk.lt h
theorem withRange_zero (lo hi:Int) (w:World) :
  Calls Tryz.prog 152 #[.agg Tryz.zeroCells228,.int .i64 lo,.int .i64 hi] w fun e w'=>e = .returned (.agg (boolsC (rangeF noneF lo hi)))∧Below w.heap.size w w':=by
 rw [zeroBools]; exact withRange_any noneF lo hi w
theorem allBut_zero (w:World) :
  Calls Tryz.prog 149 #[.agg Tryz.zeroCells228] w fun e w'=>e = .returned (.agg (boolsC (butF noneF)))∧Below w.heap.size w w':=by
 rw [zeroBools]; exact allBut_any noneF w
set_option maxHeartbeats 1600000 in
theorem brackets_any (s:ByteArray) (p rb gb:Nat) (w:World) (hr:Rd w rb s p gb) (hs:s.size ≤ 120) (hp:p < s.size) :
  Calls Tryz.prog 150 #[.pointer (some ⟨rb,0,none⟩)] w fun e w' =>
   e = .returned (.tuple #[.agg (boolsC (bracketsF s p).1),.bool (bracketsF s p).2.1])∧Rd w' rb s (bracketsF s p).2.2 gb∧Kept (· = rb) w w':=by
 have hK:Kept (· = rb) w w:=Kept.refl _ _
 have c1:=hr.c1
 have f1:=hr.f1
 have hrb:=hr.lt
 generalize hF:bracketsF s p = F
 have HF:=hide hF
 clear hF
 rcases hinv:decide (peekI s (p + 1) = 94) with _ | _
 ·have e1:(peekI s (p + 1) == 94) = false:=by simpa using hinv
  rcases hM:memberF s (p + 1) with ⟨lo,hi,ok,q⟩
  have hmp:=memberF_pos s (p + 1) (by omega)
  have hMc:∀ W,Rd W rb s (p + 1) gb→_:=fun W h=>member_any s (p + 1) rb gb W h hs (by omega)
  generalize hR:membersF s (s.size + 1) (rangeF noneF lo hi) ok q = R
  have HE:=hide ((unhide HF).symm.trans (bracketsF_eq hinv rfl hM hR))
  rw [hM] at hMc hmp
  simp only at hMc hmp
  have HMc:=hide hMc
  have HR:=hide hR
  clear hMc hM hinv HF hR
  go_enter Tryz.func150,Tryz.ntmps150
  go_wp2_with fail
  refine (peek_any s (p + 1) rb gb _ (hr.set1.alloc _) hs (by omega)).mono ?_
  rintro e w2 ⟨rfl,n,rfl⟩
  go_wp2_with fail
  refine ((unhide HMc) _ ((hr.set1.alloc _).drewN n)).mono ?_
  rintro e w3 ⟨rfl,hr3,hk3⟩
  go_wp2_with fail
  refine (withRange_zero lo hi _).mono ?_
  rintro e w4 ⟨rfl,hb4⟩
  have hr4:=hr3.below hb4
  have hk4:Kept (· = rb) w w4:=((((hK.setCell (fun _=>rfl) _).alloc _).drewN n).trans' hk3).below hb4
  have hZ4:Blk w4 w.heap.size Tryz.zeroCells228 228:=by
   refine ((Blk.drewN ?_ n).kept hk3 (by omega)).below hb4
   have:=Blk.new (w.setCell ⟨rb,1,none⟩ (.int .i64 ((p:Int) + 1))) Tryz.zeroCells228 228
   simpa using this
  have hz4:w.heap.size < w4.heap.size:=hZ4.lt
  have HH4:Hid (Rd w4 rb s q gb∧Kept (· = rb) w w4∧Blk w4 w.heap.size Tryz.zeroCells228 228):=⟨hr4,hk4,hZ4⟩
  clear hr4 hk4 hZ4 hr3 hk3 hb4 hr hK c1 f1
  have hn:=Blk.new w4 Tryz.zeroCells228 228
  go_wp2_with (refine store256 rfl (.tmp 8) (.tmp 36) rfl w4.heap.size rfl rfl hn zero256 ?_)
  simp only [Act.put]
  rw [World.setRow_alloc_new]
  go_loopg [5,6,7] (s.size + 1) (fun g a b c wr=>∃ (A:Nat→Bool) (k:Bool) (t:Nat) (x y:Int),a = .int .i64 x∧b = .int .i64 y∧c = .bool k∧t ≤ s.size ∧
   (k = true→s.size < g + t)∧membersF s g A k t = R∧Rd wr rb s t gb∧Blk wr w4.heap.size (boolsC A) 228∧Blk wr w.heap.size Tryz.zeroCells228 228∧Kept (· = rb) w wr)
  case atStart =>
   obtain ⟨hr4,hk4,hZ4⟩:=HH4.out
   exact ⟨_,ok,q,lo,hi,rfl,rfl,rfl,hmp.2.1,fun _=>by omega,HR.out,hr4.alloc _,Blk.new _ _ _,hZ4.alloc _,hk4.alloc _⟩
  case round =>
   obtain ⟨A,k,t,x,y,rfl,rfl,rfl,ht,hg,hm,hr5,hA5,hZ5,hk5⟩:=hrel
   have HM5:=hide hm
   have HG:=hide hg
   clear hm HH4 HR hn HMc hg
   cases k with
   |false =>
    have hRe:=(unhide HM5).symm.trans (membersF_stop s gk A false t (by simp))
    rw [hRe] at HE
    have hFe:F = (noneF,false,t):=unhide HE
    clear HE hRe HM5
    subst hFe
    go_wp2_with (refine store256z rfl (.tmp 2) (.tmp 55) rfl w.heap.size rfl rfl hZ5 zero256 ?_)
    exact bodyPost_ret (results_cell_tmp Tryz.results150 _ _ w.heap.size 228 _ (0,0) _ rfl (hZ5.setRow _) Tryz.underlying228 rfl (by rw [boolsC_size]; exact Tryz.infoB)) rfl ⟨rfl,hr5.setRowOther (by omega) _,hk5.setRow (by omega) _⟩
   |true =>
    by_cases h93:peekI s t = 93
    ·have hRe:=(unhide HM5).symm.trans (membersF_stop s gk A true t (by simp [h93]))
     rw [hRe] at HE
     have hFe:F = (A,true,t + 1):=unhide HE
     clear HE hRe HM5
     subst hFe
     go_wp2_with fail
     refine (peek_any s t rb gb _ hr5 hs (by omega)).mono ?_
     rintro e w6 ⟨rfl,n6,rfl⟩
     rw [h93]
     have c5:=hr5.c1
     have f5:=hr5.f1
     have hA6:=(hA5.drewN n6).setOther (p:=⟨rb,1,none⟩) (by simp; omega) (.int .i64 ((t:Int) + 1))
     have hZ6:=(hZ5.drewN n6).setOther (p:=⟨rb,1,none⟩) (by simp; omega) (.int .i64 ((t:Int) + 1))
     go_wp2_with (first | refine load256 rfl (.tmp 8) rfl w4.heap.size rfl hA6 ?_ | refine store256 rfl (.tmp 2) (.tmp 66) rfl w.heap.size rfl rfl hZ6 zero256 ?_)
     exact bodyPost_ret (results_cell_tmp Tryz.results150 _ _ w.heap.size 228 _ (0,0) _ rfl (hZ6.setRow _) Tryz.underlying228 rfl (by rw [boolsC_size]; exact Tryz.infoB)) rfl ⟨rfl,((hr5.drewN n6).set1).setRowOther (by omega) _,((hk5.drewN n6).setCell (fun _=>rfl) _).setRow (by omega) _⟩
    ·have e93:(peekI s t != 93) = true:=by simp [h93]
     go_wp2_with fail
     refine (peek_any s t rb gb _ hr5 hs (by omega)).mono ?_
     rintro e w6 ⟨rfl,n6,rfl⟩
     go_wp2_with fail
     refine (member_any s t rb gb _ (hr5.drewN n6) hs (by omega)).mono ?_
     rintro e w6 ⟨rfl,hr6,hk6⟩
     have hA6:=(hA5.drewN n6).kept hk6 (by omega)
     have hZ6:=(hZ5.drewN n6).kept hk6 (by omega)
     go_wp2_with (refine load256 rfl (.tmp 8) rfl w4.heap.size rfl hA6 ?_)
     refine (withRange_any A _ _ _).mono ?_
     rintro e w7 ⟨rfl,hb7⟩
     have hA7:=hA6.below hb7
     go_wp2_with (refine store256 rfl (.tmp 8) (.tmp 52) rfl w4.heap.size rfl rfl hA7 (boolsC_size _) ?_)
     have hgk:=(unhide HG) (by trivial)
     have hmp6:=memberF_pos s t ht
     have hne:gk = (gk - 1) + 1:=by omega
     have hm6:=unhide HM5
     rw [hne] at hm6
     unfold membersF at hm6
     rw [if_pos ⟨rfl,h93⟩] at hm6
     go_roundg (gk - 1)
     case measure=>omega
     case rel =>
      refine ⟨_,_,_,_,_,rfl,rfl,rfl,hmp6.2.1,fun e=>?_,hm6,(hr6.below hb7).setRowOther (by omega) _,hA7.setRow _,(hZ6.below hb7).setRowOther (by omega) _,(((hk5.drewN n6).trans' hk6).below hb7).setRow (by omega) _⟩
      have:=hmp6.2.2 e
      omega
 ·have e1:(peekI s (p + 1) == 94) = true:=by simpa using hinv
  rcases hM:memberF s (p + 2) with ⟨lo,hi,ok,q⟩
  have hmp:=memberF_pos s (p + 2) (by have:=peekI_in (s:=s) (p:=p + 1) (by have:=eq_of_beq e1; omega); omega)
  have hMc:∀ W,Rd W rb s (p + 2) gb→_:=fun W h=>member_any s (p + 2) rb gb W h hs (by have:=peekI_in (s:=s) (p:=p + 1) (by have:=eq_of_beq e1; omega); omega)
  generalize hR:membersF s (s.size + 1) (rangeF noneF lo hi) ok q = R
  have HE:=hide ((unhide HF).symm.trans (bracketsF_eq hinv rfl hM hR))
  rw [hM] at hMc hmp
  simp only at hMc hmp
  have HMc:=hide hMc
  have HR:=hide hR
  clear hMc hM hinv HF hR
  go_enter Tryz.func150,Tryz.ntmps150
  go_wp2_with fail
  refine (peek_any s (p + 1) rb gb _ (hr.set1.alloc _) hs (by omega)).mono ?_
  rintro e w2 ⟨rfl,n,rfl⟩
  go_wp2_with fail
  refine ((unhide HMc) _ ((hr.set1.alloc _).drewN n).set1).mono ?_
  rintro e w3 ⟨rfl,hr3,hk3⟩
  go_wp2_with fail
  refine (withRange_zero lo hi _).mono ?_
  rintro e w4 ⟨rfl,hb4⟩
  have hr4:=hr3.below hb4
  have hk4:Kept (· = rb) w w4:=(((((hK.setCell (fun _=>rfl) _).alloc _).drewN n).setCell (fun _=>rfl) _).trans' hk3).below hb4
  have hZ4:Blk w4 w.heap.size Tryz.zeroCells228 228:=by
   refine (((Blk.drewN ?_ n).setOther (by simp; omega) _).kept hk3 (by omega)).below hb4
   have:=Blk.new (w.setCell ⟨rb,1,none⟩ (.int .i64 ((p:Int) + 1))) Tryz.zeroCells228 228
   simpa using this
  have hz4:w.heap.size < w4.heap.size:=hZ4.lt
  have HH4:Hid (Rd w4 rb s q gb∧Kept (· = rb) w w4∧Blk w4 w.heap.size Tryz.zeroCells228 228):=⟨hr4,hk4,hZ4⟩
  clear hr4 hk4 hZ4 hr3 hk3 hb4 hr hK c1 f1
  have hn:=Blk.new w4 Tryz.zeroCells228 228
  go_wp2_with (refine store256 rfl (.tmp 8) (.tmp 36) rfl w4.heap.size rfl rfl hn zero256 ?_)
  simp only [Act.put]
  rw [World.setRow_alloc_new]
  go_loopg [5,6,7] (s.size + 1) (fun g a b c wr=>∃ (A:Nat→Bool) (k:Bool) (t:Nat) (x y:Int),a = .int .i64 x∧b = .int .i64 y∧c = .bool k∧t ≤ s.size ∧
   (k = true→s.size < g + t)∧membersF s g A k t = R∧Rd wr rb s t gb∧Blk wr w4.heap.size (boolsC A) 228∧Blk wr w.heap.size Tryz.zeroCells228 228∧Kept (· = rb) w wr)
  case atStart =>
   obtain ⟨hr4,hk4,hZ4⟩:=HH4.out
   exact ⟨_,ok,q,lo,hi,rfl,rfl,rfl,hmp.2.1,fun _=>by omega,HR.out,hr4.alloc _,Blk.new _ _ _,hZ4.alloc _,hk4.alloc _⟩
  case round =>
   obtain ⟨A,k,t,x,y,rfl,rfl,rfl,ht,hg,hm,hr5,hA5,hZ5,hk5⟩:=hrel
   have HM5:=hide hm
   have HG:=hide hg
   clear hm HH4 HR hn HMc hg
   cases k with
   |false =>
    have hRe:=(unhide HM5).symm.trans (membersF_stop s gk A false t (by simp))
    rw [hRe] at HE
    have hFe:F = (noneF,false,t):=unhide HE
    clear HE hRe HM5
    subst hFe
    go_wp2_with (refine store256z rfl (.tmp 2) (.tmp 55) rfl w.heap.size rfl rfl hZ5 zero256 ?_)
    exact bodyPost_ret (results_cell_tmp Tryz.results150 _ _ w.heap.size 228 _ (0,0) _ rfl (hZ5.setRow _) Tryz.underlying228 rfl (by rw [boolsC_size]; exact Tryz.infoB)) rfl ⟨rfl,hr5.setRowOther (by omega) _,hk5.setRow (by omega) _⟩
   |true =>
    by_cases h93:peekI s t = 93
    ·have hRe:=(unhide HM5).symm.trans (membersF_stop s gk A true t (by simp [h93]))
     rw [hRe] at HE
     have hFe:F = (butF A,true,t + 1):=unhide HE
     clear HE hRe HM5
     subst hFe
     go_wp2_with fail
     refine (peek_any s t rb gb _ hr5 hs (by omega)).mono ?_
     rintro e w6 ⟨rfl,n6,rfl⟩
     rw [h93]
     have c5:=hr5.c1
     have f5:=hr5.f1
     have hA6:=(hA5.drewN n6).setOther (p:=⟨rb,1,none⟩) (by simp; omega) (.int .i64 ((t:Int) + 1))
     have hZ6:=(hZ5.drewN n6).setOther (p:=⟨rb,1,none⟩) (by simp; omega) (.int .i64 ((t:Int) + 1))
     go_wp2_with (refine load256 rfl (.tmp 8) rfl w4.heap.size rfl hA6 ?_)
     refine (allBut_any A _).mono ?_
     rintro e w8 ⟨rfl,hb8⟩
     have hA8:=hA6.below hb8
     have hA9:=hA8.setRow (boolsC (butF A))
     have hZ9:=(hZ6.below hb8).setRowOther (g:=w4.heap.size) (by omega) (boolsC (butF A))
     go_wp2_with (first | refine store256 rfl (.tmp 8) (.tmp 65) rfl w4.heap.size rfl rfl hA8 (boolsC_size _) ?_ | refine load256 rfl (.tmp 8) rfl w4.heap.size rfl hA9 ?_ | refine store256 rfl (.tmp 2) (.tmp 66) rfl w.heap.size rfl rfl hZ9 zero256 ?_)
     exact bodyPost_ret (results_cell_tmp Tryz.results150 _ _ w.heap.size 228 _ (0,0) _ rfl (hZ9.setRow _) Tryz.underlying228 rfl (by rw [boolsC_size]; exact Tryz.infoB)) rfl ⟨rfl,((((hr5.drewN n6).set1).below hb8).setRowOther (by omega) _).setRowOther (by omega) _,((((hk5.drewN n6).setCell (fun _=>rfl) _).below hb8).setRow (by omega) _).setRow (by omega) _⟩
    ·have e93:(peekI s t != 93) = true:=by simp [h93]
     go_wp2_with fail
     refine (peek_any s t rb gb _ hr5 hs (by omega)).mono ?_
     rintro e w6 ⟨rfl,n6,rfl⟩
     go_wp2_with fail
     refine (member_any s t rb gb _ (hr5.drewN n6) hs (by omega)).mono ?_
     rintro e w6 ⟨rfl,hr6,hk6⟩
     have hA6:=(hA5.drewN n6).kept hk6 (by omega)
     have hZ6:=(hZ5.drewN n6).kept hk6 (by omega)
     go_wp2_with (refine load256 rfl (.tmp 8) rfl w4.heap.size rfl hA6 ?_)
     refine (withRange_any A _ _ _).mono ?_
     rintro e w7 ⟨rfl,hb7⟩
     have hA7:=hA6.below hb7
     go_wp2_with (refine store256 rfl (.tmp 8) (.tmp 52) rfl w4.heap.size rfl rfl hA7 (boolsC_size _) ?_)
     have hgk:=(unhide HG) (by trivial)
     have hmp6:=memberF_pos s t ht
     have hne:gk = (gk - 1) + 1:=by omega
     have hm6:=unhide HM5
     rw [hne] at hm6
     unfold membersF at hm6
     rw [if_pos ⟨rfl,h93⟩] at hm6
     go_roundg (gk - 1)
     case measure=>omega
     case rel =>
      refine ⟨_,_,_,_,_,rfl,rfl,rfl,hmp6.2.1,fun e=>?_,hm6,(hr6.below hb7).setRowOther (by omega) _,hA7.setRow _,(hZ6.below hb7).setRowOther (by omega) _,(((hk5.drewN n6).trans' hk6).below hb7).setRow (by omega) _⟩
      have:=hmp6.2.2 e
      omega
theorem results256 {fn:Func} {p q:Tmp} (h:fn.results = #[.cell p 228,.tmp q]) {A:Nat→Bool} (tmps:Array Value) {w:World} {g:Nat}
  (hp:tmps.getD p undef = .pointer (some ⟨g,0,none⟩)) (hg:Blk w g (boolsC A) 228):(results fn tmps).run Tryz.prog w = .ok (.tuple #[.agg (boolsC A),tmps.getD q undef]) w :=
 results_cell_tmp h tmps w g 228 _ (0,0) _ hp hg Tryz.underlying228 rfl (by rw [boolsC_size]; exact Tryz.infoB)
set_option maxHeartbeats 1600000 in
theorem place_any (s:ByteArray) (p rb gb:Nat) (w:World) (hr:Rd w rb s p gb) (hs:s.size ≤ 120) (hp:p ≤ s.size) :
  Calls Tryz.prog 147 #[.pointer (some ⟨rb,0,none⟩)] w fun e w' =>
   e = .returned (.tuple #[.agg (boolsC (placeF s p).1),.bool (placeF s p).2.1])∧Rd w' rb s (placeF s p).2.2 gb∧Kept (· = rb) w w':=by
 have hK:Kept (· = rb) w w:=Kept.refl _ _
 have c1:=hr.c1
 have f1:=hr.f1
 have hrb:=hr.lt
 generalize hF:placeF s p = F
 unfold placeF at hF
 by_cases h1:placeBar (peekI s p)
 ·rw [if_pos h1] at hF
  subst hF
  go_enter Tryz.func147,Tryz.ntmps147
  go_wp2_with fail
  refine (peek_any s p rb gb _ (hr.alloc _) hs (by omega)).mono ?_
  rintro e w2 ⟨rfl,n,rfl⟩
  have hZ:=(Blk.new w Tryz.zeroCells228 228).drewN n
  rcases h1 with h1 | h1 | h1 | h1 | h1 | h1 | h1 | h1 | h1 <;> rw [h1] <;> go_wp2_with (refine store256z rfl (.tmp 2) (.tmp 18) rfl w.heap.size rfl rfl hZ zero256 ?_)
  all_goals
   exact bodyPost_ret (results256 Tryz.results147 _ rfl (hZ.setRow _)) rfl ⟨rfl,((hr.alloc _).drewN n).setRowOther (by omega) _,((hK.alloc _).drewN n).setRow (by omega) _⟩
 rw [if_neg h1] at hF
 have hlt:p < s.size:=peekI_in (fun e=>h1 (Or.inl e))
 have e1:(peekI s p == -1) = false:=by simp; intro h; exact h1 (by simp [placeBar,h])
 have e2:(peekI s p == 10) = false:=by simp; intro h; exact h1 (by simp [placeBar,h])
 have e3:(peekI s p == 124) = false:=by simp; intro h; exact h1 (by simp [placeBar,h])
 have e4:(peekI s p == 42) = false:=by simp; intro h; exact h1 (by simp [placeBar,h])
 have e5:(peekI s p == 43) = false:=by simp; intro h; exact h1 (by simp [placeBar,h])
 have e6:(peekI s p == 63) = false:=by simp; intro h; exact h1 (by simp [placeBar,h])
 have e7:(peekI s p == 40) = false:=by simp; intro h; exact h1 (by simp [placeBar,h])
 have e8:(peekI s p == 41) = false:=by simp; intro h; exact h1 (by simp [placeBar,h])
 have e9:(peekI s p == 93) = false:=by simp; intro h; exact h1 (by simp [placeBar,h])
 clear h1
 by_cases h2:peekI s p = 46
 ·rw [if_pos h2] at hF
  subst hF
  clear e1 e2 e3 e4 e5 e6 e7 e8 e9
  go_enter Tryz.func147,Tryz.ntmps147
  go_wp2_with fail
  refine (peek_any s p rb gb _ (hr.alloc _) hs (by omega)).mono ?_
  rintro e w2 ⟨rfl,n,rfl⟩
  rw [h2]
  go_wp2_with fail
  refine (allBut_zero _).mono ?_
  rintro e w2 ⟨rfl,hb⟩
  have hZ:=(((Blk.new w Tryz.zeroCells228 228).drewN n).setOther (p:=⟨rb,1,none⟩) (by simp; omega) (.int .i64 ((p:Int) + 1))).below hb
  go_wp2_with (refine store256 rfl (.tmp 2) (.tmp 29) rfl w.heap.size rfl rfl hZ zero256 ?_)
  exact bodyPost_ret (results256 Tryz.results147 _ rfl (hZ.setRow _)) rfl ⟨rfl,((((hr.alloc _).drewN n).set1).below hb).setRowOther (by omega) _,((((hK.alloc _).drewN n).setCell (fun _=>rfl) _).below hb).setRow (by omega) _⟩
 rw [if_neg h2] at hF
 have e10:(peekI s p == 46) = false:=by simp [h2]
 clear h2
 by_cases h3:peekI s p = 91
 ·rw [if_pos h3] at hF
  clear e1 e2 e3 e4 e5 e6 e7 e8 e9 e10
  have hBc:∀ W,Rd W rb s p gb→_:=fun W h=>brackets_any s p rb gb W h hs hlt
  rw [hF] at hBc
  have HBc:=hide hBc
  clear hBc hF
  go_enter Tryz.func147,Tryz.ntmps147
  go_wp2_with fail
  refine (peek_any s p rb gb _ (hr.alloc _) hs (by omega)).mono ?_
  rintro e w2 ⟨rfl,n,rfl⟩
  rw [h3]
  go_wp2_with fail
  refine ((unhide HBc) _ ((hr.alloc _).drewN n)).mono ?_
  rintro e w2 ⟨rfl,hr2,hk2⟩
  have hZ:=((Blk.new w Tryz.zeroCells228 228).drewN n).kept hk2 (by omega)
  go_wp2_with (refine store256 rfl (.tmp 2) (.tmp 34) rfl w.heap.size rfl rfl hZ zero256 ?_)
  exact bodyPost_ret (results256 Tryz.results147 _ rfl (hZ.setRow _)) rfl ⟨rfl,hr2.setRowOther (by omega) _,(((hK.alloc _).drewN n).trans' hk2).setRow (by omega) _⟩
 rw [if_neg h3] at hF
 have e11:(peekI s p == 91) = false:=by simp [h3]
 clear h3
 subst hF
 have hSc:∀ W,Rd W rb s p gb→_:=fun W h=>single_any s p rb gb W h hs (by omega)
 rcases hS:singleF s p with ⟨b,ok,q⟩
 rw [hS] at hSc
 simp only at hSc ⊢
 have HSc:=hide hSc
 clear hSc hS
 go_enter Tryz.func147,Tryz.ntmps147
 go_wp2_with fail
 refine (peek_any s p rb gb _ (hr.alloc _) hs (by omega)).mono ?_
 rintro e w2 ⟨rfl,n,rfl⟩
 go_wp2_with fail
 refine ((unhide HSc) _ ((hr.alloc _).drewN n)).mono ?_
 rintro e w2 ⟨rfl,hr2,hk2⟩
 go_wp2_with fail
 refine (withRange_zero b b _).mono ?_
 rintro e w3 ⟨rfl,hb⟩
 have hZ:=(((Blk.new w Tryz.zeroCells228 228).drewN n).kept hk2 (by omega)).below hb
 go_wp2_with (refine store256 rfl (.tmp 2) (.tmp 44) rfl w.heap.size rfl rfl hZ zero256 ?_)
 exact bodyPost_ret (results256 Tryz.results147 _ rfl (hZ.setRow _)) rfl ⟨rfl,(hr2.below hb).setRowOther (by omega) _,((((hK.alloc _).drewN n).trans' hk2).below hb).setRow (by omega) _⟩
end Go.Proofs.YtcckhngbdoiikaaGreat
