import Derived.Test.YtcckhngbdoiikaaGreatG09
import Derived.Test.YtcckhngbdoiikaaGreatG10
import Derived.Test.YtcckhngbdoiikaaGreatG03
import Derived.Deep.RegionWith
import Derived.Deep.LoopGhost
import Derived.Test.YtcckhngbdoiikaaGreatG06

namespace Go.Proofs.YtcckhngbdoiikaaGreat
open Go.RowKit Go.Deep
set_option linter.unusedVariables false
def RdAt (w:World) (rb:Nat) (r:RRd):Prop:=Blk w rb #[.int .i64 r.mode,.int .i64 r.depth,.int .i64 r.low] 125
theorem RdAt.c0 {w:World} {rb:Nat} {r:RRd} (h:RdAt w rb r):w.cell? ⟨rb,0,none⟩ = some (.int .i64 r.mode):=by rw [Blk.cell h]; rfl
theorem RdAt.c1 {w:World} {rb:Nat} {r:RRd} (h:RdAt w rb r):w.cell? ⟨rb,1,none⟩ = some (.int .i64 r.depth):=by rw [Blk.cell h]; rfl
theorem RdAt.c2 {w:World} {rb:Nat} {r:RRd} (h:RdAt w rb r):w.cell? ⟨rb,2,none⟩ = some (.int .i64 r.low):=by rw [Blk.cell h]; rfl
theorem RdAt.set0 {w:World} {rb:Nat} {m d l:Int} (h:RdAt w rb ⟨m,d,l⟩) (m':Int):RdAt (w.setCell ⟨rb,0,none⟩ (.int .i64 m')) rb ⟨m',d,l⟩:=Blk.set h 0 _
theorem RdAt.set1 {w:World} {rb:Nat} {m d l:Int} (h:RdAt w rb ⟨m,d,l⟩) (d':Int):RdAt (w.setCell ⟨rb,1,none⟩ (.int .i64 d')) rb ⟨m,d',l⟩:=Blk.set h 1 _
theorem RdAt.set2 {w:World} {rb:Nat} {m d l:Int} (h:RdAt w rb ⟨m,d,l⟩) (l':Int):RdAt (w.setCell ⟨rb,2,none⟩ (.int .i64 l')) rb ⟨m,d,l'⟩:=Blk.set h 2 _
set_option maxHeartbeats 400000 in
theorem meant_any (c:Nat) (w:World) (hc:c < 256):Calls Tryz.prog 125 #[.int .u8 (c:Int)] w fun e w'=>e = .returned (.int .i64 (meantF c))∧w' = w:=by
 by_cases h:c = 110
 ·subst h
  go_enter Tryz.func125,Tryz.ntmps125
  go_wp2_with fail
  go_ret
  exact ⟨rfl,rfl⟩
 ·have e0:((c:Int) == 110) = false:=by simp; omega
  go_enter Tryz.func125,Tryz.ntmps125
  go_wp2_with fail
  go_ret
  refine ⟨?_,rfl⟩
  unfold meantF
  rw [if_neg (by omega)]
  first | rfl | (rw [wrap64_small _ (by omega) (by omega)])
set_option maxHeartbeats 800000 in
theorem inClass_ten (m d l:Int) (rb:Nat) (w:World) (hr:RdAt w rb ⟨m,d,l⟩) :
  Calls Tryz.prog 91 #[.pointer (some ⟨rb,0,none⟩),.int .u8 10] w fun e w'=>e = .returned (.bool false)∧w' = w:=by
 go_enter Tryz.func91,Tryz.ntmps91
 go_wp2_with fail
 go_ret
 exact ⟨rfl,rfl⟩
set_option maxHeartbeats 1600000 in
theorem inClass_nine (d l:Int) (c rb:Nat) (w:World) (hr:RdAt w rb ⟨9,d,l⟩) (hc:c < 256) (h10:c ≠ 10) :
  Calls Tryz.prog 91 #[.pointer (some ⟨rb,0,none⟩),.int .u8 (c:Int)] w fun e w'=>e = .returned (.bool true)∧RdAt w' rb ⟨6,d,meantF c⟩∧Kept (· = rb) w w':=by
 have e0:((c:Int) == 10) = false:=by simp; omega
 have c0:=hr.c0
 go_enter Tryz.func91,Tryz.ntmps91
 go_wp2_with fail
 refine (meant_any c _ hc).mono ?_
 rintro e w1 ⟨rfl,rfl⟩
 clear c0
 have f0:w1.frozen? ⟨rb,0,none⟩ = false:=Blk.frozen hr 0
 have f2:w1.frozen? ⟨rb,2,none⟩ = false:=Blk.frozen hr 2
 have c0:w1.cell? ⟨rb,0,none⟩ = some (.int .i64 9):=hr.c0
 have c2:w1.cell? ⟨rb,2,none⟩ = some (.int .i64 l):=hr.c2
 go_wp2_with fail
 go_ret
 exact ⟨rfl,(hr.set2 _).set0 _,((Kept.refl (· = rb) _).setCell (fun _=>rfl) _).setCell (fun _=>rfl) _⟩
set_option maxHeartbeats 1600000 in
theorem inClass_tenth (d l:Int) (c rb:Nat) (w:World) (hr:RdAt w rb ⟨10,d,l⟩) (hc:c < 256) (h10:c ≠ 10) :
  Calls Tryz.prog 91 #[.pointer (some ⟨rb,0,none⟩),.int .u8 (c:Int)] w fun e w'=>e = .returned (.bool (decide (l ≤ meantF c)))∧RdAt w' rb ⟨8,d,l⟩∧Kept (· = rb) w w':=by
 have e0:((c:Int) == 10) = false:=by simp; omega
 have c0:=hr.c0
 have c2:=hr.c2
 have f0:=Blk.frozen hr 0
 go_enter Tryz.func91,Tryz.ntmps91
 go_wp2_with fail
 go_region_with (go_at_call 125; refine (meant_any c _ hc).mono ?_; rintro e w1 ⟨rfl,rfl⟩)
 all_goals
  go_wp2_with fail
  go_ret
  exact ⟨rfl,(hr.set0 _).drewN 1,((Kept.refl (· = rb) _).setCell (fun _=>rfl) _).drew⟩
set_option maxHeartbeats 3200000 in
theorem inClass_rest (m d l:Int) (c rb:Nat) (w:World) (hr:RdAt w rb ⟨m,d,l⟩) (hc:c < 256) (h10:c ≠ 10) (hm:m = 4∨m = 5∨m = 6∨m = 7∨m = 8) :
  Calls Tryz.prog 91 #[.pointer (some ⟨rb,0,none⟩),.int .u8 (c:Int)] w fun e w'=>e = .returned (.bool (inClassF ⟨m,d,l⟩ c).2)∧RdAt w' rb (inClassF ⟨m,d,l⟩ c).1∧Kept (· = rb) w w':=by
 have e0:((c:Int) == 10) = false:=by simp; omega
 have c0:=hr.c0
 have c2:=hr.c2
 have f0:=Blk.frozen hr 0
 have f2:=Blk.frozen hr 2
 by_cases h94:m = 4∧c = 94
 ·obtain ⟨rfl,rfl⟩:=h94
  go_enter Tryz.func91,Tryz.ntmps91
  go_wp2_with fail
  go_ret
  exact ⟨rfl,hr.set0 _,(Kept.refl (· = rb) _).setCell (fun _=>rfl) _⟩
 have e94:m = 4→((c:Int) == 94) = false:=fun e=>by simp; omega
 by_cases h93:c = 93
 ·subst h93
  rcases hm with rfl | rfl | rfl | rfl | rfl
  all_goals
   go_enter Tryz.func91,Tryz.ntmps91
   go_wp2_with fail
   go_ret
   first
   |exact ⟨rfl,hr.set0 _,(Kept.refl (· = rb) _).setCell (fun _=>rfl) _⟩
   |exact ⟨rfl,(hr.set0 _).set0 _,((Kept.refl (· = rb) _).setCell (fun _=>rfl) _).setCell (fun _=>rfl) _⟩
 have e93:((c:Int) == 93) = false:=by simp; omega
 by_cases h45:c = 45
 ·subst h45
  rcases hm with rfl | rfl | rfl | rfl | rfl
  all_goals
   go_enter Tryz.func91,Tryz.ntmps91
   go_wp2_with fail
   go_ret
   first
   |exact ⟨rfl,hr.set0 _,(Kept.refl (· = rb) _).setCell (fun _=>rfl) _⟩
   |exact ⟨rfl,(hr.set0 _).set0 _,((Kept.refl (· = rb) _).setCell (fun _=>rfl) _).setCell (fun _=>rfl) _⟩
 have e45:((c:Int) == 45) = false:=by simp; omega
 by_cases h92:c = 92
 ·subst h92
  rcases hm with rfl | rfl | rfl | rfl | rfl
  all_goals
   go_enter Tryz.func91,Tryz.ntmps91
   go_wp2_with fail
   go_ret
   first
   |exact ⟨rfl,hr.set0 _,(Kept.refl (· = rb) _).setCell (fun _=>rfl) _⟩
   |exact ⟨rfl,(hr.set0 _).set0 _,((Kept.refl (· = rb) _).setCell (fun _=>rfl) _).setCell (fun _=>rfl) _⟩
 have e92:((c:Int) == 92) = false:=by simp; omega
 have hF:inClassF ⟨m,d,l⟩ c = if m = 7 then (⟨8,d,l⟩,decide (l ≤ (c:Int))) else (⟨6,d,(c:Int)⟩,true):=by
  unfold inClassF
  rw [if_neg (by omega),if_neg (by simp; omega),if_neg (by simp; omega),if_neg (by simp; omega),if_neg (by omega),if_neg (by omega),if_neg (by omega)]
 rw [hF]
 rcases hm with rfl | rfl | rfl | rfl | rfl
 ·have e94:=e94 rfl
  go_enter Tryz.func91,Tryz.ntmps91
  go_wp2_with fail
  go_ret
  exact ⟨rfl,((hr.set0 _).set2 _).set0 _,(((Kept.refl (· = rb) _).setCell (fun _=>rfl) _).setCell (fun _=>rfl) _).setCell (fun _=>rfl) _⟩
 ·go_enter Tryz.func91,Tryz.ntmps91
  go_wp2_with fail
  go_ret
  exact ⟨rfl,(hr.set2 _).set0 _,((Kept.refl (· = rb) _).setCell (fun _=>rfl) _).setCell (fun _=>rfl) _⟩
 ·go_enter Tryz.func91,Tryz.ntmps91
  go_wp2_with fail
  go_ret
  exact ⟨rfl,(hr.set2 _).set0 _,((Kept.refl (· = rb) _).setCell (fun _=>rfl) _).setCell (fun _=>rfl) _⟩
 ·go_enter Tryz.func91,Tryz.ntmps91
  go_wp2_with fail
  go_ret
  exact ⟨rfl,hr.set0 _,(Kept.refl (· = rb) _).setCell (fun _=>rfl) _⟩
 ·go_enter Tryz.func91,Tryz.ntmps91
  go_wp2_with fail
  go_ret
  exact ⟨rfl,(hr.set2 _).set0 _,((Kept.refl (· = rb) _).setCell (fun _=>rfl) _).setCell (fun _=>rfl) _⟩
theorem inClass_any (r:RRd) (c rb:Nat) (w:World) (hr:RdAt w rb r) (hc:c < 256) (hm:4 ≤ r.mode∧r.mode ≤ 10) :
  Calls Tryz.prog 91 #[.pointer (some ⟨rb,0,none⟩),.int .u8 (c:Int)] w fun e w'=>e = .returned (.bool (inClassF r c).2)∧RdAt w' rb (inClassF r c).1∧Kept (· = rb) w w':=by
 obtain ⟨m,d,l⟩:=r
 simp only at hm
 by_cases h10:c = 10
 ·subst h10
  refine (inClass_ten m d l rb w hr).mono ?_
  rintro e w1 ⟨rfl,rfl⟩
  exact ⟨by simp [inClassF],by simpa [inClassF] using hr,Kept.refl _ _⟩
 ·have hn:¬ ((c:Int) = 10):=by omega
  by_cases h9:m = 9
  ·subst h9
   refine (inClass_nine d l c rb w hr hc h10).mono ?_
   rintro e w1 ⟨rfl,h1,h2⟩
   exact ⟨by simp [inClassF,hn],by simpa [inClassF,hn] using h1,h2⟩
  ·by_cases h0:m = 10
   ·subst h0
    refine (inClass_tenth d l c rb w hr hc h10).mono ?_
    rintro e w1 ⟨rfl,h1,h2⟩
    exact ⟨by simp [inClassF,hn],by simpa [inClassF,hn] using h1,h2⟩
   ·exact inClass_rest m d l c rb w hr hc h10 (by omega)
set_option maxHeartbeats 3200000 in
theorem take_class (r:RRd) (c rb:Nat) (w:World) (hr:RdAt w rb r) (hc:c < 256) (hm:4 ≤ r.mode∧r.mode ≤ 10) :
  Calls Tryz.prog 49 #[.pointer (some ⟨rb,0,none⟩),.int .u8 (c:Int)] w fun e w'=>e = .returned (.bool (takeF r c).2)∧RdAt w' rb (takeF r c).1∧Kept (· = rb) w w':=by
 have hF:takeF r c = inClassF r c:=by unfold takeF; rw [if_pos hm.1]
 rw [hF]; clear hF
 have HC:=hide (inClass_any r c rb w hr hc hm)
 generalize inClassF r c = F at HC ⊢
 obtain ⟨F1,F2⟩:=F
 simp only at HC ⊢
 have c0:=hr.c0
 have e0:decide (4 ≤ r.mode) = true:=by simp [hm.1]
 go_enter Tryz.func49,Tryz.ntmps49
 go_wp2_with fail
 refine HC.out.mono ?_
 rintro e w1 ⟨rfl,h1,h2⟩
 have HH:=hide (And.intro h1 h2)
 clear h1 h2
 go_wp2_with fail
 go_ret
 exact ⟨rfl,HH.out.1,HH.out.2⟩
set_option maxHeartbeats 3200000 in
theorem take_escape (d l:Int) (c rb:Nat) (w:World) (hr:RdAt w rb ⟨3,d,l⟩) (hc:c < 256) :
  Calls Tryz.prog 49 #[.pointer (some ⟨rb,0,none⟩),.int .u8 (c:Int)] w fun e w'=>e = .returned (.bool (decide ((c:Int) ≠ 10)))∧RdAt w' rb ⟨1,d,l⟩∧Kept (· = rb) w w':=by
 have c0:=hr.c0
 have f0:=Blk.frozen hr 0
 by_cases h10:c = 10
 ·subst h10
  go_enter Tryz.func49,Tryz.ntmps49
  go_wp2_with fail
  go_ret
  exact ⟨rfl,hr.set0 _,(Kept.refl (· = rb) _).setCell (fun _=>rfl) _⟩
 ·have e0:((c:Int) != 10) = true:=by simp; omega
  have hF:decide ((c:Int) ≠ 10) = true:=by simp; omega
  rw [hF]
  go_enter Tryz.func49,Tryz.ntmps49
  go_wp2_with fail
  go_ret
  exact ⟨rfl,hr.set0 _,(Kept.refl (· = rb) _).setCell (fun _=>rfl) _⟩
def TakeC (r:RRd) (c rb:Nat) (w:World):Prop:=Calls Tryz.prog 49 #[.pointer (some ⟨rb,0,none⟩),.int .u8 (c:Int)] w fun e w'=>e = .returned (.bool (takeF r c).2)∧RdAt w' rb (takeF r c).1∧Kept (· = rb) w w'
set_option maxHeartbeats 3200000 in
theorem take_nl (m d l:Int) (rb:Nat) (w:World) (hr:RdAt w rb ⟨m,d,l⟩) (hm:m = 0∨m = 1∨m = 2):TakeC ⟨m,d,l⟩ 10 rb w:=by
 unfold TakeC
 have c0:=hr.c0
 have c1:=hr.c1
 have f0:=Blk.frozen hr 0
 by_cases hd:d = 0
 ·subst hd
  rcases hm with rfl | rfl | rfl
  all_goals
   go_enter Tryz.func49,Tryz.ntmps49
   go_wp2_with fail
   go_ret
   exact ⟨rfl,hr.set0 _,(Kept.refl (· = rb) _).setCell (fun _=>rfl) _⟩
 ·have e0:(d == 0) = false:=by simp; exact hd
  have hF:takeF ⟨m,d,l⟩ ((10:Nat):Int) = (⟨0,d,l⟩,false):=by
   rcases hm with rfl | rfl | rfl <;> simp [takeF,hd]
  rw [hF]
  rcases hm with rfl | rfl | rfl
  all_goals
   go_enter Tryz.func49,Tryz.ntmps49
   go_wp2_with fail
   go_ret
   exact ⟨rfl,hr.set0 _,(Kept.refl (· = rb) _).setCell (fun _=>rfl) _⟩
set_option maxHeartbeats 3200000 in
theorem take_shut (m d l:Int) (rb:Nat) (w:World) (hr:RdAt w rb ⟨m,d,l⟩) (hm:m = 0∨m = 1∨m = 2) (hd:-1000000 ≤ d∧d ≤ 1000000):TakeC ⟨m,d,l⟩ 41 rb w:=by
 unfold TakeC
 have c0:=hr.c0
 have c1:=hr.c1
 have f0:=Blk.frozen hr 0
 have f1:=Blk.frozen hr 1
 have hw:wrap64 (d - 1) = d - 1:=by unfold wrap64; omega
 by_cases hd1:0 ≤ d - 1
 ·have e0:decide (1 ≤ d) = true:=by simp; omega
  have hF:takeF ⟨m,d,l⟩ ((41:Nat):Int) = (⟨1,d - 1,l⟩,decide (m ≠ 0)):=by
   rcases hm with rfl | rfl | rfl <;> simp [takeF] <;> omega
  rw [hF]
  clear hd hF
  rcases hm with rfl | rfl | rfl
  all_goals
   go_enter Tryz.func49,Tryz.ntmps49
   go_wp2_with fail
   go_ret
   exact ⟨rfl,(hr.set1 _).set0 _,((Kept.refl (· = rb) _).setCell (fun _=>rfl) _).setCell (fun _=>rfl) _⟩
 ·have e0:decide (1 ≤ d) = false:=by simp; omega
  have hF:takeF ⟨m,d,l⟩ ((41:Nat):Int) = (⟨1,d - 1,l⟩,false):=by
   rcases hm with rfl | rfl | rfl <;> simp [takeF] <;> omega
  rw [hF]
  clear hd hF
  rcases hm with rfl | rfl | rfl
  all_goals
   go_enter Tryz.func49,Tryz.ntmps49
   go_wp2_with fail
   go_ret
   exact ⟨rfl,(hr.set1 _).set0 _,((Kept.refl (· = rb) _).setCell (fun _=>rfl) _).setCell (fun _=>rfl) _⟩
set_option maxHeartbeats 3200000 in
theorem take_open (m d l:Int) (rb:Nat) (w:World) (hr:RdAt w rb ⟨m,d,l⟩) (hm:m = 0∨m = 1∨m = 2) (hd:-1000000 ≤ d∧d ≤ 1000000):TakeC ⟨m,d,l⟩ 40 rb w:=by
 unfold TakeC
 have c0:=hr.c0
 have c1:=hr.c1
 have f0:=Blk.frozen hr 0
 have f1:=Blk.frozen hr 1
 have hw:wrap64 (d + 1) = d + 1:=by unfold wrap64; omega
 have hF:takeF ⟨m,d,l⟩ ((40:Nat):Int) = (⟨0,d + 1,l⟩,true):=by
  rcases hm with rfl | rfl | rfl <;> simp [takeF]
 rw [hF]
 clear hd hF
 rcases hm with rfl | rfl | rfl
 all_goals
  go_enter Tryz.func49,Tryz.ntmps49
  go_wp2_with fail
  go_ret
  exact ⟨rfl,(hr.set1 _).set0 _,((Kept.refl (· = rb) _).setCell (fun _=>rfl) _).setCell (fun _=>rfl) _⟩
set_option maxHeartbeats 6400000 in
theorem take_some (m d l:Int) (c rb:Nat) (w:World) (hr:RdAt w rb ⟨m,d,l⟩) (hm:m = 0∨m = 1∨m = 2) (hc:c = 124∨c = 42∨c = 43∨c = 63∨c = 91∨c = 92):TakeC ⟨m,d,l⟩ c rb w:=by
 unfold TakeC
 have c0:=hr.c0
 have c1:=hr.c1
 have f0:=Blk.frozen hr 0
 rcases hc with rfl | rfl | rfl | rfl | rfl | rfl <;> rcases hm with rfl | rfl | rfl
 all_goals
  go_enter Tryz.func49,Tryz.ntmps49
  go_wp2_with fail
  go_ret
  exact ⟨rfl,hr.set0 _,(Kept.refl (· = rb) _).setCell (fun _=>rfl) _⟩
set_option maxHeartbeats 3200000 in
theorem take_no (m d l:Int) (rb:Nat) (w:World) (hr:RdAt w rb ⟨m,d,l⟩) (hm:m = 0∨m = 1∨m = 2):TakeC ⟨m,d,l⟩ 93 rb w:=by
 unfold TakeC
 have c0:=hr.c0
 have hF:takeF ⟨m,d,l⟩ ((93:Nat):Int) = (⟨m,d,l⟩,false):=by
  rcases hm with rfl | rfl | rfl <;> simp [takeF]
 rw [hF]
 clear hF
 rcases hm with rfl | rfl | rfl
 all_goals
  go_enter Tryz.func49,Tryz.ntmps49
  go_wp2_with fail
  go_ret
  exact ⟨rfl,hr,Kept.refl (· = rb) _⟩
set_option maxHeartbeats 3200000 in
theorem take_byte (m d l:Int) (c rb:Nat) (w:World) (hr:RdAt w rb ⟨m,d,l⟩) (hm:m = 0∨m = 1∨m = 2) (hc:c < 256) (n1:c ≠ 10) (n2:c ≠ 124) (n3:c ≠ 41) (n4:c ≠ 42) (n5:c ≠ 43) (n6:c ≠ 63) (n7:c ≠ 40) (n8:c ≠ 91) (n9:c ≠ 92) (n10:c ≠ 93):TakeC ⟨m,d,l⟩ c rb w:=by
 unfold TakeC
 have c0:=hr.c0
 have f0:=Blk.frozen hr 0
 have hF:takeF ⟨m,d,l⟩ (c:Int) = (⟨1,d,l⟩,true):=by
  unfold takeF
  rw [if_neg (by simp; omega),if_neg (by simp; omega),if_neg (by omega),if_neg (by omega),if_neg (by omega),if_neg (by omega),if_neg (by omega),if_neg (by omega),if_neg (by omega),if_neg (by omega)]
 rw [hF]
 clear hF
 have e1:((c:Int) == 10) = false:=by simp; omega
 have e2:((c:Int) == 124) = false:=by simp; omega
 have e3:((c:Int) == 41) = false:=by simp; omega
 have e4:((c:Int) == 42) = false:=by simp; omega
 have e5:((c:Int) == 43) = false:=by simp; omega
 have e6:((c:Int) == 63) = false:=by simp; omega
 have e7:((c:Int) == 40) = false:=by simp; omega
 have e8:((c:Int) == 91) = false:=by simp; omega
 have e9:((c:Int) == 92) = false:=by simp; omega
 have e10:((c:Int) == 93) = false:=by simp; omega
 clear n1 n2 n3 n4 n5 n6 n7 n8 n9 n10 hc
 rcases hm with rfl | rfl | rfl
 all_goals
  go_enter Tryz.func49,Tryz.ntmps49
  go_wp2_with fail
  go_ret
  exact ⟨rfl,hr.set0 _,(Kept.refl (· = rb) _).setCell (fun _=>rfl) _⟩
theorem take_any (r:RRd) (c rb:Nat) (w:World) (hr:RdAt w rb r) (hc:c < 256) (hm:0 ≤ r.mode∧r.mode ≤ 10) (hd:-1000000 ≤ r.depth∧r.depth ≤ 1000000):TakeC r c rb w:=by
 obtain ⟨m,d,l⟩:=r
 simp only at hm hd
 by_cases h4:4 ≤ m
 ·exact take_class ⟨m,d,l⟩ c rb w hr hc ⟨h4,hm.2⟩
 by_cases h3:m = 3
 ·subst h3
  unfold TakeC
  refine (take_escape d l c rb w hr hc).mono ?_
  rintro e w1 ⟨rfl,h1,h2⟩
  exact ⟨by simp [takeF],by simpa [takeF] using h1,h2⟩
 have hm3:m = 0∨m = 1∨m = 2:=by omega
 by_cases k1:c = 10
 ·subst k1; exact take_nl m d l rb w hr hm3
 by_cases k2:c = 41
 ·subst k2; exact take_shut m d l rb w hr hm3 hd
 by_cases k3:c = 40
 ·subst k3; exact take_open m d l rb w hr hm3 hd
 by_cases k4:c = 93
 ·subst k4; exact take_no m d l rb w hr hm3
 by_cases k5:c = 124∨c = 42∨c = 43∨c = 63∨c = 91∨c = 92
 ·exact take_some m d l c rb w hr hm3 k5
 ·exact take_byte m d l c rb w hr hm3 hc k1 (by omega) k2 (by omega) (by omega) (by omega) k3 (by omega) (by omega) k4
theorem inClass_mode {r:RRd} {c:Int} (hm:0 ≤ r.mode∧r.mode ≤ 10):0 ≤ (inClassF r c).1.mode∧(inClassF r c).1.mode ≤ 10∧(inClassF r c).1.depth = r.depth:=by
 unfold inClassF
 repeat' split
 all_goals (refine ⟨?_,?_,?_⟩ <;> simp <;> omega)
theorem take_mode {r:RRd} {c:Int} (hm:0 ≤ r.mode∧r.mode ≤ 10):0 ≤ (takeF r c).1.mode∧(takeF r c).1.mode ≤ 10∧r.depth - 1 ≤ (takeF r c).1.depth∧(takeF r c).1.depth ≤ r.depth + 1:=by
 unfold takeF
 split
 ·have:=inClass_mode (c:=c) hm; omega
 repeat' split
 all_goals (refine ⟨?_,?_,?_,?_⟩ <;> simp <;> omega)
theorem Below_kept {B:Nat} {a b c:World} {ex:Nat→Prop} (h:Below B a b) (k:Kept ex b c) (hB:B ≤ b.heap.size) (hx:∀ i,i < B→¬ ex i):Below B a c :=
 ⟨k.os.trans h.os,k.tape.trans h.tape,k.output.trans h.output,Nat.le_trans h.size k.size,fun i hi=>(k.block i (by omega) (hx i hi)).trans (h.block i hi)⟩
theorem peekI_at {s:ByteArray} {p:Nat} (h:p < s.size):peekI s p = (s[p].toNat:Int):=by unfold peekI; rw [dif_pos h]
set_option maxRecDepth 20000 in
set_option maxHeartbeats 1600000 in
theorem refPlace_any (s:ByteArray) (w:World) (hs:s.size ≤ 120):Calls Tryz.prog 24 #[.string s] w fun e w'=>e = .returned (.int .i64 (placeT s))∧Below w.heap.size w w':=by
 have HPT:∃ P,P = placeT s:=⟨_,rfl⟩
 obtain ⟨P,hP⟩:=HPT
 rw [← hP]
 have HP:=hide hP
 clear hP
 go_enter Tryz.func24,Tryz.ntmps24
 go_wp2_with fail
 go_loopg [4] s.size (fun G iv wr=>∃ (k:Nat) (r:RRd),iv = .int .i64 (k:Int)∧k ≤ s.size∧G = s.size - k∧RdAt wr w.heap.size r∧(0 ≤ r.mode∧r.mode ≤ 10)∧(-(k:Int) ≤ r.depth∧r.depth ≤ (k:Int))∧scanAt s r k = P∧Below w.heap.size w wr∧w.heap.size < wr.heap.size)
 case atStart =>
  exact ⟨0,⟨0,0,0⟩,rfl,by omega,rfl,Blk.new _ _ _,⟨by simp,by simp⟩,⟨by simp,by simp⟩,HP.out.symm,Below1 _ _,by simp⟩
 case round =>
  obtain ⟨k,r,rfl,hk,rfl,hr,hm,hd,hsc,hb,hz⟩:=hrel
  by_cases hlt:k < s.size
  ·have e0:decide ((k:Int) < (s.size:Int)) = true:=by simp; omega
   have k0:(0:Int) ≤ (k:Int):=by omega
   have k1:(k:Int) < (s.size:Int):=by omega
   have HT:=hide (take_any r s[k].toNat w.heap.size wr hr (s[k].toNat_lt) hm (by omega))
   unfold TakeC at HT
   have hmo:=hide (take_mode (c:=peekI s k) hm)
   have hst:=hide (scan_step (s:=s) (r:=r) hlt)
   rw [peekI_at hlt] at hmo hst
   rw [hsc] at hst
   generalize hF:takeF r ((s[k].toNat:Nat):Int) = F at HT hmo hst
   obtain ⟨F1,F2⟩:=F
   simp only at HT hmo hst
   have HH:=hide (And.intro hb (And.intro hz (And.intro hd hr)))
   clear hb hr hm hd hsc hF
   cases F2 with
   |true =>
    go_wp2_with fail
    refine HT.out.mono ?_
    rintro e w1 ⟨rfl,h1,h2⟩
    have HH1:=hide (And.intro h1 h2)
    clear h1 h2
    go_wp2_with fail
    go_roundg (s.size - (k + 1))
    case measure=>omega
    case rel =>
     obtain ⟨b1,b2,b3,b4⟩:=HH.out
     have hm:=hmo.out
     refine ⟨k + 1,F1,by go_num,by omega,rfl,HH1.out.1,⟨hm.1,hm.2.1⟩,⟨by push_cast; omega,by push_cast; omega⟩,?_,Below_kept b1 HH1.out.2 (by omega) (fun i hi=>by omega),by have:=HH1.out.2.size; omega⟩
     have:=hst.out
     simp only [if_true] at this
     exact this.symm
   |false =>
    go_wp2_with fail
    refine HT.out.mono ?_
    rintro e w1 ⟨rfl,h1,h2⟩
    have HH1:=hide (And.intro h1 h2)
    clear h1 h2
    go_wp2_with fail
    go_ret
    obtain ⟨b1,b2,b3,b4⟩:=HH.out
    have:=hst.out
    simp only [Bool.false_eq_true,if_false] at this
    refine ⟨by rw [this]; rfl,Below_kept b1 HH1.out.2 (by omega) (fun i hi=>by omega)⟩
  ·have e0:decide ((k:Int) < (s.size:Int)) = false:=by simp; omega
   have hse:=hide (scan_end (s:=s) (r:=r) (p:=k) (by omega))
   rw [hsc] at hse
   obtain ⟨m,d,l⟩:=r
   simp only at hse
   have c0:=hr.c0
   have c1:=hr.c1
   simp only at c0 c1
   have HH:=hide hb
   clear hb hr hm hd hsc
   by_cases h1:0 < d
   ·have e1:decide (0 < d) = true:=by simp; omega
    go_wp2_with fail
    go_ret
    have:=hse.out
    rw [if_pos (.inl h1)] at this
    exact ⟨by rw [this]; rfl,HH.out⟩
   ·have e1:decide (0 < d) = false:=by simp; omega
    by_cases h2:m = 1
    ·subst h2
     go_wp2_with fail
     go_ret
     have:=hse.out
     rw [if_neg (by omega)] at this
     exact ⟨by rw [this]; rfl,HH.out⟩
    ·by_cases h3:m = 2
     ·subst h3
      go_wp2_with fail
      go_ret
      have:=hse.out
      rw [if_neg (by omega)] at this
      exact ⟨by rw [this]; rfl,HH.out⟩
     ·have e2:(m != 1) = true:=by simp; omega
      have e3:(m != 2) = true:=by simp; omega
      go_wp2_with fail
      go_ret
      have:=hse.out
      rw [if_pos (.inr ⟨h2,h3⟩)] at this
      exact ⟨by rw [this]; rfl,HH.out⟩
set_option maxHeartbeats 400000 in
theorem refFits_any (s:ByteArray) (w:World):Calls Tryz.prog 23 #[.string s] w fun e w'=>e = .returned (.bool (decide (s.size ≤ 120)))∧w' = w:=by
 by_cases h:s.size ≤ 120
 ·have e0:decide ((s.size:Int) ≤ 120) = true:=by simp; omega
  rw [show decide (s.size ≤ 120) = true by simp; omega]
  go_enter Tryz.func23,Tryz.ntmps23
  go_wp2_with fail
  go_ret
  exact ⟨rfl,rfl⟩
 ·have e0:decide ((s.size:Int) ≤ 120) = false:=by simp; omega
  rw [show decide (s.size ≤ 120) = false by simp; omega]
  go_enter Tryz.func23,Tryz.ntmps23
  go_wp2_with fail
  go_ret
  exact ⟨rfl,rfl⟩
def AEC (s:ByteArray) (i e:Nat):Prop:=∀ w:World,Calls Tryz.prog 92 #[.string s,.int .i64 (i:Int)] w fun e' w'=>e' = .returned (.int .i64 (e:Int))∧w' = w
inductive AEs (s:ByteArray):Nat→Nat→Prop where
 |nil (z:Nat):AEs s z z
 |step {i j z:Nat}:i < s.size→peekI s i ≠ 41→i < j→AEC s i j→AEs s j z→AEs s i z
set_option maxHeartbeats 1600000 in
theorem ae_other (s:ByteArray) (i:Nat) (hs:s.size ≤ 120) (h0:peekI s i ≠ -1) (h1:peekI s i ≠ 92) (h2:peekI s i ≠ 91) (h3:peekI s i ≠ 40):AEC s i (i + 1):=by
 intro w
 have hi:=peekI_in h0
 rw [peekI_at hi] at h0 h1 h2 h3
 have i0:(0:Int) ≤ (i:Int):=by omega
 have i1:(i:Int) < (s.size:Int):=by omega
 have e1:(((s[i].toNat:Nat):Int) == 92) = false:=by simp; omega
 have e2:(((s[i].toNat:Nat):Int) == 91) = false:=by simp; omega
 have e3:(((s[i].toNat:Nat):Int) == 40) = false:=by simp; omega
 clear h0 h1 h2 h3
 go_enter Tryz.func92,Tryz.ntmps92
 go_wp2_with fail
 go_ret
 exact ⟨by go_num,rfl⟩
set_option maxHeartbeats 1600000 in
theorem ae_esc (s:ByteArray) (i:Nat) (hs:s.size ≤ 120) (h1:peekI s i = 92):AEC s i (i + 2):=by
 intro w
 have hi:=peekI_in (s:=s) (p:=i) (by rw [h1]; decide)
 rw [peekI_at hi] at h1
 have i0:(0:Int) ≤ (i:Int):=by omega
 have i1:(i:Int) < (s.size:Int):=by omega
 have e1:(((s[i].toNat:Nat):Int) == 92) = true:=by simp; omega
 clear h1
 go_enter Tryz.func92,Tryz.ntmps92
 go_wp2_with fail
 go_ret
 exact ⟨by go_num,rfl⟩
set_option maxRecDepth 20000 in
set_option maxHeartbeats 1600000 in
theorem ae_cls (s:ByteArray) (i z:Nat) (l:List Int) (hs:s.size ≤ 120) (h1:peekI s i = 91) (hc:Cls s l i z):AEC s i (z + 1):=by
 intro w
 have hi:=peekI_in (s:=s) (p:=i) (by rw [h1]; decide)
 rw [peekI_at hi] at h1
 have i0:(0:Int) ≤ (i:Int):=by omega
 have i1:(i:Int) < (s.size:Int):=by omega
 have e1:(((s[i].toNat:Nat):Int) == 92) = false:=by simp; omega
 have e2:(((s[i].toNat:Nat):Int) == 91) = true:=by simp; omega
 clear h1
 have HC:=hide hc
 have hzz:=hc.le
 clear hc
 go_enter Tryz.func92,Tryz.ntmps92
 go_wp2_with fail
 go_loopg [1] (s.size - i) (fun G iv wr=>∃ (q:Nat) (l:List Int),iv = .int .i64 (q:Int)∧G = s.size - q∧q ≤ z∧Cls s l q z∧wr = w)
 case atStart=>exact ⟨i,l,rfl,rfl,by have:=HC.out.le; omega,HC.out,rfl⟩
 case round =>
  obtain ⟨q,l',rfl,rfl,hq,hc,rfl⟩:=hrel
  have hqz:=hc.le
  have q0:(0:Int) ≤ (q:Int):=by omega
  have q1:(q:Int) < (s.size:Int):=by omega
  have hqs:q < s.size:=by omega
  cases l' with
  |nil =>
   obtain ⟨rfl,h93⟩:=hc
   rw [peekI_at hqs] at h93
   have e3:(((s[q].toNat:Nat):Int) != 93) = false:=by simp; omega
   clear h93 hqz hzz
   go_wp2_with fail
   go_ret
   exact ⟨by go_num,rfl⟩
  |cons v l' =>
   rcases hc with ⟨h1,_,h2⟩ | ⟨h1,_,_,_,h2⟩ | ⟨_,_,_,h1,h3,_,h2⟩
   ·have h4:=h2.le
    rw [peekI_at hqs] at h1
    have e3:(((s[q].toNat:Nat):Int) != 93) = true:=by simp; omega
    have e4:(((s[q].toNat:Nat):Int) == 92) = false:=by simp; omega
    have HC2:=hide h2
    have HZ:=hide h4
    clear h1 hqz hzz h2 h4
    go_wp2_with fail
    go_roundg (s.size - (q + 1))
    case measure=>omega
    case rel=>exact ⟨q + 1,l',by go_num,rfl,by have:=HZ.out; omega,HC2.out,rfl⟩
   ·have h4:=h2.le
    rw [peekI_at hqs] at h1
    have e3:(((s[q].toNat:Nat):Int) != 93) = true:=by simp; omega
    have e4:(((s[q].toNat:Nat):Int) == 92) = true:=by simp; omega
    have HC2:=hide h2
    have HZ:=hide h4
    clear h1 hqz hzz h2 h4
    go_wp2_with fail
    go_roundg (s.size - (q + 2))
    case measure=>have:=HZ.out; omega
    case rel=>exact ⟨q + 2,l',by go_num,rfl,by have:=HZ.out; omega,HC2.out,rfl⟩
   ·have h4:=h2.le
    rw [peekI_at hqs] at h1 h3
    have e3:(((s[q].toNat:Nat):Int) != 93) = true:=by simp; omega
    have e4:(((s[q].toNat:Nat):Int) == 92) = false:=by simp; omega
    have HC2:=hide h2
    have HZ:=hide h4
    clear h1 h3 hqz hzz h2 h4
    go_wp2_with fail
    go_roundg (s.size - (q + 1))
    case measure=>omega
    case rel=>exact ⟨q + 1,l',by go_num,rfl,by have:=HZ.out; omega,HC2.out,rfl⟩
set_option maxRecDepth 20000 in
set_option maxHeartbeats 1600000 in
theorem ae_group (s:ByteArray) (i z:Nat) (hs:s.size ≤ 120) (h1:peekI s i = 40) (hc:AEs s (i + 1) z) (hz:peekI s z = 41):AEC s i (z + 1):=by
 intro w
 have hi:=peekI_in (s:=s) (p:=i) (by rw [h1]; decide)
 have hzs:=peekI_in (s:=s) (p:=z) (by rw [hz]; decide)
 rw [peekI_at hi] at h1
 have i0:(0:Int) ≤ (i:Int):=by omega
 have i1:(i:Int) < (s.size:Int):=by omega
 have e1:(((s[i].toNat:Nat):Int) == 92) = false:=by simp; omega
 have e2:(((s[i].toNat:Nat):Int) == 91) = false:=by simp; omega
 have e3:(((s[i].toNat:Nat):Int) == 40) = true:=by simp; omega
 clear h1
 have HC:=hide hc
 have HZ:=hide hz
 clear hc hz
 go_enter Tryz.func92,Tryz.ntmps92
 go_wp2_with fail
 go_loopg [1] (s.size - (i + 1)) (fun G iv wr=>∃ q:Nat,iv = .int .i64 (q:Int)∧G = s.size - q∧AEs s q z∧wr = w)
 case atStart=>exact ⟨i + 1,by go_num,rfl,HC.out,rfl⟩
 case round =>
  obtain ⟨q,rfl,rfl,hc,rfl⟩:=hrel
  cases hc with
  |nil =>
   have q0:(0:Int) ≤ (z:Int):=by omega
   have q1:(z:Int) < (s.size:Int):=by omega
   have h41:=HZ.out
   rw [peekI_at hzs] at h41
   have e4:(((s[z].toNat:Nat):Int) != 41) = false:=by simp; omega
   clear h41
   go_wp2_with fail
   go_ret
   exact ⟨by go_num,rfl⟩
  | @step _ j _ hq h41 hlt hae hrest =>
   have q0:(0:Int) ≤ (q:Int):=by omega
   have q1:(q:Int) < (s.size:Int):=by omega
   rw [peekI_at hq] at h41
   have e4:(((s[q].toNat:Nat):Int) != 41) = true:=by simp; omega
   have HA:=hide hae
   have HR:=hide hrest
   clear h41 hae hrest
   go_wp2_with fail
   refine (HA.out _).mono ?_
   rintro e w1 ⟨rfl,rfl⟩
   go_wp2_with fail
   go_roundg (s.size - j)
   case measure=>omega
   case rel=>exact ⟨j,rfl,rfl,HR.out,rfl⟩
theorem ae_place {s:ByteArray} {i e:Nat} {A:Nat→Bool} (hs:s.size ≤ 120) (h:PlaceIs s i e A) (h40:peekI s i ≠ 40):AEC s i e:=by
 cases h with
 |any h1 h2 _=>subst h2; exact ae_other s i hs (by rw [h1]; decide) (by rw [h1]; decide) (by rw [h1]; decide) h40
 |esc h1 h2 _ _ _=>subst h2; exact ae_esc s i hs h1
 |cls l neg z h1 h2 h3 h4 _ =>
  subst h2
  have hk:Cls s (91 :: (if neg = true then [94] else []) ++ l) i z:=by
   refine .inr (.inr ⟨by rw [h1]; decide,by rw [h1]; decide,by rw [h1]; decide,by rw [h1]; decide,by rw [h1]; decide,h1.symm,?_⟩)
   cases neg with
   |false=>exact h4
   |true =>
    have h94:peekI s (i + 1) = 94:=by simpa using h3.symm
    exact .inr (.inr ⟨by rw [h94]; decide,by rw [h94]; decide,by rw [h94]; decide,by rw [h94]; decide,by rw [h94]; decide,h94.symm,h4⟩)
  exact ae_cls s i z _ hs h1 hk
 |one h1 h2 h3 h4 h5 _=>subst h5; exact ae_other s i hs (fun e=>h1 (.inl e)) h4 h3 h40
theorem ae_mark {s:ByteArray} {e m z:Nat} (hs:s.size ≤ 120) (h:MarkOk s e m) (hr:AEs s (e + stepM m) z):AEs s e z:=by
 rcases h with ⟨rfl,_⟩ | ⟨h1,h2⟩
 ·exact hr
 ·have hi:=peekI_in (s:=s) (p:=e) (by rw [h2]; omega)
  have:stepM m = 1:=by unfold stepM; rw [if_neg (by omega)]
  rw [this] at hr
  exact .step hi (by rw [h2]; omega) (by omega) (ae_other s e hs (by rw [h2]; omega) (by rw [h2]; omega) (by rw [h2]; omega) (by rw [h2]; omega)) hr
theorem ae_seq {s:ByteArray} (hs:s.size ≤ 120):∀ (t:PT) (i j z:Nat),t.Sp s i j→AEs s j z→AEs s i z
 | .nil,i,j,z,h,hr=>by rw [show i = j from h]; exact hr
 | .bar r,i,j,z,h,hr=>by
  have hi:=peekI_in (s:=s) (p:=i) (by rw [h.1]; decide)
  exact .step hi (by rw [h.1]; decide) (by omega) (ae_other s i hs (by rw [h.1]; decide) (by rw [h.1]; decide) (by rw [h.1]; decide) (by rw [h.1]; decide)) (ae_seq hs r (i + 1) j z h.2 hr)
 | .leaf a e A m r,i,j,z,h,hr=>by
  obtain ⟨_,h2,h3,h4,h5⟩:=h
  have hp:=place_is h2
  have hl:=hp.lt
  exact .step (by omega) (fun e=>hp.first (.inr (.inr (.inr (.inr (.inr (.inr (.inr (.inl e))))))))) hl.1 (ae_place hs hp h3) (ae_mark hs h4 (ae_seq hs r _ j z h5 hr))
 | .group t m r,i,j,z,h,hr=>by
  obtain ⟨h1,e,h2,h3,h4,h5⟩:=h
  have hi:=peekI_in (s:=s) (p:=i) (by rw [h1]; decide)
  have he:=PT.sp_le h2
  exact .step hi (by rw [h1]; decide) (by omega) (ae_group s i e hs h1 (ae_seq hs t _ _ _ h2 (.nil e)) h3) (ae_mark hs h4 (ae_seq hs r _ j z h5 hr))
theorem ae_grp {s:ByteArray} (hs:s.size ≤ 120) {t:PT} {i e:Nat} (h1:peekI s i = 40) (h2:t.Sp s (i + 1) e) (h3:peekI s e = 41):AEC s i (e + 1):=ae_group s i e hs h1 (ae_seq hs t _ _ _ h2 (.nil e)) h3
end Go.Proofs.YtcckhngbdoiikaaGreat
