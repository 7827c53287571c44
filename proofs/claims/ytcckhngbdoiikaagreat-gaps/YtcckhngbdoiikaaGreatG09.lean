import Derived.Test.YtcckhngbdoiikaaGreatG07
import Derived.Test.YtcckhngbdoiikaaGreatG02
import Derived.Test.YtcckhngbdoiikaaGreatG08
import Derived.Deep.QuietTactic
import Derived.BigQuiet

namespace Go.Proofs.YtcckhngbdoiikaaGreat
open Go.RowKit Go.Deep
set_option linter.unusedVariables false
def Rd (w:World) (rb:Nat) (s:ByteArray) (p:Nat) (gb:Nat):Prop :=
 Blk w rb #[.string s,.int .i64 (p:Int),.pointer (some ⟨gb,0,none⟩)] 115
theorem wrap64_small (x:Int) (h0:0 ≤ x) (h1:x < 1000000):wrap64 x = x:=by unfold wrap64; omega
theorem Rd.c0 {w:World} {rb:Nat} {s:ByteArray} {p gb:Nat} (h:Rd w rb s p gb):w.cell? ⟨rb,0,none⟩ = some (.string s):=by rw [Blk.cell h]; rfl
theorem Rd.c1 {w:World} {rb:Nat} {s:ByteArray} {p gb:Nat} (h:Rd w rb s p gb):w.cell? ⟨rb,1,none⟩ = some (.int .i64 (p:Int)):=by rw [Blk.cell h]; rfl
theorem Rd.c2 {w:World} {rb:Nat} {s:ByteArray} {p gb:Nat} (h:Rd w rb s p gb):w.cell? ⟨rb,2,none⟩ = some (.pointer (some ⟨gb,0,none⟩)):=by rw [Blk.cell h]; rfl
theorem Rd.f1 {w:World} {rb:Nat} {s:ByteArray} {p gb:Nat} (h:Rd w rb s p gb):w.frozen? ⟨rb,1,none⟩ = false:=Blk.frozen h 1
theorem Rd.set {w:World} {rb:Nat} {s:ByteArray} {p gb:Nat} (h:Rd w rb s p gb) (q:Nat):Rd (w.setCell ⟨rb,1,none⟩ (.int .i64 (q:Int))) rb s q gb:=Blk.set h 1 _
set_option maxHeartbeats 400000 in
theorem peek_any (s:ByteArray) (p rb gb:Nat) (w:World) (hr:Rd w rb s p gb) (hs:s.size ≤ 120) (hp:p ≤ 1000) :
  Calls Tryz.prog 83 #[.pointer (some ⟨rb,0,none⟩)] w fun e w'=>e = .returned (.int .i64 (peekI s p))∧∃ n,w' = w.drewN n:=by
 have c0:=hr.c0
 have c1:=hr.c1
 clear hr
 by_cases h:p < s.size
 ·have e1:decide ((p:Int) < 0) = false:=by simp
  have e2:decide ((s.size:Int) ≤ (p:Int)) = false:=by simp; omega
  go_enter Tryz.func83,Tryz.ntmps83
  go_wp2
  go_quiet (fail)
  go_wp2
  go_quiet (fail)
  go_wp2
  go_ret
  have hl:((s[p].toNat:Nat):Int) < 256:=by have:=s[p].toNat_lt; omega
  refine ⟨by simp [peekI,h]; exact wrap64_small _ (by omega) (by omega),?_⟩
  rw [World.drewN_drewN]
  exact ⟨_,rfl⟩
 ·have e1:decide ((p:Int) < 0) = false:=by simp
  have e2:decide ((s.size:Int) ≤ (p:Int)) = true:=by simp; omega
  go_enter Tryz.func83,Tryz.ntmps83
  go_wp2
  go_quiet (fail)
  go_wp2
  go_ret
  exact ⟨by simp [peekI,h],_,rfl⟩
theorem Rd.set1 {w:World} {rb:Nat} {s:ByteArray} {p gb:Nat} (h:Rd w rb s p gb):Rd (w.setCell ⟨rb,1,none⟩ (.int .i64 ((p:Int) + 1))) rb s (p + 1) gb:=h.set (p + 1)
theorem Rd.drewN {w:World} {rb:Nat} {s:ByteArray} {p gb:Nat} (h:Rd w rb s p gb) (n:Nat):Rd (w.drewN n) rb s p gb:=h
set_option maxHeartbeats 800000 in
theorem single_any (s:ByteArray) (p rb gb:Nat) (w:World) (hr:Rd w rb s p gb) (hs:s.size ≤ 120) (hp:p ≤ 500) :
  Calls Tryz.prog 151 #[.pointer (some ⟨rb,0,none⟩)] w fun e w' =>
   e = .returned (.tuple #[.int .i64 (singleF s p).1,.bool (singleF s p).2.1])∧Rd w' rb s (singleF s p).2.2 gb∧Kept (· = rb) w w':=by
 have c1:=hr.c1
 have f1:=hr.f1
 have hK:Kept (· = rb) w w:=Kept.refl _ _
 by_cases h1:peekI s p = 92
 ·by_cases h2:peekI s (p + 1) = -1∨peekI s (p + 1) = 10
  ·have hf:singleF s p = (0,false,p + 1):=by unfold singleF; rw [if_neg (by simp [h1]),if_pos h2]
   rw [hf]; clear hf
   go_enter Tryz.func151,Tryz.ntmps151
   go_wp2_with fail
   refine (peek_any s p rb gb _ hr hs (by omega)).mono ?_
   rintro e w1 ⟨rfl,n,rfl⟩
   rw [h1]
   go_wp2_with fail
   refine (peek_any s (p + 1) rb gb _ (hr.drewN n).set1 hs (by omega)).mono ?_
   rintro e w1 ⟨rfl,m,rfl⟩
   rcases h2 with h2 | h2 <;> rw [h2] <;> go_wp2_with fail
   all_goals
    go_ret2
    exact ⟨rfl,((hr.drewN n).set1).drewN m,((hK.drewN n).setCell (fun _=>rfl) _).drewN m⟩
  ·by_cases h3:peekI s (p + 1) = 110
   ·have hf:singleF s p = (10,true,p + 2):=by unfold singleF; rw [if_neg (by simp [h1]),if_neg h2,if_pos h3]
    rw [hf]; clear hf h2
    go_enter Tryz.func151,Tryz.ntmps151
    go_wp2_with fail
    refine (peek_any s p rb gb _ hr hs (by omega)).mono ?_
    rintro e w1 ⟨rfl,n,rfl⟩
    rw [h1]
    go_wp2_with fail
    refine (peek_any s (p + 1) rb gb _ (hr.drewN n).set1 hs (by omega)).mono ?_
    rintro e w1 ⟨rfl,m,rfl⟩
    rw [h3]
    go_wp2_with fail
    go_ret2
    exact ⟨rfl,(((hr.drewN n).set1).drewN m).set1,(((hK.drewN n).setCell (fun _=>rfl) _).drewN m).setCell (fun _=>rfl) _⟩
   ·have hf:singleF s p = (peekI s (p + 1),true,p + 2):=by unfold singleF; rw [if_neg (by simp [h1]),if_neg h2,if_neg h3]
    rw [hf]; clear hf
    have e1:(peekI s (p + 1) == -1) = false:=by simp; intro h; exact h2 (Or.inl h)
    have e2:(peekI s (p + 1) == 10) = false:=by simp; intro h; exact h2 (Or.inr h)
    have e3:(peekI s (p + 1) == 110) = false:=by simp [h3]
    clear h2 h3
    go_enter Tryz.func151,Tryz.ntmps151
    go_wp2_with fail
    refine (peek_any s p rb gb _ hr hs (by omega)).mono ?_
    rintro e w1 ⟨rfl,n,rfl⟩
    rw [h1]
    go_wp2_with fail
    refine (peek_any s (p + 1) rb gb _ (hr.drewN n).set1 hs (by omega)).mono ?_
    rintro e w1 ⟨rfl,m,rfl⟩
    go_wp2_with fail
    go_ret2
    exact ⟨rfl,(((hr.drewN n).set1).drewN m).set1,(((hK.drewN n).setCell (fun _=>rfl) _).drewN m).setCell (fun _=>rfl) _⟩
 ·have hf:singleF s p = (peekI s p,true,p + 1):=by unfold singleF; rw [if_pos h1]
  have e1:(peekI s p != 92) = true:=by simp [h1]
  rw [hf]; clear hf
  go_enter Tryz.func151,Tryz.ntmps151
  go_wp2_with fail
  refine (peek_any s p rb gb _ hr hs (by omega)).mono ?_
  rintro e w1 ⟨rfl,n,rfl⟩
  go_wp2_with fail
  go_ret2
  exact ⟨rfl,(hr.drewN n).set1,(hK.drewN n).setCell (fun _=>rfl) _⟩
set_option maxHeartbeats 800000 in
theorem item_any (s:ByteArray) (p rb gb:Nat) (w:World) (hr:Rd w rb s p gb) (hs:s.size ≤ 120) (hp:p ≤ 400) :
  Calls Tryz.prog 154 #[.pointer (some ⟨rb,0,none⟩)] w fun e w' =>
   e = .returned (.tuple #[.int .i64 (itemF s p).1,.bool (itemF s p).2.1])∧Rd w' rb s (itemF s p).2.2 gb∧Kept (· = rb) w w':=by
 have hK:Kept (· = rb) w w:=Kept.refl _ _
 by_cases h1:itemBar (peekI s p)
 ·have hf:itemF s p = (0,false,p):=by unfold itemF; rw [if_pos h1]
  rw [hf]; clear hf
  go_enter Tryz.func154,Tryz.ntmps154
  go_wp2_with fail
  refine (peek_any s p rb gb _ hr hs (by omega)).mono ?_
  rintro e w1 ⟨rfl,n,rfl⟩
  rcases h1 with h1 | h1 | h1 | h1 <;> rw [h1] <;> go_wp2_with fail
  all_goals
   go_ret2
   exact ⟨rfl,hr.drewN n,hK.drewN n⟩
 ·have hf:itemF s p = singleF s p:=by unfold itemF; rw [if_neg h1]
  rw [hf]; clear hf
  have e1:(peekI s p == -1) = false:=by simp; intro h; exact h1 (Or.inl h)
  have e2:(peekI s p == 10) = false:=by simp; intro h; exact h1 (Or.inr (Or.inl h))
  have e3:(peekI s p == 93) = false:=by simp; intro h; exact h1 (Or.inr (Or.inr (Or.inl h)))
  have e4:(peekI s p == 45) = false:=by simp; intro h; exact h1 (Or.inr (Or.inr (Or.inr h)))
  clear h1
  go_enter Tryz.func154,Tryz.ntmps154
  go_wp2_with fail
  refine (peek_any s p rb gb _ hr hs (by omega)).mono ?_
  rintro e w1 ⟨rfl,n,rfl⟩
  go_wp2_with fail
  refine (single_any s p rb gb _ (hr.drewN n) hs (by omega)).mono ?_
  rintro e w1 ⟨rfl,hr1,hk1⟩
  have HH:Hid (Rd w1 rb s (singleF s p).2.2 gb∧Kept (· = rb) (w.drewN n) w1):=⟨hr1,hk1⟩
  clear hr1 hk1
  go_wp2_with fail
  go_ret2
  exact ⟨rfl,HH.out.1,(hK.drewN n).trans' HH.out.2⟩
set_option maxHeartbeats 800000 in
theorem alternativeEnds_any (s:ByteArray) (p rb gb:Nat) (w:World) (hr:Rd w rb s p gb) (hs:s.size ≤ 120) (hp:p ≤ 400) :
  Calls Tryz.prog 142 #[.pointer (some ⟨rb,0,none⟩)] w fun e w' =>
   e = .returned (.bool (endsB (peekI s p)))∧∃ n,w' = w.drewN n:=by
 by_cases h1:peekI s p = -1∨peekI s p = 10∨peekI s p = 124∨peekI s p = 41
 ·have hf:endsB (peekI s p) = true:=by unfold endsB; simp [h1]
  rw [hf]; clear hf
  go_enter Tryz.func142,Tryz.ntmps142
  go_wp2_with fail
  refine (peek_any s p rb gb _ hr hs (by omega)).mono ?_
  rintro e w1 ⟨rfl,n,rfl⟩
  rcases h1 with h1 | h1 | h1 | h1 <;> rw [h1] <;> go_wp2_with fail
  all_goals
   go_ret
   exact ⟨rfl,n,rfl⟩
 ·have hf:endsB (peekI s p) = false:=by unfold endsB; simp [h1]
  rw [hf]; clear hf
  have e1:(peekI s p == -1) = false:=by simp; intro h; exact h1 (Or.inl h)
  have e2:(peekI s p == 10) = false:=by simp; intro h; exact h1 (Or.inr (Or.inl h))
  have e3:(peekI s p == 124) = false:=by simp; intro h; exact h1 (Or.inr (Or.inr (Or.inl h)))
  have e4:(peekI s p == 41) = false:=by simp; intro h; exact h1 (Or.inr (Or.inr (Or.inr h)))
  clear h1
  go_enter Tryz.func142,Tryz.ntmps142
  go_wp2_with fail
  refine (peek_any s p rb gb _ hr hs (by omega)).mono ?_
  rintro e w1 ⟨rfl,n,rfl⟩
  go_wp2_with fail
  go_ret
  exact ⟨rfl,n,rfl⟩
end Go.Proofs.YtcckhngbdoiikaaGreat
