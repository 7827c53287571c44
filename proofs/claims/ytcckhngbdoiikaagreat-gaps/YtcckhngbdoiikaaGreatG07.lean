import Derived.Test.YtcckhngbdoiikaaGreatChecked
import Derived.Test.YtcckhngbdoiikaaGreatG02
import Derived.WalkKit
import Derived.WalkSpells
import Derived.WalkLawsBesides

namespace Go.Proofs.YtcckhngbdoiikaaGreat
open Go.RowKit
abbrev setV (s:PSet):Value:=.agg #[.int .u64 (s.lo.toNat:Int),.int .u64 (s.hi.toNat:Int)]
abbrev setC (s:PSet):Array Value:=#[.int .u64 (s.lo.toNat:Int),.int .u64 (s.hi.toNat:Int)]
theorem Below3 (w:World) (a b c:Obj):Below w.heap.size w (((w.alloc a).alloc b).alloc c) :=
 (((Below.refl _ _).alloc (Nat.le_refl _) _).alloc (by simp) _).alloc (by simp; omega) _
theorem Below2 (w:World) (a b:Obj):Below w.heap.size w ((w.alloc a).alloc b) :=
 ((Below.refl _ _).alloc (Nat.le_refl _) _).alloc (by simp) _
theorem Below1 (w:World) (a:Obj):Below w.heap.size w (w.alloc a):=(Below.refl _ _).alloc (Nat.le_refl _) _
set_option maxHeartbeats 400000 in
theorem or_any (s t:PSet) (w:World):Calls Tryz.prog 120 #[setV s,setV t] w fun e w' =>
  e = .returned (setV (s.or t))∧Below w.heap.size w w':=by
 go_enter Tryz.func120,Tryz.ntmps120
 go_wp2
 refine bodyPost_ret (v:=setV (s.or t)) (by simp [results,Tryz.results120,go_sem,bits_or64,PSet.or]) rfl ⟨rfl,?_⟩
 exact Below3 _ _ _ _
set_option maxHeartbeats 400000 in
theorem and_any (s t:PSet) (w:World):Calls Tryz.prog 85 #[setV s,setV t] w fun e w' =>
  e = .returned (setV (s.and t))∧Below w.heap.size w w':=by
 go_enter Tryz.func85,Tryz.ntmps85
 go_wp2
 refine bodyPost_ret (v:=setV (s.and t)) (by simp [results,Tryz.results85,go_sem,bits_and64,PSet.and]) rfl ⟨rfl,?_⟩
 exact Below3 _ _ _ _
theorem toNat_beq0 (a:BitVec 64):((a.toNat:Int) == 0) = (a == 0):=by
 rw [Bool.eq_iff_iff]; simp [BitVec.toNat_eq]
set_option maxHeartbeats 400000 in
theorem empty_any (s:PSet) (w:World):Calls Tryz.prog 121 #[setV s] w fun e w' =>
  e = .returned (.bool s.isEmpty)∧Below w.heap.size w w':=by
 unfold PSet.isEmpty
 rw [← toNat_beq0,← toNat_beq0]
 cases h1:((s.lo.toNat:Int) == 0) <;> cases h2:((s.hi.toNat:Int) == 0) <;>
 ·go_enter Tryz.func121,Tryz.ntmps121
  go_wp2
  go_ret
  exact ⟨rfl,Below1 _ _⟩
set_option maxHeartbeats 400000 in
theorem meets_any (s t:PSet) (w:World):Calls Tryz.prog 122 #[setV s,setV t] w fun e w' =>
  e = .returned (.bool (s.meets t))∧Below w.heap.size w w':=by
 unfold PSet.meets
 rw [← toNat_beq0,← toNat_beq0,← bits_and64,← bits_and64]
 generalize hA:bits .and .u64 (s.lo.toNat:Int) (t.lo.toNat:Int) = A
 generalize hB:bits .and .u64 (s.hi.toNat:Int) (t.hi.toNat:Int) = B
 cases h1:(A == 0) <;> cases h2:(B == 0) <;>
 ·have g1:(A != 0) = !(A == 0):=rfl
  have g2:(B != 0) = !(B == 0):=rfl
  rw [h1] at g1
  rw [h2] at g2
  go_enter Tryz.func122,Tryz.ntmps122
  go_wp2
  go_ret
  exact ⟨rfl,Below2 _ _ _⟩
theorem wrap_shl (p:Nat):IntKind.u64.wrap ((2:Int) ^ p) = (((1#64 <<< p).toNat:Nat):Int):=by
 rw [IntKind.wrap_u64,BitVec.toNat_shiftLeft,Nat.shiftLeft_eq]
 simp
theorem bcell {W w1:World} (hb:Below W.heap.size W w1):(∀ b o,b < W.heap.size→w1.cell? ⟨b,o,none⟩ = W.cell? ⟨b,o,none⟩)∧(∀ b o,b < W.heap.size→w1.frozen? ⟨b,o,none⟩ = W.frozen? ⟨b,o,none⟩) :=
 ⟨fun b o h=>hb.cell (p:=⟨b,o,none⟩) h,fun b o h=>hb.frozen (p:=⟨b,o,none⟩) h⟩
set_option maxHeartbeats 400000 in
theorem only_any (p:Nat) (hp:p < 9223372036854775807) (w:World):Calls Tryz.prog 139 #[.int .i64 (p:Int)] w fun e w' =>
  e = .returned (setV (PSet.only p))∧Below w.heap.size w w':=by
 by_cases h1:p < 64
 ·go_enter Tryz.func139,Tryz.ntmps139
  go_wp2
  exact bodyPost_ret (v:=setV (PSet.only p)) (by simp [results,Tryz.results139,go_sem,wrap_shl,PSet.only,h1]) rfl ⟨rfl,Below1 _ _⟩
 by_cases h2:p < 128
 ·go_enter Tryz.func139,Tryz.ntmps139
  go_wp2
  exact bodyPost_ret (v:=setV (PSet.only p)) (by simp [results,Tryz.results139,go_sem,wrap_shl,PSet.only,h1,h2]) rfl ⟨rfl,Below1 _ _⟩
 ·go_enter Tryz.func139,Tryz.ntmps139
  go_wp2
  exact bodyPost_ret (v:=setV (PSet.only p)) (by simp [results,Tryz.results139,go_sem,PSet.only,PSet.none,h1,h2]) rfl ⟨rfl,Below1 _ _⟩
set_option maxHeartbeats 400000 in
theorem has_any (s:PSet) (p:Nat) (hp:p < 9223372036854775807) (w:World):Calls Tryz.prog 119 #[setV s,.int .i64 (p:Int)] w fun e w' =>
  e = .returned (.bool (s.has p))∧Below w.heap.size w w':=by
 go_enter Tryz.func119,Tryz.ntmps119
 go_wp2_with fail
 refine (only_any p hp _).mono ?_
 rintro e w1 ⟨rfl,hb⟩
 obtain ⟨hc,hf⟩:=bcell hb
 have hz:w.heap.size < w1.heap.size:=by have:=hb.size; simp at this; omega
 go_wp2_with fail
 refine (meets_any s (PSet.only p) _).mono ?_
 rintro e w2 ⟨rfl,hb2⟩
 go_wp2_with fail
 go_ret
 exact ⟨rfl,(((Below1 w _).trans (hb.mono (by simp))).alloc (by omega) _).trans (hb2.mono (by simp; omega))⟩
end Go.Proofs.YtcckhngbdoiikaaGreat
