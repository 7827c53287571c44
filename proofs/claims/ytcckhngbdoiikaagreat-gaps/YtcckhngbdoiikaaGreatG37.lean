import Derived.Test.YtcckhngbdoiikaaGreatG36

namespace Go.Proofs.YtcckhngbdoiikaaGreat
open Go.RowKit Go.Deep
set_option linter.unusedVariables false
set_option linter.unusedSimpArgs false
structure DM (w:World) (db N:Nat) (R:Nat→Nat) (D:Nat→List Bool):Prop where
 blk:∃ c,Blk w db c 130∧∀ i,i < N→c[i]? = some (.slice (some ⟨R i,0,none⟩) N N)
 each:∀ i,i < N→Blk w (R i) (boolsA (D i)) 4∧(D i).length = N
 inj:∀ i j,i < N→j < N→R i = R j→i = j
theorem DM.below {w w':World} {db N:Nat} {R:Nat→Nat} {D:Nat→List Bool} (h:DM w db N R D) (k:Below w.heap.size w w'):DM w' db N R D:=by
 obtain ⟨c,h1,h2⟩:=h.blk
 exact ⟨⟨c,h1.below k,h2⟩,fun i hi=>⟨(h.each i hi).1.below k,(h.each i hi).2⟩,h.inj⟩
theorem DM.cells {w:World} {db N:Nat} {R:Nat→Nat} {D:Nat→List Bool} (h:DM w db N R D) {i j:Nat} (hi:i < N) (hj:j < N):w.cell? ⟨db,i,none⟩ = some (.slice (some ⟨R i,0,none⟩) N N)∧w.cell? ⟨R i,j,none⟩ = some (.bool ((D i).getD j false)):=by
 obtain ⟨c,h1,h2⟩:=h.blk
 obtain ⟨h3,h4⟩:=h.each i hi
 exact ⟨by rw [h1.cell]; exact h2 i hi,boolsA_cellD h3 j (by omega)⟩
def alS (al:List Bool) (s:Int):Bool:=decide (0 ≤ s) && al.getD s.toNat false
def stB (al:List Bool) (D:Nat→List Bool) (s t:Int):Bool:=(alS al s != alS al t) || (alS al s && alS al t && (D s.toNat).getD t.toNat false)
theorem alS_cases {T:List ByteArray} {To:List (Nat × List Int)} {g:Graph} {K:Nat} {kd:Nat→Nat} {rules:List MT} (hG:GP T To g K kd rules) (al:List Bool) {i b:Nat} (hi:i < g.rule.length) (hb:b < 256):(stepK g (i:Int) (kd b) = -1)∨(∃ t:Nat,t < g.rule.length∧stepK g (i:Int) (kd b) = (t:Int)∧al.getD t false = false)∨(∃ t:Nat,t < g.rule.length∧stepK g (i:Int) (kd b) = (t:Int)∧al.getD t false = true):=by
 rcases hG.leads hi hb with e | ⟨t,ht,e⟩
 ·exact .inl e
 ·cases hh:al.getD t false with
  |false=>exact .inr (.inl ⟨t,ht,e,hh⟩)
  |true=>exact .inr (.inr ⟨t,ht,e,hh⟩)
theorem alS_dead (al:List Bool):alS al (-1) = false:=rfl
theorem alS_nat (al:List Bool) (t:Nat):alS al (t:Int) = al.getD t false:=by unfold alS; simp
set_option maxRecDepth 20000 in
set_option maxHeartbeats 12800000 in
theorem refSteps_any (fb lo ab db dcap N i j:Nat) (R:Nat→Nat) (D:Nat→List Bool) (al:List Bool) (rules:List MT) (tv sv ov:Value) (T:List ByteArray) (S:List (Nat × List Bool)) (To:List (Nat × List Int)) (g:Graph) (K:Nat) (kd:Nat→Nat) (w:World) (hF:FoundAt w lo fb tv sv ov T S To) (hG:GP T To g K kd rules) (hN:N = g.rule.length)
  (hA:Blk w ab (boolsA al) 4) (hal:al.length = N) (hD:DM w db N R D) (hi:i < N) (hj:j < N) :
  Calls Tryz.prog 98 #[.pointer (some ⟨fb,0,none⟩),.slice (some ⟨ab,0,none⟩) N N,.slice (some ⟨db,0,none⟩) N dcap,.int .i64 (i:Int),.int .i64 (j:Int)] w fun e w'=>∃ x,e = .returned (.bool x)∧(x = true↔∃ b,b < 256∧stB al D (stepK g (i:Int) (kd b)) (stepK g (j:Int) (kd b)) = true)∧Below w.heap.size w w':=by
 have hN61:N ≤ 61:=by have:=hG.top; omega
 have HC:=hide (And.intro hF (And.intro hG (And.intro hN (And.intro hA (And.intro hal hD)))))
 have i0:(0:Int) ≤ (i:Int):=by omega
 have i1:(i:Int) < (N:Int):=by omega
 have j0:(0:Int) ≤ (j:Int):=by omega
 have j1:(j:Int) < (N:Int):=by omega
 clear hF hG hN hA hal hD
 go_enter Tryz.func98,Tryz.ntmps98
 go_wp2_with fail
 go_loopg [11] 256 (fun G bv wr=>∃ b:Nat,bv = .int .i64 (b:Int)∧b ≤ 256∧G = 256 - b∧(∀ c,c < b→stB al D (stepK g (i:Int) (kd c)) (stepK g (j:Int) (kd c)) = false)∧Below w.heap.size w wr)
 case atStart=>exact ⟨0,rfl,by omega,rfl,fun c hc=>by omega,Below.refl _ _⟩
 case round =>
  obtain ⟨b,rfl,hb,rfl,hno,hB⟩:=hrel
  by_cases hbl:b < 256
  ·have e3:decide ((b:Int) < 256) = true:=by simp; omega
   obtain ⟨hF,hG,hN,hA,hal,hD⟩:=HC.out
   have hON:To.length = N:=by rw [hG.ol,hN]
   obtain ⟨og,ocap,o1,o2⟩:=(hF.below hB).to (by omega)
   obtain ⟨p1,p2⟩:=o2 i (by omega)
   obtain ⟨r1,r2⟩:=o2 j (by omega)
   have p3:=p2 b hbl
   have r3:=r2 b hbl
   rw [hG.step i b (by omega) hbl] at p3
   rw [hG.step j b (by omega) hbl] at r3
   rw [hON] at o1
   generalize To[i].1 = ob at p1 p3
   generalize To[j].1 = ob2 at r1 r3
   have hA':=hA.below hB
   have hD':=hD.below hB
   have b0:(0:Int) ≤ (b:Int):=by omega
   have b1:(b:Int) < 256:=by omega
   have c1:=alS_cases hG al (i:=i) (b:=b) (by omega) hbl
   have c2:=alS_cases hG al (i:=j) (b:=b) (by omega) hbl
   have HQ:=hide (And.intro hno hB)
   obtain ⟨X,hX⟩:∃ X,stB al D (stepK g (i:Int) (kd b)) (stepK g (j:Int) (kd b)) = X:=⟨_,rfl⟩
   have HX0:=hide hX
   rw [← hN] at c1 c2
   have hca:∀ t,t < N→wr.cell? ⟨ab,t,none⟩ = some (.bool (al.getD t false)):=fun t ht=>boolsA_cellD hA' t (by omega)
   have hcd:∀ s t,s < N→t < N→_:=fun s t hs ht=>hD'.cells hs ht
   have HCA:=hide (And.intro hca hcd)
   clear hF hG hN hA hal hD hON o2 p2 r2 hA' hD' hno hB hca hcd
   generalize stepK g (i:Int) (kd b) = s at c1 p3 hX
   generalize stepK g (j:Int) (kd b) = t at c2 r3 hX
   rcases c1 with rfl | ⟨s,hs,rfl,ha9⟩ | ⟨s,hs,rfl,ha9⟩ <;> rcases c2 with rfl | ⟨t,ht,rfl,ht9⟩ | ⟨t,ht,rfl,ht9⟩
   ·simp only [stB,alS_dead,alS_nat,bne,Bool.true_or,beq_self_eq_true,Bool.not_true,Bool.not_false,Bool.false_beq,Bool.true_beq,Bool.false_and,Bool.and_false,Bool.or_false] at hX
    subst hX
    go_wp2_with fail
    go_roundg (256 - (b + 1))
    case measure=>omega
    case rel =>
     obtain ⟨a1,a2⟩:=HQ.out
     refine ⟨b + 1,by go_num,by omega,rfl,fun c hc=>?_,a2⟩
     by_cases e:c < b
     ·exact a1 c e
     ·rw [show c = b by omega]; exact HX0.out
   ·have t0:(0:Int) ≤ (t:Int):=by omega
    have t1:(t:Int) < (N:Int):=by omega
    have et:decide ((0:Int) ≤ (t:Int)) = true:=by simp
    have ct:=HCA.out.1 t ht
    rw [ht9] at ct
    simp only [stB,alS_dead,alS_nat,ht9,bne,Bool.true_or,beq_self_eq_true,Bool.not_true,Bool.not_false,Bool.false_beq,Bool.true_beq,Bool.false_and,Bool.and_false,Bool.or_false] at hX
    subst hX
    go_wp2_with fail
    go_roundg (256 - (b + 1))
    case measure=>omega
    case rel =>
     obtain ⟨a1,a2⟩:=HQ.out
     refine ⟨b + 1,by go_num,by omega,rfl,fun c hc=>?_,a2⟩
     by_cases e:c < b
     ·exact a1 c e
     ·rw [show c = b by omega]; exact HX0.out
   ·have t0:(0:Int) ≤ (t:Int):=by omega
    have t1:(t:Int) < (N:Int):=by omega
    have et:decide ((0:Int) ≤ (t:Int)) = true:=by simp
    have ct:=HCA.out.1 t ht
    rw [ht9] at ct
    simp only [stB,alS_dead,alS_nat,ht9,bne,Bool.true_or,beq_self_eq_true,Bool.not_true,Bool.not_false,Bool.false_beq,Bool.true_beq,Bool.false_and,Bool.and_false,Bool.or_false] at hX
    subst hX
    go_wp2_with fail
    go_ret
    obtain ⟨a1,a2⟩:=HQ.out
    exact ⟨true,rfl,⟨fun _=>⟨b,hbl,HX0.out⟩,fun _=>rfl⟩,a2⟩
   ·have s0:(0:Int) ≤ (s:Int):=by omega
    have s1:(s:Int) < (N:Int):=by omega
    have es:decide ((0:Int) ≤ (s:Int)) = true:=by simp
    have cs:=HCA.out.1 s hs
    rw [ha9] at cs
    simp only [stB,alS_dead,alS_nat,ha9,bne,Bool.true_or,beq_self_eq_true,Bool.not_true,Bool.not_false,Bool.false_beq,Bool.true_beq,Bool.false_and,Bool.and_false,Bool.or_false] at hX
    subst hX
    go_wp2_with fail
    go_roundg (256 - (b + 1))
    case measure=>omega
    case rel =>
     obtain ⟨a1,a2⟩:=HQ.out
     refine ⟨b + 1,by go_num,by omega,rfl,fun c hc=>?_,a2⟩
     by_cases e:c < b
     ·exact a1 c e
     ·rw [show c = b by omega]; exact HX0.out
   ·have s0:(0:Int) ≤ (s:Int):=by omega
    have s1:(s:Int) < (N:Int):=by omega
    have es:decide ((0:Int) ≤ (s:Int)) = true:=by simp
    have cs:=HCA.out.1 s hs
    rw [ha9] at cs
    have t0:(0:Int) ≤ (t:Int):=by omega
    have t1:(t:Int) < (N:Int):=by omega
    have et:decide ((0:Int) ≤ (t:Int)) = true:=by simp
    have ct:=HCA.out.1 t ht
    rw [ht9] at ct
    simp only [stB,alS_dead,alS_nat,ha9,ht9,bne,Bool.true_or,beq_self_eq_true,Bool.not_true,Bool.not_false,Bool.false_beq,Bool.true_beq,Bool.false_and,Bool.and_false,Bool.or_false] at hX
    subst hX
    go_wp2_with fail
    go_roundg (256 - (b + 1))
    case measure=>omega
    case rel =>
     obtain ⟨a1,a2⟩:=HQ.out
     refine ⟨b + 1,by go_num,by omega,rfl,fun c hc=>?_,a2⟩
     by_cases e:c < b
     ·exact a1 c e
     ·rw [show c = b by omega]; exact HX0.out
   ·have s0:(0:Int) ≤ (s:Int):=by omega
    have s1:(s:Int) < (N:Int):=by omega
    have es:decide ((0:Int) ≤ (s:Int)) = true:=by simp
    have cs:=HCA.out.1 s hs
    rw [ha9] at cs
    have t0:(0:Int) ≤ (t:Int):=by omega
    have t1:(t:Int) < (N:Int):=by omega
    have et:decide ((0:Int) ≤ (t:Int)) = true:=by simp
    have ct:=HCA.out.1 t ht
    rw [ht9] at ct
    simp only [stB,alS_dead,alS_nat,ha9,ht9,bne,Bool.true_or,beq_self_eq_true,Bool.not_true,Bool.not_false,Bool.false_beq,Bool.true_beq,Bool.false_and,Bool.and_false,Bool.or_false] at hX
    subst hX
    go_wp2_with fail
    go_ret
    obtain ⟨a1,a2⟩:=HQ.out
    exact ⟨true,rfl,⟨fun _=>⟨b,hbl,HX0.out⟩,fun _=>rfl⟩,a2⟩
   ·have s0:(0:Int) ≤ (s:Int):=by omega
    have s1:(s:Int) < (N:Int):=by omega
    have es:decide ((0:Int) ≤ (s:Int)) = true:=by simp
    have cs:=HCA.out.1 s hs
    rw [ha9] at cs
    simp only [stB,alS_dead,alS_nat,ha9,bne,Bool.true_or,beq_self_eq_true,Bool.not_true,Bool.not_false,Bool.false_beq,Bool.true_beq,Bool.false_and,Bool.and_false,Bool.or_false] at hX
    subst hX
    go_wp2_with fail
    go_ret
    obtain ⟨a1,a2⟩:=HQ.out
    exact ⟨true,rfl,⟨fun _=>⟨b,hbl,HX0.out⟩,fun _=>rfl⟩,a2⟩
   ·have s0:(0:Int) ≤ (s:Int):=by omega
    have s1:(s:Int) < (N:Int):=by omega
    have es:decide ((0:Int) ≤ (s:Int)) = true:=by simp
    have cs:=HCA.out.1 s hs
    rw [ha9] at cs
    have t0:(0:Int) ≤ (t:Int):=by omega
    have t1:(t:Int) < (N:Int):=by omega
    have et:decide ((0:Int) ≤ (t:Int)) = true:=by simp
    have ct:=HCA.out.1 t ht
    rw [ht9] at ct
    simp only [stB,alS_dead,alS_nat,ha9,ht9,bne,Bool.true_or,beq_self_eq_true,Bool.not_true,Bool.not_false,Bool.false_beq,Bool.true_beq,Bool.false_and,Bool.and_false,Bool.or_false] at hX
    subst hX
    go_wp2_with fail
    go_ret
    obtain ⟨a1,a2⟩:=HQ.out
    exact ⟨true,rfl,⟨fun _=>⟨b,hbl,HX0.out⟩,fun _=>rfl⟩,a2⟩
   ·have s0:(0:Int) ≤ (s:Int):=by omega
    have s1:(s:Int) < (N:Int):=by omega
    have es:decide ((0:Int) ≤ (s:Int)) = true:=by simp
    have cs:=HCA.out.1 s hs
    rw [ha9] at cs
    have t0:(0:Int) ≤ (t:Int):=by omega
    have t1:(t:Int) < (N:Int):=by omega
    have et:decide ((0:Int) ≤ (t:Int)) = true:=by simp
    have ct:=HCA.out.1 t ht
    rw [ht9] at ct
    obtain ⟨cd1,cd2⟩:=HCA.out.2 s t hs ht
    simp only [stB,alS_nat,ha9,ht9,Int.toNat_natCast,bne_self_eq_false,Bool.false_or,Bool.true_and] at hX
    rw [hX] at cd2
    clear hX
    cases X with
    |true =>
     go_wp2_with fail
     go_ret
     obtain ⟨a1,a2⟩:=HQ.out
     exact ⟨true,rfl,⟨fun _=>⟨b,hbl,HX0.out⟩,fun _=>rfl⟩,a2⟩
    |false =>
     go_wp2_with fail
     go_roundg (256 - (b + 1))
     case measure=>omega
     case rel =>
      obtain ⟨a1,a2⟩:=HQ.out
      refine ⟨b + 1,by go_num,by omega,rfl,fun c hc=>?_,a2⟩
      by_cases e:c < b
      ·exact a1 c e
      ·rw [show c = b by omega]; exact HX0.out
  ·have e3:decide ((b:Int) < 256) = false:=by simp; omega
   have HQ:=hide (And.intro hno hB)
   clear hno hB
   go_wp2_with fail
   go_ret
   obtain ⟨a1,a2⟩:=HQ.out
   refine ⟨false,rfl,⟨fun e=>(by cases e),fun ⟨c,h1,h2⟩=>?_⟩,a2⟩
   rw [a1 c (by omega)] at h2; cases h2
end Go.Proofs.YtcckhngbdoiikaaGreat

namespace Go.Proofs.YtcckhngbdoiikaaGreat
open Go.RowKit Go.Deep
set_option linter.unusedVariables false
def ApartK (g:Graph) (K:Nat) (i j:Int):Prop:=∃ ks:List Nat,(∀ k ∈ ks,k < K)∧accK g (runK g i ks) ≠ accK g (runK g j ks)
theorem apart_step {g:Graph} {K k:Nat} {i j:Int} (hk:k < K) (h:ApartK g K (stepK g i k) (stepK g j k)):ApartK g K i j:=by
 obtain ⟨ks,h1,h2⟩:=h
 refine ⟨k :: ks,fun x hx=>?_,h2⟩
 rw [List.mem_cons] at hx
 rcases hx with rfl | hx
 ·exact hk
 ·exact h1 x hx
theorem accK_gone (g:Graph) (ks:List Nat):accK g (runK g (-1) ks) = -1:=by
 rw [runK_dead g ks (-1) (by omega)]
 have h1:accK g (-1) = -1:=by unfold accK; rw [if_pos (by omega)]
 split <;> exact h1
section
variable {T:List ByteArray} {To:List (Nat × List Int)} {g:Graph} {K N:Nat} {kd:Nat→Nat} {rules:List MT} {al:List Bool} {D D0:Nat→List Bool}
theorem alS_false (hG:GP T To g K kd rules) (hal:∀ i:Nat,i < g.rule.length→(al.getD i false = true↔Lives g K (i:Int))) {i b:Nat} (hi:i < g.rule.length) (hb:b < 256) (h:alS al (stepK g (i:Int) (kd b)) = false) (ks:List Nat) (hk:∀ k ∈ ks,k < K):accK g (runK g (stepK g (i:Int) (kd b)) ks) = -1:=by
 rcases alS_cases hG al hi hb with e | ⟨t,ht,e,hx⟩ | ⟨t,ht,e,hx⟩
 ·rw [e]; exact accK_gone g ks
 ·rw [e]
  refine Decidable.not_not.1 fun hn=>?_
  have:=(hal t ht).2 ⟨ks,hk,hn⟩
  rw [hx] at this; cases this
 ·rw [e,alS_nat,hx] at h; cases h
theorem alS_true (hG:GP T To g K kd rules) {i b:Nat} (hi:i < g.rule.length) (hb:b < 256) (h:alS al (stepK g (i:Int) (kd b)) = true):∃ t:Nat,t < g.rule.length∧stepK g (i:Int) (kd b) = (t:Int)∧al.getD t false = true:=by
 rcases alS_cases hG al hi hb with e | ⟨t,ht,e,hx⟩ | ⟨t,ht,e,hx⟩
 ·rw [e,alS_dead] at h; cases h
 ·rw [e,alS_nat,hx] at h; cases h
 ·exact ⟨t,ht,e,hx⟩
def SoundD (g:Graph) (K:Nat) (D:Nat→List Bool):Prop:=∀ i j:Nat,i < g.rule.length→j < g.rule.length→(D i).getD j false = true→ApartK g K (i:Int) (j:Int)
def BaseD (g:Graph) (D:Nat→List Bool):Prop:=∀ i j:Nat,i < g.rule.length→j < g.rule.length→g.rule.getD i 0 ≠ g.rule.getD j 0→(D i).getD j false = true
theorem st_sound (hG:GP T To g K kd rules) (hal:∀ i:Nat,i < g.rule.length→(al.getD i false = true↔Lives g K (i:Int))) (hs:SoundD g K D) {i j b:Nat} (hi:i < g.rule.length) (hj:j < g.rule.length) (hb:b < 256) (h:stB al D (stepK g (i:Int) (kd b)) (stepK g (j:Int) (kd b)) = true):ApartK g K (i:Int) (j:Int):=by
 refine apart_step (hG.kin b hb) ?_
 unfold stB at h
 cases h1:alS al (stepK g (i:Int) (kd b)) <;> cases h2:alS al (stepK g (j:Int) (kd b))
 ·rw [h1,h2] at h; simp at h
 ·obtain ⟨t,ht,e,hx⟩:=alS_true hG hj hb h2
  obtain ⟨ks,k1,k2⟩:=(hal t ht).1 hx
  exact ⟨ks,k1,by rw [alS_false hG hal hi hb h1 ks k1,e]; exact fun e'=>k2 e'.symm⟩
 ·obtain ⟨t,ht,e,hx⟩:=alS_true hG hi hb h1
  obtain ⟨ks,k1,k2⟩:=(hal t ht).1 hx
  exact ⟨ks,k1,by rw [alS_false hG hal hj hb h2 ks k1,e]; exact k2⟩
 ·obtain ⟨s,hs',e,hx⟩:=alS_true hG hi hb h1
  obtain ⟨t,ht,e2,hx2⟩:=alS_true hG hj hb h2
  rw [h1,h2] at h
  simp only [bne_self_eq_false,Bool.false_or,Bool.true_and] at h
  rw [e,e2,Int.toNat_natCast,Int.toNat_natCast] at h
  rw [e,e2]
  exact hs s t hs' ht h
theorem closed_alike (hG:GP T To g K kd rules) (hal:∀ i:Nat,i < g.rule.length→(al.getD i false = true↔Lives g K (i:Int))) (hb:BaseD g D) (hc:∀ i j b:Nat,i < g.rule.length→j < g.rule.length→b < 256→(D i).getD j false = false→stB al D (stepK g (i:Int) (kd b)) (stepK g (j:Int) (kd b)) = false):∀ (ks:List Nat) (i j:Nat),i < g.rule.length→j < g.rule.length→(∀ k ∈ ks,k < K)→(D i).getD j false = false→accK g (runK g (i:Int) ks) = accK g (runK g (j:Int) ks)
 | [],i,j,hi,hj,_,h=>by
  show accK g (i:Int) = accK g (j:Int)
  rw [acc_nat,acc_nat]
  refine Decidable.not_not.1 fun hn=>?_
  rw [hb i j hi hj hn] at h; cases h
 |k :: ks,i,j,hi,hj,hk,h=>by
  obtain ⟨b,hbb,rfl⟩:=hG.onto k (hk k (by simp))
  have h9:=hc i j b hi hj hbb h
  have hk':∀ x ∈ ks,x < K:=fun x hx=>hk x (by simp [hx])
  show accK g (runK g (stepK g (i:Int) (kd b)) ks) = accK g (runK g (stepK g (j:Int) (kd b)) ks)
  unfold stB at h9
  cases h1:alS al (stepK g (i:Int) (kd b)) <;> cases h2:alS al (stepK g (j:Int) (kd b))
  ·rw [alS_false hG hal hi hbb h1 ks hk',alS_false hG hal hj hbb h2 ks hk']
  ·rw [h1,h2] at h9; simp at h9
  ·rw [h1,h2] at h9; simp at h9
  ·obtain ⟨s,hs',e,hx⟩:=alS_true hG hi hbb h1
   obtain ⟨t,ht,e2,hx2⟩:=alS_true hG hj hbb h2
   rw [h1,h2] at h9
   simp only [bne_self_eq_false,Bool.false_or,Bool.true_and] at h9
   rw [e,e2,Int.toNat_natCast,Int.toNat_natCast] at h9
   rw [e,e2]
   exact closed_alike hG hal hb hc ks s t hs' ht hk' h9
theorem countP_lt {p q:Nat→Bool}:∀ (L:List Nat),(∀ x,p x = true→q x = true)→(∃ x ∈ L,p x = false∧q x = true)→L.countP p < L.countP q
 | [],_,h=>by simp at h
 |x :: L,hpq,h=>by
  have hle:L.countP p ≤ L.countP q:=List.countP_mono_left fun y _ hy=>hpq y hy
  rw [List.countP_cons,List.countP_cons]
  obtain ⟨y,hy,h1,h2⟩:=h
  rw [List.mem_cons] at hy
  rcases hy with rfl | hy
  ·rw [if_neg (by rw [h1]; simp),if_pos h2]; omega
  ·have ih:=countP_lt L hpq ⟨y,hy,h1,h2⟩
   by_cases hp:p x = true
   ·rw [if_pos hp,if_pos (hpq x hp)]; omega
   ·rw [if_neg hp]; split <;> omega
def cntD (N:Nat) (D:Nat→List Bool):Nat:=(List.range (N * N)).countP (fun q=>(D (q / N)).getD (q % N) false)
theorem cntD_le (N:Nat) (D:Nat→List Bool):cntD N D ≤ N * N:=by have:=List.countP_le_length (p:=fun q=>(D (q / N)).getD (q % N) false) (l:=List.range (N * N)); rwa [List.length_range] at this
def updD (D:Nat→List Bool) (i:Nat) (l:List Bool):Nat→List Bool:=fun a=>if a = i then l else D a
theorem updD_getD (D:Nat→List Bool) {i j:Nat} (hj:j < (D i).length) (x:Bool) (a c:Nat):(updD D i ((D i).set j x) a).getD c false = if a = i∧c = j then x else (D a).getD c false:=by
 unfold updD
 by_cases e:a = i
 ·subst e
  rw [if_pos rfl,getD_setB _ _ _ _ hj]
  by_cases e2:c = j
  ·rw [if_pos e2,if_pos ⟨rfl,e2⟩]
  ·rw [if_neg e2,if_neg (fun h=>e2 h.2)]
 ·rw [if_neg e,if_neg (fun h=>e h.1)]
theorem cntD_lt {i j:Nat} (hi:i < N) (hj:j < N) (hl:j < (D i).length) (h:(D i).getD j false = false):cntD N D < cntD N (updD D i ((D i).set j true)):=by
 refine countP_lt _ (fun q hq=>?_) ⟨i * N + j,?_,?_,?_⟩
 ·rw [updD_getD D hl]
  split
  ·rfl
  ·exact hq
 ·rw [List.mem_range]
  have:(i + 1) * N ≤ N * N:=Nat.mul_le_mul_right _ hi
  rw [Nat.succ_mul] at this
  omega
 ·rw [show (i * N + j) / N = i by rw [Nat.mul_comm,Nat.mul_add_div (by omega),Nat.div_eq_of_lt hj]; omega,show (i * N + j) % N = j by rw [Nat.mul_comm,Nat.mul_add_mod,Nat.mod_eq_of_lt hj]]
  exact h
 ·rw [show (i * N + j) / N = i by rw [Nat.mul_comm,Nat.mul_add_div (by omega),Nat.div_eq_of_lt hj]; omega,show (i * N + j) % N = j by rw [Nat.mul_comm,Nat.mul_add_mod,Nat.mod_eq_of_lt hj],updD_getD D hl,if_pos ⟨rfl,rfl⟩]
structure PassD (g:Graph) (K:Nat) (kd:Nat→Nat) (al:List Bool) (D0 D:Nat→List Bool) (more:Bool) (i j:Nat):Prop where
 sound:SoundD g K D
 base:BaseD g D
 or:(more = false∧D = D0∧∀ a c b:Nat,a < g.rule.length→c < g.rule.length→b < 256→(a < i∨(a = i∧c < j))→(D0 a).getD c false = false→stB al D0 (stepK g (a:Int) (kd b)) (stepK g (c:Int) (kd b)) = false)∨(more = true∧cntD g.rule.length D0 < cntD g.rule.length D)
theorem PassD.start (h1:SoundD g K D0) (h2:BaseD g D0):PassD g K kd al D0 D0 false 0 0:=⟨h1,h2,.inl ⟨rfl,rfl,fun a c b ha hc hb hv=>by omega⟩⟩
theorem PassD.row {more:Bool} {i:Nat} (h:PassD g K kd al D0 D more i g.rule.length):PassD g K kd al D0 D more (i + 1) 0:=⟨h.sound,h.base,h.or.imp (fun e=>⟨e.1,e.2.1,fun a c b ha hc hb hv=>e.2.2 a c b ha hc hb (by omega)⟩) id⟩
theorem PassD.pass {more:Bool} {i j:Nat} (h:PassD g K kd al D0 D more i j) (hx:(D i).getD j false = true∨∀ b,b < 256→stB al D (stepK g (i:Int) (kd b)) (stepK g (j:Int) (kd b)) = false):PassD g K kd al D0 D more i (j + 1):=by
 refine ⟨h.sound,h.base,h.or.imp (fun e=>⟨e.1,e.2.1,fun a c b ha hc hb hv hd=>?_⟩) id⟩
 by_cases ee:a = i∧c = j
 ·obtain ⟨rfl,rfl⟩:=ee
  rw [e.2.1] at hx
  rcases hx with hx | hx
  ·rw [hx] at hd; cases hd
  ·exact hx b hb
 ·exact e.2.2 a c b ha hc hb (by omega) hd
theorem PassD.mark (hG:GP T To g K kd rules) (hal:∀ i:Nat,i < g.rule.length→(al.getD i false = true↔Lives g K (i:Int))) {more:Bool} {i j:Nat} (h:PassD g K kd al D0 D more i j) (hi:i < g.rule.length) (hj:j < g.rule.length) (hl:(D i).length = g.rule.length) (hf:(D i).getD j false = false) (hx:∃ b,b < 256∧stB al D (stepK g (i:Int) (kd b)) (stepK g (j:Int) (kd b)) = true):PassD g K kd al D0 (updD D i ((D i).set j true)) true i (j + 1):=by
 obtain ⟨b,hb,hs⟩:=hx
 have hap:=st_sound hG hal h.sound hi hj hb hs
 have hc:=cntD_lt hi hj (by omega) hf
 refine ⟨fun a c ha hc' hd=>?_,fun a c ha hc' hd=>?_,.inr ⟨rfl,?_⟩⟩
 ·rw [updD_getD D (by omega)] at hd
  by_cases ee:a = i∧c = j
  ·obtain ⟨rfl,rfl⟩:=ee; exact hap
  ·rw [if_neg ee] at hd; exact h.sound a c ha hc' hd
 ·rw [updD_getD D (by omega)]
  split
  ·rfl
  ·exact h.base a c ha hc' hd
 ·rcases h.or with ⟨_,e,_⟩ | ⟨_,e⟩
  ·rw [← e]; exact hc
  ·omega
theorem PassD.more (h:PassD g K kd al D0 D true g.rule.length 0):cntD g.rule.length D0 < cntD g.rule.length D:=by
 rcases h.or with ⟨e,_⟩ | ⟨_,e⟩
 ·cases e
 ·exact e
theorem PassD.end (hG:GP T To g K kd rules) (hal:∀ i:Nat,i < g.rule.length→(al.getD i false = true↔Lives g K (i:Int))) (h:PassD g K kd al D0 D false g.rule.length 0):D = D0∧∀ i j:Nat,i < g.rule.length→j < g.rule.length→((D i).getD j false = true↔ApartK g K (i:Int) (j:Int)):=by
 rcases h.or with ⟨_,e,hv⟩ | ⟨e,_⟩
 ·refine ⟨e,fun i j hi hj=>⟨h.sound i j hi hj,fun ⟨ks,h1,h2⟩=>?_⟩⟩
  cases hh:(D i).getD j false with
  |true=>rfl
  |false=>exact absurd (closed_alike hG hal h.base (fun a c b ha hc hb hd=>by rw [e] at hd ⊢; exact hv a c b ha hc hb (.inl ha) hd) ks i j hi hj h1 hh) h2
 ·cases e
end
structure DP (w:World) (lo db N m:Nat) (R:Nat→Nat) (D:Nat→List Bool):Prop where
 blk:∃ c,Blk w db c 130∧c.size = N∧∀ i,i < m→c[i]? = some (.slice (some ⟨R i,0,none⟩) N N)
 each:∀ i,i < m→Blk w (R i) (boolsA (D i)) 4∧(D i).length = N∧lo ≤ R i
 inj:∀ i j,i < m→j < m→R i = R j→i = j
section
variable {w w':World} {lo db N m:Nat} {R:Nat→Nat} {D:Nat→List Bool}
theorem DP.dm (h:DP w lo db N N R D):DM w db N R D:=by
 obtain ⟨c,h1,_,h2⟩:=h.blk
 exact ⟨⟨c,h1,h2⟩,fun i hi=>⟨(h.each i hi).1,(h.each i hi).2.1⟩,h.inj⟩
theorem DP.below (h:DP w lo db N m R D) (k:Below w.heap.size w w'):DP w' lo db N m R D:=by
 obtain ⟨c,h1,h2⟩:=h.blk
 exact ⟨⟨c,h1.below k,h2⟩,fun i hi=>⟨(h.each i hi).1.below k,(h.each i hi).2⟩,h.inj⟩
theorem DP.set (h:DP w lo db N m R D) {i:Nat} (hi:i < m) (j:Nat) (x:Bool):DP (w.setCell ⟨R i,j,none⟩ (.bool x)) lo db N m R (updD D i ((D i).set j x)):=by
 have kk:Kept (fun b=>b = R i) w (w.setCell ⟨R i,j,none⟩ (.bool x)):=Kept.setCell (ex:=fun b=>b = R i) (p:=⟨R i,j,none⟩) (Kept.refl _ _) (fun _=>rfl) _
 obtain ⟨c,h1,h2⟩:=h.blk
 refine ⟨⟨c,h1.kept kk (fun e=>h1.ne (h.each i hi).1 (by decide) e),h2⟩,fun a ha=>?_,h.inj⟩
 obtain ⟨k1,k2,k3⟩:=h.each a ha
 unfold updD
 by_cases e:a = i
 ·subst e
  rw [if_pos rfl]
  exact ⟨by rw [← boolsA_set]; exact k1.set j _,by simp [k2],k3⟩
 ·rw [if_neg e]
  exact ⟨k1.kept kk (fun e'=>e (h.inj a i ha hi e')),k2,k3⟩
theorem DP.push (h:DP w lo db N m R D) (hlo:lo ≤ w.heap.size) (hm:m < N) {l:List Bool} (hl:l.length = N):DP ((w.alloc (.cells (boolsA l) 4)).setCell ⟨db,m,none⟩ (.slice (some ⟨w.heap.size,0,none⟩) N N)) lo db N (m + 1) (updR R m w.heap.size) (updD D m l):=by
 have kk:Kept (fun b=>b = db) (w.alloc (.cells (boolsA l) 4)) ((w.alloc (.cells (boolsA l) 4)).setCell ⟨db,m,none⟩ (.slice (some ⟨w.heap.size,0,none⟩) N N)):=Kept.setCell (ex:=fun b=>b = db) (p:=⟨db,m,none⟩) (Kept.refl _ _) (fun _=>rfl) _
 obtain ⟨c,h1,h2,h3⟩:=h.blk
 have h1':=h1.alloc (.cells (boolsA l) 4)
 have hn:=Blk.new w (boolsA l) 4
 refine ⟨⟨_,h1'.set m _,by simp [h2],fun i hi=>?_⟩,fun a ha=>?_,fun a b ha hb e=>?_⟩
 ·rw [Array.getElem?_setIfInBounds]
  unfold updR
  by_cases e:i = m
  ·subst e; rw [if_pos rfl,if_pos rfl,if_pos (by omega)]
  ·rw [if_neg (fun e'=>e e'.symm),if_neg e]; exact h3 i (by omega)
 ·unfold updR updD
  by_cases e:a = m
  ·rw [if_pos e,if_pos e]
   exact ⟨hn.kept kk (fun e=>hn.ne h1' (by decide) e),hl,hlo⟩
  ·rw [if_neg e,if_neg e]
   obtain ⟨k1,k2,k3⟩:=h.each a (by omega)
   exact ⟨(k1.alloc _).kept kk (fun e=>(k1.alloc _).ne h1' (by decide) e),k2,k3⟩
 ·unfold updR at e
  by_cases e1:a = m <;> by_cases e2:b = m
  ·omega
  ·rw [if_pos e1,if_neg e2] at e
   have:=(h.each b (by omega)).1.lt; omega
  ·rw [if_neg e1,if_pos e2] at e
   have:=(h.each a (by omega)).1.lt; omega
  ·rw [if_neg e1,if_neg e2] at e
   exact h.inj a b (by omega) (by omega) e
end
theorem DP.start {w:World} {db N:Nat} (lo:Nat) (h:Blk w db (nilsB N) 130):DP w lo db N 0 (fun _=>0) (fun _=>[]):=⟨⟨_,h,by simp [nilsB],fun i hi=>by omega⟩,fun i hi=>by omega,fun i j hi=>by omega⟩
def measD (N:Nat) (D:Nat→List Bool) (more:Bool):Nat:=2 * (N * N - cntD N D) + more.toNat
theorem measD_more {N:Nat} {D D':Nat→List Bool} (h:cntD N D < cntD N D'):measD N D' true < measD N D true:=by
 have:=cntD_le N D'
 unfold measD
 omega
theorem measD_end (N:Nat) (D:Nat→List Bool):measD N D false < measD N D true:=by unfold measD; simp
set_option maxRecDepth 20000 in
set_option maxHeartbeats 12800000 in
theorem refParted_any (xb fb lo ab N:Nat) (rs:ByteArray) (f:Nat→Int) (rules:List MT) (tv sv ov:Value) (T:List ByteArray) (S:List (Nat × List Bool)) (To:List (Nat × List Int)) (g:Graph) (K:Nat) (kd:Nat→Nat) (al:List Bool) (w:World) (hL:LexR w xb rs f rules) (hF:FoundAt w lo fb tv sv ov T S To) (hG:GP T To g K kd rules) (hN:N = g.rule.length)
  (hA:Blk w ab (boolsA al) 4) (hal:al.length = N) (hlv:∀ i:Nat,i < g.rule.length→(al.getD i false = true↔Lives g K (i:Int))) :
  Calls Tryz.prog 56 #[.pointer (some ⟨xb,0,none⟩),.pointer (some ⟨fb,0,none⟩),.slice (some ⟨ab,0,none⟩) N N] w fun e w'=>∃ db R D,e = .returned (.slice (some ⟨db,0,none⟩) N N)∧DM w' db N R D∧(∀ i j:Nat,i < N→j < N→((D i).getD j false = true↔ApartK g K (i:Int) (j:Int)))∧Below w.heap.size w w':=by
 have hto:=hG.top
 have hTN:T.length = N:=by rw [hG.tl,hN]
 have hN61:N ≤ 61:=by omega
 have hN0:0 < N:=by omega
 have hmk:=makeInts N (by omega)
 have hmk2:=makeNilsB N (by omega)
 have hmk3:=makeBools N (by omega)
 obtain ⟨tg,tcap,c0,ct⟩:=hF.txt' (by omega)
 rw [hTN] at c0
 have zf:=hF.blk.lt
 have HC:=hide (And.intro hL (And.intro hF (And.intro hG (And.intro hN (And.intro hA (And.intro hal (And.intro hlv hTN)))))))
 obtain ⟨w1,hw1⟩:∃ w1:World,w.alloc (.cells (intsA (List.replicate N 0)) 3) = w1:=⟨_,rfl⟩
 have hB1:Below w.heap.size w w1:=by rw [← hw1]; exact Below1 _ _
 have hO1:Blk w1 w.heap.size (intsA (List.replicate N 0)) 3:=by rw [← hw1]; exact Blk.new _ _ _
 have H1:=hide (And.intro hB1 hO1)
 clear hL hF hG hN ct hTN hto hB1 hO1 hA hal hlv
 go_enter Tryz.func56,Tryz.ntmps56
 go_upto_region 3 with fail
 try rw [hw1]
 clear hw1 hmk
 go_wp2_with fail
 go_loopg [9] N (fun G nv wr=>∃ (n:Nat) (l:List Int),nv = .int .i64 (n:Int)∧n ≤ N∧G = N - n∧l.length = N∧(∀ i,i < n→l.getD i 0 = g.rule.getD i 0)∧Blk wr w.heap.size (intsA l) 3∧Below w.heap.size w wr)
 case atStart=>exact ⟨0,_,rfl,by omega,rfl,by simp,fun i hi=>by omega,H1.out.2,H1.out.1⟩
 case round =>
  obtain ⟨n,l,rfl,hn,rfl,hl,hlv,hO,hB⟩:=hrel
  have zo:=hO.lt
  have hzz:=hB.size
  by_cases hlt:n < N
  ·have e0:decide ((n:Int) < (N:Int)) = true:=by simp; omega
   obtain ⟨hL,hF,hG,hN,_,_,_,hTN⟩:=HC.out
   have hnT:n < T.length:=by omega
   have c02:wr.cell? ⟨fb,0,none⟩ = some (.slice (some ⟨tg,0,none⟩) N tcap):=by rw [hB.cell zf]; exact c0
   obtain ⟨tg',tcap',c9,ct9⟩:=(hF.below hB).txt' (by omega)
   have e9:tg' = tg:=by rw [c02] at c9; injection c9 with e; injection e with e; injection e with e; injection e with e; exact e.symm
   subst e9
   have ct2:=ct9 n hnT
   have HT:=hide (refTok_any xb rs T[n] f rules wr (hL.below hB) (hG.size n hnT))
   have htok:=hide (hG.tok n · hnT)
   generalize T[n] = tn at ct2 HT htok
   have n0:(0:Int) ≤ (n:Int):=by omega
   have n1:(n:Int) < (N:Int):=by omega
   have HI:=hide (And.intro hl (And.intro hlv (And.intro hO hB)))
   clear hL hF hG hN ct9 c9 hnT hl hlv hO hB hTN hmk2 hmk3
   go_wp2_with fail
   refine HT.out.mono ?_
   rintro e w2 ⟨r,rfl,hr,hb2⟩
   have hrr:=htok.out r hr
   obtain ⟨a1,a2,a3,a4⟩:=HI.out
   have a3':=a3.below hb2
   have cb:=intsA_cellD a3' n (by omega)
   generalize l.getD n 0 = y at cb
   have fb2:=a3'.frozen n
   have zo2:=a3'.lt
   have HR:=hide (And.intro hrr hb2)
   clear hrr hb2 hr a1 a2 a3 a4 a3' HT htok
   go_wp2_with fail
   go_roundg (N - (n + 1))
   case measure=>omega
   case rel =>
    obtain ⟨a1,a2,a3,a4⟩:=HI.out
    obtain ⟨b1,b2⟩:=HR.out
    refine ⟨n + 1,l.set n r,by go_num,by omega,rfl,by simp [a1],fun i hi=>?_,by rw [← intsA_set]; exact (a3.below b2).set n _,(a4.trans (b2.mono a4.size)).setCell (Nat.le_refl _) _⟩
    rw [getD_setI _ _ _ _ (by omega)]
    by_cases ei:i = n
    ·rw [if_pos ei,ei]; exact b1
    ·rw [if_neg ei]; exact a2 i (by omega)
  ·have e0:decide ((n:Int) < (N:Int)) = false:=by simp; omega
   obtain ⟨db,hdb⟩:∃ db,wr.heap.size = db:=⟨_,rfl⟩
   have hlv':∀ i,i < N→l.getD i 0 = g.rule.getD i 0:=fun i hi=>hlv i (by omega)
   have HI:=hide (And.intro hl (And.intro hlv' (And.intro hO (And.intro hB hdb))))
   have hdbl:w.heap.size ≤ db:=by omega
   clear hl hlv hlv' hO hB c0
   obtain ⟨wo,rfl⟩:∃ wo:World,wo = wr:=⟨_,rfl⟩
   go_upto_region 8 with fail
   try rw [hdb]
   have HZ:=hide hdb
   clear hdb hmk2
   go_wp2_with fail
   go_loopg [11] N (fun G iv wr=>∃ (i:Nat) (R:Nat→Nat) (D:Nat→List Bool),iv = .int .i64 (i:Int)∧i ≤ N∧G = N - i∧DP wr w.heap.size db N i R D∧(∀ a c,a < i→c < N→(D a).getD c false = (g.rule.getD a 0 != g.rule.getD c 0))∧Blk wr w.heap.size (intsA l) 3∧Below w.heap.size w wr)
   case atStart =>
    obtain ⟨a1,a2,a3,a4,a5⟩:=HI.out
    subst a5
    exact ⟨0,_,_,rfl,by omega,rfl,DP.start _ (Blk.new _ _ _),fun a c ha=>by omega,a3.alloc _,a4.alloc a4.size _⟩
   case round =>
    obtain ⟨i,R,D,rfl,hi,rfl,hD,hDv,hO,hB⟩:=hrel
    have zo:=hO.lt
    have hzz:=hB.size
    by_cases hiN:i < N
    ·have e1:decide ((i:Int) < (N:Int)) = true:=by simp; omega
     have i0:(0:Int) ≤ (i:Int):=by omega
     have i1:(i:Int) < (N:Int):=by omega
     obtain ⟨c,b1,b2,b3⟩:=hD.blk
     have zd:=b1.lt
     obtain ⟨v9,hv9⟩:∃ v9,c[i]? = some v9:=⟨c[i],by simp [b2,hiN]⟩
     have cd:wr.cell? ⟨db,i,none⟩ = some v9:=by rw [b1.cell]; exact hv9
     have fd:=b1.frozen i
     have hP:=hD.push (l:=List.replicate N false) hzz hiN (by simp)
     have hR':updR R i wr.heap.size i = wr.heap.size:=by simp [updR]
     have hO':Blk ((wr.alloc (.cells (boolsA (List.replicate N false)) 4)).setCell ⟨db,i,none⟩ (.slice (some ⟨wr.heap.size,0,none⟩) N N)) w.heap.size (intsA l) 3:=(hO.alloc _).kept (Kept.setCell (ex:=fun x=>x = db) (p:=⟨db,i,none⟩) (Kept.refl _ _) (fun _=>rfl) _) (fun e=>hO.ne b1 (by decide) e)
     have hB':=(hB.alloc hzz (.cells (boolsA (List.replicate N false)) 4)).setCell (p:=⟨db,i,none⟩) hdbl (.slice (some ⟨wr.heap.size,0,none⟩) N N)
     have HJ:=hide (And.intro hP (And.intro hDv (And.intro hO' hB')))
     obtain ⟨R2,hR2⟩:∃ R2,updR R i wr.heap.size = R2:=⟨_,rfl⟩
     rw [hR2] at HJ
     clear hP hDv hO hB hO' hB' b1 b2 b3 hv9 hD hR2 hR'
     go_wp2_with fail
     go_loopg [12] N (fun G jv wr=>∃ (j:Nat) (D:Nat→List Bool),jv = .int .i64 (j:Int)∧j ≤ N∧G = N - j∧DP wr w.heap.size db N (i + 1) R2 D∧(∀ a c,a < i→c < N→(D a).getD c false = (g.rule.getD a 0 != g.rule.getD c 0))∧(∀ c,c < j→(D i).getD c false = (g.rule.getD i 0 != g.rule.getD c 0))∧Blk wr w.heap.size (intsA l) 3∧Below w.heap.size w wr)
     case atStart =>
      obtain ⟨a1,a2,a3,a4⟩:=HJ.out
      rw [World.setCell_alloc_past _ _ _ _ zd] at a1 a3 a4
      exact ⟨0,_,rfl,by omega,rfl,a1,fun a c ha hc=>by unfold updD; rw [if_neg (by omega)]; exact a2 a c ha hc,fun c hc=>by omega,a3,a4⟩
     case round =>
      obtain ⟨j,D2,rfl,hj,rfl,hD,hDv,hDj,hO,hB⟩:=hrel
      have zo:=hO.lt
      by_cases hjN:j < N
      ·have e2:decide ((j:Int) < (N:Int)) = true:=by simp; omega
       have j0:(0:Int) ≤ (j:Int):=by omega
       have j1:(j:Int) < (N:Int):=by omega
       obtain ⟨c,b1,b2,b3⟩:=hD.blk
       obtain ⟨k1,k2,k3⟩:=hD.each i (by omega)
       have zd:=b1.lt
       have cd:wr.cell? ⟨db,i,none⟩ = some (.slice (some ⟨R2 i,0,none⟩) N N):=by rw [b1.cell]; exact b3 i (by omega)
       have ci:=intsA_cellD hO i (by rw [HI.out.1]; exact hiN)
       have cj:=intsA_cellD hO j (by rw [HI.out.1]; exact hjN)
       rw [HI.out.2.1 i hiN] at ci
       rw [HI.out.2.1 j hjN] at cj
       have cr:=boolsA_cellD k1 j (by omega)
       have fr:=k1.frozen j
       have zr:=k1.lt
       generalize hri:R2 i = rb at cd cr fr zr k3
       generalize (D2 i).getD j false = y at cr
       obtain ⟨x,hx⟩:∃ x,(g.rule.getD i 0 != g.rule.getD j 0) = x:=⟨_,rfl⟩
       have HX:=hide hx
       generalize g.rule.getD i 0 = ri at ci hx
       generalize g.rule.getD j 0 = rj at cj hx
       have HQ:=hide (And.intro hD (And.intro hDv (And.intro hDj (And.intro hO (And.intro hB (And.intro hri (And.intro k2 k3)))))))
       have hne:rb ≠ w.heap.size:=by rw [← hri]; exact k1.ne hO (by decide)
       clear hD hDv hDj hO hB b1 b2 b3 k1 k2 hri HJ HC H1
       go_upto_region 15 with fail
       go_region
       all_goals
        go_wp2_with fail
        go_roundg (N - (j + 1))
        case measure=>omega
        case rel =>
         obtain ⟨a1,a2,a3,a4,a5,a6,a7,a8⟩:=HQ.out
         have hs:=(a1.below (Below_drew' wr)).set (i:=i) (by omega) j x
         rw [a6] at hs
         refine ⟨j + 1,_,by go_num,by omega,rfl,hs,fun a c ha hc=>?_,fun c hc=>?_,(a4.below (Below_drew' wr)).kept (Kept.setCell (ex:=fun x=>x = rb) (p:=⟨rb,j,none⟩) (Kept.refl _ _) (fun _=>rfl) _) (fun e=>hne e.symm),?_⟩
         ·rw [updD_getD D2 (by omega),if_neg (by omega)]; exact a2 a c ha hc
         ·rw [updD_getD D2 (by omega)]
          by_cases ec:c = j
          ·rw [if_pos ⟨rfl,ec⟩,ec]; exact HX.out.symm
          ·rw [if_neg (fun h=>ec h.2)]; exact a3 c (by omega)
         ·exact (a5.trans ((Below_drew' wr).mono a5.size)).setCell k3 _
      ·have e2:decide ((j:Int) < (N:Int)) = false:=by simp; omega
       have HQ:=hide (And.intro hD (And.intro hDv (And.intro hDj (And.intro hO hB))))
       clear hD hDv hDj hO hB HJ
       go_wp2_with fail
       go_roundg (N - (i + 1))
       case measure=>omega
       case rel =>
        obtain ⟨a1,a2,a3,a4,a5⟩:=HQ.out
        refine ⟨i + 1,R2,D2,by go_num,by omega,rfl,a1,fun a c ha hc=>?_,a4,a5⟩
        by_cases ea:a = i
        ·rw [ea]; exact a3 c (by omega)
        ·exact a2 a c (by omega) hc
    ·have e1:decide ((i:Int) < (N:Int)) = false:=by simp; omega
     have hiN':i = N:=by omega
     subst hiN'
     obtain ⟨hL,hF,hG,hN,hA,hal,hlv,hTN⟩:=HC.out
     have hso:SoundD g K D:=fun a c ha hc hd=>⟨[],by simp,by
      show accK g (a:Int) ≠ accK g (c:Int)
      rw [hDv a c (by omega) (by omega)] at hd
      rw [acc_nat,acc_nat]
      exact bne_iff_ne.1 hd⟩
     have hba:BaseD g D:=fun a c ha hc hd=>by
      rw [hDv a c (by omega) (by omega)]
      exact bne_iff_ne.2 hd
     have HJ:=hide (And.intro hD (And.intro hso (And.intro hba hB)))
     clear hD hDv hO hB hso hba hL hF hG hN hA hal hlv hTN hmk3 HI HZ zo
     go_wp2_with fail
     go_loopg [13] (measD i D true) (fun G mv wr=>∃ (more:Bool) (D:Nat→List Bool),mv = .bool more∧G = measD i D more∧DP wr w.heap.size db i i R D∧SoundD g K D∧BaseD g D∧(more = false→∀ a c:Nat,a < i→c < i→((D a).getD c false = true↔ApartK g K (a:Int) (c:Int)))∧Below w.heap.size w wr)
     case atStart =>
      obtain ⟨a1,a2,a3,a4⟩:=HJ.out
      exact ⟨true,D,rfl,rfl,a1,a2,a3,fun e=>(by cases e),a4⟩
     case round =>
      obtain ⟨more,D,rfl,rfl,hD,hso,hba,hsp,hB⟩:=hrel
      have HK:=hide (And.intro hD (And.intro hso (And.intro hba (And.intro hsp hB))))
      clear hD hso hba hsp hB HJ
      cases more with
      |false =>
       go_wp2_with fail
       go_ret
       obtain ⟨a1,a2,a3,a4,a5⟩:=HK.out
       exact ⟨db,rfl,R,D,a1.dm,a4 (by simp),a5⟩
      |true =>
       go_wp2_with fail
       go_loopg [13,14] i (fun G mv pv wr=>∃ (more:Bool) (p:Nat) (E:Nat→List Bool),mv = .bool more∧pv = .int .i64 (p:Int)∧p ≤ i∧G = i - p∧DP wr w.heap.size db i i R E∧PassD g K kd al D E more p 0∧Below w.heap.size w wr)
       case atStart =>
        obtain ⟨a1,a2,a3,a4,a5⟩:=HK.out
        exact ⟨false,0,D,rfl,rfl,by omega,rfl,a1,PassD.start a2 a3,a5⟩
       case round =>
        obtain ⟨more,p,E,rfl,rfl,hp,rfl,hD,hP,hB⟩:=hrel
        by_cases hpN:p < i
        ·have e2:decide ((p:Int) < (i:Int)) = true:=by simp; omega
         have HQ:=hide (And.intro hD (And.intro hP hB))
         clear hD hP hB
         go_wp2_with fail
         go_loopg [13,15] i (fun G mv qv wr=>∃ (more:Bool) (q:Nat) (E:Nat→List Bool),mv = .bool more∧qv = .int .i64 (q:Int)∧q ≤ i∧G = i - q∧DP wr w.heap.size db i i R E∧PassD g K kd al D E more p q∧Below w.heap.size w wr)
         case atStart=>exact ⟨more,0,E,rfl,rfl,by omega,rfl,HQ.out.1,HQ.out.2.1,HQ.out.2.2⟩
         case round =>
          obtain ⟨more2,q,E2,rfl,rfl,hq,rfl,hD,hP,hB⟩:=hrel
          by_cases hqN:q < i
          ·have e3:decide ((q:Int) < (i:Int)) = true:=by simp; omega
           obtain ⟨hL,hF,hG,hN,hA,hal,hlv,hTN⟩:=HC.out
           obtain ⟨d1,d2⟩:=hD.dm.cells hpN hqN
           obtain ⟨k1,k2,k3⟩:=hD.each p hpN
           have fr:=k1.frozen q
           have zr:=k1.lt
           have zd:=hD.blk.choose_spec.1.lt
           have p0:(0:Int) ≤ (p:Int):=by omega
           have p1:(p:Int) < (i:Int):=by omega
           have q0:(0:Int) ≤ (q:Int):=by omega
           have q1:(q:Int) < (i:Int):=by omega
           have HST:=hide (refSteps_any fb lo ab db i i p q R E2 al rules tv sv ov T S To g K kd wr (hF.below hB) hG hN (hA.below hB) hal hD.dm hpN hqN)
           generalize hri:R p = rb at d1 d2 fr zr k3
           generalize hy:(E2 p).getD q false = y at d2
           have HV:=hide (And.intro hD (And.intro hP (And.intro hB (And.intro hy (And.intro hri (And.intro k2 (And.intro hG (And.intro hN hlv))))))))
           clear hL hF hG hN hA hal hlv hTN hD hP hB k1 k2 hri hy HK
           cases y with
           |true =>
            go_wp2_with fail
            go_roundg (i - (q + 1))
            case measure=>omega
            case rel =>
             obtain ⟨a1,a2,a3,a4,a5,a6,a7,a8,a9⟩:=HV.out
             exact ⟨more2,q + 1,E2,rfl,by go_num,by omega,rfl,a1,a2.pass (.inl a4),a3⟩
           |false =>
            go_wp2_with fail
            refine HST.out.mono ?_
            rintro e w2 ⟨x,rfl,hx,hb2⟩
            have d1':=(hb2.cell (p:=⟨db,p,none⟩) zd).trans d1
            have d2':=(hb2.cell (p:=⟨rb,q,none⟩) zr).trans d2
            have zd2:db < w2.heap.size:=Nat.lt_of_lt_of_le zd hb2.size
            have zr2:rb < w2.heap.size:=Nat.lt_of_lt_of_le zr hb2.size
            have fr2:w2.frozen? ⟨rb,q,none⟩ = false:=by
             have:=((HV.out.1.each p hpN).1.below hb2).frozen q
             rw [HV.out.2.2.2.2.1] at this; exact this
            have HX:=hide (And.intro hx hb2)
            clear hx hb2 HST d1 d2 fr
            cases x with
            |true =>
             go_wp2_with fail
             go_roundg (i - (q + 1))
             case measure=>omega
             case rel =>
              obtain ⟨a1,a2,a3,a4,a5,a6,a7,a8,a9⟩:=HV.out
              obtain ⟨x1,x2⟩:=HX.out
              have hs:=(a1.below x2).set (i:=p) hpN q true
              rw [a5] at hs
              exact ⟨true,q + 1,_,rfl,by go_num,by omega,rfl,hs,a2.mark a7 a9 (by omega) (by omega) (by omega) a4 (x1.1 (by simp)),(a3.trans (x2.mono a3.size)).setCell k3 _⟩
            |false =>
             go_wp2_with fail
             go_roundg (i - (q + 1))
             case measure=>omega
             case rel =>
              obtain ⟨a1,a2,a3,a4,a5,a6,a7,a8,a9⟩:=HV.out
              obtain ⟨x1,x2⟩:=HX.out
              refine ⟨more2,q + 1,E2,rfl,by go_num,by omega,rfl,a1.below x2,a2.pass (.inr fun b hb=>?_),a3.trans (x2.mono a3.size)⟩
              refine Bool.eq_false_iff.2 fun hh=>?_
              have:=x1.2 ⟨b,hb,hh⟩
              cases this
          ·have e3:decide ((q:Int) < (i:Int)) = false:=by simp; omega
           have HV:=hide (And.intro hD (And.intro hP hB))
           clear hD hP hB
           go_wp2_with fail
           go_roundg (i - (p + 1))
           case measure=>omega
           case rel =>
            obtain ⟨a1,a2,a3⟩:=HV.out
            have hqq:q = g.rule.length:=by have:=HC.out.2.2.2.1; omega
            rw [hqq] at a2
            exact ⟨more2,p + 1,E2,rfl,by go_num,by omega,rfl,a1,a2.row,a3⟩
        ·have e2:decide ((p:Int) < (i:Int)) = false:=by simp; omega
         have HV:=hide (And.intro hD (And.intro hP hB))
         clear hD hP hB
         have hpp:p = g.rule.length:=by have:=HC.out.2.2.2.1; omega
         have HPP:=hide hpp
         clear hpp
         go_wp2_with fail
         go_roundg (measD i E more)
         case measure =>
          obtain ⟨a1,a2,a3⟩:=HV.out
          rw [HPP.out] at a2
          cases more with
          |true =>
           have:=a2.more
           rw [← HC.out.2.2.2.1] at this
           exact measD_more this
          |false =>
           have:=(a2.end HC.out.2.2.1 HC.out.2.2.2.2.2.2.1).1
           rw [this]
           exact measD_end _ _
         case rel =>
          obtain ⟨a1,a2,a3⟩:=HV.out
          rw [HPP.out] at a2
          refine ⟨more,E,rfl,rfl,a1,a2.sound,a2.base,fun em=>?_,a3⟩
          subst em
          have h9:=(a2.end HC.out.2.2.1 HC.out.2.2.2.2.2.2.1).2
          rw [← HC.out.2.2.2.1] at h9
          exact h9
end Go.Proofs.YtcckhngbdoiikaaGreat
