import Derived.Test.YtcckhngbdoiikaaGreatG19
import Derived.Test.YtcckhngbdoiikaaGreatG08

namespace Go.Proofs.YtcckhngbdoiikaaGreat
open Go.RowKit Go.Deep
set_option linter.unusedVariables false
theorem exprG_all (s:ByteArray) (rb gb:Nat) (hs:s.size ≤ 120):∀ f,ExprG s rb gb f
 | 0=>fun w p R O h hp hR hf=>absurd hf (by omega)
 |f + 1=>fun w p R O h hp hR hf =>
  expression_any s rb gb f (alternative_any s rb gb f (piece_any s rb gb f (atom_is s rb gb f (exprG_all s rb gb hs f) hs) hs) hs) hs w p R O h hp hR (by omega)
structure GoodR (s:ByteArray) (p:Nat) (r:Bool × Nat × RulesT):Prop where
 le:p ≤ r.2.1
 top:r.2.1 ≤ s.size
 ok:r.1 = true→p < r.2.1
 few:r.2.2.follow.length ≤ r.2.1
 last:r.2.2.last.length ≤ r.2.1
theorem ruleF_good (s:ByteArray) (p:Nat) (R:RulesT) (hp:p ≤ s.size) (hR:R.follow.length ≤ p) (hL:R.last.length ≤ p):GoodR s p (ruleF s p R):=by
 have g:=exprF_good s (s.size + 1) p R hp hR
 unfold ruleF
 split
 ·rename_i hok
  have:=g.ok hok
  exact ⟨g.le,g.top,fun _=>this,g.few,by simp [RulesT.endRule,g.last]; omega⟩
 ·exact ⟨g.le,g.top,by simp,g.few,by simp [g.last]; have:=g.le; omega⟩
set_option maxHeartbeats 1600000 in
theorem rulem_any (s:ByteArray) (rb gb:Nat) (hs:s.size ≤ 120) (w:World) (p:Nat) (R:RulesT) (O:Nat→Prop) (h:RS w rb gb s p R O) (hp:p ≤ s.size) (hR:R.follow.length ≤ p) (hL:R.last.length ≤ p) :
  Calls Tryz.prog 82 #[.pointer (some ⟨rb,0,none⟩)] w fun e w' =>
   e = .returned (.bool (ruleF s p R).1)∧RPost w w' rb gb s O (ruleF s p R).2.1 (ruleF s p R).2.2:=by
 have hrb:=h.lt
 have nO:∀ k,O k→k < w.heap.size:=h.olt
 have hE:=exprG_all s rb gb hs (s.size + 1) w p R O h hp hR (by omega)
 have hg:=exprF_good s (s.size + 1) p R hp hR
 unfold ruleF
 generalize exprF s (s.size + 1) p R = r at hE hg ⊢
 obtain ⟨q,ok,p1,R1⟩:=r
 simp only at hE ⊢
 have hlast:R1.last.length ≤ 1000:=by have:=hg.last; simp only at this; rw [this]; omega
 have HE:=hide hE
 clear hE hg
 cases ok with
 |false =>
  rw [if_neg (by simp)]
  go_enter Tryz.func82,Tryz.ntmps82
  go_wp2_with fail
  refine HE.out.mono ?_
  rintro e w1 ⟨rfl,O1,hS1,hk1,ho1⟩
  have hN1:=Blk.new w1 part0 206
  have hn1:¬ O1 w1.heap.size:=fun e=>by have:=hS1.olt _ e; omega
  have hl1:=hS1.lt
  have hz:=hk1.size
  go_wp2_with (first | refine storeP rfl (.tmp 3) (.tmp 8) rfl w1.heap.size rfl rfl hN1 rfl ?_)
  go_ret
  exact ⟨rfl,O1,(hS1.alloc _).setRow (by omega) hn1 _,(hk1.alloc _).setRow (by omega) _,ho1⟩
 |true =>
  rw [if_pos rfl]
  go_enter Tryz.func82,Tryz.ntmps82
  go_wp2_with fail
  refine HE.out.mono ?_
  rintro e w1 ⟨rfl,O1,hS1,hk1,ho1⟩
  have hN1:=Blk.new w1 part0 206
  have hn1:¬ O1 w1.heap.size:=fun e=>by have:=hS1.olt _ e; omega
  have hl1:=hS1.lt
  have hz:=hk1.size
  have hS2:=(hS1.alloc (.cells part0 206)).setRow (g:=w1.heap.size) (by omega) hn1 (partC q)
  have hk2:=(hk1.alloc (.cells part0 206)).setRow (g:=w1.heap.size) (by omega) (partC q)
  have hI2:=hN1.setRow (partC q)
  have HO:=hide ho1
  clear hS1 hk1 ho1 HE
  go_wp2_with (first | refine storeP rfl (.tmp 3) (.tmp 8) rfl w1.heap.size rfl rfl hN1 rfl ?_)
  clear hN1
  generalize ((w1.alloc (.cells part0 206)).setRow w1.heap.size (partC q)) = w2 at hS2 hk2 hI2 ⊢
  generalize w1.heap.size = m at hI2 hl1 hz hn1 ⊢
  obtain ⟨fv,lv,hRu⟩:=hS2.ru
  have c2:=hS2.rd.c2
  have i0:w2.cell? ⟨m,0,none⟩ = some (.int .u64 (q.first.lo.toNat:Int)):=hI2.cell 0
  have i1:w2.cell? ⟨m,1,none⟩ = some (.int .u64 (q.first.hi.toNat:Int)):=hI2.cell 1
  have i2:w2.cell? ⟨m,2,none⟩ = some (.int .u64 (q.last.lo.toNat:Int)):=hI2.cell 2
  have i3:w2.cell? ⟨m,3,none⟩ = some (.int .u64 (q.last.hi.toNat:Int)):=hI2.cell 3
  have i4:w2.cell? ⟨m,4,none⟩ = some (.bool q.empty):=hI2.cell 4
  have zr:=hS2.lt
  have zm:=hI2.lt
  have hno:=hS2.no
  have HH:Hid (RS w2 rb gb s p1 R1 O1∧Kept (fun k=>k = rb∨O k) w w2∧Blk w2 m (partC q) 206∧RulesAt w2 gb O1 R1 fv lv):=⟨hS2,hk2,hI2,hRu⟩
  clear hS2 hk2 hI2 hRu
  go_wp2_with fail
  go_region_held3 (fun w'=>w'.cell? ⟨rb,2,none⟩ = some (.pointer (some ⟨gb,0,none⟩))∧w'.cell? ⟨m,0,none⟩ = some (.int .u64 (q.first.lo.toNat:Int))∧w'.cell? ⟨m,1,none⟩ = some (.int .u64 (q.first.hi.toNat:Int))∧w'.cell? ⟨m,2,none⟩ = some (.int .u64 (q.last.lo.toNat:Int))∧w'.cell? ⟨m,3,none⟩ = some (.int .u64 (q.last.hi.toNat:Int))∧w'.cell? ⟨m,4,none⟩ = some (.bool q.empty))
   (first | exact ⟨j0,j1,j2,j3,j4,j5⟩ | exact ⟨c2,i0,i1,i2,i3,i4⟩)
   (first | (go_at_call 118; refine (endRule_any R1 gb O1 fv lv q _ HH.out.2.2.2.drew hlast).mono ?_; rintro e w4 ⟨rfl,O4,lv4,hR4,hk4,ho4⟩; have j0:=(hk4.cell (p:=⟨rb,2,none⟩) zr hno).trans c2; have j1:=(hk4.cell (p:=⟨m,0,none⟩) zm hn1).trans i0; have j2:=(hk4.cell (p:=⟨m,1,none⟩) zm hn1).trans i1; have j3:=(hk4.cell (p:=⟨m,2,none⟩) zm hn1).trans i2; have j4:=(hk4.cell (p:=⟨m,3,none⟩) zm hn1).trans i3; have j5:=(hk4.cell (p:=⟨m,4,none⟩) zm hn1).trans i4))
  go_wp2_with fail
  go_ret
  obtain ⟨hS2,hk2,hI2,hRu⟩:=HH.out
  have hz2:w.heap.size ≤ w2.heap.size:=hk2.size
  refine ⟨rfl,O4,hS2.drew.turned' hR4 hk4 ho4,hk2.drew.trans hk4 (fun i hi e=>.inr (by rcases HO.out i e with e | e; exact e; omega)),?_⟩
  intro k hk
  rcases ho4 k hk with e | e
  ·exact HO.out k e
  ·exact .inr (by simp at e; omega)
set_option maxHeartbeats 1600000 in
theorem all_any (s:ByteArray) (rb gb:Nat) (hs:s.size ≤ 120) (w:World) (O:Nat→Prop) (h:RS w rb gb s 0 RulesT.new O) :
  Calls Tryz.prog 43 #[.pointer (some ⟨rb,0,none⟩)] w fun e w' =>
   e = .returned (.bool (allF s).1)∧RPost w w' rb gb s O (allF s).2.1 (allF s).2.2:=by
 have hrb:=h.lt
 have hR0:=rulem_any s rb gb hs w 0 RulesT.new O h (by omega) (by simp [RulesT.new]) (by simp [RulesT.new])
 have hg0:=ruleF_good s 0 RulesT.new (by omega) (by simp [RulesT.new]) (by simp [RulesT.new])
 generalize hFm:allF s = F
 unfold allF at hFm
 generalize ruleF s 0 RulesT.new = r0 at hR0 hg0 hFm
 have HF:=hide hFm
 have HR:=hide hR0
 have HG:=hide hg0
 clear hFm hR0 hg0
 go_enter Tryz.func43,Tryz.ntmps43
 go_wp2_with fail
 refine HR.out.mono ?_
 rintro e w1 ⟨rfl,O1,hS1,hk1,ho1⟩
 have HH1:Hid (RS w1 rb gb s r0.2.1 r0.2.2 O1∧Kept (fun k=>k = rb∨O k) w w1∧∀ k,O1 k→O k∨w.heap.size ≤ k):=⟨hS1,hk1,ho1⟩
 clear hS1 hk1 ho1
 go_wp2_with fail
 go_loopg [3] (s.size + 1) (fun g c wr=>∃ (r:Bool × Nat × RulesT) (O1:Nat→Prop),c = .bool r.1∧GoodR s 0 r∧(r.1 = true→s.size < g + r.2.1)∧allLoopF s g r = allLoopF s (s.size + 1) r0 ∧
  RS wr rb gb s r.2.1 r.2.2 O1∧Kept (fun k=>k = rb∨O k) w wr∧∀ k,O1 k→O k∨w.heap.size ≤ k)
 case atStart =>
  obtain ⟨q1,q2,q3⟩:=HH1.out
  exact ⟨r0,O1,rfl,HG.out,fun _=>by omega,rfl,q1,q2,q3⟩
 case round =>
  obtain ⟨r,O3,rfl,hg3,hn3,hF3,hS3,hk3,hO3⟩:=hrel
  clear HH1 HG
  have htop:=hg3.top
  have hfew:=hg3.few
  have hlas:=hg3.last
  obtain ⟨ok,p1,R1⟩:=r
  simp only at htop hfew hlas hn3 hS3 ⊢
  cases ok with
  |false =>
   have hl:allLoopF s gk (false,p1,R1) = (false,p1,R1):=allLoopF_stop _ _ _ (by simp)
   rw [hl] at hF3
   have hFe:F = (false,p1,R1):=by have:=HF.out; simp only [← hF3] at this; rw [← this]; rfl
   subst hFe
   clear hF3 hg3 hn3 hl
   go_wp2_with fail
   go_ret
   exact ⟨rfl,O3,hS3,hk3,hO3⟩
  |true =>
   by_cases h10:peekI s p1 = 10
   ·have hgk:=hn3 rfl
    have hne:gk = (gk - 1) + 1:=by omega
    rw [hne] at hF3
    unfold allLoopF at hF3
    rw [if_pos ⟨rfl,h10⟩] at hF3
    have hltp:p1 < s.size:=peekI_in (by rw [h10]; decide)
    have hgp:=ruleF_good s (p1 + 1) R1 (by omega) (by omega) (by omega)
    have hPc:=fun W O h1=>rulem_any s rb gb hs W (p1 + 1) R1 O h1 (by omega) (by omega) (by omega)
    simp only at hF3
    generalize ruleF s (p1 + 1) R1 = r2 at hF3 hgp hPc
    obtain ⟨ok2,p2,R2⟩:=r2
    simp only at hPc
    have hle2:=hgp.le
    have hlt2:=hgp.ok
    simp only at hle2 hlt2
    have hg4:GoodR s 0 (ok2,p2,R2):=⟨Nat.zero_le _,hgp.top,fun e=>by have:=hgp.ok e; omega,hgp.few,hgp.last⟩
    have c1:=hS3.rd.c1
    have f1:=hS3.rd.f1
    have HF3:=hide hF3
    have HG4:=hide hg4
    have HPc:=hide hPc
    have HLT:=hide hlt2
    have HH3:Hid (RS wr rb gb s p1 R1 O3∧Kept (fun k=>k = rb∨O k) w wr∧∀ k,O3 k→O k∨w.heap.size ≤ k):=⟨hS3,hk3,hO3⟩
    clear hF3 hg4 hgp hPc hg3 hn3 hS3 hk3 hO3 hlt2 HF
    go_wp2_with fail
    refine (peek_any s p1 rb gb _ HH3.out.1.rd hs (by omega)).mono ?_
    rintro e w4 ⟨rfl,n,rfl⟩
    rw [h10]
    go_wp2_with fail
    refine (HPc.out _ O3 ((HH3.out.1.drewN n).set1)).mono ?_
    rintro e w4 ⟨rfl,O4,hS4,hk4,ho4⟩
    obtain ⟨hS3,hk3,hO3⟩:=HH3.out
    have hz3:w.heap.size ≤ wr.heap.size:=hk3.size
    have HH4:Hid (RS w4 rb gb s p2 R2 O4∧Kept (fun k=>k = rb∨O k) w w4∧∀ k,O4 k→O k∨w.heap.size ≤ k):=⟨hS4,((hk3.drewN n).setCell (p:=⟨rb,1,none⟩) (fun _=>.inl rfl) (.int .i64 ((p1:Int) + 1))).trans hk4 (fun i hi e=>by rcases e with e | e; exact .inl e; exact .inr (by rcases hO3 i e with e | e; exact e; omega)),fun k hk=>by rcases ho4 k hk with e | e; exact hO3 k e; exact .inr (by simp at e; omega)⟩
    clear hS3 hk3 hO3 hS4 hk4 ho4 HH3 c1 f1
    go_wp2_with fail
    go_roundg (gk - 1)
    case measure=>omega
    case rel =>
     obtain ⟨q1,q2,q3⟩:=HH4.out
     refine ⟨_,O4,rfl,HG4.out,fun e=>?_,HF3.out,q1,q2,q3⟩
     have:=HLT.out e
     show s.size < gk - 1 + p2
     omega
   ·have e10:(peekI s p1 == 10) = false:=by simp [h10]
    have hl:allLoopF s gk (true,p1,R1) = (true,p1,R1):=allLoopF_stop _ _ _ (by simp [h10])
    rw [hl] at hF3
    have hFe:F = (decide (peekI s p1 = -1),p1,R1):=by have:=HF.out; simp only [← hF3] at this; rw [← this]; rfl
    subst hFe
    clear hF3 hg3 hn3 hl HF h10
    have e1:(peekI s p1 == -1) = decide (peekI s p1 = -1):=by cases h:(peekI s p1 == -1) <;> simp_all
    go_wp2_with fail
    refine (peek_any s p1 rb gb _ hS3.rd hs (by omega)).mono ?_
    rintro e w4 ⟨rfl,n,rfl⟩
    go_wp2_with fail
    refine (peek_any s p1 rb gb _ (hS3.rd.drewN n) hs (by omega)).mono ?_
    rintro e w4 ⟨rfl,n2,rfl⟩
    go_wp2_with fail
    go_ret
    exact ⟨rfl,O3,hS3.drewN (n + n2),hk3.drewN (n + n2),hO3⟩
set_option maxHeartbeats 1600000 in
theorem read_long (s:ByteArray) (hs:120 < s.size) (hm:s.size ≤ maxLen) (w:World) :
  Calls Tryz.prog 21 #[.string s] w fun e w'=>e = .returned (.tuple #[.pointer none,.int .i64 1,.int .i64 0])∧w' = w:=by
 unfold maxLen at hm
 have e1:decide ((120:Int) < (s.size:Int)) = true:=by simp; omega
 go_enter Tryz.func21,Tryz.ntmps21
 go_wp2_with fail
 go_ret3
 exact ⟨rfl,rfl⟩
def RulesNew (w w':World) (gb:Nat) (R:RulesT):Prop:=∃ O fv lv,RulesAt w' gb O R fv lv∧∀ k,O k→w.heap.size ≤ k
set_option maxHeartbeats 1600000 in
theorem read_any (s : ByteArray) (hs : s.size ≤ 120) (w : World) :
    Calls Tryz.prog 21 #[.string s] w fun e w' => Below w.heap.size w w' ∧
      ((allF s).1 = false ∧ e = .returned (.tuple #[.pointer none, .int .i64 2, .int .i64 ((allF s).2.1 : Int)]) ∨
       (allF s).1 = true ∧ ∃ gb, e = .returned (.tuple #[.pointer (some ⟨gb, 0, none⟩), .int .i64 0, .int .i64 0]) ∧ RulesNew w w' gb (allF s).2.2) := by
  have e1 : decide ((120 : Int) < (s.size : Int)) = false := by simp; omega
  generalize hF : allF s = F
  have HF := hide hF
  clear hF
  go_enter Tryz.func21, Tryz.ntmps21
  go_wp2_with fail
  have hB0 : Blk (w.alloc (.cells Tryz.zeroCells113 113)) w.heap.size (rulesC RulesT.new.allow RulesT.new.first (.slice none 0 0) (.slice none 0 0)) 113 := by
    have := Blk.new w Tryz.zeroCells113 113
    rw [zeroRules] at this ⊢
    exact this
  have hRu0 : RulesAt ((w.alloc (.cells Tryz.zeroCells113 113)).alloc (.cells #[.string s, .int .i64 0, .pointer (some ⟨w.heap.size, 0, none⟩)] 115)) w.heap.size (fun k => k = w.heap.size) RulesT.new (.slice none 0 0) (.slice none 0 0) :=
    ⟨hB0.alloc _, World.ownsRow_nil _ _ _ _, World.ownsRow_nil _ _ _ _, rfl, fun k e => by simp [Value.ownBlock] at e, fun k e => by simp [Value.ownBlock] at e, fun k e => by simp [Value.ownBlock] at e, fun k e => by simp; omega⟩
  have hS0 : RS ((w.alloc (.cells Tryz.zeroCells113 113)).alloc (.cells #[.string s, .int .i64 0, .pointer (some ⟨w.heap.size, 0, none⟩)] 115)) (w.heap.size + 1) w.heap.size s 0 RulesT.new (fun k => k = w.heap.size) :=
    ⟨Blk.at1 w _ _ _, ⟨_, _, hRu0⟩, by simp⟩
  refine (all_any s (w.heap.size + 1) w.heap.size hs _ _ hS0).mono ?_
  rw [HF.out]
  rintro e w1 ⟨rfl, O1, hS1, hk1, ho1⟩
  have hbl : Below w.heap.size w w1 := by
    have h2 := Below2 w (.cells Tryz.zeroCells113 113) (.cells #[.string s, .int .i64 0, .pointer (some ⟨w.heap.size, 0, none⟩)] 115)
    refine h2.trans ⟨hk1.os, hk1.tape, hk1.output, hk1.size, fun k hk => hk1.block k (by simp; omega) (fun e => by rcases e with e | e <;> omega)⟩
  have hO : ∀ k, O1 k → w.heap.size ≤ k := fun k hk => by rcases ho1 k hk with e | e; omega; simp at e; omega
  have c1 := hS1.rd.c1
  have c2 := hS1.rd.c2
  obtain ⟨ok, p, R⟩ := F
  have HH : Hid (Below w.heap.size w w1 ∧ RS w1 (w.heap.size + 1) w.heap.size s p R O1 ∧ ∀ k, O1 k → w.heap.size ≤ k) := ⟨hbl, hS1, hO⟩
  clear hbl hO hS1 hk1 ho1 hS0 hRu0 hB0
  simp only at c1 c2 ⊢
  cases ok with
  | false =>
    go_wp2_with fail
    go_quiet (fail)
    go_wp2_with fail
    go_ret3
    obtain ⟨q1, q2, q3⟩ := HH.out
    exact ⟨⟨q1.os, q1.tape, q1.output, q1.size, q1.block⟩, rfl⟩
  | true =>
    go_wp2_with fail
    go_ret3
    obtain ⟨q1, q2, q3⟩ := HH.out
    obtain ⟨fv, lv, hr⟩ := q2.ru
    exact ⟨q1, _, rfl, O1, fv, lv, hr, q3⟩
end Go.Proofs.YtcckhngbdoiikaaGreat
