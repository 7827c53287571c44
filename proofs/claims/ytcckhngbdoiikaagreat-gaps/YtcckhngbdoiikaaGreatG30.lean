import Derived.Test.YtcckhngbdoiikaaGreatG29
import Derived.Deep.QuietTactic
import Derived.BigQuiet

namespace Go.Proofs.YtcckhngbdoiikaaGreat
open Go.RowKit Go.Deep
set_option linter.unusedVariables false
theorem MT.At.id {w:World} {s:ByteArray} {f:Nat→Int} {T:MT} (h:T.At w s f):w.cell? ⟨T.root,1,none⟩ = some (.int .i64 (f T.root)):=by
 cases T with
 |place b i e A=>simp only [MT.At] at h; exact h.cell 1
 |node b v k l=>simp only [MT.At] at h; exact h.1.cell 1
set_option maxRecDepth 20000 in
set_option maxHeartbeats 3200000 in
theorem ends_any (c:AlC) (T:MT) (hT:T ∈ subsL c.rules) (HF:FindRC c T):EndsC c T:=by
 intro A w p hA hm hp
 have hpN:p < c.N:=AlC.ltN.2 hp
 obtain ⟨n,hn,hid⟩:=hm.id hT
 have hlang:=hm.lang hT hid
 obtain ⟨ks,hk1,hk2⟩:=hm.by'
 obtain ⟨cs,hr1,hr2,hr3⟩:=hm.rows n hn
 have hTw:=AtL.sub c.rules T hm.prt hT
 have s3:w.cell? ⟨c.ab,1,none⟩ = some (.slice (some ⟨c.bg,0,none⟩) c.parts c.bcap):=hm.blk.cell 1
 have s4:w.cell? ⟨c.bg,n,none⟩ = some (.slice (some ⟨c.R n,0,none⟩) c.N c.N):=by rw [hk1.cell]; exact hk2 n hn
 have s5:w.cell? ⟨c.R n,p,none⟩ = cs[p]?:=hr1.cell p
 have s6:w.cell? ⟨T.root,1,none⟩ = some (.int .i64 (n:Int)):=by rw [← hid]; exact hTw.id
 have n0:(0:Int) ≤ (n:Int):=by omega
 have n1:(n:Int) < (c.parts:Int):=by omega
 have p0:(0:Int) ≤ (p:Int):=by omega
 have p1:(p:Int) < (c.N:Int):=by omega
 have hq:=fun (W:World) (ad:Option Addr) (l c:Nat)=>Lib.run_eql_slice_nil W 130 4 ad l c 0 0 Tryz.underlying130
 rw [← hlang]
 rcases hr3 p hp with e | ⟨b,e,hnb,hBR⟩
 ·rw [e] at s5
  have hq1:=fun W=>hq W none 0 0
  clear hq
  have HFI:Hid (∀ W,Below w.heap.size w W→Calls Tryz.prog 131 #[.pointer (some ⟨c.ab,0,none⟩),.pointer (some ⟨T.root,0,none⟩),.int .i64 (p:Int)] W (ROut c A W (rowW (bytesN c.s) (c.lang n) p))):=hide (fun W hb=>by rw [hlang]; exact HF A W p (fun b hb'=>by have:=hA b hb'; have:=hb.size; omega) (hm.below hb) hp)
  have HFF:Hid (∀ W',AMemo c A W'→W'.cell? ⟨c.ab,1,none⟩ = some (.slice (some ⟨c.bg,0,none⟩) c.parts c.bcap)∧W'.cell? ⟨c.bg,n,none⟩ = some (.slice (some ⟨c.R n,0,none⟩) c.N c.N)∧W'.cell? ⟨T.root,1,none⟩ = some (.int .i64 (n:Int))∧(∃ v9,W'.cell? ⟨c.R n,p,none⟩ = some v9)∧W'.frozen? ⟨c.R n,p,none⟩ = false):=hide (fun W' h9=>by
   obtain ⟨ks,hk1,hk2⟩:=h9.by'
   obtain ⟨cs,hr1,hr2,hr3⟩:=h9.rows n hn
   refine ⟨h9.blk.cell 1,by rw [hk1.cell]; exact hk2 n hn,by rw [← hid]; exact (AtL.sub c.rules T h9.prt hT).id,?_,hr1.frozen p⟩
   rw [hr1.cell p]
   rcases hr3 p hp with e | ⟨b,e,_⟩
   ·exact ⟨_,e⟩
   ·exact ⟨_,e⟩)
  have hne3:c.R n ≠ c.ab:=fun e9=>by have:=(hm.blk.one (e9 ▸ hr1)).2; revert this; decide
  have hne4:c.R n ≠ c.bg:=fun e9=>by have:=(hk1.one (e9 ▸ hr1)).2; revert this; decide
  have hne5:c.R n ≠ T.root:=fun e9=>MT.At.type hr1 (by decide) (by decide) T hTw (e9 ▸ MT.has_root T)
  clear hm hk1 hk2 hr1 hr2 hr3 e HF hTw
  go_enter Tryz.func99,Tryz.ntmps99
  go_wp2_with fail
  go_quiet (fail)
  go_upto_region 2 with fail
  obtain ⟨w0,hw0⟩:∃ w0:World,w.drewN nq = w0:=⟨_,rfl⟩
  rw [hw0]
  have hb0:Below w.heap.size w w0.drew:=by rw [← hw0]; exact ⟨rfl,rfl,rfl,Nat.le_refl _,fun _ _=>rfl⟩
  have t3:w0.cell? ⟨c.ab,1,none⟩ = some (.slice (some ⟨c.bg,0,none⟩) c.parts c.bcap):=by rw [← hw0]; exact s3
  have t4:w0.cell? ⟨c.bg,n,none⟩ = some (.slice (some ⟨c.R n,0,none⟩) c.N c.N):=by rw [← hw0]; exact s4
  have t6:w0.cell? ⟨T.root,1,none⟩ = some (.int .i64 (n:Int)):=by rw [← hw0]; exact s6
  have S0:w0.drew.cell? ⟨c.ab,1,none⟩ = some (.slice (some ⟨c.bg,0,none⟩) c.parts c.bcap)∧w0.drew.cell? ⟨c.bg,n,none⟩ = some (.slice (some ⟨c.R n,0,none⟩) c.N c.N)∧w0.drew.cell? ⟨T.root,1,none⟩ = some (.int .i64 (n:Int)):=⟨t3,t4,t6⟩
  have HFI2:=hide (HFI.out w0.drew hb0)
  have HB0:=hide hb0
  obtain ⟨tr,htr⟩:∃ tr,T.root = tr:=⟨_,rfl⟩
  rw [htr] at HFI2 S0 t6 hne5 HFF ⊢
  clear hw0 hb0 s3 s4 s5 s6 HFI
  go_region_held3 (fun w'=>w'.cell? ⟨c.ab,1,none⟩ = some (.slice (some ⟨c.bg,0,none⟩) c.parts c.bcap)∧w'.cell? ⟨c.bg,n,none⟩ = some (.slice (some ⟨c.R n,0,none⟩) c.N c.N)∧w'.cell? ⟨tr,1,none⟩ = some (.int .i64 (n:Int)))
   (first | with_reducible exact S0 | with_reducible exact S1 | exact ⟨by simp [g3,hne3,World.cell?_setCell_far],by simp [g4,hne4,World.cell?_setCell_far],by simp [g7,hne5,World.cell?_setCell_far]⟩)
   (first | (go_at_call 131; refine HFI2.out.mono ?_; rintro e w1 ⟨b1,rfl,hnb1,hBR1,hm1,hk1⟩; obtain ⟨g3,g4,g7,⟨v9,g5⟩,g6⟩:=HFF.out w1 hm1; have S1:=And.intro g3 (And.intro g4 g7); have HR1:=hide (And.intro hnb1 (And.intro hBR1 (And.intro hm1 hk1))); clear hnb1 hBR1 hm1 hk1))
  obtain ⟨hnb1,hBR1,hm1,hk1⟩:=HR1.out
  have hf:=hm1.found hn hp hnb1 hBR1
  have hfin:ROut c A w (rowW (bytesN c.s) (c.lang n) p) (.returned (.slice (some ⟨b1,0,none⟩) c.N c.N)) (w1.setCell ⟨c.R n,p,none⟩ (.slice (some ⟨b1,0,none⟩) c.N c.N)):=⟨b1,rfl,hnb1,hm1.brow hf.2 hBR1,hf.1,((Kept.ofBelow HB0.out).trans hk1 (fun i _ e=>e)).trans hf.2 (fun i _ e=>e)⟩
  obtain ⟨u3,u4,u7,_,_⟩:=HFF.out _ hf.1
  obtain ⟨cz,hz1,hz2,hz3⟩:=hm1.rows n hn
  have u5:(w1.setCell ⟨c.R n,p,none⟩ (.slice (some ⟨b1,0,none⟩) c.N c.N)).cell? ⟨c.R n,p,none⟩ = some (.slice (some ⟨b1,0,none⟩) c.N c.N):=by rw [(hz1.set p _).cell p,Array.getElem?_setIfInBounds,if_pos rfl,if_pos (by rw [hz2]; exact hpN)]
  obtain ⟨w9,hw9⟩:∃ w9:World,(w1.setCell ⟨c.R n,p,none⟩ (.slice (some ⟨b1,0,none⟩) c.N c.N)) = w9:=⟨_,rfl⟩
  rw [hw9] at hfin u3 u4 u7 u5 ⊢
  have HFN:=hide hfin
  clear hfin hz1 hz2 hz3 hf hnb1 hBR1 hm1 hk1 HR1 g3 g4 g5 g6 g7 S1 S0 t3 t4 t6 hw9 HFF HFI2
  go_wp2_with fail
  go_quiet (fail)
  go_wp2_with fail
  go_ret
  obtain ⟨b,h1,h2,h3,h4,h5⟩:=HFN.out
  injection h1 with h1
  exact ⟨b,by rw [← h1]; rfl,h2,h3.below ⟨rfl,rfl,rfl,Nat.le_refl _,fun _ _=>rfl⟩,h4.below ⟨rfl,rfl,rfl,Nat.le_refl _,fun _ _=>rfl⟩,h5.drewN _⟩
 ·rw [e] at s5
  have HH:Hid (∀ W,Below w.heap.size w W→ROut c A w (rowW (bytesN c.s) (c.lang n) p) (.returned (.slice (some ⟨b,0,none⟩) c.N c.N)) W):=hide fun W hb=>⟨b,rfl,hnb,hBR.below hb,hm.below hb,Kept.ofBelow hb⟩
  clear hm hk1 hk2 hr1 hr2 hr3 e HF hBR hnb hTw hid hlang
  have hq1:=fun W=>hq W (some ⟨b,0,none⟩) c.N c.N
  clear hq
  go_enter Tryz.func99,Tryz.ntmps99
  go_wp2_with fail
  go_quiet (fail)
  go_wp2_with fail
  go_quiet (fail)
  go_wp2_with fail
  go_ret
  exact HH.out _ ⟨rfl,rfl,rfl,Nat.le_refl _,fun _ _=>rfl⟩
def FromP (L:List Nat) (P:List Nat→Prop) (now:List Bool) (k q:Nat):Prop:=∃ m,m < k∧now.getD m false = true∧EndsW L P m q
theorem FromP.skip {L:List Nat} {P:List Nat→Prop} {now:List Bool} {k q:Nat} (h:now.getD k false = false):FromP L P now (k + 1) q↔FromP L P now k q:=by
 constructor
 ·rintro ⟨m,h1,h2,h3⟩
  refine ⟨m,?_,h2,h3⟩
  rcases Nat.lt_or_ge m k with e | e
  ·exact e
  ·have:m = k:=by omega
   rw [this,h] at h2; cases h2
 ·rintro ⟨m,h1,h2,h3⟩; exact ⟨m,by omega,h2,h3⟩
theorem FromP.take {L:List Nat} {P:List Nat→Prop} {now:List Bool} {k q:Nat} (h:now.getD k false = true):FromP L P now (k + 1) q↔(FromP L P now k q∨EndsW L P k q):=by
 constructor
 ·rintro ⟨m,h1,h2,h3⟩
  rcases Nat.lt_or_ge m k with e | e
  ·exact .inl ⟨m,e,h2,h3⟩
  ·have:m = k:=by omega
   rw [this] at h3; exact .inr h3
 ·rintro (⟨m,h1,h2,h3⟩ | h3)
  ·exact ⟨m,by omega,h2,h3⟩
  ·exact ⟨k,by omega,h,h3⟩
theorem AMemo.ult {c:AlC} {A:Nat→Prop} {w:World} (h:AMemo c A w):∀ n,n < c.parts→c.U n < w.heap.size:=fun n hn=>by
 obtain ⟨_,l,_,h2⟩:=h.wrow n hn
 exact h2.lt
theorem AMemo.kept1 {c:AlC} {A:Nat→Prop} {w w':World} (h:AMemo c A w) (k:Kept c.M w w') {b:Nat} {cs:Array Value} {t:TypeId} (hb:Blk w b cs t) (ht:t ≠ 130):Blk w' b cs t:=hb.kept k (h.not hb ht)
set_option maxRecDepth 20000 in
set_option maxHeartbeats 3200000 in
theorem from_any (c:AlC) (T:MT) (HO:EndsC c T) (A:Nat→Prop) (w:World) (ng ncap:Nat) (now:List Bool) (hA:∀ b,A b→b < w.heap.size) (hm:AMemo c A w) (hnow:BRow w (.slice (some ⟨ng,0,none⟩) c.N ncap) now) (hl:now.length = c.N) (hs:c.s.size ≤ 20000) :
  Calls Tryz.prog 128 #[.pointer (some ⟨c.ab,0,none⟩),.pointer (some ⟨T.root,0,none⟩),.slice (some ⟨ng,0,none⟩) c.N ncap] w fun e w'=>∃ l,l.length = c.N∧(∀ q,q ≤ c.s.size→(l.getD q false = true↔∃ m,now.getD m false = true∧EndsW (bytesN c.s) T.nt.Word m q))∧ROut c A w l e w':=by
 have hN2:c.N ≤ 20001:=by unfold AlC.N; omega
 have hN1:(c.s.size:Int) + 1 = (c.N:Int):=by unfold AlC.N; omega
 have hmk:=makeBools c.N (by omega)
 have s0:w.cell? ⟨c.ab,0,none⟩ = some (.string c.s):=hm.blk.cell 0
 have HNOW:=hide hnow
 have HM:=hide hm
 have HOV:=hide HO
 have HL:=hide hl
 have HAA:=hide hA
 have HU:=hide hm.ult
 have hng:ng < w.heap.size:=ownsRow_lt hnow ng rfl
 clear hnow hm HO hl hA
 go_enter Tryz.func128,Tryz.ntmps128
 go_wp2_with fail
 go_loopg [8] c.N (fun G pv wr=>∃ (p:Nat) (l:List Bool),pv = .int .i64 (p:Int)∧p ≤ c.N∧G = c.N - p∧l.length = c.N∧(∀ q,q ≤ c.s.size→(l.getD q false = true↔FromP (bytesN c.s) T.nt.Word now p q)) ∧
  AMemo c (fun b=>A b∨b = w.heap.size) wr∧Kept c.M w wr∧Blk wr w.heap.size (boolsA l) 4)
 case atStart =>
  refine ⟨0,List.replicate c.N false,rfl,by omega,rfl,by simp,fun q hq=>?_,HM.out.fresh.below (Below1 _ _),(Kept.refl _ _).alloc _,Blk.new _ _ _⟩
  constructor
  ·intro h; simp [AlC.ltN.2 hq] at h
  ·rintro ⟨m,hm,_⟩; omega
 case round =>
  obtain ⟨p,l,rfl,hp,rfl,hll,hspec,hmm,hk,hI⟩:=hrel
  have zI:=hI.lt
  by_cases hlt:p < c.N
  ·have e0:decide ((p:Int) < (c.N:Int)) = true:=by simp; omega
   have cN:=(HM.out.brow hk HNOW.out).cellD p (by rw [HL.out]; exact hlt)
   have p0:(0:Int) ≤ (p:Int):=by omega
   have p1:(p:Int) < (c.N:Int):=by omega
   have HLL:=hide hll
   have HSP:=hide hspec
   have HH:Hid (AMemo c (fun b=>A b∨b = w.heap.size) wr∧Kept c.M w wr∧Blk wr w.heap.size (boolsA l) 4):=⟨hmm,hk,hI⟩
   clear hmm hk hI hll hspec
   cases hnp:now.getD p false with
   |false =>
    rw [hnp] at cN
    have HNP:=hide hnp
    clear hnp
    go_wp2_with fail
    go_roundg (c.N - (p + 1))
    case measure=>omega
    case rel=>exact ⟨p + 1,l,by go_num,by omega,rfl,HLL.out,fun q hq=>by rw [FromP.skip HNP.out]; exact HSP.out q hq,HH.out.1,HH.out.2.1,HH.out.2.2⟩
   |true =>
    rw [hnp] at cN
    have HNP:=hide hnp
    clear hnp
    go_wp2_with fail
    refine (HOV.out (fun b=>A b∨b = w.heap.size) wr p (fun b hb=>by rcases hb with e | e; have:=HAA.out b e; omega; omega) HH.out.1 (AlC.ltN.1 hlt)).mono ?_
    rintro e w1 ⟨b,rfl,hnb,hBR,hm1,hk1⟩
    have zz:w1.heap.size ≥ wr.heap.size:=hk1.size
    have hI1:Blk w1 w.heap.size (boolsA l) 4:=HH.out.1.kept1 hk1 HH.out.2.2 (by decide)
    have hbg:b ≠ w.heap.size:=fun e=>hnb (.inr e)
    have HAD:=hide (refAdd_any w.heap.size c.N c.N l (rowW (bytesN c.s) T.nt.Word p) (.slice (some ⟨b,0,none⟩) c.N c.N) w1 hI1 hBR HLL.out (rowA_len _ _ _) (fun e=>hbg (Option.some.inj e)) (by omega))
    have HH1:Hid (AMemo c (fun b=>A b∨b = w.heap.size) w1∧Kept c.M w w1∧Blk w1 w.heap.size (boolsA l) 4):=⟨hm1,HH.out.2.1.trans hk1 (fun i _ e=>e),hI1⟩
    clear hm1 hk1 hI1 hBR hnb HH cN
    go_wp2_with fail
    refine HAD.out.mono ?_
    rintro e w2 ⟨rfl,hB2,hk2⟩
    have HB2:=hide (And.intro hB2 hk2)
    clear hB2 hk2 HAD
    go_wp2_with fail
    go_roundg (c.N - (p + 1))
    case measure=>omega
    case rel =>
     obtain ⟨r1,r2⟩:=HB2.out
     obtain ⟨q1,q2,q3⟩:=HH1.out
     refine ⟨p + 1,orL l (rowW (bytesN c.s) T.nt.Word p),by go_num,by omega,rfl,by rw [orL_len]; exact HLL.out,fun q hq=>?_,q1.keptA r2 (.inr rfl) (fun n hn=>by have:=HU.out n hn; omega) q3,?_,r1⟩
     ·rw [orL_getD _ _ _ (by rw [HLL.out]; exact AlC.ltN.2 hq) (by rw [rowA_len]; exact AlC.ltN.2 hq),Bool.or_eq_true,HSP.out q hq,rowW_getD,FromP.take HNP.out]
     ·exact ⟨r2.os.trans q2.os,r2.tape.trans q2.tape,r2.output.trans q2.output,by have:=q2.size; have:=r2.size; omega,fun k hk he=>(r2.block k (by have:=q2.size; omega) (by omega)).trans (q2.block k hk he)⟩
  ·have e0:decide ((p:Int) < (c.N:Int)) = false:=by simp; omega
   obtain rfl:p = c.N:=by omega
   have HH:Hid (AMemo c (fun b=>A b∨b = w.heap.size) wr∧Kept c.M w wr∧Blk wr w.heap.size (boolsA l) 4∧l.length = c.N∧(∀ q,q ≤ c.s.size→(l.getD q false = true↔FromP (bytesN c.s) T.nt.Word now c.N q))):=⟨hmm,hk,hI,hll,hspec⟩
   clear hmm hk hI hll hspec
   go_wp2_with fail
   go_ret
   obtain ⟨r1,r2,r3,r4,r5⟩:=HH.out
   refine ⟨l,r4,fun q hq=>?_,w.heap.size,rfl,fun e=>by have:=HAA.out _ e; omega,?_,r1.weak (fun b e=>.inl e) (fun n hn=>(HM.out.wrow n hn).1),r2⟩
   ·rw [r5 q hq]
    constructor
    ·rintro ⟨m,_,h2,h3⟩; exact ⟨m,h2,h3⟩
    ·rintro ⟨m,h2,h3⟩
     refine ⟨m,?_,h2,h3⟩
     have h4:=h3.1
     rw [AlC.ltN]; omega
   ·have:=BRow.ofBlk r3 (by omega)
    rw [r4] at this
    exact this
theorem count_set:∀ (l:List Bool) (j:Nat),j < l.length→l.getD j false = false→(l.set j true).count true = l.count true + 1
 | [],j,h,_=>by simp at h
 |x :: l,0,h,hx=>by simp at hx; subst hx; simp
 |x :: l,j + 1,h,hx=>by
  have:=count_set l j (by simpa using h) (by simpa using hx)
  simp only [List.set_cons_succ,List.count_cons,this]
  omega
theorem star_closed {L:List Nat} {P:List Nat→Prop} {S:Nat→Prop} (hc:∀ m q,S m→EndsW L P m q→S q) {u:List Nat} (h:Star P u):∀ p q,p ≤ q→q ≤ L.length→seg L p q = u→S p→S q:=by
 induction h with
 |nil=>intro p q h1 h2 h3 h4; rw [← seg_nil h1 h2 h3]; exact h4
 | @cons u v hu hv ih =>
  intro p q h1 h2 h3 h4
  obtain ⟨m,m1,m2,m3,m4⟩:=seg_split h1 h2 h3
  exact ih m q m2 h2 m4 (hc p m h4 ⟨m1,by omega,by rw [m3]; exact hu⟩)
theorem star_more {L:List Nat} {P:List Nat→Prop} {p m q:Nat} (h:EndsW L (Star P) p m) (g:EndsW L P m q):EndsW L (Star P) p q :=
 ⟨Nat.le_trans h.1 g.1,g.2.1,by rw [← seg_join h.1 g.1]; exact star_append h.2.2 (star_one g.2.2)⟩
structure AgP (c:AlC) (P:List Nat→Prop) (i:Nat) (la ld:List Bool):Prop where
 lenA:la.length = c.N
 lenD:ld.length = c.N
 star:∀ q,q ≤ c.s.size→la.getD q false = true→EndsW (bytesN c.s) (Star P) i q
 has:la.getD i false = true
 sub:∀ q,ld.getD q false = true→la.getD q false = true
 closed:∀ q q',ld.getD q false = true→EndsW (bytesN c.s) P q q'→la.getD q' false = true
theorem AgP.start (c:AlC) (P:List Nat→Prop) (i:Nat) (hi:i ≤ c.s.size):AgP c P i (onlyL i c.N) (List.replicate c.N false):=by
 have hi':i < c.N:=AlC.ltN.2 hi
 have hr:∀ q,(List.replicate c.N false).getD q false = false:=fun q=>by rw [List.getD_eq_getElem?_getD,List.getElem?_replicate]; split <;> rfl
 refine ⟨onlyL_len _ _,by simp,fun q hq h=>?_,by rw [onlyL_getD hi' hi']; simp,fun q h=>(by rw [hr] at h; exact absurd h (by simp)),fun q q' h=>(by rw [hr] at h; exact absurd h (by simp))⟩
 rw [onlyL_getD hi' (AlC.ltN.2 hq)] at h
 simp at h
 subst h
 exact ⟨Nat.le_refl _,by rw [bytesN_len]; exact hq,by rw [seg_self]; exact .nil⟩
theorem getD_lt {l:List Bool} {q:Nat} (h:l.getD q false = true):q < l.length:=by
 refine Nat.lt_of_not_le fun hn=>?_
 rw [List.getD_eq_getElem?_getD,List.getElem?_eq_none hn] at h; cases h
theorem AgP.step {c:AlC} {P:List Nat→Prop} {i:Nat} {la ld:List Bool} (h:AgP c P i la ld) {j:Nat} (hj:la.getD j false = true):AgP c P i (orL la (rowW (bytesN c.s) P j)) (ld.set j true):=by
 have hjl:=getD_lt hj
 rw [h.lenA] at hjl
 have hor:∀ q,q < c.N→(orL la (rowW (bytesN c.s) P j)).getD q false = (la.getD q false || (rowW (bytesN c.s) P j).getD q false):=fun q hq=>orL_getD _ _ _ (by rw [h.lenA]; exact hq) (by rw [rowA_len]; exact hq)
 have hup:∀ q,la.getD q false = true→(orL la (rowW (bytesN c.s) P j)).getD q false = true:=fun q hq=>by
  have:=getD_lt hq
  rw [h.lenA] at this
  rw [hor q this,hq]; rfl
 have hnew:∀ q,EndsW (bytesN c.s) P j q→(orL la (rowW (bytesN c.s) P j)).getD q false = true:=fun q hq=>by
  have h1:=hq.2.1
  rw [bytesN_len] at h1
  rw [hor q (AlC.ltN.2 h1),rowW_getD.2 hq]; simp
 refine ⟨by rw [orL_len]; exact h.lenA,by simp [h.lenD],fun q hq h1=>?_,hup _ h.has,fun q h1=>?_,fun q q' h1 h2=>?_⟩
 ·rw [hor q (AlC.ltN.2 hq),Bool.or_eq_true] at h1
  rcases h1 with h1 | h1
  ·exact h.star q hq h1
  ·exact star_more (h.star j (AlC.ltN.1 hjl) hj) (rowW_getD.1 h1)
 ·rw [getD_setB _ _ _ _ (by rw [h.lenD]; exact hjl)] at h1
  by_cases e:q = j
  ·rw [e]; exact hup j hj
  ·rw [if_neg e] at h1; exact hup q (h.sub q h1)
 ·rw [getD_setB _ _ _ _ (by rw [h.lenD]; exact hjl)] at h1
  by_cases e:q = j
  ·rw [e] at h2; exact hnew q' h2
  ·rw [if_neg e] at h1; exact hup q' (h.closed q q' h1 h2)
theorem AgP.done {c:AlC} {P:List Nat→Prop} {i:Nat} {la ld:List Bool} (h:AgP c P i la ld) (hd:∀ q,q < c.N→la.getD q false = true→ld.getD q false = true):la = rowW (bytesN c.s) (Star P) i:=by
 refine rowW_ext (by rw [h.lenA,bytesN_len]; rfl) fun q hq=>?_
 rw [bytesN_len] at hq
 constructor
 ·exact h.star q hq
 ·rintro ⟨h1,h2,h3⟩
  refine star_closed (S:=fun q=>la.getD q false = true) (fun m q' hm he=>?_) h3 i q h1 h2 rfl h.has
  have:=getD_lt hm
  rw [h.lenA] at this
  exact h.closed m q' (hd m this hm) he
set_option maxRecDepth 20000 in
set_option maxHeartbeats 6400000 in
theorem again_any (c:AlC) (T:MT) (HO:EndsC c T) (A:Nat→Prop) (w:World) (i:Nat) (hA:∀ b,A b→b < w.heap.size) (hm:AMemo c A w) (hi:i ≤ c.s.size) (hs:c.s.size ≤ 20000) :
  Calls Tryz.prog 129 #[.pointer (some ⟨c.ab,0,none⟩),.pointer (some ⟨T.root,0,none⟩),.int .i64 (i:Int)] w (ROut c A w (rowW (bytesN c.s) (Star T.nt.Word) i)):=by
 have hN2:c.N ≤ 20001:=by unfold AlC.N; omega
 have hN1:(c.s.size:Int) + 1 = (c.N:Int):=by unfold AlC.N; omega
 have hiN:i < c.N:=AlC.ltN.2 hi
 have hmk:=makeBools c.N (by omega)
 have s0:w.cell? ⟨c.ab,0,none⟩ = some (.string c.s):=hm.blk.cell 0
 have HM:=hide hm
 have HOV:=hide HO
 have HAA:=hide hA
 have HU:=hide hm.ult
 have HON:=hide (refOnly_any i c.N w hiN (by omega))
 clear hm HO hA
 go_enter Tryz.func129,Tryz.ntmps129
 go_wp2_with fail
 refine HON.out.mono ?_
 rintro e w1 ⟨rfl,hB1,hb1⟩
 have hz1:w.heap.size < w1.heap.size:=hB1.lt
 have HS:Hid (AMemo c (fun b=>(A b∨b = w.heap.size)∨b = w1.heap.size) (w1.alloc (.cells (boolsA (List.replicate c.N false)) 4))∧Kept c.M w (w1.alloc (.cells (boolsA (List.replicate c.N false)) 4))∧Blk (w1.alloc (.cells (boolsA (List.replicate c.N false)) 4)) w.heap.size (boolsA (onlyL i c.N)) 4∧Blk (w1.alloc (.cells (boolsA (List.replicate c.N false)) 4)) w1.heap.size (boolsA (List.replicate c.N false)) 4) :=
  hide ⟨(HM.out.fresh.below hb1).fresh.below (Below1 _ _),(Kept.ofBelow hb1).alloc _,hB1.alloc _,Blk.new _ _ _⟩
 clear hB1 hb1 HON
 go_wp2_with fail
 go_loopg [9] (2 * c.N + 1) (fun G mv wr=>∃ (more:Bool) (la ld:List Bool),mv = .bool more∧G = 2 * (c.N - ld.count true) + more.toNat∧AgP c T.nt.Word i la ld∧(more = false→∀ q,q < c.N→la.getD q false = true→ld.getD q false = true) ∧
  AMemo c (fun b=>(A b∨b = w.heap.size)∨b = w1.heap.size) wr∧Kept c.M w wr∧Blk wr w.heap.size (boolsA la) 4∧Blk wr w1.heap.size (boolsA ld) 4)
 case atStart =>
  obtain ⟨a1,a2,a3,a4⟩:=HS.out
  exact ⟨true,_,_,rfl,(by rw [show (List.replicate c.N false).count true = 0 by simp [List.count_replicate]]; simp),AgP.start c _ i hi,(fun h=>absurd h (by simp)),a1,a2,a3,a4⟩
 case round =>
  obtain ⟨more,la,ld,rfl,rfl,hag,hmo,hmm,hk,hBa,hBd⟩:=hrel
  have za:=hBa.lt
  have zd:=hBd.lt
  cases more with
  |false =>
   have HH:=hide (And.intro hag (And.intro (hmo rfl) (And.intro hmm (And.intro hk hBa))))
   clear hag hmo hmm hk hBa hBd
   go_wp2_with fail
   go_ret
   obtain ⟨a1,a2,a3,a4,a5⟩:=HH.out
   refine ⟨w.heap.size,rfl,fun e=>by have:=HAA.out _ e; omega,?_,a3.weak (fun b e=>.inl (.inl e)) (fun n hn=>(HM.out.wrow n hn).1),a4⟩
   have h6:=BRow.ofBlk a5 (by rw [a1.lenA]; omega)
   rw [a1.lenA] at h6
   rw [← a1.done a2]
   exact h6
  |true =>
   have HH:=hide (And.intro hag (And.intro hmm (And.intro hk (And.intro hBa hBd))))
   clear hag hmo hmm hk hBa hBd HS
   obtain ⟨cn,hcn⟩:∃ cn,ld.count true = cn:=⟨_,rfl⟩
   have HCN:=hide hcn
   clear hcn
   obtain ⟨wo,rfl⟩:∃ wo:World,wo = wr:=⟨_,rfl⟩
   go_wp2_with fail
   go_loopg [9,10] c.N (fun G mv jv wi=>∃ (mo:Bool) (j:Nat) (la' ld':List Bool),mv = .bool mo∧jv = .int .i64 (j:Int)∧j ≤ c.N∧G = c.N - j∧AgP c T.nt.Word i la' ld'∧(mo = false→ld'.count true = cn∧∀ q,q < j→la'.getD q false = true→ld'.getD q false = true)∧(mo = true→cn < ld'.count true) ∧
    AMemo c (fun b=>(A b∨b = w.heap.size)∨b = w1.heap.size) wi∧Kept c.M w wi∧Blk wi w.heap.size (boolsA la') 4∧Blk wi w1.heap.size (boolsA ld') 4)
   case atStart =>
    obtain ⟨a1,a2,a3,a4,a5⟩:=HH.out
    exact ⟨false,0,la,ld,rfl,rfl,by omega,rfl,a1,fun _=>⟨HCN.out,fun q hq=>by omega⟩,(fun h=>absurd h (by simp)),a2,a3,a4,a5⟩
   case round =>
    obtain ⟨mo,j,la',ld',rfl,rfl,hj,rfl,hag,hmf,hmt,hmm,hk,hBa,hBd⟩:=hrel
    have za':=hBa.lt
    have zd':=hBd.lt
    by_cases hlt:j < c.N
    ·have e0:decide ((j:Int) < (c.N:Int)) = true:=by simp; omega
     have cA:=boolsA_cellD hBa j (by rw [hag.lenA]; exact hlt)
     have cD:=boolsA_cellD hBd j (by rw [hag.lenD]; exact hlt)
     have fD:=hBd.frozen j
     have j0:(0:Int) ≤ (j:Int):=by omega
     have j1:(j:Int) < (c.N:Int):=by omega
     have HI:=hide (And.intro hag (And.intro hmf (And.intro hmt (And.intro hmm (And.intro hk (And.intro hBa hBd))))))
     clear hag hmf hmt hmm hk hBa hBd
     generalize hxa:la'.getD j false = xa at cA
     generalize hxd:ld'.getD j false = xd at cD
     have HXA:=hide hxa
     have HXD:=hide hxd
     clear hxa hxd
     cases xa with
     |false =>
      go_wp2_with fail
      go_roundg (c.N - (j + 1))
      case measure=>omega
      case rel =>
       obtain ⟨a1,a2,a3,a4,a5,a6,a7⟩:=HI.out
       refine ⟨mo,j + 1,la',ld',rfl,by go_num,by omega,rfl,a1,fun h=>⟨(a2 h).1,fun q hq hh=>?_⟩,a3,a4,a5,a6,a7⟩
       by_cases e:q < j
       ·exact (a2 h).2 q e hh
       ·rw [show q = j by omega,HXA.out] at hh; cases hh
     |true =>
      cases xd with
      |true =>
       go_wp2_with fail
       go_roundg (c.N - (j + 1))
       case measure=>omega
       case rel =>
        obtain ⟨a1,a2,a3,a4,a5,a6,a7⟩:=HI.out
        refine ⟨mo,j + 1,la',ld',rfl,by go_num,by omega,rfl,a1,fun h=>⟨(a2 h).1,fun q hq hh=>?_⟩,a3,a4,a5,a6,a7⟩
        by_cases e:q < j
        ·exact (a2 h).2 q e hh
        ·rw [show q = j by omega]; exact HXD.out
      |false =>
       obtain ⟨a1,a2,a3,a4,a5,a6,a7⟩:=HI.out
       obtain ⟨w3,hw3⟩:∃ w3:World,wr.setCell ⟨w1.heap.size,j,none⟩ (.bool true) = w3:=⟨_,rfl⟩
       have kd:Kept (fun b=>b = w1.heap.size) wr w3:=by rw [← hw3]; exact (Kept.refl (fun b=>b = w1.heap.size) _).setCell (p:=⟨w1.heap.size,j,none⟩) (fun _=>rfl) _
       have b3:AMemo c (fun b=>(A b∨b = w.heap.size)∨b = w1.heap.size) w3:=a4.keptA kd (.inr rfl) (fun n hn=>by have:=HU.out n hn; omega) a7
       have b4:Kept c.M w w3:=⟨kd.os.trans a5.os,kd.tape.trans a5.tape,kd.output.trans a5.output,by have:=a5.size; have:=kd.size; omega,fun k hk he=>(kd.block k (by have:=a5.size; omega) (by omega)).trans (a5.block k hk he)⟩
       have b6:Blk w3 w.heap.size (boolsA la') 4:=a6.kept kd (by omega)
       have b7:Blk w3 w1.heap.size (boolsA (ld'.set j true)) 4:=by rw [← hw3,← boolsA_set]; exact a7.set j _
       have HE:=hide (HOV.out _ w3 j (fun b hb=>by rcases hb with (e | e) | e; have:=HAA.out b e; have:=kd.size; omega; have:=kd.size; omega; have:=kd.size; omega) b3 (AlC.ltN.1 hlt))
       have HB:=hide (And.intro b3 (And.intro b4 (And.intro b6 b7)))
       have hcnt:=hide (count_set ld' j (by rw [a1.lenD]; exact hlt) HXD.out)
       have HJ:=hide (And.intro a1 (And.intro a2 a3))
       have z3:wr.heap.size ≤ w3.heap.size:=kd.size
       clear a1 a2 a3 a4 a5 a6 a7 b3 b4 b6 b7 kd HI
       go_upto_region 12 with fail
       try rw [hw3]
       clear hw3 cA cD fD
       go_wp2_with fail
       refine HE.out.mono ?_
       rintro e w4 ⟨b,rfl,hnb,hBR,hm4,hk4⟩
       obtain ⟨b3,b4,b6,b7⟩:=HB.out
       have hI4:Blk w4 w.heap.size (boolsA la') 4:=b3.kept1 hk4 b6 (by decide)
       have hD4:Blk w4 w1.heap.size (boolsA (ld'.set j true)) 4:=b3.kept1 hk4 b7 (by decide)
       have z4:=hk4.size
       have HAD:=hide (refAdd_any w.heap.size c.N c.N la' (rowW (bytesN c.s) T.nt.Word j) (.slice (some ⟨b,0,none⟩) c.N c.N) w4 hI4 hBR HJ.out.1.lenA (rowA_len _ _ _) (fun e=>hnb (.inl (.inr (Option.some.inj e)))) (by omega))
       have HB4:=hide (And.intro hm4 (And.intro (b4.trans hk4 (fun i _ e=>e)) (And.intro hI4 hD4)))
       clear b3 b4 b6 b7 hm4 hk4 hI4 hD4 hBR hnb HB HE
       go_wp2_with fail
       refine HAD.out.mono ?_
       rintro e w5 ⟨rfl,hB5,hk5⟩
       have HB5:=hide (And.intro hB5 hk5)
       clear hB5 hk5 HAD
       go_wp2_with fail
       go_roundg (c.N - (j + 1))
       case measure=>omega
       case rel =>
        obtain ⟨r1,r2⟩:=HB5.out
        obtain ⟨q1,q2,q3,q4⟩:=HB4.out
        obtain ⟨a1,a2,a3⟩:=HJ.out
        refine ⟨true,j + 1,orL la' (rowW (bytesN c.s) T.nt.Word j),ld'.set j true,rfl,by go_num,by omega,rfl,a1.step HXA.out,(fun h=>absurd h (by simp)),fun _=>?_,q1.keptA r2 (.inl (.inr rfl)) (fun n hn=>by have:=HU.out n hn; omega) q3,?_,r1,q4.kept r2 (by omega)⟩
        ·rw [hcnt.out]
         cases mo with
         |true=>have:=a3 rfl; omega
         |false=>have:=(a2 rfl).1; omega
        ·exact ⟨r2.os.trans q2.os,r2.tape.trans q2.tape,r2.output.trans q2.output,by have:=q2.size; have:=r2.size; omega,fun k hk he=>(r2.block k (by have:=q2.size; omega) (by omega)).trans (q2.block k hk he)⟩
    ·have e0:decide ((j:Int) < (c.N:Int)) = false:=by simp; omega
     obtain rfl:j = c.N:=by omega
     have HI:=hide (And.intro hag (And.intro hmf (And.intro hmt (And.intro hmm (And.intro hk (And.intro hBa hBd))))))
     clear hag hmf hmt hmm hk hBa hBd
     go_wp2_with fail
     go_roundg (2 * (c.N - ld'.count true) + mo.toNat)
     case measure =>
      obtain ⟨a1,a2,a3,_⟩:=HI.out
      have hle:ld'.count true ≤ c.N:=by rw [← a1.lenD]; exact List.count_le_length
      have hcc:=HCN.out
      cases mo with
      |true=>have:=a3 rfl; simp; omega
      |false=>have:=(a2 rfl).1; simp; omega
     case rel =>
      obtain ⟨a1,a2,a3,a4,a5,a6,a7⟩:=HI.out
      exact ⟨mo,la',ld',rfl,rfl,a1,fun h=>(a2 h).2,a4,a5,a6,a7⟩
mutual
def NT.Wf (s:ByteArray):NT→Prop
 | .place i e A=>PlaceIs s i e A
 | .node k l=>(k = 1∨k = 2∨(k = 3∧l.length = 1)∨k = 4)∧WfL s l
def WfL (s:ByteArray):List NT→Prop
 | []=>True
 |x :: l=>x.Wf s∧WfL s l
end
theorem WfL_iff {s:ByteArray}:∀ l:List NT,WfL s l↔∀ x ∈ l,x.Wf s
 | []=>by simp [WfL]
 |x :: l=>by simp [WfL,WfL_iff l]
theorem WfL_snoc {s:ByteArray} {l:List NT} {x:NT} (h:WfL s l) (hx:x.Wf s):WfL s (l ++ [x]):=by
 rw [WfL_iff] at h ⊢
 intro y hy
 rw [List.mem_append,List.mem_singleton] at hy
 rcases hy with hy | rfl
 ·exact h y hy
 ·exact hx
theorem mark_wf {s:ByteArray} {x:NT} (h:x.Wf s) (m:Nat):(markNT m x).Wf s:=by
 unfold markNT
 split
 ·simp [NT.Wf,WfL,h]
 ·split
  ·simp [NT.Wf,WfL,h]
  ·split
   ·simp [NT.Wf,WfL,h]
   ·exact h
theorem PT.nt_wf {s:ByteArray}:∀ (t:PT) (i j:Nat) (rows cur:List NT),t.Sp s i j→WfL s rows→WfL s cur→(t.nt rows cur).Wf s
 | .nil,i,j,rows,cur,_,hr,hc=>by
  have:WfL s (rows ++ [.node 1 cur]):=WfL_snoc hr (by simp [NT.Wf,hc])
  simp [PT.nt,NT.Wf,this]
 | .bar r,i,j,rows,cur,h,hr,hc=>PT.nt_wf r _ _ _ _ h.2 (WfL_snoc hr (by simp [NT.Wf,hc])) (by simp [WfL])
 | .leaf a e A m r,i,j,rows,cur,h,hr,hc=>by
  obtain ⟨rfl,h2,_,_,h5⟩:=h
  exact PT.nt_wf r _ _ _ _ h5 hr (WfL_snoc hc (mark_wf (by simp only [NT.Wf]; exact place_is h2) m))
 | .group t m r,i,j,rows,cur,h,hr,hc=>by
  obtain ⟨_,e,h2,_,_,h5⟩:=h
  exact PT.nt_wf r _ _ _ _ h5 hr (WfL_snoc hc (mark_wf (PT.nt_wf t _ _ [] [] h2 (by simp [WfL]) (by simp [WfL])) m))
mutual
theorem MT.wf_sub {s:ByteArray}:∀ (U T:MT),U.nt.Wf s→T ∈ U.subs→T.nt.Wf s
 | .place b i e A,T,h,hT=>by
  simp only [MT.subs,List.mem_singleton] at hT
  rw [hT]; exact h
 | .node b v k l,T,h,hT=>by
  simp only [MT.subs,List.mem_cons] at hT
  rcases hT with hT | hT
  ·rw [hT]; exact h
  ·simp only [MT.nt,NT.Wf] at h
   exact wfL_sub l T h.2 hT
theorem wfL_sub {s:ByteArray}:∀ (l:List MT) (T:MT),WfL s (ntL l)→T ∈ subsL l→T.nt.Wf s
 | [],T,h,hT=>by simp [subsL] at hT
 |y :: l,T,h,hT=>by
  simp only [ntL,WfL] at h
  simp only [subsL,List.mem_append] at hT
  rcases hT with hT | hT
  ·exact MT.wf_sub y T h.1 hT
  ·exact wfL_sub l T h.2 hT
end
mutual
theorem MT.wf_kind {s:ByteArray}:∀ (T:MT),T.nt.Wf s→T.KindOk
 | .place b i e A,h=>by simp [MT.KindOk]
 | .node b v k l,h=>by
  simp only [MT.nt,NT.Wf] at h
  simp only [MT.KindOk]
  exact ⟨by omega,wfL_kind l h.2⟩
theorem wfL_kind {s:ByteArray}:∀ (l:List MT),WfL s (ntL l)→kindsOk l
 | [],h=>by simp [kindsOk]
 |y :: l,h=>by
  simp only [ntL,WfL] at h
  simp only [kindsOk]
  exact ⟨MT.wf_kind y h.1,wfL_kind l h.2⟩
end
theorem ntL_len (l:List MT):(ntL l).length = l.length:=by rw [ntL_map,List.length_map]
theorem kid_cells {w:World} {s:ByteArray} {f:Nat→Int} {b k:Nat} {v:Value} {l:List MT} (h:(MT.node b v k l).At w s f):∃ ad cap,v = .slice ad l.length cap∧w.cell? ⟨b,0,none⟩ = some (.int .i64 (k:Int))∧w.cell? ⟨b,4,none⟩ = some (.slice ad l.length cap)∧∀ i,(hi:i < l.length)→∃ g,ad = some ⟨g,0,none⟩∧w.cell? ⟨g,i,none⟩ = some (.pointer (some ⟨l[i].root,0,none⟩)):=by
 simp only [MT.At] at h
 obtain ⟨hb,hr,_⟩:=h
 have hr':w.ownsRow 0 80 1 v l.length (ptrs (l.map MT.root)):=by unfold PRow at hr; rwa [List.length_map] at hr
 obtain ⟨_,ad,cap,rfl,hrow⟩:=ownsRow_form hr'
 refine ⟨ad,cap,rfl,hb.cell 0,hb.cell 4,fun i hi=>?_⟩
 rcases hrow with ⟨_,e⟩ | ⟨g,_,rfl,_⟩
 ·omega
 ·exact ⟨g,rfl,by rw [ownsRow_cell hr' i (by omega)]; simp [ptrs,hi]⟩
theorem endsW_nil {L:List Nat} {i q:Nat} (hi:i ≤ L.length):EndsW L (fun w=>w = []) i q↔q = i:=by
 constructor
 ·rintro ⟨h1,h2,h3⟩; exact (seg_nil h1 h2 h3).symm
 ·rintro rfl; exact ⟨Nat.le_refl _,hi,seg_self _ _⟩
theorem endsW_congr {L:List Nat} {P Q:List Nat→Prop} (h:∀ w,P w↔Q w) {i q:Nat}:EndsW L P i q↔EndsW L Q i q:=by unfold EndsW; rw [h]
set_option maxRecDepth 20000 in
set_option maxHeartbeats 6400000 in
theorem find_row1 (c:AlC) (b:Nat) (v:Value) (l:List MT) (hT:(MT.node b v 1 l) ∈ subsL c.rules) (HE:∀ y ∈ l,EndsC c y) (hs:c.s.size ≤ 20000) (hl:l.length ≤ 100000):FindRC c (.node b v 1 l):=by
 intro A w p hA hm hp
 have hN2:c.N ≤ 20001:=by unfold AlC.N; omega
 have hN1:(c.s.size:Int) + 1 = (c.N:Int):=by unfold AlC.N; omega
 have hpN:p < c.N:=AlC.ltN.2 hp
 have s0:w.cell? ⟨c.ab,0,none⟩ = some (.string c.s):=hm.blk.cell 0
 obtain ⟨ad,cap,rfl,k0,_,_⟩:=kid_cells (AtL.sub c.rules _ hm.prt hT)
 have HM:=hide hm
 have HAA:=hide hA
 have HEE:=hide HE
 have HON:=hide (refOnly_any p c.N w hpN (by omega))
 have HT:=hide hT
 clear hm hA HE hT
 simp only [MT.root]
 go_enter Tryz.func131,Tryz.ntmps131
 go_wp2_with fail
 refine HON.out.mono ?_
 rintro e w1 ⟨rfl,hB1,hb1⟩
 have hz1:w.heap.size < w1.heap.size:=hB1.lt
 have HS:=hide (And.intro (HM.out.below hb1) (And.intro (Kept.ofBelow (ex:=c.M) hb1) hB1))
 clear hB1 hb1 HON
 go_wp2_with fail
 go_loopg [7,8] l.length (fun G nv kv wr=>∃ (k:Nat) (now:List Bool) (ng ncap:Nat),kv = .int .i64 (k:Int)∧k ≤ l.length∧G = l.length - k∧nv = .slice (some ⟨ng,0,none⟩) c.N c.N∧¬ A ng∧BRow wr (.slice (some ⟨ng,0,none⟩) c.N c.N) now∧now = rowW (bytesN c.s) (rowWord (ntL (l.take k))) p∧AMemo c A wr∧Kept c.M w wr)
 case atStart =>
  obtain ⟨a1,a2,a3⟩:=HS.out
  refine ⟨0,onlyL p c.N,w.heap.size,c.N,rfl,by omega,rfl,rfl,fun e=>by have:=HAA.out _ e; omega,?_,?_,a1,a2⟩
  ·have:=BRow.ofBlk a3 (by rw [onlyL_len]; omega)
   rw [onlyL_len] at this
   exact this
  ·refine rowW_ext (by rw [onlyL_len,bytesN_len]; rfl) fun q hq=>?_
   rw [bytesN_len] at hq
   rw [onlyL_getD hpN (AlC.ltN.2 hq)]
   simp only [List.take_zero,ntL]
   rw [endsW_congr (Q:=fun w=>w = []) (fun w=>by simp [rowWord]),endsW_nil (by rw [bytesN_len]; exact hp)]
   simp
 case round =>
  obtain ⟨k,now,ng,ncap,rfl,hk,rfl,rfl,hng,hBR,hnow,hmm,hkp⟩:=hrel
  obtain ⟨ad',cap',hv',_,c4,ck⟩:=kid_cells (AtL.sub c.rules _ hmm.prt HT.out)
  injection hv' with hv1 hv2 hv3
  subst hv1 hv3
  have hz:=hkp.size
  by_cases hlt:k < l.length
  ·have e0:decide ((k:Int) < (l.length:Int)) = true:=by simp; omega
   obtain ⟨g,rfl,cg⟩:=ck k hlt
   have i0:(0:Int) ≤ (k:Int):=by omega
   have i1:(k:Int) < (l.length:Int):=by omega
   have hnl:now.length = c.N:=by rw [hnow,rowA_len]
   have HF:=hide (from_any c l[k] (HEE.out _ (List.getElem_mem hlt)) A wr ng c.N now (fun b hb=>by have:=HAA.out b hb; omega) hmm hBR hnl hs)
   have HK:=hide (And.intro hkp hnow)
   clear hmm hBR hnow hng hkp hnl ck
   go_wp2_with fail
   refine HF.out.mono ?_
   rintro e w2 ⟨l2,hl2,hsp,b2,rfl,hnb2,hBR2,hm2,hk2⟩
   have HR:=hide (And.intro hl2 (And.intro hsp (And.intro hnb2 (And.intro hBR2 (And.intro hm2 hk2)))))
   clear hl2 hsp hnb2 hBR2 hm2 hk2 HF
   go_wp2_with fail
   go_roundg (l.length - (k + 1))
   case measure=>omega
   case rel =>
    obtain ⟨a1,a2,a3,a4,a5,a6⟩:=HR.out
    refine ⟨k + 1,l2,b2,c.N,by go_num,by omega,rfl,rfl,a3,a4,?_,a5,HK.out.1.trans a6 (fun i _ e=>e)⟩
    refine rowW_ext (by rw [a1,bytesN_len]; rfl) fun q hq=>?_
    rw [bytesN_len] at hq
    rw [a2 q hq,show l.take (k + 1) = l.take k ++ [l[k]] from (List.take_append_getElem hlt).symm,ntL_snoc,
     endsW_congr (rowWord_snoc _ _),ends_row]
    rw [HK.out.2]
    simp only [rowW_getD]
  ·obtain rfl:k = l.length:=by omega
   have e0:decide ((l.length:Int) < (l.length:Int)) = false:=by simp
   have HH:=hide (And.intro hng (And.intro hBR (And.intro hnow (And.intro hmm hkp))))
   clear hng hBR hnow hmm hkp ck
   go_wp2_with fail
   go_ret
   obtain ⟨a1,a2,a3,a4,a5⟩:=HH.out
   refine ⟨ng,rfl,a1,?_,a4,a5⟩
   rw [a3] at a2
   have e:rowW (bytesN c.s) (rowWord (ntL (l.take l.length))) p = rowW (bytesN c.s) (MT.node b (.slice ad l.length cap) 1 l).nt.Word p:=by
    refine rowW_ext (by rw [rowW_len]) fun q hq=>?_
    rw [rowW_getD,List.take_of_length_le (Nat.le_refl _)]
    exact endsW_congr (fun w=>by simp only [MT.nt]; rw [ntw_row])
   rw [← e]; exact a2
set_option maxRecDepth 20000 in
set_option maxHeartbeats 6400000 in
theorem find_many (c:AlC) (b:Nat) (v:Value) (y:MT) (hT:(MT.node b v 3 [y]) ∈ subsL c.rules) (HE:EndsC c y) (hs:c.s.size ≤ 20000):FindRC c (.node b v 3 [y]):=by
 intro A w p hA hm hp
 obtain ⟨ad,cap,rfl,k0,k4,kk⟩:=kid_cells (AtL.sub c.rules _ hm.prt hT)
 obtain ⟨g,rfl,cg⟩:=kk 0 (by simp)
 simp only [List.length_singleton,List.getElem_cons_zero] at k4 cg
 have HAG:=hide (again_any c y HE A w p hA hm hp hs)
 have HM:=hide hm
 have HAA:=hide hA
 have HEE:=hide HE
 have HT:=hide hT
 clear hm hA HE hT kk
 simp only [MT.root,List.length_singleton]
 go_enter Tryz.func131,Tryz.ntmps131
 go_wp2_with fail
 refine HAG.out.mono ?_
 rintro e w1 ⟨b1,rfl,hnb1,hBR1,hm1,hk1⟩
 obtain ⟨ad',cap',hv',_,c4,ck⟩:=kid_cells (AtL.sub c.rules _ hm1.prt HT.out)
 injection hv' with hv1 hv2 hv3
 subst hv3
 obtain ⟨g',hg',cg'⟩:=ck 0 (by simp)
 simp only [List.length_singleton,List.getElem_cons_zero] at c4 cg'
 rw [← hv1] at c4 hg'
 cases hg'
 have hz1:=hk1.size
 have HF:=hide (from_any c y HEE.out A w1 b1 c.N _ (fun b hb=>by have:=HAA.out b hb; omega) hm1 hBR1 (rowA_len _ _ _) hs)
 have HK:=hide hk1
 clear hnb1 hBR1 hm1 hk1 HAG k0 k4 cg ck hv1 hv2
 go_wp2_with fail
 refine HF.out.mono ?_
 rintro e w2 ⟨l2,hl2,hsp,b2,rfl,hnb2,hBR2,hm2,hk2⟩
 have HR:=hide (And.intro hl2 (And.intro hsp (And.intro hnb2 (And.intro hBR2 (And.intro hm2 hk2)))))
 clear hl2 hsp hnb2 hBR2 hm2 hk2 HF
 go_wp2_with fail
 go_ret
 obtain ⟨a1,a2,a3,a4,a5,a6⟩:=HR.out
 refine ⟨b2,rfl,a3,?_,a5,HK.out.trans a6 (fun i _ e=>e)⟩
 have e:l2 = rowW (bytesN c.s) (MT.node b (.slice (some ⟨g,0,none⟩) [y].length cap) 3 [y]).nt.Word p:=by
  refine rowW_ext (by rw [a1,bytesN_len]; rfl) fun q hq=>?_
  rw [bytesN_len] at hq
  rw [a2 q hq,endsW_congr (P:=(MT.node b (.slice (some ⟨g,0,none⟩) [y].length cap) 3 [y]).nt.Word) (fun w=>by simp only [MT.nt,ntL]; rw [word_many]),ends_row]
  simp only [rowW_getD]
 simp only [List.length_singleton] at e
 rw [← e]; exact a4
end Go.Proofs.YtcckhngbdoiikaaGreat
