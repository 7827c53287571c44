import Derived.Test.YtcckhngbdoiikaaGreatG18

namespace Go.Proofs.YtcckhngbdoiikaaGreat
open Go.RowKit Go.Deep
set_option linter.unusedVariables false
theorem rangeAt_set {w:World} {b o:Nat} {cs:List Value} (h:w.rangeAt b o cs) {a:Addr} (hne:a.block ≠ b) (v:Value):(w.setCell a v).rangeAt b o cs:=fun j u hu=>by
 rw [World.cell?_setCell_far _ _ _ _ hne]; exact h j u hu
theorem rangeAt_blk {w:World} {b:Nat} {c:Array Value} {t:TypeId} (h:Blk w b c t):w.rangeAt b 0 c.toList:=fun j v hv=>by
 rw [Nat.zero_add,h.cell]; simpa using hv
set_option maxRecDepth 4000 in
set_option maxHeartbeats 800000 in
theorem atom_any (s:ByteArray) (rb gb f:Nat) (hE:ExprG s rb gb f) (hs:s.size ≤ 120) (w:World) (p:Nat) (R:RulesT) (O:Nat→Prop) (h:RS w rb gb s p R O) (hp:p ≤ s.size) (hR:R.follow.length ≤ p) (hf:s.size - p ≤ f) :
  Calls Tryz.prog 144 #[.pointer (some ⟨rb,0,none⟩)] w fun e w' =>
   e = .returned (.tuple #[partV (atomF s (exprF s f) p R).part,.bool (atomF s (exprF s f) p R).ok])∧RPost w w' rb gb s O (atomF s (exprF s f) p R).at' (atomF s (exprF s f) p R).rules:=by
 have hrb:=h.lt
 have hK:Kept (fun k=>k = rb∨O k) w w:=Kept.refl _ _
 have nO:∀ k,O k→k < w.heap.size:=h.olt
 have hnO:¬ O w.heap.size:=fun e=>by have:=nO _ e; omega
 unfold atomF
 by_cases h40:peekI s p = 40
 ·rw [if_pos h40]
  have hpl:p < s.size:=peekI_in (by rw [h40]; decide)
  have hGc:=fun W O h1=>group_any s rb gb f hE hs W p R O h1 hpl hR hf
  generalize groupF s (exprF s f) p R = r at hGc ⊢
  obtain ⟨q,ok,p1,R1⟩:=r
  simp only at hGc ⊢
  have HG:=hide hGc
  have HS:=hide h
  have HNO:=hide nO
  clear hGc hE h nO
  go_enter Tryz.func144,Tryz.ntmps144
  go_wp2_with fail
  refine (peek_any s p rb gb _ (HS.out.rd.alloc _) hs (by omega)).mono ?_
  rintro e w1 ⟨rfl,n,rfl⟩
  rw [h40]
  go_wp2_with fail
  refine (HG.out _ O ((HS.out.alloc _).drewN n)).mono ?_
  rintro e w1 ⟨rfl,O1,hS1,hk1,ho1⟩
  have hZ1:Blk w1 w.heap.size part0 206:=((Blk.new w part0 206).drewN n).kept hk1 (fun e=>by rcases e with e | e; omega; exact hnO e)
  go_wp2_with (refine storeP rfl (.tmp 2) (.tmp 11) rfl w.heap.size rfl rfl hZ1 rfl ?_)
  have nO:=HNO.out
  have hO1:∀ k,O1 k→O k∨w.heap.size < k:=by
   intro k hk
   rcases ho1 k hk with e | e
   ·exact .inl e
   ·exact .inr (by simp at e; omega)
  have hn0:¬ O1 w.heap.size:=fun e=>by rcases hO1 _ e with e | e; have:=nO _ e; omega; omega
  refine bodyPost_ret (resultsPartTmp Tryz.results144 _ rfl (hZ1.setRow _)) rfl ⟨rfl,O1,hS1.setRow (by omega) hn0 _,?_,?_⟩
  ·exact (((hK.alloc _).drewN n).trans' hk1).setRow (by omega) _
  ·exact fun k hk=>(hO1 k hk).imp id (fun e=>by omega)
 rw [if_neg h40]
 have e40:(peekI s p == 40) = false:=by simp [h40]
 have hPc:=fun W h1=>place_any s p rb gb W h1 hs hp
 generalize placeF s p = r at hPc ⊢
 obtain ⟨A,ok,p1⟩:=r
 simp only at hPc ⊢
 have HP:=hide hPc
 have HS:=hide h
 have HNO:=hide nO
 clear hPc hE h nO h40
 cases ok with
 |false =>
  rw [if_neg (by simp)]
  go_enter Tryz.func144,Tryz.ntmps144
  go_wp2_with fail
  refine (peek_any s p rb gb _ (HS.out.rd.alloc _) hs (by omega)).mono ?_
  rintro e w1 ⟨rfl,n,rfl⟩
  go_wp2_with fail
  refine (HP.out _ ((HS.out.rd.alloc _).drewN n)).mono ?_
  rintro e w1 ⟨rfl,hr1,hk1⟩
  have hS1:=((HS.out.alloc _).drewN n).moved hr1 hk1
  have hZ1:Blk w1 w.heap.size part0 206:=((Blk.new w part0 206).drewN n).kept hk1 (by omega)
  have hz1:=hZ1.lt
  have hN1:=Blk.new w1 Tryz.zeroCells228 228
  have hZ2:=(hZ1.alloc (.cells Tryz.zeroCells228 228)).setRowOther (g:=w1.heap.size) (by omega) (boolsC A)
  have hkW:Kept (fun k=>k = rb∨O k) w w1:=((hK.alloc _).drewN n).trans hk1 (fun i _ e=>.inl e)
  have HH:Hid (RS w1 rb gb s p1 R O∧Kept (fun k=>k = rb∨O k) w w1):=⟨hS1,hkW⟩
  clear hS1 hr1 hk1 hkW
  go_wp2_with (first | refine store256 rfl (.tmp 4) (.tmp 16) rfl w1.heap.size rfl rfl hN1 zero256 ?_ | refine storeP (q:=PartT.new) rfl (.tmp 2) (.tmp 20) rfl w.heap.size rfl rfl hZ2 rfl ?_)
  obtain ⟨hS1,hkW⟩:=HH.out
  have hn1:¬ O w1.heap.size:=fun e=>by have:=HNO.out _ e; omega
  refine bodyPost_ret (resultsPartTmp Tryz.results144 _ rfl (hZ2.setRow _)) rfl ⟨rfl,O,((hS1.alloc _).setRow (by omega) hn1 _).setRow (by omega) hnO _,?_,fun k hk=>.inl hk⟩
  exact ((hkW.alloc _).setRow (by omega) _).setRow (by omega) _
 |true =>
  rw [if_pos rfl]
  go_enter Tryz.func144,Tryz.ntmps144
  go_wp2_with fail
  refine (peek_any s p rb gb _ (HS.out.rd.alloc _) hs (by omega)).mono ?_
  rintro e w1 ⟨rfl,n,rfl⟩
  go_wp2_with fail
  refine (HP.out _ ((HS.out.rd.alloc _).drewN n)).mono ?_
  rintro e w1 ⟨rfl,hr1,hk1⟩
  have hS1:=((HS.out.alloc _).drewN n).moved hr1 hk1
  have hZ1:Blk w1 w.heap.size part0 206:=((Blk.new w part0 206).drewN n).kept hk1 (by omega)
  have hz1:=hZ1.lt
  have hN1:=Blk.new w1 Tryz.zeroCells228 228
  have hkW:Kept (fun k=>k = rb∨O k) w w1:=((hK.alloc _).drewN n).trans hk1 (fun i _ e=>.inl e)
  have hn1:¬ O w1.heap.size:=fun e=>by have:=HNO.out _ e; omega
  have hl1:=hS1.lt
  have hS2:=(hS1.alloc (.cells Tryz.zeroCells228 228)).setRow (g:=w1.heap.size) (by omega) hn1 (boolsC A)
  have hk2:=(hkW.alloc (.cells Tryz.zeroCells228 228)).setRow (g:=w1.heap.size) (by omega) (boolsC A)
  have hZ2:=(hZ1.alloc (.cells Tryz.zeroCells228 228)).setRowOther (g:=w1.heap.size) (by omega) (boolsC A)
  have hA2:=hN1.setRow (boolsC A)
  clear hS1 hr1 hk1 hkW hZ1
  go_wp2_with (first | refine store256 rfl (.tmp 4) (.tmp 16) rfl w1.heap.size rfl rfl hN1 zero256 ?_)
  generalize (w1.alloc (.cells Tryz.zeroCells228 228)).setRow w1.heap.size (boolsC A) = w2 at hS2 hk2 hZ2 hA2 ⊢
  obtain ⟨fv,lv,hRu⟩:=hS2.ru
  have c2:w2.cell? ⟨rb,2,none⟩ = some (.pointer (some ⟨gb,0,none⟩)):=hS2.rd.c2
  have hrg:=rangeAt_blk hA2
  have hu:=Tryz.underlying228
  have hi:(Tryz.prog.info? 228).map (·.size) = some (boolsC A).toList.length:=by rw [Array.length_toList,boolsC_size]; exact Tryz.infoB
  have hcl:(boolsC A).toList.length = 256:=by rw [Array.length_toList,boolsC_size]
  have hone:∀ v ∈ (boolsC A).toList,v.oneCell' = true:=fun v hv=>(Array.all_eq_true_iff_forall_mem.1 (boolsC_one A)) v (by simpa using hv)
  have zZ:w.heap.size < w2.heap.size:=hZ2.lt
  have zA:w1.heap.size < w2.heap.size:=hA2.lt
  have zr:rb < w2.heap.size:=hS2.lt
  have hadd:∀ W,RulesAt W gb O R fv lv→Calls Tryz.prog 148 #[.pointer (some ⟨gb,0,none⟩),.agg (boolsC A).toList.toArray] W fun e w' =>
   e = .returned (partV R.addPart)∧∃ O' fv',RulesAt w' gb O' (R.add A) fv' lv∧Kept O W w'∧∀ k,O' k→O k∨W.heap.size ≤ k:=by
   intro W hW
   rw [Array.toArray_toList]
   exact add_any R gb O fv lv A W hW (by omega)
  have hrk:∀ W,Blk W w1.heap.size (boolsC A) 228→W.rangeAt w1.heap.size 0 (boolsC A).toList:=fun W hW=>rangeAt_blk hW
  generalize (boolsC A).toList = cs at hrg hi hcl hone hadd hrk
  have HADD:=hide hadd
  have HRK:=hide hrk
  have HH2:Hid (RS w2 rb gb s p1 R O∧Kept (fun k=>k = rb∨O k) w w2∧Blk w2 w.heap.size part0 206∧RulesAt w2 gb O R fv lv∧Blk w2 w1.heap.size (boolsC A) 228):=⟨hS2,hk2,hZ2,hRu,hA2⟩
  clear hS2 hk2 hZ2 hRu hA2 hN1 hadd hrk
  have hne0:w.heap.size ≠ rb:=by omega
  have hne1:w.heap.size ≠ w1.heap.size:=by omega
  go_region_held3 (fun w'=>w'.cell? ⟨rb,2,none⟩ = some (.pointer (some ⟨gb,0,none⟩))∧w'.rangeAt w1.heap.size 0 cs)
   (first | with_reducible exact ⟨k1,k2⟩ | exact ⟨by simp [k1,hne0,World.cell?_setCell_far],rangeAt_set (rangeAt_set (rangeAt_set (rangeAt_set (rangeAt_set k2 hne1 _) hne1 _) hne1 _) hne1 _) hne1 _⟩ | exact ⟨c2,hrg⟩)
   (first | (go_at_call 148; refine (HADD.out _ HH2.out.2.2.2.1.drew).mono ?_; rintro e w3 ⟨rfl,O3,fv3,hR3,hk3,ho3⟩; have k1:w3.cell? ⟨rb,2,none⟩ = some (.pointer (some ⟨gb,0,none⟩)):=(hk3.cell (p:=⟨rb,2,none⟩) zr HH2.out.1.no).trans c2; have k2:w3.rangeAt w1.heap.size 0 cs:=HRK.out _ (HH2.out.2.2.2.2.drew.kept hk3 hn1); have k3:=HH2.out.2.2.1.drew.kept hk3 hnO; have k30:=k3.cell 0; have k31:=k3.cell 1; have k32:=k3.cell 2; have k33:=k3.cell 3; have k34:=k3.cell 4; have k40:=k3.frozen 0; have k41:=k3.frozen 1; have k42:=k3.frozen 2; have k43:=k3.frozen 3; have k44:=k3.frozen 4))
  obtain ⟨hS2,hk2,hZ2,hRu,hA2⟩:=HH2.out
  have hS3:=hS2.drew.turned' hR3 hk3 ho3
  have hn3:¬ O3 w.heap.size:=fun e=>by rcases ho3 _ e with e | e; exact hnO e; simp at e; omega
  have hkW:Kept (fun k=>k = rb∨O k) w w3:=hk2.drew.trans hk3 (fun i _ e=>.inr e)
  go_wp2_with fail
  refine bodyPost_ret (resultsPartTmp (x:=R.addPart) Tryz.results144 _ rfl (((((k3.set 0 _).set 1 _).set 2 _).set 3 _).set 4 _)) rfl ⟨rfl,O3,((((hS3.setOther hne0 hn3 _).setOther hne0 hn3 _).setOther hne0 hn3 _).setOther hne0 hn3 _).setOther hne0 hn3 _,?_,?_⟩
  ·exact ((((hkW.setCell (by simp) _).setCell (by simp) _).setCell (by simp) _).setCell (by simp) _).setCell (by simp) _
  ·intro k hk
   rcases ho3 k hk with e | e
   ·exact .inl e
   ·exact .inr (by simp at e; omega)
theorem atom_is (s:ByteArray) (rb gb f:Nat) (hE:ExprG s rb gb f) (hs:s.size ≤ 120):PartC 144 s rb gb f (atomF s (exprF s f)) :=
 fun w p R O h hp hR hf=>atom_any s rb gb f hE hs w p R O h hp hR hf
set_option maxHeartbeats 1600000 in
theorem piece_any (s:ByteArray) (rb gb f:Nat) (hA:PartC 144 s rb gb f (atomF s (exprF s f))) (hs:s.size ≤ 120):PartC 141 s rb gb f (pieceF s (exprF s f)):=by
 intro w p R O h hp hR hf
 have hrb:=h.lt
 have hK:Kept (fun k=>k = rb∨O k) w w:=Kept.refl _ _
 have nO:∀ k,O k→k < w.heap.size:=h.olt
 have hnO:¬ O w.heap.size:=fun e=>by have:=nO _ e; omega
 have hg:=atomF_good (exprF_good s f) p R hp hR
 have hAc:=fun W O h1=>hA W p R O h1 hp hR hf
 unfold pieceF
 generalize atomF s (exprF s f) p R = r at hg hAc ⊢
 obtain ⟨q,ok,p1,R1⟩:=r
 simp only at hAc
 have htop:=hg.top
 have hfew:=hg.few
 simp only at htop hfew
 generalize hFm:markF s ⟨q,ok,p1,R1⟩ = F
 have HF:=hide hFm
 have HA:=hide hAc
 have HS:=hide h
 have HNO:=hide nO
 clear hAc hA h nO hg hFm
 go_enter Tryz.func141,Tryz.ntmps141
 go_wp2_with fail
 refine (HA.out _ O (HS.out.alloc _)).mono ?_
 rintro e w1 ⟨rfl,O1,hS1,hk1,ho1⟩
 have nO:=HNO.out
 have hZ1:Blk w1 w.heap.size part0 206:=(Blk.new w part0 206).kept hk1 (fun e=>by rcases e with e | e; omega; exact hnO e)
 have hz1:=hZ1.lt
 have hkW:Kept (fun k=>k = rb∨O k) w w1:=(hK.alloc _).trans' hk1
 have hO1:∀ k,O1 k→O k∨w.heap.size < k:=by
  intro k hk
  rcases ho1 k hk with e | e
  ·exact .inl e
  ·exact .inr (by simp at e; omega)
 have hn0:¬ O1 w.heap.size:=fun e=>by rcases hO1 _ e with e | e; have:=nO _ e; omega; omega
 have hn1:¬ O1 w1.heap.size:=fun e=>by have:=hS1.olt _ e; omega
 have hN1:=Blk.new w1 part0 206
 have hl1:=hS1.lt
 have hS2:=(hS1.alloc (.cells part0 206)).setRow (g:=w1.heap.size) (by omega) hn1 (partC q)
 have hk2:=(hkW.alloc (.cells part0 206)).setRow (g:=w1.heap.size) (by omega) (partC q)
 have hZ2:=(hZ1.alloc (.cells part0 206)).setRowOther (g:=w1.heap.size) (by omega) (partC q)
 have hI2:=hN1.setRow (partC q)
 have hne:w1.heap.size ≠ w.heap.size:=by omega
 have hne1:w1.heap.size ≠ rb:=by omega
 have hne0:w.heap.size ≠ rb:=by omega
 have hO2:∀ k,O1 k→O k∨w.heap.size ≤ k:=fun k hk=>(hO1 k hk).imp id (fun e=>by omega)
 have HO:=hide hO2
 clear hS1 hk1 ho1 hkW hO1 nO hZ1 hO2 HNO HS HA
 cases ok with
 |false =>
  have hFe:F = ⟨PartT.new,false,p1,R1⟩:=by rw [← HF.out]; rfl
  subst hFe
  clear HF
  go_wp2_with (first | refine storeP rfl (.tmp 4) (.tmp 9) rfl w1.heap.size rfl rfl hN1 rfl ?_ | refine storeP (q:=PartT.new) rfl (.tmp 2) (.tmp 13) rfl w.heap.size rfl rfl hZ2 rfl ?_)
  exact bodyPost_ret (resultsPartTmp Tryz.results141 _ rfl (hZ2.setRow _)) rfl ⟨rfl,O1,hS2.setRow hne0 hn0 _,hk2.setRow (by omega) _,HO.out⟩
 |true =>
  have hr2:=hS2.rd
  go_wp2_with (first | refine storeP rfl (.tmp 4) (.tmp 9) rfl w1.heap.size rfl rfl hN1 rfl ?_)
  refine (peek_any s p1 rb gb _ hr2 hs (by omega)).mono ?_
  rintro e w3 ⟨rfl,n,rfl⟩
  have hS3:=hS2.drewN n
  have hk3:=hk2.drewN n
  have hZ3:=hZ2.drewN n
  have hI3:=hI2.drewN n
  clear hS2 hk2 hZ2 hI2 hr2 hN1
  generalize ((w1.alloc (.cells part0 206)).setRow w1.heap.size (partC q)).drewN n = w2 at hS3 hk3 hZ3 hI3 ⊢
  generalize w1.heap.size = m at hS3 hk3 hZ3 hI3 hne hne1 hn1 hz1 ⊢
  by_cases h42:peekI s p1 = 42
  ·have hFe:F = ⟨{ q with empty:=true },true,p1 + 1,R1.link q.last q.first⟩:=by rw [← HF.out]; simp [markF,h42]
   subst hFe
   clear HF
   rw [h42]
   obtain ⟨fv,lv,hRu⟩:=hS3.ru
   have c2:=hS3.rd.c2
   have c1:=hS3.rd.c1
   have f1:=hS3.rd.f1
   have i0:w2.cell? ⟨m,0,none⟩ = some (.int .u64 (q.first.lo.toNat:Int)):=hI3.cell 0
   have i1:w2.cell? ⟨m,1,none⟩ = some (.int .u64 (q.first.hi.toNat:Int)):=hI3.cell 1
   have i2:w2.cell? ⟨m,2,none⟩ = some (.int .u64 (q.last.lo.toNat:Int)):=hI3.cell 2
   have i3:w2.cell? ⟨m,3,none⟩ = some (.int .u64 (q.last.hi.toNat:Int)):=hI3.cell 3
   have zr:=hS3.lt
   have zm:=hI3.lt
   have hno:=hS3.no
   have HH:Hid (RS w2 rb gb s p1 R1 O1∧Kept (fun k=>k = rb∨O k) w w2∧Blk w2 w.heap.size part0 206∧Blk w2 m (partC q) 206∧RulesAt w2 gb O1 R1 fv lv):=⟨hS3,hk3,hZ3,hI3,hRu⟩
   clear hS3 hk3 hZ3 hI3 hRu
   go_wp2_with fail
   go_region_held3 (fun w'=>w'.cell? ⟨rb,2,none⟩ = some (.pointer (some ⟨gb,0,none⟩))∧w'.cell? ⟨m,0,none⟩ = some (.int .u64 (q.first.lo.toNat:Int))∧w'.cell? ⟨m,1,none⟩ = some (.int .u64 (q.first.hi.toNat:Int))∧w'.cell? ⟨m,2,none⟩ = some (.int .u64 (q.last.lo.toNat:Int))∧w'.cell? ⟨m,3,none⟩ = some (.int .u64 (q.last.hi.toNat:Int)))
    (first | exact ⟨c2,i0,i1,i2,i3⟩ | exact ⟨j0,j1,j2,j3,j4⟩)
    (first | (go_at_call 145; refine (link_any R1 gb O1 fv lv q.last q.first _ HH.out.2.2.2.2.drew (by omega)).mono ?_; rintro e w4 ⟨rfl,hR4,hk4⟩; have j0:=(hk4.cell (p:=⟨rb,2,none⟩) zr hno).trans c2; have j1:=(hk4.cell (p:=⟨m,0,none⟩) zm hn1).trans i0; have j2:=(hk4.cell (p:=⟨m,1,none⟩) zm hn1).trans i1; have j3:=(hk4.cell (p:=⟨m,2,none⟩) zm hn1).trans i2; have j4:=(hk4.cell (p:=⟨m,3,none⟩) zm hn1).trans i3))
   obtain ⟨hS3,hk3,hZ3,hI3,hRu⟩:=HH.out
   have hS4:=hS3.drew.turned hR4 hk4
   have hk5:Kept (fun k=>k = rb∨O k) w w4:=hk3.drew.trans hk4 (fun i hi e=>.inr (by rcases HO.out i e with e | e; exact e; omega))
   have hZ4:=hZ3.drew.kept hk4 hn0
   have hI4:=hI3.drew.kept hk4 hn1
   clear hS3 hk3 hZ3 hI3 hRu HH j0 j1 j2 j3 j4 c2 c1 f1 i0 i1 i2 i3 hR4 hk4
   have c1:=hS4.rd.c1
   have f1:=hS4.rd.f1
   have e4:w4.cell? ⟨m,4,none⟩ = some (.bool q.empty):=hI4.cell 4
   have f4:=hI4.frozen 4
   have hI5:=(hI4.set 4 (.bool true)).setOther (p:=⟨rb,1,none⟩) (by simp; omega) (.int .i64 ((p1:Int) + 1))
   have hZ5:=(hZ4.setOther (p:=⟨m,4,none⟩) (by simp; omega) (.bool true)).setOther (p:=⟨rb,1,none⟩) (by simp; omega) (.int .i64 ((p1:Int) + 1))
   have hS5:=(hS4.setOther (a:=⟨m,4,none⟩) hne1 hn1 (.bool true)).set1
   have hk6:=(hk5.setCell (p:=⟨m,4,none⟩) (by simp; omega) (.bool true)).setCell (p:=⟨rb,1,none⟩) (fun _=>.inl rfl) (.int .i64 ((p1:Int) + 1))
   have hI6:Blk _ m (partC { q with empty:=true }) 206:=hI5
   clear hS4 hk5 hZ4 hI4 hI5
   go_wp2_with (first | refine loadP rfl (.tmp 4) rfl m rfl hI6 ?_ | refine storeP rfl (.tmp 2) (.tmp 50) rfl w.heap.size rfl rfl hZ5 rfl ?_)
   exact bodyPost_ret (resultsPartTmp Tryz.results141 _ rfl (hZ5.setRow _)) rfl ⟨rfl,O1,hS5.setRow hne0 hn0 _,hk6.setRow (by omega) _,HO.out⟩
  have e42:(peekI s p1 == 42) = false:=by simp [h42]
  by_cases h43:peekI s p1 = 43
  ·have hFe:F = ⟨q,true,p1 + 1,R1.link q.last q.first⟩:=by rw [← HF.out]; simp [markF,h43]
   subst hFe
   clear HF
   rw [h43] at e42 ⊢
   obtain ⟨fv,lv,hRu⟩:=hS3.ru
   have c2:=hS3.rd.c2
   have c1:=hS3.rd.c1
   have f1:=hS3.rd.f1
   have i0:w2.cell? ⟨m,0,none⟩ = some (.int .u64 (q.first.lo.toNat:Int)):=hI3.cell 0
   have i1:w2.cell? ⟨m,1,none⟩ = some (.int .u64 (q.first.hi.toNat:Int)):=hI3.cell 1
   have i2:w2.cell? ⟨m,2,none⟩ = some (.int .u64 (q.last.lo.toNat:Int)):=hI3.cell 2
   have i3:w2.cell? ⟨m,3,none⟩ = some (.int .u64 (q.last.hi.toNat:Int)):=hI3.cell 3
   have zr:=hS3.lt
   have zm:=hI3.lt
   have hno:=hS3.no
   have HH:Hid (RS w2 rb gb s p1 R1 O1∧Kept (fun k=>k = rb∨O k) w w2∧Blk w2 w.heap.size part0 206∧Blk w2 m (partC q) 206∧RulesAt w2 gb O1 R1 fv lv):=⟨hS3,hk3,hZ3,hI3,hRu⟩
   clear hS3 hk3 hZ3 hI3 hRu
   go_wp2_with fail
   go_region_held3 (fun w'=>w'.cell? ⟨rb,2,none⟩ = some (.pointer (some ⟨gb,0,none⟩))∧w'.cell? ⟨m,0,none⟩ = some (.int .u64 (q.first.lo.toNat:Int))∧w'.cell? ⟨m,1,none⟩ = some (.int .u64 (q.first.hi.toNat:Int))∧w'.cell? ⟨m,2,none⟩ = some (.int .u64 (q.last.lo.toNat:Int))∧w'.cell? ⟨m,3,none⟩ = some (.int .u64 (q.last.hi.toNat:Int)))
    (first | exact ⟨c2,i0,i1,i2,i3⟩ | exact ⟨j0,j1,j2,j3,j4⟩)
    (first | (go_at_call 145; refine (link_any R1 gb O1 fv lv q.last q.first _ HH.out.2.2.2.2.drew (by omega)).mono ?_; rintro e w4 ⟨rfl,hR4,hk4⟩; have j0:=(hk4.cell (p:=⟨rb,2,none⟩) zr hno).trans c2; have j1:=(hk4.cell (p:=⟨m,0,none⟩) zm hn1).trans i0; have j2:=(hk4.cell (p:=⟨m,1,none⟩) zm hn1).trans i1; have j3:=(hk4.cell (p:=⟨m,2,none⟩) zm hn1).trans i2; have j4:=(hk4.cell (p:=⟨m,3,none⟩) zm hn1).trans i3))
   obtain ⟨hS3,hk3,hZ3,hI3,hRu⟩:=HH.out
   have hS4:=hS3.drew.turned hR4 hk4
   have hk5:Kept (fun k=>k = rb∨O k) w w4:=hk3.drew.trans hk4 (fun i hi e=>.inr (by rcases HO.out i e with e | e; exact e; omega))
   have hZ4:=hZ3.drew.kept hk4 hn0
   have hI4:=hI3.drew.kept hk4 hn1
   clear hS3 hk3 hZ3 hI3 hRu HH j0 j1 j2 j3 j4 c2 c1 f1 i0 i1 i2 i3 hR4 hk4
   have c1:=hS4.rd.c1
   have f1:=hS4.rd.f1
   have hI5:=hI4.setOther (p:=⟨rb,1,none⟩) (by simp; omega) (.int .i64 ((p1:Int) + 1))
   have hZ5:=hZ4.setOther (p:=⟨rb,1,none⟩) (by simp; omega) (.int .i64 ((p1:Int) + 1))
   have hS5:=hS4.set1
   have hk6:=hk5.setCell (p:=⟨rb,1,none⟩) (fun _=>.inl rfl) (.int .i64 ((p1:Int) + 1))
   clear hS4 hk5 hZ4 hI4
   go_wp2_with (first | refine loadP rfl (.tmp 4) rfl m rfl hI5 ?_ | refine storeP rfl (.tmp 2) (.tmp 50) rfl w.heap.size rfl rfl hZ5 rfl ?_)
   exact bodyPost_ret (resultsPartTmp Tryz.results141 _ rfl (hZ5.setRow _)) rfl ⟨rfl,O1,hS5.setRow hne0 hn0 _,hk6.setRow (by omega) _,HO.out⟩
  have e43:(peekI s p1 == 43) = false:=by simp [h43]
  have hS4:=hS3
  have hk5:=hk3
  have hZ4:=hZ3
  have hI4:=hI3
  have c1:=hS3.rd.c1
  have f1:=hS3.rd.f1
  clear hS3 hk3 hZ3 hI3
  generalize w2 = w4 at hS4 hk5 hZ4 hI4 c1 f1 ⊢
  by_cases h63:peekI s p1 = 63
  ·have hFe:F = ⟨{ q with empty:=true },true,p1 + 1,R1⟩:=by rw [← HF.out]; simp [markF,h63]
   subst hFe
   clear HF
   rw [h63] at e42 e43 ⊢
   have e4:w4.cell? ⟨m,4,none⟩ = some (.bool q.empty):=hI4.cell 4
   have f4:=hI4.frozen 4
   have hI5:=(hI4.set 4 (.bool true)).setOther (p:=⟨rb,1,none⟩) (by simp; omega) (.int .i64 ((p1:Int) + 1))
   have hZ5:=(hZ4.setOther (p:=⟨m,4,none⟩) (by simp; omega) (.bool true)).setOther (p:=⟨rb,1,none⟩) (by simp; omega) (.int .i64 ((p1:Int) + 1))
   have hS5:=(hS4.setOther (a:=⟨m,4,none⟩) hne1 hn1 (.bool true)).set1
   have hk6:=(hk5.setCell (p:=⟨m,4,none⟩) (by simp; omega) (.bool true)).setCell (p:=⟨rb,1,none⟩) (fun _=>.inl rfl) (.int .i64 ((p1:Int) + 1))
   have hI6:Blk _ m (partC { q with empty:=true }) 206:=hI5
   clear hS4 hk5 hZ4 hI4 hI5
   go_wp2_with (first | refine loadP rfl (.tmp 4) rfl m rfl hI6 ?_ | refine storeP rfl (.tmp 2) (.tmp 50) rfl w.heap.size rfl rfl hZ5 rfl ?_)
   exact bodyPost_ret (resultsPartTmp Tryz.results141 _ rfl (hZ5.setRow _)) rfl ⟨rfl,O1,hS5.setRow hne0 hn0 _,hk6.setRow (by omega) _,HO.out⟩
  ·have e63:(peekI s p1 == 63) = false:=by simp [h63]
   have hFe:F = ⟨q,true,p1,R1⟩:=by rw [← HF.out]; simp [markF,h42,h43,h63]
   subst hFe
   clear HF h42 h43 h63
   go_wp2_with (first | refine loadP rfl (.tmp 4) rfl m rfl hI4 ?_ | refine storeP rfl (.tmp 2) (.tmp 16) rfl w.heap.size rfl rfl hZ4 rfl ?_)
   exact bodyPost_ret (resultsPartTmp Tryz.results141 _ rfl (hZ4.setRow _)) rfl ⟨rfl,O1,hS4.setRow hne0 hn0 _,hk5.setRow (by omega) _,HO.out⟩
set_option maxHeartbeats 3200000 in
theorem alternative_any (s:ByteArray) (rb gb f:Nat) (hP:PartC 141 s rb gb f (pieceF s (exprF s f))) (hs:s.size ≤ 120):PartC 137 s rb gb f (alternativeF s (exprF s f)):=by
 intro w p R O h hp hR hf
 have hrb:=h.lt
 have hK:Kept (fun k=>k = rb∨O k) w w:=Kept.refl _ _
 have nO:∀ k,O k→k < w.heap.size:=h.olt
 have hnO:¬ O w.heap.size:=fun e=>by have:=nO _ e; omega
 have hgex:=exprF_good s f
 have hg:=pieceF_good hgex p R hp hR
 have hPc:=fun W O h1=>hP W p R O h1 hp hR hf
 unfold alternativeF
 generalize hr0:pieceF s (exprF s f) p R = r0 at hg hPc ⊢
 generalize hFm:altLoopF s (exprF s f) (s.size + 1) r0 = F
 have HF:=hide hFm
 have HA:=hide hPc
 have HS:=hide h
 have HNO:=hide nO
 have HP:=hide hP
 have HGX:=hide hgex
 have HG:=hide hg
 clear hPc hP h nO hFm hr0 hg hgex
 go_enter Tryz.func137,Tryz.ntmps137
 go_wp2_with fail
 refine (HA.out _ O (HS.out.alloc _)).mono ?_
 rintro e w1 ⟨rfl,O1,hS1,hk1,ho1⟩
 have nO:=HNO.out
 have hZ1:Blk w1 w.heap.size part0 206:=(Blk.new w part0 206).kept hk1 (fun e=>by rcases e with e | e; omega; exact hnO e)
 have hz1:=hZ1.lt
 have hkW:Kept (fun k=>k = rb∨O k) w w1:=(hK.alloc _).trans' hk1
 have hO1:∀ k,O1 k→O k∨w.heap.size < k:=by
  intro k hk
  rcases ho1 k hk with e | e
  ·exact .inl e
  ·exact .inr (by simp at e; omega)
 have hn0:¬ O1 w.heap.size:=fun e=>by rcases hO1 _ e with e | e; have:=nO _ e; omega; omega
 have hn1:¬ O1 w1.heap.size:=fun e=>by have:=hS1.olt _ e; omega
 have hN1:=Blk.new w1 part0 206
 have hl1:=hS1.lt
 have hS2:=(hS1.alloc (.cells part0 206)).setRow (g:=w1.heap.size) (by omega) hn1 (partC r0.part)
 have hk2:=(hkW.alloc (.cells part0 206)).setRow (g:=w1.heap.size) (by omega) (partC r0.part)
 have hZ2:=(hZ1.alloc (.cells part0 206)).setRowOther (g:=w1.heap.size) (by omega) (partC r0.part)
 have hI2:=hN1.setRow (partC r0.part)
 have hO2:∀ k,O1 k→O k∨w.heap.size ≤ k:=fun k hk=>(hO1 k hk).imp id (fun e=>by omega)
 have HH0:Hid (RS ((w1.alloc (.cells part0 206)).setRow w1.heap.size (partC r0.part)) rb gb s r0.at' r0.rules O1∧Kept (fun k=>k = rb∨O k) w ((w1.alloc (.cells part0 206)).setRow w1.heap.size (partC r0.part)) ∧
  Blk ((w1.alloc (.cells part0 206)).setRow w1.heap.size (partC r0.part)) w.heap.size part0 206∧Blk ((w1.alloc (.cells part0 206)).setRow w1.heap.size (partC r0.part)) w1.heap.size (partC r0.part) 206∧¬ O1 w.heap.size∧¬ O1 w1.heap.size∧∀ k,O1 k→O k∨w.heap.size ≤ k):=⟨hS2,hk2,hZ2,hI2,hn0,hn1,hO2⟩
 clear hS1 hk1 ho1 hkW hO1 nO hZ1 hO2 HNO HS HA hS2 hk2 hZ2 hI2 hn0 hn1
 go_wp2_with (first | refine storeP rfl (.tmp 4) (.tmp 11) rfl w1.heap.size rfl rfl hN1 rfl ?_)
 clear hN1
 generalize ((w1.alloc (.cells part0 206)).setRow w1.heap.size (partC r0.part)) = w2 at HH0 ⊢
 generalize w1.heap.size = m at HH0 hz1 hl1 ⊢
 go_loopg [5] (s.size + 1) (fun g c wr=>∃ (r:PRes) (O1:Nat→Prop),c = .bool r.ok∧Good s p R r∧(r.ok = true→s.size < g + r.at')∧altLoopF s (exprF s f) g r = F ∧
  RS wr rb gb s r.at' r.rules O1∧Kept (fun k=>k = rb∨O k) w wr∧Blk wr w.heap.size part0 206∧Blk wr m (partC r.part) 206∧¬ O1 w.heap.size∧¬ O1 m∧∀ k,O1 k→O k∨w.heap.size ≤ k)
 case atStart =>
  obtain ⟨q1,q2,q3,q4,q5,q6,q7⟩:=HH0.out
  exact ⟨r0,O1,rfl,HG.out,fun _=>by omega,HF.out,q1,q2,q3,q4,q5,q6,q7⟩
 case round =>
  obtain ⟨r,O3,rfl,hg3,hn3,hF3,hS3,hk3,hZ3,hI3,no0,nom,hO3⟩:=hrel
  clear HH0 HF HG
  have htop:=hg3.top
  have hfew:=hg3.few
  have hle:=hg3.le
  obtain ⟨q,ok,p1,R1⟩:=r
  simp only at htop hfew hle hn3 hS3 hI3 ⊢
  cases ok with
  |false =>
   have hFe:F = ⟨q,false,p1,R1⟩:=by rw [← hF3]; exact altLoopF_stop _ _ _ _ (by simp)
   subst hFe
   clear hF3 hg3 hn3
   go_wp2_with (first | refine loadP rfl (.tmp 4) rfl m rfl hI3 ?_ | refine storeP rfl (.tmp 2) (.tmp 32) rfl w.heap.size rfl rfl hZ3 rfl ?_)
   exact bodyPost_ret (resultsPartTmp Tryz.results137 _ rfl (hZ3.setRow _)) rfl ⟨rfl,O3,hS3.setRow (by omega) no0 _,hk3.setRow (by omega) _,hO3⟩
  |true =>
   cases hend:endsB (peekI s p1) with
   |true =>
    have hFe:F = ⟨q,true,p1,R1⟩:=by rw [← hF3]; exact altLoopF_stop _ _ _ _ (by simp [hend])
    subst hFe
    clear hF3 hg3 hn3
    go_wp2_with fail
    refine (alternativeEnds_any s p1 rb gb _ hS3.rd hs (by omega)).mono ?_
    rintro e w4 ⟨rfl,n,rfl⟩
    rw [hend]
    have hI4:=hI3.drewN n
    have hZ4:=hZ3.drewN n
    go_wp2_with (first | refine loadP rfl (.tmp 4) rfl m rfl hI4 ?_ | refine storeP rfl (.tmp 2) (.tmp 32) rfl w.heap.size rfl rfl hZ4 rfl ?_)
    exact bodyPost_ret (resultsPartTmp Tryz.results137 _ rfl (hZ4.setRow _)) rfl ⟨rfl,O3,(hS3.drewN n).setRow (by omega) no0 _,(hk3.drewN n).setRow (by omega) _,hO3⟩
   |false =>
    have hgk:=hn3 rfl
    have hne:gk = (gk - 1) + 1:=by omega
    rw [hne] at hF3
    unfold altLoopF at hF3
    rw [if_pos ⟨rfl,hend⟩] at hF3
    have hg4:=altStep_good HGX.out hg3 rfl
    have hgp:=pieceF_good HGX.out p1 R1 htop hfew
    have hPc:=fun W O h1=>HP.out W p1 R1 O h1 htop hfew (by omega)
    simp only at hF3 hg4
    generalize pieceF s (exprF s f) p1 R1 = r2 at hF3 hg4 hgp hPc
    obtain ⟨q2,ok2,p2,R2⟩:=r2
    simp only at hF3 hg4 hgp hPc
    have hlt2:=hgp.ok
    have hfew2:=hgp.few
    have htop2:=hgp.top
    simp only at hlt2 hfew2 htop2
    have HF3:=hide hF3
    have HG4:=hide hg4
    have HPc:=hide hPc
    have HLT:=hide hlt2
    have hzm:=hI3.lt
    have hzn:=hZ3.lt
    have HH3:Hid (RS wr rb gb s p1 R1 O3∧Kept (fun k=>k = rb∨O k) w wr∧Blk wr w.heap.size part0 206∧Blk wr m (partC q) 206∧∀ k,O3 k→O k∨w.heap.size ≤ k):=⟨hS3,hk3,hZ3,hI3,hO3⟩
    clear hF3 hg4 hgp hPc hg3 hn3 hlt2 hS3 hk3 hZ3 hI3 hO3
    go_wp2_with fail
    refine (alternativeEnds_any s p1 rb gb _ HH3.out.1.rd hs (by omega)).mono ?_
    rintro e w4 ⟨rfl,n,rfl⟩
    rw [hend]
    go_wp2_with fail
    refine (HPc.out _ O3 (HH3.out.1.drewN n)).mono ?_
    rintro e w4 ⟨rfl,O4,hS4,hk4,ho4⟩
    obtain ⟨hS3,hk3,hZ3,hI3,hO3⟩:=HH3.out
    have hz4:wr.heap.size ≤ w4.heap.size:=hk4.size
    have hI4:=(hI3.drewN n).kept hk4 (fun e=>by rcases e with e | e; omega; exact nom e)
    have hZ4:=(hZ3.drewN n).kept hk4 (fun e=>by rcases e with e | e; omega; exact no0 e)
    have hkW:Kept (fun k=>k = rb∨O k) w w4:=(hk3.drewN n).trans hk4 (fun i hi e=>by rcases e with e | e; exact .inl e; exact .inr (by rcases hO3 i e with e | e; exact e; omega))
    have no0':¬ O4 w.heap.size:=fun e=>by rcases ho4 _ e with e | e; exact no0 e; simp at e; omega
    have nom':¬ O4 m:=fun e=>by rcases ho4 _ e with e | e; exact nom e; simp at e; omega
    have hO4:∀ k,O4 k→O k∨w.heap.size ≤ k:=fun k hk=>by rcases ho4 k hk with e | e; exact hO3 k e; exact .inr (by simp at e; omega)
    have nol:¬ O4 w4.heap.size:=fun e=>by have:=hS4.olt _ e; omega
    have hN4:=Blk.new w4 part0 206
    have hl4:=hS4.lt
    have hS5:=(hS4.alloc (.cells part0 206)).setRow (g:=w4.heap.size) (by omega) nol (partC q2)
    have hk5:=(hkW.alloc (.cells part0 206)).setRow (g:=w4.heap.size) (by omega) (partC q2)
    have hZ5:=(hZ4.alloc (.cells part0 206)).setRowOther (g:=w4.heap.size) (by omega) (partC q2)
    have hI5:=(hI4.alloc (.cells part0 206)).setRowOther (g:=w4.heap.size) (by omega) (partC q2)
    have hX5:=hN4.setRow (partC q2)
    have hxm:w4.heap.size ≠ m:=by omega
    clear hS3 hk3 hZ3 hI3 hO3 HH3 hS4 hk4 ho4 hkW hZ4 hI4 HPc hend
    go_wp2_with (first | refine storeP rfl (.tmp 6) (.tmp 22) rfl w4.heap.size rfl rfl hN4 rfl ?_)
    clear hN4
    generalize ((w4.alloc (.cells part0 206)).setRow w4.heap.size (partC q2)) = w5 at hS5 hk5 hZ5 hI5 hX5 ⊢
    generalize w4.heap.size = x at hX5 hxm hl4 hz4 nol ⊢
    obtain ⟨fv,lv,hRu⟩:=hS5.ru
    have c2:=hS5.rd.c2
    have a0:w5.cell? ⟨m,0,none⟩ = some (.int .u64 (q.first.lo.toNat:Int)):=hI5.cell 0
    have a1:w5.cell? ⟨m,1,none⟩ = some (.int .u64 (q.first.hi.toNat:Int)):=hI5.cell 1
    have a2:w5.cell? ⟨m,2,none⟩ = some (.int .u64 (q.last.lo.toNat:Int)):=hI5.cell 2
    have a3:w5.cell? ⟨m,3,none⟩ = some (.int .u64 (q.last.hi.toNat:Int)):=hI5.cell 3
    have a4:w5.cell? ⟨m,4,none⟩ = some (.bool q.empty):=hI5.cell 4
    have b0:w5.cell? ⟨x,0,none⟩ = some (.int .u64 (q2.first.lo.toNat:Int)):=hX5.cell 0
    have b1:w5.cell? ⟨x,1,none⟩ = some (.int .u64 (q2.first.hi.toNat:Int)):=hX5.cell 1
    have b2:w5.cell? ⟨x,2,none⟩ = some (.int .u64 (q2.last.lo.toNat:Int)):=hX5.cell 2
    have b3:w5.cell? ⟨x,3,none⟩ = some (.int .u64 (q2.last.hi.toNat:Int)):=hX5.cell 3
    have b4:w5.cell? ⟨x,4,none⟩ = some (.bool q2.empty):=hX5.cell 4
    have HH5:Hid (RS w5 rb gb s p2 R2 O4∧Kept (fun k=>k = rb∨O k) w w5∧Blk w5 w.heap.size part0 206∧Blk w5 m (partC q) 206∧RulesAt w5 gb O4 R2 fv lv∧∀ k,O4 k→O k∨w.heap.size ≤ k):=⟨hS5,hk5,hZ5,hI5,hRu,hO4⟩
    have hzm5:=hI5.lt
    clear hS5 hk5 hZ5 hI5 hX5 hRu hO4
    go_wp2_with fail
    go_region_with (go_at_call 143; refine (chain_any R2 gb O4 fv lv q q2 _ HH5.out.2.2.2.2.1.drew (by omega)).mono ?_; rintro e w6 ⟨rfl,hR6,hk6⟩; have k3:=HH5.out.2.2.2.1.drew.kept hk6 nom'; have k30:=k3.cell 0; have k31:=k3.cell 1; have k32:=k3.cell 2; have k33:=k3.cell 3; have k34:=k3.cell 4; have k40:=k3.frozen 0; have k41:=k3.frozen 1; have k42:=k3.frozen 2; have k43:=k3.frozen 3; have k44:=k3.frozen 4)
    all_goals
     go_wp2_with fail
     go_roundg (gk - 1)
     case measure=>omega
     case rel =>
      obtain ⟨hS5,hk5,hZ5,hI5,hRu,hO4⟩:=HH5.out
      have hS6:=hS5.drew.turned hR6 hk6
      have hk7:Kept (fun k=>k = rb∨O k) w w6:=hk5.drew.trans hk6 (fun i hi e=>.inr (by rcases hO4 i e with e | e; exact e; omega))
      have hZ6:=hZ5.drew.kept hk6 no0'
      refine ⟨_,O4,rfl,HG4.out,fun e=>?_,HF3.out,((((hS6.setOther (by simp; omega) nom' _).setOther (by simp; omega) nom' _).setOther (by simp; omega) nom' _).setOther (by simp; omega) nom' _).setOther (by simp; omega) nom' _,?_,?_,?_,no0',nom',hO4⟩
      ·have:=HLT.out e
       show s.size < gk - 1 + p2
       omega
      ·exact ((((hk7.setCell (by simp; omega) _).setCell (by simp; omega) _).setCell (by simp; omega) _).setCell (by simp; omega) _).setCell (by simp; omega) _
      ·exact ((((hZ6.setOther (by simp; omega) _).setOther (by simp; omega) _).setOther (by simp; omega) _).setOther (by simp; omega) _).setOther (by simp; omega) _
      ·exact ((((k3.set 0 _).set 1 _).set 2 _).set 3 _).set 4 _
set_option maxHeartbeats 3200000 in
theorem expression_any (s:ByteArray) (rb gb f:Nat) (hP:PartC 137 s rb gb f (alternativeF s (exprF s f))) (hs:s.size ≤ 120):PartC 117 s rb gb f (expressionF s (exprF s f)):=by
 intro w p R O h hp hR hf
 have hrb:=h.lt
 have hK:Kept (fun k=>k = rb∨O k) w w:=Kept.refl _ _
 have nO:∀ k,O k→k < w.heap.size:=h.olt
 have hnO:¬ O w.heap.size:=fun e=>by have:=nO _ e; omega
 have hgex:=exprF_good s f
 have hg:=alternativeF_good hgex p R hp hR
 have hPc:=fun W O h1=>hP W p R O h1 hp hR hf
 unfold expressionF
 generalize hr0:alternativeF s (exprF s f) p R = r0 at hg hPc ⊢
 generalize hFm:exprLoopF s (exprF s f) (s.size + 1) r0 = F
 have HF:=hide hFm
 have HA:=hide hPc
 have HS:=hide h
 have HNO:=hide nO
 have HP:=hide hP
 have HGX:=hide hgex
 have HG:=hide hg
 clear hPc hP h nO hFm hr0 hg hgex
 go_enter Tryz.func117,Tryz.ntmps117
 go_wp2_with fail
 refine (HA.out _ O (HS.out.alloc _)).mono ?_
 rintro e w1 ⟨rfl,O1,hS1,hk1,ho1⟩
 have nO:=HNO.out
 have hZ1:Blk w1 w.heap.size part0 206:=(Blk.new w part0 206).kept hk1 (fun e=>by rcases e with e | e; omega; exact hnO e)
 have hz1:=hZ1.lt
 have hkW:Kept (fun k=>k = rb∨O k) w w1:=(hK.alloc _).trans' hk1
 have hO1:∀ k,O1 k→O k∨w.heap.size < k:=by
  intro k hk
  rcases ho1 k hk with e | e
  ·exact .inl e
  ·exact .inr (by simp at e; omega)
 have hn0:¬ O1 w.heap.size:=fun e=>by rcases hO1 _ e with e | e; have:=nO _ e; omega; omega
 have hn1:¬ O1 w1.heap.size:=fun e=>by have:=hS1.olt _ e; omega
 have hN1:=Blk.new w1 part0 206
 have hl1:=hS1.lt
 have hS2:=(hS1.alloc (.cells part0 206)).setRow (g:=w1.heap.size) (by omega) hn1 (partC r0.part)
 have hk2:=(hkW.alloc (.cells part0 206)).setRow (g:=w1.heap.size) (by omega) (partC r0.part)
 have hZ2:=(hZ1.alloc (.cells part0 206)).setRowOther (g:=w1.heap.size) (by omega) (partC r0.part)
 have hI2:=hN1.setRow (partC r0.part)
 have hO2:∀ k,O1 k→O k∨w.heap.size ≤ k:=fun k hk=>(hO1 k hk).imp id (fun e=>by omega)
 have HH0:Hid (RS ((w1.alloc (.cells part0 206)).setRow w1.heap.size (partC r0.part)) rb gb s r0.at' r0.rules O1∧Kept (fun k=>k = rb∨O k) w ((w1.alloc (.cells part0 206)).setRow w1.heap.size (partC r0.part)) ∧
  Blk ((w1.alloc (.cells part0 206)).setRow w1.heap.size (partC r0.part)) w.heap.size part0 206∧Blk ((w1.alloc (.cells part0 206)).setRow w1.heap.size (partC r0.part)) w1.heap.size (partC r0.part) 206∧¬ O1 w.heap.size∧¬ O1 w1.heap.size∧∀ k,O1 k→O k∨w.heap.size ≤ k):=⟨hS2,hk2,hZ2,hI2,hn0,hn1,hO2⟩
 clear hS1 hk1 ho1 hkW hO1 nO hZ1 hO2 HNO HS HA hS2 hk2 hZ2 hI2 hn0 hn1
 go_wp2_with (first | refine storeP rfl (.tmp 4) (.tmp 11) rfl w1.heap.size rfl rfl hN1 rfl ?_)
 clear hN1
 generalize ((w1.alloc (.cells part0 206)).setRow w1.heap.size (partC r0.part)) = w2 at HH0 ⊢
 generalize w1.heap.size = m at HH0 hz1 hl1 ⊢
 go_loopg [5] (s.size + 1) (fun g c wr=>∃ (r:PRes) (O1:Nat→Prop),c = .bool r.ok∧Good s p R r∧(r.ok = true→s.size < g + r.at')∧exprLoopF s (exprF s f) g r = F ∧
  RS wr rb gb s r.at' r.rules O1∧Kept (fun k=>k = rb∨O k) w wr∧Blk wr w.heap.size part0 206∧Blk wr m (partC r.part) 206∧¬ O1 w.heap.size∧¬ O1 m∧∀ k,O1 k→O k∨w.heap.size ≤ k)
 case atStart =>
  obtain ⟨q1,q2,q3,q4,q5,q6,q7⟩:=HH0.out
  exact ⟨r0,O1,rfl,HG.out,fun _=>by omega,HF.out,q1,q2,q3,q4,q5,q6,q7⟩
 case round =>
  obtain ⟨r,O3,rfl,hg3,hn3,hF3,hS3,hk3,hZ3,hI3,no0,nom,hO3⟩:=hrel
  clear HH0 HF HG
  have htop:=hg3.top
  have hfew:=hg3.few
  have hle:=hg3.le
  obtain ⟨q,ok,p1,R1⟩:=r
  simp only at htop hfew hle hn3 hS3 hI3 ⊢
  cases ok with
  |false =>
   have hFe:F = ⟨q,false,p1,R1⟩:=by rw [← hF3]; exact exprLoopF_stop _ _ _ _ (by simp)
   subst hFe
   clear hF3 hg3 hn3
   go_wp2_with (first | refine loadP rfl (.tmp 4) rfl m rfl hI3 ?_ | refine storeP rfl (.tmp 2) (.tmp 35) rfl w.heap.size rfl rfl hZ3 rfl ?_)
   exact bodyPost_ret (resultsPartTmp Tryz.results117 _ rfl (hZ3.setRow _)) rfl ⟨rfl,O3,hS3.setRow (by omega) no0 _,hk3.setRow (by omega) _,hO3⟩
  |true =>
   by_cases h124:peekI s p1 = 124
   ·have hgk:=hn3 rfl
    have hne:gk = (gk - 1) + 1:=by omega
    rw [hne] at hF3
    unfold exprLoopF at hF3
    rw [if_pos ⟨rfl,h124⟩] at hF3
    have hltp:p1 < s.size:=peekI_in (by rw [h124]; decide)
    have hg4:=exprStep_good HGX.out hg3 rfl h124
    have hgp:=alternativeF_good HGX.out (p1 + 1) R1 (by omega) (by omega)
    have hPc:=fun W O h1=>HP.out W (p1 + 1) R1 O h1 (by omega) (by omega) (by omega)
    simp only at hF3 hg4
    generalize alternativeF s (exprF s f) (p1 + 1) R1 = r2 at hF3 hg4 hgp hPc
    obtain ⟨q2,ok2,p2,R2⟩:=r2
    simp only at hF3 hg4 hgp hPc
    have hle2:=hgp.le
    simp only at hle2
    have HF3:=hide hF3
    have HG4:=hide hg4
    have HPc:=hide hPc
    have hzm:=hI3.lt
    have hzn:=hZ3.lt
    have c1:=hS3.rd.c1
    have f1:=hS3.rd.f1
    have HH3:Hid (RS wr rb gb s p1 R1 O3∧Kept (fun k=>k = rb∨O k) w wr∧Blk wr w.heap.size part0 206∧Blk wr m (partC q) 206∧∀ k,O3 k→O k∨w.heap.size ≤ k):=⟨hS3,hk3,hZ3,hI3,hO3⟩
    clear hF3 hg4 hgp hPc hg3 hn3 hS3 hk3 hZ3 hI3 hO3
    go_wp2_with fail
    refine (peek_any s p1 rb gb _ HH3.out.1.rd hs (by omega)).mono ?_
    rintro e w4 ⟨rfl,n,rfl⟩
    rw [h124]
    go_wp2_with fail
    refine (HPc.out _ O3 ((HH3.out.1.drewN n).set1)).mono ?_
    rintro e w4 ⟨rfl,O4,hS4,hk4,ho4⟩
    obtain ⟨hS3,hk3,hZ3,hI3,hO3⟩:=HH3.out
    have hz4:wr.heap.size ≤ w4.heap.size:=by have:=hk4.size; simpa using this
    have hI4:=((hI3.drewN n).setOther (p:=⟨rb,1,none⟩) (by simp; omega) (.int .i64 ((p1:Int) + 1))).kept hk4 (fun e=>by rcases e with e | e; omega; exact nom e)
    have hZ4:=((hZ3.drewN n).setOther (p:=⟨rb,1,none⟩) (by simp; omega) (.int .i64 ((p1:Int) + 1))).kept hk4 (fun e=>by rcases e with e | e; omega; exact no0 e)
    have hkW:Kept (fun k=>k = rb∨O k) w w4:=((hk3.drewN n).setCell (p:=⟨rb,1,none⟩) (fun _=>.inl rfl) (.int .i64 ((p1:Int) + 1))).trans hk4 (fun i hi e=>by rcases e with e | e; exact .inl e; exact .inr (by rcases hO3 i e with e | e; exact e; omega))
    have no0':¬ O4 w.heap.size:=fun e=>by rcases ho4 _ e with e | e; exact no0 e; simp at e; omega
    have nom':¬ O4 m:=fun e=>by rcases ho4 _ e with e | e; exact nom e; simp at e; omega
    have hO4:∀ k,O4 k→O k∨w.heap.size ≤ k:=fun k hk=>by rcases ho4 k hk with e | e; exact hO3 k e; exact .inr (by simp at e; omega)
    have nol:¬ O4 w4.heap.size:=fun e=>by have:=hS4.olt _ e; omega
    have hN4:=Blk.new w4 part0 206
    have hl4:=hS4.lt
    have hS5:=(hS4.alloc (.cells part0 206)).setRow (g:=w4.heap.size) (by omega) nol (partC q2)
    have hk5:=(hkW.alloc (.cells part0 206)).setRow (g:=w4.heap.size) (by omega) (partC q2)
    have hZ5:=(hZ4.alloc (.cells part0 206)).setRowOther (g:=w4.heap.size) (by omega) (partC q2)
    have hI5:=(hI4.alloc (.cells part0 206)).setRowOther (g:=w4.heap.size) (by omega) (partC q2)
    have hX5:=hN4.setRow (partC q2)
    have hxm:w4.heap.size ≠ m:=by omega
    clear hS3 hk3 hZ3 hI3 hO3 HH3 hS4 hk4 ho4 hkW hZ4 hI4 HPc c1 f1
    go_wp2_with (first | refine storeP rfl (.tmp 6) (.tmp 29) rfl w4.heap.size rfl rfl hN4 rfl ?_ | refine loadP rfl (.tmp 4) rfl m rfl hI5 ?_ | refine loadP rfl (.tmp 6) rfl w4.heap.size rfl hX5 ?_)
    refine (either_any q q2 _).mono ?_
    rintro e w6 ⟨rfl,hb6⟩
    have hI6:=hI5.below hb6
    go_wp2_with (first | refine storeP rfl (.tmp 4) (.tmp 33) rfl m rfl rfl hI6 rfl ?_)
    go_roundg (gk - 1)
    case measure=>omega
    case rel =>
     refine ⟨_,O4,rfl,HG4.out,fun e=>?_,HF3.out,(hS5.below hb6).setRow (by omega) nom' _,(hk5.below hb6).setRow (by omega) _,(hZ5.below hb6).setRowOther (by omega) _,hI6.setRow _,no0',nom',hO4⟩
     show s.size < gk - 1 + p2
     omega
   ·have e124:(peekI s p1 == 124) = false:=by simp [h124]
    have hFe:F = ⟨q,true,p1,R1⟩:=by rw [← hF3]; exact exprLoopF_stop _ _ _ _ (by simp [h124])
    subst hFe
    clear hF3 hg3 hn3
    go_wp2_with fail
    refine (peek_any s p1 rb gb _ hS3.rd hs (by omega)).mono ?_
    rintro e w4 ⟨rfl,n,rfl⟩
    have hI4:=hI3.drewN n
    have hZ4:=hZ3.drewN n
    go_wp2_with (first | refine loadP rfl (.tmp 4) rfl m rfl hI4 ?_ | refine storeP rfl (.tmp 2) (.tmp 35) rfl w.heap.size rfl rfl hZ4 rfl ?_)
    exact bodyPost_ret (resultsPartTmp Tryz.results117 _ rfl (hZ4.setRow _)) rfl ⟨rfl,O3,(hS3.drewN n).setRow (by omega) no0 _,(hk3.drewN n).setRow (by omega) _,hO3⟩
end Go.Proofs.YtcckhngbdoiikaaGreat
