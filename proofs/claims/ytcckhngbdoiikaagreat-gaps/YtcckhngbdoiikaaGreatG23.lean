import Derived.Test.YtcckhngbdoiikaaGreatG22
import Derived.Test.YtcckhngbdoiikaaGreatG15
import Derived.Test.YtcckhngbdoiikaaGreatG06
import Derived.Test.YtcckhngbdoiikaaGreatG05
import Derived.Test.YtcckhngbdoiikaaGreatG14

namespace Go.Proofs.YtcckhngbdoiikaaGreat
set_option linter.unusedVariables false
theorem RowOk.mono {n m:Nat} {row:List Int} (h:RowOk n row) (hm:n ≤ m):RowOk m row:=fun tt ht=>by
 rcases h tt ht with e | e
 ·exact .inl e
 ·exact .inr (by omega)
theorem rowF_ok (aft:PSet):∀ (kinds sets:List PSet),RowOk (rowF aft kinds sets).2.length (rowF aft kinds sets).1
 | [],sets=>by intro tt ht; simp [rowF] at ht
 |k :: ks,sets=>by
  have ih:=rowF_ok aft ks (if findF sets (aft.and k) = (sets.length:Int) then sets ++ [aft.and k] else sets)
  have hl:=rowF_len aft ks (if findF sets (aft.and k) = (sets.length:Int) then sets ++ [aft.and k] else sets)
  unfold rowF
  intro tt ht
  rw [List.mem_cons] at ht
  rcases ht with e | e
  ·subst e
   simp only
   unfold findF at hl ⊢
   split
   ·exact .inl rfl
   ·rename_i hne
    rw [if_neg hne] at hl
    right
    have h1:=idxF_le sets (aft.and k)
    refine ⟨by omega,?_⟩
    by_cases h2:(idxF sets (aft.and k):Int) = (sets.length:Int)
    ·rw [if_pos h2] at hl ⊢
     have:=hl.2.1
     simp only [List.length_append,List.length_cons,List.length_nil] at this
     omega
    ·rw [if_neg h2] at hl ⊢
     have:=hl.2.1
     omega
  ·exact ih tt e
theorem exploreLoop_ok (R:RulesT) (kinds:List PSet):∀ (n i:Nat) (sets:List PSet) (g g':Graph),exploreLoop R kinds n i sets g = some g'→g.rule.length = i→g.next.length = i→i ≤ sets.length→sets.length ≤ 61→0 < sets.length →
  (∀ row ∈ g.next,row.length = kinds.length∧RowOk sets.length row)→GOk g' kinds.length∧0 < g'.rule.length∧g'.rule.length ≤ 61
 | 0,i,sets,g,g',h,_,_,_,_,_,_=>by simp [exploreLoop] at h
 |n + 1,i,sets,g,g',h,h1,h2,h3,h4,h5,h6=>by
  unfold exploreLoop at h
  by_cases hlt:i < sets.length
  ·rw [if_pos hlt] at h
   generalize haft:(if 0 < i then R.after (sets.getD i PSet.none) else R.first) = aft at h
   have hl:=rowF_len aft kinds sets
   have ho:=rowF_ok aft kinds sets
   simp only at h
   split at h
   ·cases h
   ·refine exploreLoop_ok R kinds n (i + 1) _ _ g' h (by simp [h1]) (by simp [h2]) (by omega) (by omega) (by omega) ?_
    intro row hrow
    simp at hrow
    rcases hrow with e | e
    ·exact ⟨(h6 row e).1,(h6 row e).2.mono hl.2.1⟩
    ·subst e; exact ⟨hl.1,ho⟩
  ·rw [if_neg hlt] at h
   cases h
   have hs:sets.length = i:=by omega
   refine ⟨⟨by omega,fun j hj=>?_⟩,by omega,by omega⟩
   have hm:g.next.getD j [] ∈ g.next:=by simp [hj]
   have:=h6 _ hm
   rw [hs,← h1] at this
   exact this
theorem exploreF_ok {R:RulesT} {kinds:List PSet} {g:Graph} (h:exploreF R kinds = some g):GOk g kinds.length∧0 < g.rule.length∧g.rule.length ≤ 61 :=
 exploreLoop_ok R kinds 63 0 [PSet.none] Graph.new g h rfl rfl (by simp) (by simp) (by simp) (fun row hr=>by simp [Graph.new] at hr)
theorem pruneF_ok {g:Graph} {K:Nat} (h:GOk g K):GOk (pruneF g) K:=by
 refine ⟨by simp [pruneF,h.len],fun i hi=>?_⟩
 have hi':i < g.next.length:=by simpa [pruneF] using hi
 have he:(pruneF g).next.getD i [] = pruneRow (aliveF g) (g.next.getD i []):=by simp [pruneF,hi']
 rw [he]
 obtain ⟨h1,h2⟩:=h.row i hi'
 refine ⟨by simpa [pruneRow] using h1,fun tt ht=>?_⟩
 unfold pruneRow at ht
 rw [List.mem_map] at ht
 obtain ⟨x,hx,rfl⟩:=ht
 split
 ·exact h2 x hx
 ·exact .inl rfl
theorem mergeLoop_bd (g:Graph):∀ (f:Nat) (cls:List Int) (count:Nat),(∀ x ∈ cls,0 ≤ x∧x < (g.rule.length:Int))→∀ x ∈ mergeLoop g f cls count,0 ≤ x∧x < (g.rule.length:Int)
 | 0,cls,count,h=>h
 |f + 1,cls,count,h=>by
  have hb:=refineAt_bd g cls g.rule.length
  have hb':∀ x ∈ (refineAt g cls g.rule.length).1,0 ≤ x∧x < (g.rule.length:Int):=fun x hx=>by have:=hb.1 x hx; have:=hb.2; omega
  unfold mergeLoop
  split
  ·exact hb'
  ·exact mergeLoop_bd g f _ _ hb'
theorem mergeF_bd (g:Graph) (h:0 < g.rule.length):∀ x ∈ mergeF g,0 ≤ x∧x < (g.rule.length:Int) :=
 mergeLoop_bd g _ _ _ (fun x hx=>by rw [List.mem_replicate] at hx; omega)
end Go.Proofs.YtcckhngbdoiikaaGreat

namespace Go.Proofs.YtcckhngbdoiikaaGreat
open Go.RowKit Go.Deep
set_option linter.unusedVariables false
def tableC (f:Nat→Nat) (ru nx:Value):Array Value:=kindC f ++ #[ru,nx]
theorem tableC_size (f:Nat→Nat) (ru nx:Value):(tableC f ru nx).size = 258:=by simp [tableC,kindC_size]
theorem zeroTable:Tryz.zeroCells65 = tableC (fun _=>0) (.slice none 0 0) (.slice none 0 0):=by kernel_rfl
theorem Tryz.infoT:(Tryz.prog.info? 65).map (·.size) = some 258:=by kernel_rfl
theorem buildTable (f:Nat→Nat) (ru nx:Value) (w:World):(Instr.build 65 #[(0,.agg (kindC f)),(1,.agg #[ru,nx])]).run Tryz.prog w = .ok (.agg (tableC f ru nx)) w:=by kernel_rfl
theorem buildLexer (f:Nat→Nat) (ru nx:Value) (w:World):(Instr.build 67 #[(0,.agg (tableC f ru nx))]).run Tryz.prog w = .ok (.agg (tableC f ru nx)) w:=by kernel_rfl
theorem ownsRow_ne {w:World} {e:TypeId} {size n:Nat} {v:Value} {xs:List Value} {b:Nat} {c:Array Value} {t:TypeId} (h:w.ownsRow 0 e size v n xs) (hb:Blk w b c t) (hne:t ≠ e):v.ownBlock ≠ some b:=by
 intro hv
 obtain ⟨_,⟨rfl,_⟩ | ⟨g,cap,cur,rfl,_,h3,_⟩⟩:=h
 ·simp [Value.ownBlock] at hv
 ·cases (Option.some.inj hv:g = b)
  unfold Blk at hb
  rw [hb] at h3
  injection h3 with h3
  injection h3 with _ h3
  exact hne h3
theorem GraphAt.keptAt {w w':World} {rv nv:Value} {g:Graph} {b:Nat} {c:Array Value} {t:TypeId} (h:GraphAt w rv nv g) (k:Kept (fun x=>x = b) w w') (hb:Blk w b c t) (h1:t ≠ 3) (h2:t ≠ 60):GraphAt w' rv nv g:=by
 obtain ⟨vs,q1,q2,q3⟩:=h.next
 exact ⟨h.rule.kept k (fun x hx e=>ownsRow_ne h.rule hb h1 (e ▸ hx)),vs,q1.kept k (fun x hx e=>ownsRow_ne q1 hb h2 (e ▸ hx)),q2,fun i v hv=>(q3 i v hv).kept k (fun x hx e=>ownsRow_ne (q3 i v hv) hb h1 (e ▸ hx))⟩
theorem Kept2set (w:World) (b:Nat) (x y:Value):Kept (fun k=>k = b) w ((w.setCell ⟨b,0,none⟩ x).setCell ⟨b,1,none⟩ y) :=
 Kept.setCell (ex:=fun k=>k = b) (p:=⟨b,1,none⟩) (Kept.setCell (ex:=fun k=>k = b) (p:=⟨b,0,none⟩) (Kept.refl _ _) (fun _=>rfl) _) (fun _=>rfl) _
theorem Kept1row (w:World) (b:Nat) (c:Array Value):Kept (fun k=>k = b) w (w.setRow b c):=Kept.setRow (ex:=fun k=>k = b) (Kept.refl _ _) (fun _=>rfl) _
theorem one_slice {w:World} {v:Value} {l:List Int} (h:IRow w v l):v.oneCell' = true:=by
 obtain ⟨_,_,rfl,_⟩:=h.form; rfl
theorem GraphAt.one {w:World} {rv nv:Value} {g:Graph} (h:GraphAt w rv nv g):rv.oneCell' = true∧nv.oneCell' = true:=by
 obtain ⟨vs,q1,_⟩:=h.next
 obtain ⟨_,_,rfl,_⟩:=q1.form
 exact ⟨one_slice h.rule,rfl⟩
theorem tableC_one (f:Nat→Nat) {ru nx:Value} (h:ru.oneCell' = true∧nx.oneCell' = true):(tableC f ru nx).all (·.oneCell') = true:=by
 rw [Array.all_eq_true_iff_forall_mem]
 intro v hv
 simp only [tableC,Array.mem_append] at hv
 rcases hv with hv | hv
 ·have:=kindC_one f
  rw [Array.all_eq_true_iff_forall_mem] at this
  exact this v hv
 ·simp at hv
  rcases hv with e | e
  ·subst e; exact h.1
  ·subst e; exact h.2
theorem loadT {f:Nat→Nat} {ru nx:Value} {ops:Array Oper} {rest:List Oper} {o:Oper} {a:Act} {w:World} {Q:Exit→Act→World→Prop} (hgd:o.guard = none) (x:Operand) (ho:o.op = .load 65 x)
  (g:Nat) (hx:a.eval x = .pointer (some ⟨g,0,none⟩)) (hb:Blk w g (tableC f ru nx) 65)
  (h:wpList Tryz.prog ops Q rest (a.put o.dst (.agg (tableC f ru nx))) w):wpList Tryz.prog ops Q (o :: rest) a w :=
 wpList_load_row hgd 65 x ho g hx 65 _ (0,0) _ hb Tryz.underlying65 rfl (by rw [tableC_size]; exact Tryz.infoT) h
theorem storeT {f:Nat→Nat} {ru nx:Value} {ops:Array Oper} {rest:List Oper} {o:Oper} {a:Act} {w:World} {Q:Exit→Act→World→Prop} (hgd:o.guard = none) (x y:Operand) (ho:o.op = .store 65 x y)
  (g:Nat) (hx:a.eval x = .pointer (some ⟨g,0,none⟩)) (hy:a.eval y = .agg (tableC f ru nx)) {old:Array Value} (hb:Blk w g old 65) (hold:old.size = 258) (h1:ru.oneCell' = true∧nx.oneCell' = true)
  (h:wpList Tryz.prog ops Q rest (a.put o.dst undef) (w.setRow g (tableC f ru nx))):wpList Tryz.prog ops Q (o :: rest) a w :=
 wpList_store_row hgd 65 x y ho g _ hx hy 65 _ hb (by rw [tableC_size]; exact Tryz.infoT) (by rw [tableC_size]; exact hold) (tableC_one f h1) h
theorem storeTz {ops:Array Oper} {rest:List Oper} {o:Oper} {a:Act} {w:World} {Q:Exit→Act→World→Prop} (hgd:o.guard = none) (x y:Operand) (ho:o.op = .store 65 x y)
  (g:Nat) (hx:a.eval x = .pointer (some ⟨g,0,none⟩)) (hy:a.eval y = .agg Tryz.zeroCells65) {old:Array Value} (hb:Blk w g old 65) (hold:old.size = 258)
  (h:wpList Tryz.prog ops Q rest (a.put o.dst undef) (w.setRow g (tableC (fun _=>0) (.slice none 0 0) (.slice none 0 0)))):wpList Tryz.prog ops Q (o :: rest) a w :=
 storeT hgd x y ho g hx (by rw [hy,zeroTable]) hb hold ⟨rfl,rfl⟩ h
theorem buildT {f:Nat→Nat} {ru nx:Value} {ops:Array Oper} {rest:List Oper} {o:Oper} {a:Act} {w:World} {Q:Exit→Act→World→Prop} (hgd:o.guard = none) (x y:Operand) (ho:o.op = .build 65 #[(0,x),(1,y)])
  (hx:a.eval x = .agg (kindC f)) (hy:a.eval y = .agg #[ru,nx])
  (h:wpList Tryz.prog ops Q rest (a.put o.dst (.agg (tableC f ru nx))) w):wpList Tryz.prog ops Q (o :: rest) a w:=by
 refine wpList_plain hgd fun K hK=>?_
 unfold Oper.wp execOp
 simp only [ho,List.map_toArray,List.map_cons,List.map_nil,hx,hy,buildTable,Sem.run_bind,Sem.run_pure,Result.andThen_ok]
 exact hK _ _ h
theorem buildL {f:Nat→Nat} {ru nx:Value} {ops:Array Oper} {rest:List Oper} {o:Oper} {a:Act} {w:World} {Q:Exit→Act→World→Prop} (hgd:o.guard = none) (x:Operand) (ho:o.op = .build 67 #[(0,x)])
  (hx:a.eval x = .agg (tableC f ru nx))
  (h:wpList Tryz.prog ops Q rest (a.put o.dst (.agg (tableC f ru nx))) w):wpList Tryz.prog ops Q (o :: rest) a w:=by
 refine wpList_plain hgd fun K hK=>?_
 unfold Oper.wp execOp
 simp only [ho,List.map_toArray,List.map_cons,List.map_nil,hx,buildLexer,Sem.run_bind,Sem.run_pure,Result.andThen_ok]
 exact hK _ _ h
theorem zeroT:Tryz.zeroCells65.size = 258:=Tryz.zeroCells65_size
set_option maxHeartbeats 4800000 in
theorem build_any (R : RulesT) (gb : Nat) (O : Nat → Prop) (fv lv : Value) (w : World) (h : RulesAt w gb O R fv lv) (hf : R.follow.length ≤ 1000) (hl : R.last.length ≤ 1000) :
    Calls Tryz.prog 22 #[.pointer (some ⟨gb, 0, none⟩)] w fun e w' => Below w.heap.size w w' ∧
      (buildF R = none ∧ e = .returned (.tuple #[.agg (tableC (fun _ => 0) (.slice none 0 0) (.slice none 0 0)), .int .i64 3]) ∨
       ∃ kd g ruv nxv, buildF R = some (kd, g) ∧ e = .returned (.tuple #[.agg (tableC kd ruv nxv), .int .i64 0]) ∧ GraphAt w' ruv nxv g) := by
  generalize hX : buildF R = X
  unfold buildF at hX
  have HX := hide hX
  have HR := hide h
  have hSB := sortBytes_any R gb O fv lv (w.alloc (.cells Tryz.zeroCells65 65)) (h.below (Below1 _ _))
  have HSB := hide hSB
  clear h hX hSB
  go_enter Tryz.func22, Tryz.ntmps22
  go_wp2_with fail
  refine HSB.out.mono ?_
  rintro e w1 ⟨kv, rfl, hS1, hb1⟩
  have hb1' : Below w.heap.size w w1 := (Below1 w _).trans (hb1.mono (by simp))
  have hZ1 := (Blk.new w Tryz.zeroCells65 65).below hb1
  have hw2 : Below w1.heap.size w1 ((w1.alloc (.cells Tryz.zeroCells59 59)).setRow w1.heap.size (kindC (kindOf R.allow))) := Below_setRow (Below1 _ _) (Nat.le_refl _) _
  have hK2 : Blk ((w1.alloc (.cells Tryz.zeroCells59 59)).setRow w1.heap.size (kindC (kindOf R.allow))) w1.heap.size (kindC (kindOf R.allow)) 59 := (Blk.new _ _ _).setRow _
  have hb2 : Below w.heap.size w ((w1.alloc (.cells Tryz.zeroCells59 59)).setRow w1.heap.size (kindC (kindOf R.allow))) := hb1'.trans (hw2.mono hb1'.size)
  have hEX := explore_any R gb O fv lv kv (kindsAt R.allow 256) _ (HR.out.below hb2) (hS1.below hw2) (kindsAt_le _ 256) hf hl
  have HEX := hide hEX
  have z1 := hZ1.lt
  have HH1 : Hid (Below w.heap.size w w1 ∧ Blk w1 w.heap.size Tryz.zeroCells65 65 ∧ Below w1.heap.size w1 ((w1.alloc (.cells Tryz.zeroCells59 59)).setRow w1.heap.size (kindC (kindOf R.allow))) ∧ Blk ((w1.alloc (.cells Tryz.zeroCells59 59)).setRow w1.heap.size (kindC (kindOf R.allow))) w1.heap.size (kindC (kindOf R.allow)) 59) := ⟨hb1', hZ1, hw2, hK2⟩
  clear hb1 hb1' hZ1 hw2 hK2 hb2 hEX hS1
  go_wp2_with (first | refine storeK rfl (.tmp 4) (.tmp 12) rfl w1.heap.size rfl rfl (Blk.new _ _ _) zeroK ?_)
  refine HEX.out.mono ?_
  rintro e w2 ⟨hb2, hres⟩
  obtain ⟨q1, q2, q3, q4⟩ := HH1.out
  have hZ2 := (q2.below q3).below hb2
  have hK2 := q4.below hb2
  have hbw2 : Below w.heap.size w w2 := (q1.trans (q3.mono q1.size)).trans (hb2.mono (by have := q1.size; simp; omega))
  have z2 : w.heap.size < w2.heap.size := hZ2.lt
  have z3 : w1.heap.size < w2.heap.size := hK2.lt
  clear q1 q2 q3 q4 hb2 HEX HH1 HSB
  rcases hres with ⟨hx, rfl⟩ | ⟨g, ruv, nxv, hx, rfl, hG2⟩
  · have hXn : X = none := by have := HX.out; rw [hx] at this; exact this.symm
    subst hXn
    have HZ2 := hide hZ2
    have HB2 := hide hbw2
    clear hx hZ2 hK2 hbw2
    go_wp2_with (first | refine storeTz rfl (.tmp 2) (.tmp 22) rfl w.heap.size rfl rfl (HZ2.out.alloc _) zeroT ?_)
    exact bodyPost_ret (results_cell_tmp Tryz.results22 _ _ w.heap.size 65 _ (0, 0) _ rfl ((HZ2.out.alloc _).setRow _) Tryz.underlying65 rfl (by rw [tableC_size]; exact Tryz.infoT)) rfl ⟨Below_setRow (HB2.out.alloc (by omega) _) (Nat.le_refl _) _, rfl⟩
  · obtain ⟨ho, hpos, hn⟩ := exploreF_ok hx
    have hKl := kindsAt_le R.allow 256
    have hXs : X = some (kindOf R.allow, numberF (pruneF g) (mergeF (pruneF g))) := by have := HX.out; rw [hx] at this; exact this.symm
    subst hXs
    have hoP := pruneF_ok ho
    have hrP : (pruneF g).rule = g.rule := rfl
    have hpr := prune_any ruv nxv g _ (w2.alloc (.cells #[ruv, nxv] 63)) (hG2.below (Below1 _ _)) ho (by omega) (by omega)
    have hone := hG2.one
    have HPR := hide hpr
    have HH2 : Hid (Below w.heap.size w w2 ∧ Blk w2 w.heap.size Tryz.zeroCells65 65 ∧ Blk w2 w1.heap.size (kindC (kindOf R.allow)) 59) := ⟨hbw2, hZ2, hK2⟩
    have HOP := hide hoP
    have HX2 := hide hx
    have HRP := hide hrP
    clear hrP
    obtain ⟨rd, rcap, rfl, hy0⟩ := hG2.rule.form
    clear hy0
    obtain ⟨vs2, hN2, hy1, hy2⟩ := hG2.next
    obtain ⟨nd, ncap, rfl, hy3⟩ := hN2.form
    clear hy1 hy2 hy3
    clear hpr hG2 hx ho hbw2 hZ2 hK2 hone hN2
    go_wp2_with fail
    refine HPR.out.mono ?_
    rintro e w3 ⟨pv, rfl, hG3, hb3⟩
    obtain ⟨vs3, hN3, hy1, hy2⟩ := hG3.next
    obtain ⟨pd, pcap, rfl, hy3⟩ := hN3.form
    clear hy1 hy2 hy3
    have hT3 := (Blk.new w2 #[.slice rd g.rule.length rcap, .slice nd vs2.length ncap] 63).below hb3
    have c0 : w3.cell? ⟨w2.heap.size, 0, none⟩ = some (.slice rd g.rule.length rcap) := hT3.cell 0
    have c1 : w3.cell? ⟨w2.heap.size, 1, none⟩ = some (.slice nd vs2.length ncap) := hT3.cell 1
    have f0 := hT3.frozen 0
    have f1 := hT3.frozen 1
    have hk3 := Kept2set w3 w2.heap.size (.slice rd g.rule.length rcap) (.slice pd vs3.length pcap)
    have hG4 := hG3.keptAt hk3 hT3 (by decide) (by decide)
    have hT4 := (hT3.set 0 (.slice rd g.rule.length rcap)).set 1 (.slice pd vs3.length pcap)
    have hb4 : Below w2.heap.size w2 ((w3.setCell ⟨w2.heap.size, 0, none⟩ (.slice rd g.rule.length rcap)).setCell ⟨w2.heap.size, 1, none⟩ (.slice pd vs3.length pcap)) := (((Below1 w2 _).trans (hb3.mono (by simp))).setCell (Nat.le_refl _) _).setCell (Nat.le_refl _) _
    have hme := merge_any _ _ (pruneF g) _ _ hG4 HOP.out (by rw [HRP.out]; omega) (by omega)
    have HME := hide hme
    have zT : w2.heap.size < w3.heap.size := hT3.lt
    have HH3 : Hid (Below w2.heap.size w2 ((w3.setCell ⟨w2.heap.size, 0, none⟩ (.slice rd g.rule.length rcap)).setCell ⟨w2.heap.size, 1, none⟩ (.slice pd vs3.length pcap)) ∧ Blk ((w3.setCell ⟨w2.heap.size, 0, none⟩ (.slice rd g.rule.length rcap)).setCell ⟨w2.heap.size, 1, none⟩ (.slice pd vs3.length pcap)) w2.heap.size #[.slice rd g.rule.length rcap, .slice pd vs3.length pcap] 63 ∧ GraphAt ((w3.setCell ⟨w2.heap.size, 0, none⟩ (.slice rd g.rule.length rcap)).setCell ⟨w2.heap.size, 1, none⟩ (.slice pd vs3.length pcap)) (.slice rd g.rule.length rcap) (.slice pd vs3.length pcap) (pruneF g)) := ⟨hb4, hT4, hG4⟩
    clear hme hb4 hT4 hG4 hk3 hT3 hb3 hG3 hN3 HPR
    go_wp2_with fail
    refine HME.out.mono ?_
    rintro e w4 ⟨cv, rfl, hC4, hcl, hb4⟩
    have hG5 := HH3.out.2.2.below hb4
    have hT5 := HH3.out.2.1.below hb4
    have hnu := number_any _ _ cv (pruneF g) _ (mergeF (pruneF g)) w4 hG5 HOP.out hC4 hcl (mergeF_bd _ (by rw [HRP.out]; exact hpos)) (by rw [HRP.out]; exact hpos) (by rw [HRP.out]; omega) (by omega)
    have HNU := hide hnu
    have d0 : w4.cell? ⟨w2.heap.size, 0, none⟩ = some (.slice rd g.rule.length rcap) := hT5.cell 0
    have d1 : w4.cell? ⟨w2.heap.size, 1, none⟩ = some (.slice pd vs3.length pcap) := hT5.cell 1
    have hb5 : Below w2.heap.size w2 w4 := HH3.out.1.trans (hb4.mono (by simp; omega))
    have z4 := hT5.lt
    have HH4 : Hid (Below w2.heap.size w2 w4 ∧ Blk w4 w2.heap.size #[.slice rd g.rule.length rcap, .slice pd vs3.length pcap] 63) := ⟨hb5, hT5⟩
    clear hnu hG5 hT5 hC4 hcl hb4 hb5 HME HH3 c0 c1 f0 f1
    go_wp2_with fail
    refine HNU.out.mono ?_
    rintro e w5 ⟨ru5, nx5, rfl, hG5, hb5⟩
    generalize hg5 : numberF (pruneF g) (mergeF (pruneF g)) = g5 at hG5
    have HG5E := hide hg5
    clear hg5
    obtain ⟨xd, xcap, hru5, hy0⟩ := hG5.rule.form
    obtain ⟨vs5, hN5, hy1, hy2⟩ := hG5.next
    obtain ⟨yd, ycap, hnx5, hy3⟩ := hN5.form
    clear hy0 hy1 hy2 hy3 hN5
    generalize g5.rule.length = xl at hru5
    generalize vs5.length = yl at hnx5
    subst hru5 hnx5
    have hT5 := HH4.out.2.below hb5
    have hone := hG5.one
    have hk5 := Kept2set w5 w2.heap.size (.slice xd xl xcap) (.slice yd yl ycap)
    have hG6 := hG5.keptAt hk5 hT5 (by decide) (by decide)
    have hb6 : Below w2.heap.size w2 ((w5.setCell ⟨w2.heap.size, 0, none⟩ (.slice xd xl xcap)).setCell ⟨w2.heap.size, 1, none⟩ (.slice yd yl ycap)) := ((HH4.out.1.trans (hb5.mono (by omega))).setCell (Nat.le_refl _) _).setCell (Nat.le_refl _) _
    have e0 : w5.cell? ⟨w2.heap.size, 0, none⟩ = some (.slice rd g.rule.length rcap) := hT5.cell 0
    have e1 : w5.cell? ⟨w2.heap.size, 1, none⟩ = some (.slice pd vs3.length pcap) := hT5.cell 1
    have f0 := hT5.frozen 0
    have f1 := hT5.frozen 1
    have hK6 := HH2.out.2.2.below hb6
    have hZ6 := HH2.out.2.1.below hb6
    have hbw6 : Below w.heap.size w ((w5.setCell ⟨w2.heap.size, 0, none⟩ (.slice xd xl xcap)).setCell ⟨w2.heap.size, 1, none⟩ (.slice yd yl ycap)) := HH2.out.1.trans (hb6.mono (by omega))
    have HK6 := hide hK6
    have HZ6 := hide hZ6
    have HG6 := hide hG6
    have HB6 := hide hbw6
    have HON := hide hone
    clear hK6 hZ6 hG6 hbw6 hT5 hk5 hG5 hb5 hb6 HNU HH4 HH2 d0 d1 hone
    go_wp2_with (first | refine buildT rfl (.tmp 31) (.tmp 32) rfl rfl rfl ?_ | refine loadK rfl (.tmp 4) rfl w1.heap.size rfl HK6.out ?_ | refine storeT rfl (.tmp 2) (.tmp 33) rfl w.heap.size rfl rfl HZ6.out zeroT HON.out ?_)
    refine bodyPost_ret (results_cell_tmp Tryz.results22 _ _ w.heap.size 65 _ (0, 0) _ rfl (HZ6.out.setRow _) Tryz.underlying65 rfl (by rw [tableC_size]; exact Tryz.infoT)) rfl ⟨Below_setRow HB6.out (Nat.le_refl _) _, .inr ⟨_, _, _, _, rfl, rfl, ?_⟩⟩
    rw [HG5E.out]
    exact HG6.out.keptAt (Kept1row _ _ _) HZ6.out (by decide) (by decide)
def bytesN (s:ByteArray):List Nat:=s.data.toList.map UInt8.toNat
theorem bytesN_len (s:ByteArray):(bytesN s).length = s.size:=by rw [bytesN,List.length_map,Array.length_toList]; rfl
theorem Blk.one {w:World} {b:Nat} {c c':Array Value} {t t':TypeId} (h:Blk w b c t) (h':Blk w b c' t'):c = c'∧t = t':=by
 unfold Blk at h h'
 rw [h] at h'
 injection h' with h'
 injection h' with h1 h2
 exact ⟨h1,h2⟩
theorem getD_setB (l:List Bool) (k i:Nat) (x:Bool) (hk:k < l.length):(l.set k x).getD i false = if i = k then x else l.getD i false:=by
 rw [List.getD_eq_getElem?_getD,List.getElem?_set]
 by_cases h:k = i
 ·subst h; simp [hk]
 ·rw [if_neg h,if_neg (fun e=>h e.symm),List.getD_eq_getElem?_getD]
theorem boolsA_cellD {w:World} {b:Nat} {l:List Bool} (h:Blk w b (boolsA l) 4) (i:Nat) (hi:i < l.length):w.cell? ⟨b,i,none⟩ = some (.bool (l.getD i false)):=by
 rw [boolsA_cell h i hi]; simp [hi]
theorem BRow.cellD {w:World} {l:List Bool} {g n cap:Nat} (h:BRow w (.slice (some ⟨g,0,none⟩) n cap) l) (j:Nat) (hj:j < l.length):w.cell? ⟨g,j,none⟩ = some (.bool (l.getD j false)):=by
 have h':=h
 obtain ⟨_,ad,cap',e,_⟩:=ownsRow_form h
 injection e with e1 e2 e3
 subst e2
 rw [h.cell j hj]; simp [hj]
end Go.Proofs.YtcckhngbdoiikaaGreat

namespace Go.Proofs.YtcckhngbdoiikaaGreat
set_option linter.unusedVariables false
theorem getD_mem {l:List Int} {k:Nat} (h:k < l.length) (d:Int):l.getD k d ∈ l:=by simp [h]
theorem getD_map (f:Int→Int) (l:List Int) (k:Nat) (h:k < l.length):(l.map f).getD k 0 = f (l.getD k 0):=by simp [h]
theorem stepK_in {g:Graph} {K:Nat} (ho:GOk g K) {s:Int} (h0:0 ≤ s) (h1:s < (g.rule.length:Int)) {k:Nat} (hk:k < K):stepK g s k = -1∨(0 ≤ stepK g s k∧stepK g s k < (g.rule.length:Int)):=by
 unfold stepK
 rw [if_neg (by omega)]
 have hr:=ho.row s.toNat (by rw [ho.len]; omega)
 exact hr.2 _ (getD_mem (by rw [hr.1]; exact hk) 0)
theorem passF_fix (g:Graph) (al:List Bool):∀ k,(passF g al k).2 = false→(passF g al k).1 = al∧∀ i,i < k→leadsF (g.next.getD i []) al = true→al.getD i false = true
 | 0,_=>⟨rfl,fun i hi=>by omega⟩
 |k + 1,h=>by
  unfold passF at h ⊢
  split at h
  ·cases h
  ·rename_i hc
   rw [if_neg hc]
   obtain ⟨h1,h2⟩:=passF_fix g al k h
   refine ⟨h1,fun i hi hl=>?_⟩
   by_cases e:i < k
   ·exact h2 i e hl
   ·have:i = k:=by omega
    subst this
    rw [h1] at hc
    cases e2:al.getD i false
    ·exact absurd ⟨e2,hl⟩ hc
    ·rfl
theorem passF_keeps (g:Graph) (al:List Bool):∀ k i,al.getD i false = true→(passF g al k).1.getD i false = true
 | 0,i,h=>h
 |k + 1,i,h=>by
  unfold passF
  split
  ·have ih:=passF_keeps g al k i h
   rw [List.getD_eq_getElem?_getD] at ih ⊢
   rw [List.getElem?_set]
   split
   ·split
    ·rfl
    ·rename_i e1 e2
     subst e1
     rw [List.getElem?_eq_none (by omega)] at ih
     cases ih
   ·exact ih
  ·exact passF_keeps g al k i h
theorem aliveLoop_fix (g:Graph):∀ (n:Nat) (al:List Bool),g.next.length ≤ al.length→dead al < n →
  (∀ i,i < g.next.length→leadsF (g.next.getD i []) (aliveLoop g n al) = true→(aliveLoop g n al).getD i false = true)∧(∀ i,al.getD i false = true→(aliveLoop g n al).getD i false = true)∧(aliveLoop g n al).length = al.length
 | 0,al,_,h=>by omega
 |n + 1,al,hl,h=>by
  unfold aliveLoop
  have hd:=passF_dead g al g.next.length hl
  split
  ·rename_i hc
   have:=hd.2 hc
   have ih:=aliveLoop_fix g n (passF g al g.next.length).1 (by rw [passF_len]; exact hl) (by omega)
   exact ⟨ih.1,fun i hi=>ih.2.1 i (passF_keeps g al _ i hi),by rw [ih.2.2,passF_len]⟩
  ·rename_i hc
   have hc':(passF g al g.next.length).2 = false:=by simpa using hc
   obtain ⟨h1,h2⟩:=passF_fix g al _ hc'
   rw [h1]
   exact ⟨h2,fun i hi=>hi,rfl⟩
theorem aliveF_fix {g:Graph} {K:Nat} (ho:GOk g K):(∀ i,i < g.rule.length→leadsF (g.next.getD i []) (aliveF g) = true→(aliveF g).getD i false = true)∧(∀ i,i < g.rule.length→g.rule.getD i 0 ≠ -1→(aliveF g).getD i false = true)∧(aliveF g).length = g.rule.length:=by
 have hl:g.next.length = (g.rule.map (fun r=>r != -1)).length:=by simp [ho.len]
 have hd:=dead_le (g.rule.map (fun r=>r != -1))
 have h:=aliveLoop_fix g (g.rule.length + 1) (g.rule.map (fun r=>r != -1)) (by omega) (by simp at hd; omega)
 refine ⟨fun i hi=>h.1 i (by rw [ho.len]; exact hi),fun i hi hr=>h.2.1 i ?_,?_⟩
 ·simp [hi] at hr ⊢; exact hr
 ·have:=h.2.2; simpa [aliveF] using this
theorem alive_of_acc {g:Graph} {K:Nat} (ho:GOk g K):∀ (ks:List Nat) (s:Nat),(∀ k ∈ ks,k < K)→s < g.rule.length→accK g (runK g (s:Int) ks) ≠ -1→(aliveF g).getD s false = true
 | [],s,_,hs,h=>by
  have:g.rule.getD s 0 ≠ -1:=by
   have h':accK g (s:Int) ≠ -1:=h
   unfold accK at h'
   rw [if_neg (by omega),Int.toNat_natCast] at h'
   exact h'
  exact (aliveF_fix ho).2.1 s hs this
 |k :: ks,s,hk,hs,h=>by
  have h':accK g (runK g (stepK g (s:Int) k) ks) ≠ -1:=h
  rcases stepK_in ho (s:=(s:Int)) (by omega) (by omega) (hk k (by simp)) with e | e
  ·exfalso
   rw [e,runK_dead g ks (-1) (by omega)] at h'
   apply h'
   split <;> rfl
  ·obtain ⟨t,ht⟩:∃ t:Nat,stepK g (s:Int) k = (t:Int):=⟨(stepK g (s:Int) k).toNat,by omega⟩
   rw [ht] at h' e
   have ih:=alive_of_acc ho ks t (fun k hk'=>hk k (by simp [hk'])) (by omega) h'
   refine (aliveF_fix ho).1 s hs ?_
   unfold leadsF
   rw [List.any_eq_true]
   have hr:=ho.row s (by rw [ho.len]; exact hs)
   refine ⟨(t:Int),?_,?_⟩
   ·rw [← ht]
    unfold stepK
    rw [if_neg (by omega),Int.toNat_natCast]
    exact getD_mem (by rw [hr.1]; exact hk k (by simp)) 0
   ·rw [Int.toNat_natCast,ih]
    simp
theorem prune_step {g:Graph} {K:Nat} (ho:GOk g K) {s:Nat} (hs:s < g.rule.length) {k:Nat} (hk:k < K) :
  stepK (pruneF g) (s:Int) k = if stepK g (s:Int) k != -1 && (aliveF g).getD (stepK g (s:Int) k).toNat false then stepK g (s:Int) k else -1:=by
 have hr:=ho.row s (by rw [ho.len]; exact hs)
 have hn:s < g.next.length:=by rw [ho.len]; exact hs
 have e1:(pruneF g).next.getD s [] = pruneRow (aliveF g) (g.next.getD s []):=by simp [pruneF,hn]
 have e2:k < (g.next.getD s []).length:=by rw [hr.1]; exact hk
 have hneg:¬ ((s:Int) < 0):=by omega
 simp only [stepK,if_neg hneg,Int.toNat_natCast,e1]
 unfold pruneRow
 rw [getD_map _ _ _ e2]
theorem prune_acc {g:Graph} {K:Nat} (ho:GOk g K):∀ (ks:List Nat) (s:Nat),(∀ k ∈ ks,k < K)→s < g.rule.length→accK (pruneF g) (runK (pruneF g) (s:Int) ks) = accK g (runK g (s:Int) ks)
 | [],s,_,hs=>rfl
 |k :: ks,s,hk,hs=>by
  show accK (pruneF g) (runK (pruneF g) (stepK (pruneF g) (s:Int) k) ks) = accK g (runK g (stepK g (s:Int) k) ks)
  rw [prune_step ho hs (hk k (by simp))]
  have dead1:∀ g:Graph,accK g (runK g (-1) ks) = -1:=fun g=>by rw [runK_dead g ks (-1) (by omega)]; split <;> rfl
  rcases stepK_in ho (s:=(s:Int)) (by omega) (by omega) (hk k (by simp)) with e | e
  ·rw [e]; simp [dead1]
  ·obtain ⟨t,ht⟩:∃ t:Nat,stepK g (s:Int) k = (t:Int):=⟨(stepK g (s:Int) k).toNat,by omega⟩
   rw [ht] at e ⊢
   rw [Int.toNat_natCast]
   cases ha:(aliveF g).getD t false with
   |true =>
    rw [if_pos (by simp)]
    exact prune_acc ho ks t (fun k hk'=>hk k (by simp [hk'])) (by omega)
   |false =>
    rw [if_neg (by simp),dead1]
    refine Classical.byContradiction fun hne=>?_
    have:=alive_of_acc ho ks t (fun k hk'=>hk k (by simp [hk'])) (by omega) (fun e=>hne e.symm)
    rw [ha] at this
    cases this
def Stable (g:Graph) (K:Nat) (cls:List Int):Prop:=∀ a b,a < g.rule.length→b < g.rule.length→cls.getD a 0 = cls.getD b 0 →
 g.rule.getD a 0 = g.rule.getD b 0∧∀ k,k < K→stepSame cls ((g.next.getD a []).getD k 0) ((g.next.getD b []).getD k 0) = true
theorem rowsSame_get (cls:List Int):∀ (l m:List Int),l.length = m.length→rowsSame cls l m = true→∀ k,k < l.length→stepSame cls (l.getD k 0) (m.getD k 0) = true
 | [],m,_,_,k,hk=>by simp at hk
 |x :: l,[],hl,_,k,hk=>by simp at hl
 |x :: l,y :: m,hl,h,k,hk=>by
  unfold rowsSame at h
  simp only [List.headD_cons,List.tail_cons,Bool.and_eq_true] at h
  cases k with
  |zero=>simpa using h.1
  |succ k=>simpa using rowsSame_get cls l m (by simpa using hl) h.2 k (by simpa using hk)
theorem together_spec {g:Graph} {K:Nat} (ho:GOk g K) {cls:List Int} {a b:Nat} (ha:a < g.rule.length) (hb:b < g.rule.length) (h:togetherF g cls a b = true) :
  cls.getD a 0 = cls.getD b 0∧g.rule.getD a 0 = g.rule.getD b 0∧∀ k,k < K→stepSame cls ((g.next.getD a []).getD k 0) ((g.next.getD b []).getD k 0) = true:=by
 unfold togetherF at h
 split at h
 ·cases h
 ·rename_i hc
  have h1:cls.getD a 0 = cls.getD b 0:=Decidable.not_not.1 fun e=>hc (.inl e)
  have h2:g.rule.getD a 0 = g.rule.getD b 0:=Decidable.not_not.1 fun e=>hc (.inr e)
  have ra:=ho.row a (by rw [ho.len]; exact ha)
  have rb:=ho.row b (by rw [ho.len]; exact hb)
  exact ⟨h1,h2,fun k hk=>rowsSame_get cls _ _ (by rw [ra.1,rb.1]) h k (by rw [ra.1]; exact hk)⟩
theorem mateF_some (g:Graph) (cls:List Int) (n:Nat):∀ (f k e:Nat),mateF g cls n f k = some e→e < n∧togetherF g cls e n = true
 | 0,k,e,h=>by simp [mateF] at h
 |f + 1,k,e,h=>by
  unfold mateF at h
  split at h
  ·rename_i hk
   split at h
   ·rename_i ht
    injection h with h
    subst h
    exact ⟨hk,ht⟩
   ·exact mateF_some g cls n f (k + 1) e h
  ·cases h
theorem stepSame_trans {cls:List Int} {a b c:Int} (h1:stepSame cls a b = true) (h2:stepSame cls b c = true):stepSame cls a c = true:=by
 unfold stepSame at *
 by_cases ha:a = -1
 ·subst ha
  simp at h1
  subst h1
  exact h2
 ·by_cases hb:b = -1
  ·subst hb
   simp at h1
   exact absurd h1 ha
  ·by_cases hc:c = -1
   ·subst hc
    simp at h2
    exact absurd h2 hb
   ·simp [ha,hb,hc] at h1 h2 ⊢
    rw [h1,h2]
theorem stepSame_symm {cls:List Int} {a b:Int} (h1:stepSame cls a b = true):stepSame cls b a = true:=by
 unfold stepSame at *
 by_cases ha:a = -1
 ·subst ha
  simp at h1
  subst h1
  simp
 ·by_cases hb:b = -1
  ·subst hb
   simp at h1
   exact absurd h1 ha
  ·simp [ha,hb] at h1 ⊢
   rw [h1]
theorem stepSame_refl {cls:List Int} (a:Int):stepSame cls a a = true:=by unfold stepSame; split <;> simp
def Alike (g:Graph) (K:Nat) (cls:List Int) (a b:Nat):Prop:=cls.getD a 0 = cls.getD b 0∧g.rule.getD a 0 = g.rule.getD b 0∧∀ k,k < K→stepSame cls ((g.next.getD a []).getD k 0) ((g.next.getD b []).getD k 0) = true
theorem Alike.refl {g:Graph} {K:Nat} {cls:List Int} (a:Nat):Alike g K cls a a:=⟨rfl,rfl,fun k _=>stepSame_refl _⟩
theorem Alike.symm {g:Graph} {K:Nat} {cls:List Int} {a b:Nat} (h:Alike g K cls a b):Alike g K cls b a:=⟨h.1.symm,h.2.1.symm,fun k hk=>stepSame_symm (h.2.2 k hk)⟩
theorem Alike.trans {g:Graph} {K:Nat} {cls:List Int} {a b c:Nat} (h:Alike g K cls a b) (h2:Alike g K cls b c):Alike g K cls a c:=⟨h.1.trans h2.1,h.2.1.trans h2.2.1,fun k hk=>stepSame_trans (h.2.2 k hk) (h2.2.2 k hk)⟩
theorem refineAt_spec {g:Graph} {K:Nat} (ho:GOk g K) (cls:List Int):∀ n,n ≤ g.rule.length→(∀ a b,a < n→b < n→(refineAt g cls n).1.getD a 0 = (refineAt g cls n).1.getD b 0→Alike g K cls a b)∧(∀ c:Nat,c < (refineAt g cls n).2→∃ a,a < n∧(refineAt g cls n).1.getD a 0 = (c:Int))
 | 0,_=>⟨fun a b ha=>by omega,fun c hc=>by simp [refineAt] at hc⟩
 |n + 1,hn=>by
  obtain ⟨ih1,ih2⟩:=refineAt_spec ho cls n (by omega)
  have hlen:=refineAt_len g cls n
  have hbd:=refineAt_bd g cls n
  unfold refineAt
  split
  ·rename_i e he
   obtain ⟨he1,he2⟩:=mateF_some g cls n _ _ _ he
   have hal:Alike g K cls e n:=together_spec ho (by omega) (by omega) he2
   generalize refineAt g cls n = r at *
   simp only
   have hg:∀ a,a < n + 1→∃ a',a' < n∧(r.1 ++ [r.1.getD e 0]).getD a 0 = r.1.getD a' 0∧Alike g K cls a a':=by
    intro a ha
    rw [getD_snoc,hlen]
    split
    ·exact ⟨a,by omega,rfl,.refl a⟩
    ·rw [if_pos (by omega)]
     have:a = n:=by omega
     subst this
     exact ⟨e,he1,rfl,hal.symm⟩
   refine ⟨fun a b ha hb hab=>?_,fun c hc=>?_⟩
   ·obtain ⟨a',h1,h2,h3⟩:=hg a ha
    obtain ⟨b',h4,h5,h6⟩:=hg b hb
    rw [h2,h5] at hab
    exact h3.trans ((ih1 a' b' h1 h4 hab).trans h6.symm)
   ·obtain ⟨a,h1,h2⟩:=ih2 c hc
    refine ⟨a,by omega,?_⟩
    rw [getD_snoc,hlen,if_pos h1]
    exact h2
  ·generalize refineAt g cls n = r at *
   simp only
   refine ⟨fun a b ha hb hab=>?_,fun c hc=>?_⟩
   ·rw [getD_snoc,getD_snoc,hlen] at hab
    have hlt:∀ a,a < n→r.1.getD a 0 < (r.2:Int):=fun a ha=>(hbd.1 _ (getD_mem (by omega) 0)).2
    by_cases h1:a < n <;> by_cases h2:b < n
    ·rw [if_pos h1,if_pos h2] at hab
     exact ih1 a b h1 h2 hab
    ·rw [if_pos h1,if_neg h2,if_pos (by omega)] at hab
     have:=hlt a h1; omega
    ·rw [if_neg h1,if_pos h2,if_pos (by omega)] at hab
     have:=hlt b h2; omega
    ·have e1:a = n:=by omega
     have e2:b = n:=by omega
     subst e1 e2
     exact .refl _
   ·by_cases hc':c < r.2
    ·obtain ⟨a,h1,h2⟩:=ih2 c hc'
     refine ⟨a,by omega,?_⟩
     rw [getD_snoc,hlen,if_pos h1]
     exact h2
    ·refine ⟨n,by omega,?_⟩
     rw [getD_snoc,hlen,if_neg (by omega),if_pos rfl]
     have:c = r.2:=by omega
     rw [this]
theorem onto_inj (n:Nat) (f:Nat→Nat) (hf:∀ x,x < n→f x < n) (ho:∀ y,y < n→∃ x,x < n∧f x = y) (a b:Nat) (ha:a < n) (hb:b < n) (h:f a = f b):a = b:=by
 refine Classical.byContradiction fun hne=>?_
 -- choose for each number one that maps to it; not both of a and b are chosen
 have hch:∀ y,∃ x,y < n→(x < n∧f x = y∧x ≠ (if f a = y then b else n)):=by
  intro y
  by_cases hy:y < n
  ·by_cases e:f a = y
   ·exact ⟨a,fun _=>⟨ha,e,by rw [if_pos e]; exact hne⟩⟩
   ·obtain ⟨x,h1,h2⟩:=ho y hy
    exact ⟨x,fun _=>⟨h1,h2,by rw [if_neg e]; omega⟩⟩
  ·exact ⟨0,fun h=>absurd h hy⟩
 obtain ⟨c,hc⟩:=Classical.axiomOfChoice hch
 have hnd:(b :: (List.range n).map c).Nodup:=by
  rw [List.nodup_cons]
  refine ⟨?_,?_⟩
  ·rw [List.mem_map]
   rintro ⟨y,hy,e⟩
   have hy':y < n:=by simpa using hy
   obtain ⟨h1,h2,h3⟩:=hc y hy'
   by_cases ey:f a = y
   ·rw [if_pos ey] at h3; exact h3 e
   ·apply ey; rw [h,← e,h2]
  ·rw [List.Nodup,List.pairwise_map]
   refine List.Pairwise.imp_of_mem (R:=fun x y=>x ≠ y) (fun {x y} hx hy hxy=>?_) List.nodup_range
   intro e
   apply hxy
   have h1:=(hc x (by simpa using hx)).2.1
   have h2:=(hc y (by simpa using hy)).2.1
   rw [← h1,← h2,e]
 have:=nodup_len n _ hnd (fun x hx=>by
  rw [List.mem_cons,List.mem_map] at hx
  rcases hx with e | ⟨y,hy,e⟩
  ·rw [e]; exact hb
  ·rw [← e]; exact (hc y (by simpa using hy)).1)
 simp at this
 omega
theorem refine_stable {g:Graph} {K:Nat} (ho:GOk g K) (cls:List Int) (count:Nat) (hb:∀ a,a < g.rule.length→0 ≤ cls.getD a 0∧cls.getD a 0 < (count:Int)) (hon:∀ c:Nat,c < count→∃ a,a < g.rule.length∧cls.getD a 0 = (c:Int))
  (hc:(refineAt g cls g.rule.length).2 = count):Stable g K (refineAt g cls g.rule.length).1:=by
 obtain ⟨h1,h2⟩:=refineAt_spec ho cls g.rule.length (Nat.le_refl _)
 have hlen:=refineAt_len g cls g.rule.length
 have hbd:=refineAt_bd g cls g.rule.length
 generalize refineAt g cls g.rule.length = r at *
 have hr:∀ a,a < g.rule.length→0 ≤ r.1.getD a 0∧r.1.getD a 0 < (r.2:Int):=fun a ha=>hbd.1 _ (getD_mem (by omega) 0)
 -- by finer class some node of it
 have hch:∀ c:Nat,∃ a:Nat,c < count→a < g.rule.length∧r.1.getD a 0 = (c:Int):=by
  intro c
  by_cases hcc:c < count
  ·obtain ⟨a,h3,h4⟩:=h2 c (by omega)
   exact ⟨a,fun _=>⟨h3,h4⟩⟩
  ·exact ⟨0,fun h=>absurd h hcc⟩
 obtain ⟨rep,hrep⟩:=Classical.axiomOfChoice hch
 have hinj:=onto_inj count (fun c=>(cls.getD (rep c) 0).toNat) (fun c hcc=>by
   have:=hb (rep c) (hrep c hcc).1
   show (cls.getD (rep c) 0).toNat < count
   omega)
  (fun y hy=>by
   obtain ⟨a,h3,h4⟩:=hon y hy
   have h5:=hr a h3
   refine ⟨(r.1.getD a 0).toNat,by omega,?_⟩
   have h6:=hrep (r.1.getD a 0).toNat (by omega)
   have h7:=h1 (rep (r.1.getD a 0).toNat) a h6.1 h3 (by rw [h6.2]; omega)
   show (cls.getD (rep (r.1.getD a 0).toNat) 0).toNat = y
   rw [h7.1,h4]; rfl)
 -- so one class is one finer class
 have hsame:∀ a b,a < g.rule.length→b < g.rule.length→cls.getD a 0 = cls.getD b 0→r.1.getD a 0 = r.1.getD b 0:=by
  intro a b ha hb' hab
  have h5:=hr a ha
  have h6:=hr b hb'
  have h7:=hrep (r.1.getD a 0).toNat (by omega)
  have h8:=hrep (r.1.getD b 0).toNat (by omega)
  have h9:=h1 _ a h7.1 ha (by rw [h7.2]; omega)
  have h10:=h1 _ b h8.1 hb' (by rw [h8.2]; omega)
  have:=hinj (r.1.getD a 0).toNat (r.1.getD b 0).toNat (by omega) (by omega) (by show (cls.getD _ 0).toNat = (cls.getD _ 0).toNat; rw [h9.1,h10.1,hab])
  omega
 intro a b ha hb' hab
 have hal:=h1 a b ha hb' hab
 refine ⟨hal.2.1,fun k hk=>?_⟩
 have hs:=hal.2.2 k hk
 have ra:=ho.row a (by rw [ho.len]; exact ha)
 have rb:=ho.row b (by rw [ho.len]; exact hb')
 have ia:=ra.2 _ (getD_mem (by rw [ra.1]; exact hk) 0)
 have ib:=rb.2 _ (getD_mem (by rw [rb.1]; exact hk) 0)
 generalize (g.next.getD a []).getD k 0 = x at hs ia ⊢
 generalize (g.next.getD b []).getD k 0 = y at hs ib ⊢
 unfold stepSame at hs ⊢
 split
 ·rename_i hc'
  rw [if_pos hc'] at hs
  exact hs
 ·rename_i hc'
  rw [if_neg hc'] at hs
  simp at hc' hs ⊢
  exact hsame x.toNat y.toNat (by omega) (by omega) (by simpa using hs)
end Go.Proofs.YtcckhngbdoiikaaGreat
