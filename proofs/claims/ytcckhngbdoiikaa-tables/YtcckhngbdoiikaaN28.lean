import Derived.Test.YtcckhngbdoiikaaN27
import Derived.Test.YtcckhngbdoiikaaN20
import Derived.Test.YtcckhngbdoiikaaN09

namespace Go.Proofs.Ytcckhngbdoiikaa
set_option linter.unusedVariables false

theorem RowOk.mono {n m : Nat} {row : List Int} (h : RowOk n row) (hm : n ≤ m) : RowOk m row := fun tt ht => by
  rcases h tt ht with e | e
  · exact .inl e
  · exact .inr (by omega)
theorem rowF_ok (aft : PSet) : ∀ (kinds sets : List PSet), RowOk (rowF aft kinds sets).2.length (rowF aft kinds sets).1
  | [], sets => by intro tt ht; simp [rowF] at ht
  | k :: ks, sets => by
    have ih := rowF_ok aft ks (if findF sets (aft.and k) = (sets.length : Int) then sets ++ [aft.and k] else sets)
    have hl := rowF_len aft ks (if findF sets (aft.and k) = (sets.length : Int) then sets ++ [aft.and k] else sets)
    unfold rowF
    intro tt ht
    rw [List.mem_cons] at ht
    rcases ht with e | e
    · subst e
      simp only
      unfold findF at hl ⊢
      split
      · exact .inl rfl
      · rename_i hne
        rw [if_neg hne] at hl
        right
        have h1 := idxF_le sets (aft.and k)
        refine ⟨by omega, ?_⟩
        by_cases h2 : (idxF sets (aft.and k) : Int) = (sets.length : Int)
        · rw [if_pos h2] at hl ⊢
          have := hl.2.1
          simp only [List.length_append, List.length_cons, List.length_nil] at this
          omega
        · rw [if_neg h2] at hl ⊢
          have := hl.2.1
          omega
    · exact ih tt e
theorem exploreLoop_ok (R : RulesT) (kinds : List PSet) : ∀ (n i : Nat) (sets : List PSet) (g g' : Graph), exploreLoop R kinds n i sets g = some g' → g.rule.length = i → g.next.length = i → i ≤ sets.length → sets.length ≤ 61 → 0 < sets.length →
    (∀ row ∈ g.next, row.length = kinds.length ∧ RowOk sets.length row) → GOk g' kinds.length ∧ 0 < g'.rule.length ∧ g'.rule.length ≤ 61
  | 0, i, sets, g, g', h, _, _, _, _, _, _ => by simp [exploreLoop] at h
  | n + 1, i, sets, g, g', h, h1, h2, h3, h4, h5, h6 => by
    unfold exploreLoop at h
    by_cases hlt : i < sets.length
    · rw [if_pos hlt] at h
      generalize haft : (if 0 < i then R.after (sets.getD i PSet.none) else R.first) = aft at h
      have hl := rowF_len aft kinds sets
      have ho := rowF_ok aft kinds sets
      simp only at h
      split at h
      · cases h
      · refine exploreLoop_ok R kinds n (i + 1) _ _ g' h (by simp [h1]) (by simp [h2]) (by omega) (by omega) (by omega) ?_
        intro row hrow
        simp at hrow
        rcases hrow with e | e
        · exact ⟨(h6 row e).1, (h6 row e).2.mono hl.2.1⟩
        · subst e; exact ⟨hl.1, ho⟩
    · rw [if_neg hlt] at h
      cases h
      have hs : sets.length = i := by omega
      refine ⟨⟨by omega, fun j hj => ?_⟩, by omega, by omega⟩
      have hm : g.next.getD j [] ∈ g.next := by simp [hj]
      have := h6 _ hm
      rw [hs, ← h1] at this
      exact this
theorem exploreF_ok {R : RulesT} {kinds : List PSet} {g : Graph} (h : exploreF R kinds = some g) : GOk g kinds.length ∧ 0 < g.rule.length ∧ g.rule.length ≤ 61 :=
  exploreLoop_ok R kinds 63 0 [PSet.none] Graph.new g h rfl rfl (by simp) (by simp) (by simp) (fun row hr => by simp [Graph.new] at hr)
theorem pruneF_ok {g : Graph} {K : Nat} (h : GOk g K) : GOk (pruneF g) K := by
  refine ⟨by simp [pruneF, h.len], fun i hi => ?_⟩
  have hi' : i < g.next.length := by simpa [pruneF] using hi
  have he : (pruneF g).next.getD i [] = pruneRow (aliveF g) (g.next.getD i []) := by simp [pruneF, hi']
  rw [he]
  obtain ⟨h1, h2⟩ := h.row i hi'
  refine ⟨by simpa [pruneRow] using h1, fun tt ht => ?_⟩
  unfold pruneRow at ht
  rw [List.mem_map] at ht
  obtain ⟨x, hx, rfl⟩ := ht
  split
  · exact h2 x hx
  · exact .inl rfl
theorem mergeLoop_bd (g : Graph) : ∀ (f : Nat) (cls : List Int) (count : Nat), (∀ x ∈ cls, 0 ≤ x ∧ x < (g.rule.length : Int)) → ∀ x ∈ mergeLoop g f cls count, 0 ≤ x ∧ x < (g.rule.length : Int)
  | 0, cls, count, h => h
  | f + 1, cls, count, h => by
    have hb := refineAt_bd g cls g.rule.length
    have hb' : ∀ x ∈ (refineAt g cls g.rule.length).1, 0 ≤ x ∧ x < (g.rule.length : Int) := fun x hx => by have := hb.1 x hx; have := hb.2; omega
    unfold mergeLoop
    split
    · exact hb'
    · exact mergeLoop_bd g f _ _ hb'
theorem mergeF_bd (g : Graph) (h : 0 < g.rule.length) : ∀ x ∈ mergeF g, 0 ≤ x ∧ x < (g.rule.length : Int) :=
  mergeLoop_bd g _ _ _ (fun x hx => by rw [List.mem_replicate] at hx; omega)
end Go.Proofs.Ytcckhngbdoiikaa

namespace Go.Proofs.Ytcckhngbdoiikaa
open Go.RowKit Go.Deep
set_option linter.unusedVariables false

/-- The table's cells. -/
def tableC (f : Nat → Nat) (ru nx : Value) : Array Value := kindC f ++ #[ru, nx]
theorem tableC_size (f : Nat → Nat) (ru nx : Value) : (tableC f ru nx).size = 258 := by simp [tableC, kindC_size]
theorem zeroTable : Try.zeroCells103 = tableC (fun _ => 0) (.slice none 0 0) (.slice none 0 0) := by kernel_rfl
theorem Try.infoT : (Try.prog.info? 103).map (·.size) = some 258 := by kernel_rfl
theorem buildTable (f : Nat → Nat) (ru nx : Value) (w : World) : (Instr.build 103 #[(0, .agg (kindC f)), (1, .agg #[ru, nx])]).run Try.prog w = .ok (.agg (tableC f ru nx)) w := by kernel_rfl
theorem buildLexer (f : Nat → Nat) (ru nx : Value) (w : World) : (Instr.build 107 #[(0, .agg (tableC f ru nx))]).run Try.prog w = .ok (.agg (tableC f ru nx)) w := by kernel_rfl
end Go.Proofs.Ytcckhngbdoiikaa

namespace Go.Proofs.Ytcckhngbdoiikaa
open Go.RowKit Go.Deep
set_option linter.unusedVariables false

theorem ownsRow_ne {w : World} {e : TypeId} {size n : Nat} {v : Value} {xs : List Value} {b : Nat} {c : Array Value} {t : TypeId} (h : w.ownsRow 0 e size v n xs) (hb : Blk w b c t) (hne : t ≠ e) : v.ownBlock ≠ some b := by
  intro hv
  obtain ⟨_, ⟨rfl, _⟩ | ⟨g, cap, cur, rfl, _, h3, _⟩⟩ := h
  · simp [Value.ownBlock] at hv
  · cases (Option.some.inj hv : g = b)
    unfold Blk at hb
    rw [hb] at h3
    injection h3 with h3
    injection h3 with _ h3
    exact hne h3
theorem GraphAt.keptAt {w w' : World} {rv nv : Value} {g : Graph} {b : Nat} {c : Array Value} {t : TypeId} (h : GraphAt w rv nv g) (k : Kept (fun x => x = b) w w') (hb : Blk w b c t) (h1 : t ≠ 3) (h2 : t ≠ 40) : GraphAt w' rv nv g := by
  obtain ⟨vs, q1, q2, q3⟩ := h.next
  exact ⟨h.rule.kept k (fun x hx e => ownsRow_ne h.rule hb h1 (e ▸ hx)), vs, q1.kept k (fun x hx e => ownsRow_ne q1 hb h2 (e ▸ hx)), q2, fun i v hv => (q3 i v hv).kept k (fun x hx e => ownsRow_ne (q3 i v hv) hb h1 (e ▸ hx))⟩
theorem Kept2set (w : World) (b : Nat) (x y : Value) : Kept (fun k => k = b) w ((w.setCell ⟨b, 0, none⟩ x).setCell ⟨b, 1, none⟩ y) :=
  Kept.setCell (ex := fun k => k = b) (p := ⟨b, 1, none⟩) (Kept.setCell (ex := fun k => k = b) (p := ⟨b, 0, none⟩) (Kept.refl _ _) (fun _ => rfl) _) (fun _ => rfl) _
theorem Kept1row (w : World) (b : Nat) (c : Array Value) : Kept (fun k => k = b) w (w.setRow b c) := Kept.setRow (ex := fun k => k = b) (Kept.refl _ _) (fun _ => rfl) _
theorem one_slice {w : World} {v : Value} {l : List Int} (h : IRow w v l) : v.oneCell' = true := by
  obtain ⟨_, _, rfl, _⟩ := h.form; rfl
theorem GraphAt.one {w : World} {rv nv : Value} {g : Graph} (h : GraphAt w rv nv g) : rv.oneCell' = true ∧ nv.oneCell' = true := by
  obtain ⟨vs, q1, _⟩ := h.next
  obtain ⟨_, _, rfl, _⟩ := q1.form
  exact ⟨one_slice h.rule, rfl⟩
theorem tableC_one (f : Nat → Nat) {ru nx : Value} (h : ru.oneCell' = true ∧ nx.oneCell' = true) : (tableC f ru nx).all (·.oneCell') = true := by
  rw [Array.all_eq_true_iff_forall_mem]
  intro v hv
  simp only [tableC, Array.mem_append] at hv
  rcases hv with hv | hv
  · have := kindC_one f
    rw [Array.all_eq_true_iff_forall_mem] at this
    exact this v hv
  · simp at hv
    rcases hv with e | e
    · subst e; exact h.1
    · subst e; exact h.2
theorem loadT {f : Nat → Nat} {ru nx : Value} {ops : Array Oper} {rest : List Oper} {o : Oper} {a : Act} {w : World} {Q : Exit → Act → World → Prop} (hgd : o.guard = none) (x : Operand) (ho : o.op = .load 103 x)
    (g : Nat) (hx : a.eval x = .pointer (some ⟨g, 0, none⟩)) (hb : Blk w g (tableC f ru nx) 103)
    (h : wpList Try.prog ops Q rest (a.put o.dst (.agg (tableC f ru nx))) w) : wpList Try.prog ops Q (o :: rest) a w :=
  wpList_load_row hgd 103 x ho g hx 103 _ (0, 0) _ hb Try.underlying103 rfl (by rw [tableC_size]; exact Try.infoT) h
theorem storeT {f : Nat → Nat} {ru nx : Value} {ops : Array Oper} {rest : List Oper} {o : Oper} {a : Act} {w : World} {Q : Exit → Act → World → Prop} (hgd : o.guard = none) (x y : Operand) (ho : o.op = .store 103 x y)
    (g : Nat) (hx : a.eval x = .pointer (some ⟨g, 0, none⟩)) (hy : a.eval y = .agg (tableC f ru nx)) {old : Array Value} (hb : Blk w g old 103) (hold : old.size = 258) (h1 : ru.oneCell' = true ∧ nx.oneCell' = true)
    (h : wpList Try.prog ops Q rest (a.put o.dst undef) (w.setRow g (tableC f ru nx))) : wpList Try.prog ops Q (o :: rest) a w :=
  wpList_store_row hgd 103 x y ho g _ hx hy 103 _ hb (by rw [tableC_size]; exact Try.infoT) (by rw [tableC_size]; exact hold) (tableC_one f h1) h
theorem storeTz {ops : Array Oper} {rest : List Oper} {o : Oper} {a : Act} {w : World} {Q : Exit → Act → World → Prop} (hgd : o.guard = none) (x y : Operand) (ho : o.op = .store 103 x y)
    (g : Nat) (hx : a.eval x = .pointer (some ⟨g, 0, none⟩)) (hy : a.eval y = .agg Try.zeroCells103) {old : Array Value} (hb : Blk w g old 103) (hold : old.size = 258)
    (h : wpList Try.prog ops Q rest (a.put o.dst undef) (w.setRow g (tableC (fun _ => 0) (.slice none 0 0) (.slice none 0 0)))) : wpList Try.prog ops Q (o :: rest) a w :=
  storeT hgd x y ho g hx (by rw [hy, zeroTable]) hb hold ⟨rfl, rfl⟩ h
theorem buildT {f : Nat → Nat} {ru nx : Value} {ops : Array Oper} {rest : List Oper} {o : Oper} {a : Act} {w : World} {Q : Exit → Act → World → Prop} (hgd : o.guard = none) (x y : Operand) (ho : o.op = .build 103 #[(0, x), (1, y)])
    (hx : a.eval x = .agg (kindC f)) (hy : a.eval y = .agg #[ru, nx])
    (h : wpList Try.prog ops Q rest (a.put o.dst (.agg (tableC f ru nx))) w) : wpList Try.prog ops Q (o :: rest) a w := by
  refine wpList_plain hgd fun K hK => ?_
  unfold Oper.wp execOp
  simp only [ho, List.map_toArray, List.map_cons, List.map_nil, hx, hy, buildTable, Sem.run_bind, Sem.run_pure, Result.andThen_ok]
  exact hK _ _ h
theorem buildL {f : Nat → Nat} {ru nx : Value} {ops : Array Oper} {rest : List Oper} {o : Oper} {a : Act} {w : World} {Q : Exit → Act → World → Prop} (hgd : o.guard = none) (x : Operand) (ho : o.op = .build 107 #[(0, x)])
    (hx : a.eval x = .agg (tableC f ru nx))
    (h : wpList Try.prog ops Q rest (a.put o.dst (.agg (tableC f ru nx))) w) : wpList Try.prog ops Q (o :: rest) a w := by
  refine wpList_plain hgd fun K hK => ?_
  unfold Oper.wp execOp
  simp only [ho, List.map_toArray, List.map_cons, List.map_nil, hx, buildLexer, Sem.run_bind, Sem.run_pure, Result.andThen_ok]
  exact hK _ _ h
theorem zeroT : Try.zeroCells103.size = 258 := Try.zeroCells103_size

set_option maxHeartbeats 4800000 in
theorem build_any (R : RulesT) (gb : Nat) (O : Nat → Prop) (fv lv : Value) (w : World) (h : RulesAt w gb O R fv lv) (hf : R.follow.length ≤ 1000) (hl : R.last.length ≤ 1000) :
    Calls Try.prog 55 #[.pointer (some ⟨gb, 0, none⟩)] w fun e w' => Below w.heap.size w w' ∧
      (buildF R = none ∧ e = .returned (.tuple #[.agg (tableC (fun _ => 0) (.slice none 0 0) (.slice none 0 0)), .int .i64 3]) ∨
       ∃ kd g ruv nxv, buildF R = some (kd, g) ∧ e = .returned (.tuple #[.agg (tableC kd ruv nxv), .int .i64 0]) ∧ GraphAt w' ruv nxv g) := by
  generalize hX : buildF R = X
  unfold buildF at hX
  have HX := hide hX
  have HR := hide h
  have hSB := sortBytes_any R gb O fv lv (w.alloc (.cells Try.zeroCells103 103)) (h.below (Below1 _ _))
  have HSB := hide hSB
  clear h hX hSB
  go_enter Try.func55, Try.ntmps55
  go_wp2_with fail
  refine HSB.out.mono ?_
  rintro e w1 ⟨kv, rfl, hS1, hb1⟩
  have hb1' : Below w.heap.size w w1 := (Below1 w _).trans (hb1.mono (by simp))
  have hZ1 := (Blk.new w Try.zeroCells103 103).below hb1
  have hw2 : Below w1.heap.size w1 ((w1.alloc (.cells Try.zeroCells99 99)).setRow w1.heap.size (kindC (kindOf R.allow))) := Below_setRow (Below1 _ _) (Nat.le_refl _) _
  have hK2 : Blk ((w1.alloc (.cells Try.zeroCells99 99)).setRow w1.heap.size (kindC (kindOf R.allow))) w1.heap.size (kindC (kindOf R.allow)) 99 := (Blk.new _ _ _).setRow _
  have hb2 : Below w.heap.size w ((w1.alloc (.cells Try.zeroCells99 99)).setRow w1.heap.size (kindC (kindOf R.allow))) := hb1'.trans (hw2.mono hb1'.size)
  have hEX := explore_any R gb O fv lv kv (kindsAt R.allow 256) _ (HR.out.below hb2) (hS1.below hw2) (kindsAt_le _ 256) hf hl
  have HEX := hide hEX
  have z1 := hZ1.lt
  have HH1 : Hid (Below w.heap.size w w1 ∧ Blk w1 w.heap.size Try.zeroCells103 103 ∧ Below w1.heap.size w1 ((w1.alloc (.cells Try.zeroCells99 99)).setRow w1.heap.size (kindC (kindOf R.allow))) ∧ Blk ((w1.alloc (.cells Try.zeroCells99 99)).setRow w1.heap.size (kindC (kindOf R.allow))) w1.heap.size (kindC (kindOf R.allow)) 99) := ⟨hb1', hZ1, hw2, hK2⟩
  clear hb1 hb1' hZ1 hw2 hK2 hb2 hEX hS1
  go_wp2_with (first | refine storeK rfl (.tmp 4) (.tmp 12) rfl w1.heap.size rfl rfl (Blk.new _ _ _) zeroK ?_)
  refine HEX.out.mono ?_
  rintro e w2 ⟨hb2, hres⟩
  obtain ⟨q1, q2, q3, q4⟩ := HH1.out
  have hZ2 := (q2.below q3).below hb2
  have hK2 := q4.below hb2
  have hbw2 : Below w.heap.size w w2 := (q1.trans (q3.mono q1.size)).trans (hb2.mono (by have := q1.size; simp; omega))
  have z2 : w.heap.size < w2.heap.size := hZ2.lt
  have z3 : w1.heap.size < w2.heap.size := hK2.lt
  clear q1 q2 q3 q4 hb2 HEX HH1 HSB
  rcases hres with ⟨hx, rfl⟩ | ⟨g, ruv, nxv, hx, rfl, hG2⟩
  · have hXn : X = none := by have := HX.out; rw [hx] at this; exact this.symm
    subst hXn
    have HZ2 := hide hZ2
    have HB2 := hide hbw2
    clear hx hZ2 hK2 hbw2
    go_wp2_with (first | refine storeTz rfl (.tmp 2) (.tmp 22) rfl w.heap.size rfl rfl (HZ2.out.alloc _) zeroT ?_)
    exact bodyPost_ret (results_cell_tmp Try.results55 _ _ w.heap.size 103 _ (0, 0) _ rfl ((HZ2.out.alloc _).setRow _) Try.underlying103 rfl (by rw [tableC_size]; exact Try.infoT)) rfl ⟨Below_setRow (HB2.out.alloc (by omega) _) (Nat.le_refl _) _, rfl⟩
  · obtain ⟨ho, hpos, hn⟩ := exploreF_ok hx
    have hKl := kindsAt_le R.allow 256
    have hXs : X = some (kindOf R.allow, numberF (pruneF g) (mergeF (pruneF g))) := by have := HX.out; rw [hx] at this; exact this.symm
    subst hXs
    have hoP := pruneF_ok ho
    have hrP : (pruneF g).rule = g.rule := rfl
    have hpr := prune_any ruv nxv g _ (w2.alloc (.cells #[ruv, nxv] 101)) (hG2.below (Below1 _ _)) ho (by omega) (by omega)
    have hone := hG2.one
    have HPR := hide hpr
    have HH2 : Hid (Below w.heap.size w w2 ∧ Blk w2 w.heap.size Try.zeroCells103 103 ∧ Blk w2 w1.heap.size (kindC (kindOf R.allow)) 99) := ⟨hbw2, hZ2, hK2⟩
    have HOP := hide hoP
    have HX2 := hide hx
    have HRP := hide hrP
    clear hrP
    obtain ⟨rd, rcap, rfl, hy0⟩ := hG2.rule.form
    clear hy0
    obtain ⟨vs2, hN2, hy1, hy2⟩ := hG2.next
    obtain ⟨nd, ncap, rfl, hy3⟩ := hN2.form
    clear hy1 hy2 hy3
    clear hpr hG2 hx ho hbw2 hZ2 hK2 hone hN2
    go_wp2_with fail
    refine HPR.out.mono ?_
    rintro e w3 ⟨pv, rfl, hG3, hb3⟩
    obtain ⟨vs3, hN3, hy1, hy2⟩ := hG3.next
    obtain ⟨pd, pcap, rfl, hy3⟩ := hN3.form
    clear hy1 hy2 hy3
    have hT3 := (Blk.new w2 #[.slice rd g.rule.length rcap, .slice nd vs2.length ncap] 101).below hb3
    have c0 : w3.cell? ⟨w2.heap.size, 0, none⟩ = some (.slice rd g.rule.length rcap) := hT3.cell 0
    have c1 : w3.cell? ⟨w2.heap.size, 1, none⟩ = some (.slice nd vs2.length ncap) := hT3.cell 1
    have f0 := hT3.frozen 0
    have f1 := hT3.frozen 1
    have hk3 := Kept2set w3 w2.heap.size (.slice rd g.rule.length rcap) (.slice pd vs3.length pcap)
    have hG4 := hG3.keptAt hk3 hT3 (by decide) (by decide)
    have hT4 := (hT3.set 0 (.slice rd g.rule.length rcap)).set 1 (.slice pd vs3.length pcap)
    have hb4 : Below w2.heap.size w2 ((w3.setCell ⟨w2.heap.size, 0, none⟩ (.slice rd g.rule.length rcap)).setCell ⟨w2.heap.size, 1, none⟩ (.slice pd vs3.length pcap)) := (((Below1 w2 _).trans (hb3.mono (by simp))).setCell (Nat.le_refl _) _).setCell (Nat.le_refl _) _
    have hme := merge_any _ _ (pruneF g) _ _ hG4 HOP.out (by rw [HRP.out]; omega) (by omega)
    have HME := hide hme
    have zT : w2.heap.size < w3.heap.size := hT3.lt
    have HH3 : Hid (Below w2.heap.size w2 ((w3.setCell ⟨w2.heap.size, 0, none⟩ (.slice rd g.rule.length rcap)).setCell ⟨w2.heap.size, 1, none⟩ (.slice pd vs3.length pcap)) ∧ Blk ((w3.setCell ⟨w2.heap.size, 0, none⟩ (.slice rd g.rule.length rcap)).setCell ⟨w2.heap.size, 1, none⟩ (.slice pd vs3.length pcap)) w2.heap.size #[.slice rd g.rule.length rcap, .slice pd vs3.length pcap] 101 ∧ GraphAt ((w3.setCell ⟨w2.heap.size, 0, none⟩ (.slice rd g.rule.length rcap)).setCell ⟨w2.heap.size, 1, none⟩ (.slice pd vs3.length pcap)) (.slice rd g.rule.length rcap) (.slice pd vs3.length pcap) (pruneF g)) := ⟨hb4, hT4, hG4⟩
    clear hme hb4 hT4 hG4 hk3 hT3 hb3 hG3 hN3 HPR
    go_wp2_with fail
    refine HME.out.mono ?_
    rintro e w4 ⟨cv, rfl, hC4, hcl, hb4⟩
    have hG5 := HH3.out.2.2.below hb4
    have hT5 := HH3.out.2.1.below hb4
    have hnu := number_any _ _ cv (pruneF g) _ (mergeF (pruneF g)) w4 hG5 HOP.out hC4 hcl (mergeF_bd _ (by rw [HRP.out]; exact hpos)) (by rw [HRP.out]; exact hpos) (by rw [HRP.out]; omega) (by omega)
    have HNU := hide hnu
    have d0 : w4.cell? ⟨w2.heap.size, 0, none⟩ = some (.slice rd g.rule.length rcap) := hT5.cell 0
    have d1 : w4.cell? ⟨w2.heap.size, 1, none⟩ = some (.slice pd vs3.length pcap) := hT5.cell 1
    have hb5 : Below w2.heap.size w2 w4 := HH3.out.1.trans (hb4.mono (by simp; omega))
    have z4 := hT5.lt
    have HH4 : Hid (Below w2.heap.size w2 w4 ∧ Blk w4 w2.heap.size #[.slice rd g.rule.length rcap, .slice pd vs3.length pcap] 101) := ⟨hb5, hT5⟩
    clear hnu hG5 hT5 hC4 hcl hb4 hb5 HME HH3 c0 c1 f0 f1
    go_wp2_with fail
    refine HNU.out.mono ?_
    rintro e w5 ⟨ru5, nx5, rfl, hG5, hb5⟩
    generalize hg5 : numberF (pruneF g) (mergeF (pruneF g)) = g5 at hG5
    have HG5E := hide hg5
    clear hg5
    obtain ⟨xd, xcap, hru5, hy0⟩ := hG5.rule.form
    obtain ⟨vs5, hN5, hy1, hy2⟩ := hG5.next
    obtain ⟨yd, ycap, hnx5, hy3⟩ := hN5.form
    clear hy0 hy1 hy2 hy3 hN5
    generalize g5.rule.length = xl at hru5
    generalize vs5.length = yl at hnx5
    subst hru5 hnx5
    have hT5 := HH4.out.2.below hb5
    have hone := hG5.one
    have hk5 := Kept2set w5 w2.heap.size (.slice xd xl xcap) (.slice yd yl ycap)
    have hG6 := hG5.keptAt hk5 hT5 (by decide) (by decide)
    have hb6 : Below w2.heap.size w2 ((w5.setCell ⟨w2.heap.size, 0, none⟩ (.slice xd xl xcap)).setCell ⟨w2.heap.size, 1, none⟩ (.slice yd yl ycap)) := ((HH4.out.1.trans (hb5.mono (by omega))).setCell (Nat.le_refl _) _).setCell (Nat.le_refl _) _
    have e0 : w5.cell? ⟨w2.heap.size, 0, none⟩ = some (.slice rd g.rule.length rcap) := hT5.cell 0
    have e1 : w5.cell? ⟨w2.heap.size, 1, none⟩ = some (.slice pd vs3.length pcap) := hT5.cell 1
    have f0 := hT5.frozen 0
    have f1 := hT5.frozen 1
    have hK6 := HH2.out.2.2.below hb6
    have hZ6 := HH2.out.2.1.below hb6
    have hbw6 : Below w.heap.size w ((w5.setCell ⟨w2.heap.size, 0, none⟩ (.slice xd xl xcap)).setCell ⟨w2.heap.size, 1, none⟩ (.slice yd yl ycap)) := HH2.out.1.trans (hb6.mono (by omega))
    have HK6 := hide hK6
    have HZ6 := hide hZ6
    have HG6 := hide hG6
    have HB6 := hide hbw6
    have HON := hide hone
    clear hK6 hZ6 hG6 hbw6 hT5 hk5 hG5 hb5 hb6 HNU HH4 HH2 d0 d1 hone
    go_wp2_with (first | refine buildT rfl (.tmp 31) (.tmp 32) rfl rfl rfl ?_ | refine loadK rfl (.tmp 4) rfl w1.heap.size rfl HK6.out ?_ | refine storeT rfl (.tmp 2) (.tmp 33) rfl w.heap.size rfl rfl HZ6.out zeroT HON.out ?_)
    refine bodyPost_ret (results_cell_tmp Try.results55 _ _ w.heap.size 103 _ (0, 0) _ rfl (HZ6.out.setRow _) Try.underlying103 rfl (by rw [tableC_size]; exact Try.infoT)) rfl ⟨Below_setRow HB6.out (Nat.le_refl _) _, .inr ⟨_, _, _, _, rfl, rfl, ?_⟩⟩
    rw [HG5E.out]
    exact HG6.out.keptAt (Kept1row _ _ _) HZ6.out (by decide) (by decide)
end Go.Proofs.Ytcckhngbdoiikaa

namespace Go.Proofs.Ytcckhngbdoiikaa
open Go.RowKit Go.Deep
set_option linter.unusedVariables false

/-- The bytes of a string, as numbers. -/
def bytesN (s : ByteArray) : List Nat := s.data.toList.map UInt8.toNat
theorem bytesN_len (s : ByteArray) : (bytesN s).length = s.size := by rw [bytesN, List.length_map, Array.length_toList]; rfl
theorem Blk.one {w : World} {b : Nat} {c c' : Array Value} {t t' : TypeId} (h : Blk w b c t) (h' : Blk w b c' t') : c = c' ∧ t = t' := by
  unfold Blk at h h'
  rw [h] at h'
  injection h' with h'
  injection h' with h1 h2
  exact ⟨h1, h2⟩
theorem getD_setB (l : List Bool) (k i : Nat) (x : Bool) (hk : k < l.length) : (l.set k x).getD i false = if i = k then x else l.getD i false := by
  rw [List.getD_eq_getElem?_getD, List.getElem?_set]
  by_cases h : k = i
  · subst h; simp [hk]
  · rw [if_neg h, if_neg (fun e => h e.symm), List.getD_eq_getElem?_getD]
theorem boolsA_cellD {w : World} {b : Nat} {l : List Bool} (h : Blk w b (boolsA l) 4) (i : Nat) (hi : i < l.length) : w.cell? ⟨b, i, none⟩ = some (.bool (l.getD i false)) := by
  rw [boolsA_cell h i hi]; simp [hi]
theorem BRow.cellD {w : World} {l : List Bool} {g n cap : Nat} (h : BRow w (.slice (some ⟨g, 0, none⟩) n cap) l) (j : Nat) (hj : j < l.length) : w.cell? ⟨g, j, none⟩ = some (.bool (l.getD j false)) := by
  have h' := h
  obtain ⟨_, ad, cap', e, _⟩ := ownsRow_form h
  injection e with e1 e2 e3
  subst e2
  rw [h.cell j hj]; simp [hj]

end Go.Proofs.Ytcckhngbdoiikaa
