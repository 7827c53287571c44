import Derived.Test.YtcckhngbdoiikaaN15
import Derived.Test.YtcckhngbdoiikaaN11
import Derived.Test.YtcckhngbdoiikaaN04

namespace Go.Proofs.Ytcckhngbdoiikaa
open Go.RowKit Go.Deep
set_option linter.unusedVariables false

theorem Try.infoS3 : (Try.prog.info? 148).map (fun i => (i.zero, i.size, i.bytes)) = some (some (.agg #[.int .u64 0, .int .u64 0]), 2, 16) := by kernel_rfl

theorem index256 (A : Nat → Bool) (k : Nat) (hk : k < 256) (w : World) : (Instr.index 240 (.agg (boolsC A)) (.int .i64 (k : Int))).run Try.prog w = .ok (.bool (A k)) w := by
  have h2 : k < (boolsC A).size := by rw [boolsC_size]; exact hk
  have h3 : (boolsC A)[k] = .bool (A k) := Option.some.inj ((Array.getElem?_eq_getElem h2).symm.trans (boolsC_get A k hk))
  have h4 : (boolsC A)[k]? = some (.bool (A k)) := boolsC_get A k hk
  have h5 : 0 ≤ (k : Int) ∧ (k : Int) < (256 : Nat) := by omega
  simp [Instr.index, asIntOf, run_underlying Try.underlying240, part, Try.isAgg4, Try.sizeOf4, hk, h3, h2]

theorem Kept_grown {O : Nat → Prop} {w w' : World} {row : Option Nat} (hg : w.grownBy w' row) (hr : ∀ k, row = some k → O k) : Kept O w w' :=
  ⟨hg.os, hg.tape, hg.output, hg.size, fun k hk he => hg.block k hk (fun e => he (hr k e.symm))⟩

theorem RulesAt.growFollow {w w' : World} {gb g cap : Nat} {O : Nat → Prop} {R : RulesT} {fv lv : Value} {s : PSet} (h : RulesAt w gb O R fv lv)
    (hown : w'.ownsRow 0 148 2 (.slice (some ⟨g, 0, none⟩) (R.follow.length + 1) cap) (R.follow.length + 1) (setsC R.follow ++ setsC [s]))
    (hg : w.grownBy w' fv.ownBlock) (hat : fv.ownBlock = some g ∨ g = w.heap.size) (hlt : g < w'.heap.size) :
    RulesAt (w'.setCell ⟨gb, 514, none⟩ (.slice (some ⟨g, 0, none⟩) (R.follow.length + 1) cap)) gb (fun k => O k ∨ k = g) { R with follow := R.follow ++ [s] } (.slice (some ⟨g, 0, none⟩) (R.follow.length + 1) cap) lv ∧ Kept O w w' ∧ Blk w' gb (rulesC R.allow R.first fv lv) 152 := by
  have hk : Kept O w w' := Kept_grown hg (fun k e => (h.ofo k e).1)
  have hgb := h.blk.lt
  have hne : g ≠ gb := by
    rcases hat with e | e
    · exact (h.ofo g e).2
    · omega
  have hgl : ∀ k, lv.ownBlock = some k → k ≠ g := by
    intro k e he
    subst he
    rcases hat with e' | e'
    · exact h.ne _ e' e
    · have := h.olt _ (h.ola _ e).1; omega
  have hb : Blk w' gb (rulesC R.allow R.first fv lv) 152 := by
    have := hg.block gb hgb (fun e => (h.ofo gb e.symm).2 rfl)
    unfold Blk
    rw [this]; exact h.blk
  have hl : w'.ownsRow 0 148 2 lv R.last.length (setsC R.last) := h.las.kept hg (by
    cases e : lv.ownBlock with
    | none => exact .inl rfl
    | some k => exact .inr (fun e' => h.ne k e'.symm e))
  refine ⟨⟨?_, ?_, ?_, .inl h.og, ?_, ?_, ?_, ?_⟩, hk, hb⟩
  · have := hb.set 514 (.slice (some ⟨g, 0, none⟩) (R.follow.length + 1) cap)
    rw [rulesC_setFollow] at this
    exact this
  · have := ownsRow_setOther hown (p := ⟨gb, 514, none⟩) (fun e => hne (Option.some.inj e)) (.slice (some ⟨g, 0, none⟩) (R.follow.length + 1) cap)
    rw [← setsC_append] at this
    show World.ownsRow _ 0 148 2 _ (R.follow ++ [s]).length _
    rw [List.length_append]
    exact this
  · exact ownsRow_setOther hl (fun e => (h.ola _ e).2 rfl) _
  · intro k e
    cases (Option.some.inj e : g = k)
    exact ⟨.inr rfl, hne⟩
  · exact fun k e => ⟨.inl (h.ola k e).1, (h.ola k e).2⟩
  · intro k e e'
    cases (Option.some.inj e : g = k)
    exact hgl _ e' rfl
  · intro k e
    simp
    rcases e with e | e
    · exact Nat.lt_of_lt_of_le (h.olt k e) hk.size
    · omega

/-- What the bytes allow while the loop of 'add' goes. -/
def addAt (al : Nat → PSet) (A : Nat → Bool) (p : PSet) (k : Nat) : Nat → PSet := fun b => if b < k then addAllow al A p b else al b
theorem addAt_skip (al : Nat → PSet) (A : Nat → Bool) (p : PSet) (k : Nat) (h : A k = false) : addAt al A p (k + 1) = addAt al A p k := by
  funext b
  unfold addAt
  by_cases e : b = k
  · subst e; simp [addAllow, h]
  · by_cases h1 : b < k
    · rw [if_pos h1, if_pos (by omega)]
    · rw [if_neg h1, if_neg (by omega)]
theorem addAt_step (al : Nat → PSet) (A : Nat → Bool) (p : PSet) (k : Nat) (h : A k = true) : addAt al A p (k + 1) = fun j => if j = k then (al k).or p else addAt al A p k j := by
  funext b
  unfold addAt
  by_cases e : b = k
  · subst e; simp [addAllow, h]
  · by_cases h1 : b < k
    · rw [if_pos h1, if_pos (by omega), if_neg e]
    · rw [if_neg h1, if_neg (by omega), if_neg e]
theorem addAt_at (al : Nat → PSet) (A : Nat → Bool) (p : PSet) (k : Nat) : addAt al A p k k = al k := by simp [addAt]
theorem rulesC_congr {al al' : Nat → PSet} (h : ∀ b, b < 256 → al b = al' b) (f : PSet) (fv lv : Value) : rulesC al f fv lv = rulesC al' f fv lv := by
  have e : (List.range 256).map al = (List.range 256).map al' := List.map_congr_left (fun b hb => h b (by simpa using hb))
  unfold rulesC
  rw [e]

theorem RulesAt.allow_congr {w : World} {gb : Nat} {O : Nat → Prop} {R : RulesT} {fv lv : Value} (h : RulesAt w gb O R fv lv) {al : Nat → PSet} (e : ∀ b, b < 256 → R.allow b = al b) :
    RulesAt w gb O { R with allow := al } fv lv :=
  ⟨by have := h.blk; rw [rulesC_congr e] at this; exact this, h.fol, h.las, h.og, h.ofo, h.ola, h.ne, h.olt⟩

set_option maxHeartbeats 3200000 in
theorem add_any (R : RulesT) (gb : Nat) (O : Nat → Prop) (fv lv : Value) (A : Nat → Bool) (w : World) (h : RulesAt w gb O R fv lv) (hl : R.follow.length ≤ 1000) :
    Calls Try.prog 163 #[.pointer (some ⟨gb, 0, none⟩), .agg (boolsC A)] w fun e w' =>
      e = .returned (partV R.addPart) ∧ ∃ O' fv', RulesAt w' gb O' (R.add A) fv' lv ∧ Kept O w w' ∧ ∀ k, O' k → O k ∨ w.heap.size ≤ k := by
  obtain ⟨_, ad, cap, hfv, hrow⟩ := ownsRow_form h.fol
  have cg : w.cell? ⟨gb, 514, none⟩ = some fv := by rw [h.blk.cell]; exact rulesC_514 _ _ _ _
  rw [hfv] at cg
  have hgb := h.blk.lt
  have hgb1 : gb < w.heap.size + 1 := by omega
  have hgb2 : gb < w.heap.size + 1 + 1 := by omega
  go_enter Try.func163, Try.ntmps163
  go_wp2_with fail
  refine (only_any R.follow.length (by omega) _).mono ?_
  rintro e w1 ⟨rfl, hb1⟩
  have hR1 := ((h.alloc _).alloc _).below hb1
  have c1 : w1.cell? ⟨gb, 514, none⟩ = some (.slice ad R.follow.length cap) := by rw [hR1.blk.cell, rulesC_514, hfv]
  have z1 : gb < w1.heap.size := hR1.blk.lt
  obtain ⟨i, hi, hz0, hz1, hz2⟩ := info_parts Try.infoS3
  have hol := (hR1.fol.alloc (.cells (setC (PSet.only R.follow.length)) 148)).alloc (.cells #[.int .u64 0, .int .u64 0] 148)
  rw [hfv] at hol
  go_wp2_with (at_builtin; (refine wpList_append_lies _ (by rfl) _ _ _ (by rfl) 0 148 i _ 2 16 Try.underlying150 hi hz0 hz1 hz2 rfl (by omega) (.slice ad R.follow.length cap) R.follow.length (setsC R.follow) (by rfl) hol ⟨w1.heap.size + 1, 0, none⟩ 1 1 [.int .u64 0, .int .u64 0] (by rfl) (by rfl) (World.news_of_block (cs := #[.int .u64 0, .int .u64 0]) (t := 148) (fr := (0, 0)) (heap_alloc2_new w1 _ _)) (by simp [Value.oneCell']) (by omega) (by unfold maxLen; omega) (by omega) (by simp) (w1.heap.size + 1 + 1) (by simp) ?_))
  intro g cap2 w2 hown2 hgrow2 hat2 hlt2
  rw [← hfv] at hgrow2 hat2
  have hR2 := (hR1.alloc (.cells (setC (PSet.only R.follow.length)) 148)).alloc (.cells #[.int .u64 0, .int .u64 0] 148)
  obtain ⟨hR3, hk3, hG3⟩ := hR2.growFollow (s := PSet.none) hown2 hgrow2 (by simpa using hat2) hlt2
  have hkW : Kept O w w2 := ((((((Kept.refl O w).alloc _).alloc _).below hb1).alloc _).alloc _).trans' hk3
  have nO : ∀ k, O k → k < w.heap.size := h.olt
  have hP2 : Blk w2 w1.heap.size (setC (PSet.only R.follow.length)) 148 := ((Blk.new w1 _ _).alloc _).kept hk3 (fun e => by have := nO _ e; have := hb1.size; simp at this; omega)
  have hA2 : Blk w2 w.heap.size (boolsC A) 240 := (((((Blk.new w (boolsC A) 240).alloc _).below hb1).alloc _).alloc _).kept hk3 (fun e => by have := nO _ e; omega)
  have hZ2 : Blk w2 (w.heap.size + 1) part0 222 := ((((Blk.at1 w _ part0 222).below hb1).alloc _).alloc _).kept hk3 (fun e => by have := nO _ e; omega)
  have cgb : w2.cell? ⟨gb, 514, none⟩ = some fv := by rw [hG3.cell]; exact rulesC_514 _ _ _ _
  have fgb := hG3.frozen 514
  have hn1 : w.heap.size + 1 < w1.heap.size := by have := hb1.size; simp at this; omega
  have HH2 : Hid (RulesAt (w2.setCell ⟨gb, 514, none⟩ (.slice (some ⟨g, 0, none⟩) (R.follow.length + 1) cap2)) gb (fun k => O k ∨ k = g) { R with follow := R.follow ++ [PSet.none] } (.slice (some ⟨g, 0, none⟩) (R.follow.length + 1) cap2) lv ∧
      Kept O w w2 ∧ Blk w2 w1.heap.size (setC (PSet.only R.follow.length)) 148 ∧ Blk w2 (w.heap.size + 1) part0 222) := ⟨hR3, hkW, hP2, hZ2⟩
  have hA3 := hA2.setOther (p := ⟨gb, 514, none⟩) (by simp; omega) (.slice (some ⟨g, 0, none⟩) (R.follow.length + 1) cap2)
  have hgO : ∀ k, k = g → O k ∨ w.heap.size ≤ k := by
    intro k e
    subst e
    rcases hat2 with e | e
    · exact .inl (h.ofo _ e).1
    · exact .inr (by omega)
  have hgn : g ≠ w.heap.size + 1 := by
    intro e
    subst e
    rcases hat2 with e | e
    · have := nO _ (h.ofo _ e).1; omega
    · omega
  have HGN := hide hgn
  have HG := hide hgO
  have HNO := hide nO
  have hOg : O gb := h.og
  clear hR3 hkW hP2 hZ2 hA2 hG3 hk3 hR2 hown2 hgrow2 hat2 hgO hgn nO hol c1 hR1 hb1 cg h hrow hfv
  go_wp2_with (refine load256 rfl (.tmp 3) rfl w.heap.size rfl hA3 ?_)
  go_loopg [25] 256 (fun G i wr => ∃ k : Nat, k ≤ 256 ∧ G = 256 - k ∧ i = .int .i64 (k : Int) ∧
    RulesAt wr gb (fun k => O k ∨ k = g) { R with follow := R.follow ++ [PSet.none], allow := addAt R.allow A (PSet.only R.follow.length) k } (.slice (some ⟨g, 0, none⟩) (R.follow.length + 1) cap2) lv ∧
    Kept O w wr ∧ Blk wr w1.heap.size (setC (PSet.only R.follow.length)) 148 ∧ Blk wr (w.heap.size + 1) part0 222)
  case atStart =>
    obtain ⟨q1, q2, q3, q4⟩ := HH2.out
    refine ⟨0, by omega, rfl, rfl, ?_, q2.setCell (fun _ => hOg) _, q3.setOther (by simp; omega) _, q4.setOther (by simp; omega) _⟩
    have e0 : addAt R.allow A (PSet.only R.follow.length) 0 = R.allow := by funext b; simp [addAt]
    rw [e0]; exact q1
  case round =>
    obtain ⟨k, hk, rfl, rfl, hR4, hk4, hP4, hZ4⟩ := hrel
    clear HH2 hA3 cgb fgb
    by_cases hlt : k < 256
    · have e0 : decide ((k : Int) < 256) = true := by simp; omega
      have hix := index256 A k hlt
      cases hAk : A k with
      | false =>
        rw [hAk] at hix
        have HH4 : Hid (RulesAt wr gb (fun k => O k ∨ k = g) { R with follow := R.follow ++ [PSet.none], allow := addAt R.allow A (PSet.only R.follow.length) k } (.slice (some ⟨g, 0, none⟩) (R.follow.length + 1) cap2) lv ∧
          Kept O w wr ∧ Blk wr w1.heap.size (setC (PSet.only R.follow.length)) 148 ∧ Blk wr (w.heap.size + 1) part0 222) := ⟨hR4, hk4, hP4, hZ4⟩
        have HA := hide hAk
        clear hR4 hk4 hP4 hZ4 hAk
        go_wp2_with fail
        go_roundg (256 - (k + 1))
        case measure => omega
        case rel =>
          obtain ⟨q1, q2, q3, q4⟩ := HH4.out
          exact ⟨k + 1, by omega, rfl, by go_num, by rw [addAt_skip _ _ _ k HA.out]; exact q1, q2, q3, q4⟩
      | true =>
        rw [hAk] at hix
        have g0 : wr.cell? ⟨gb, k * 2, none⟩ = some (.int .u64 ((R.allow k).lo.toNat : Int)) := by rw [hR4.blk.cell, rulesC_get0 _ _ _ _ k hlt]; simp only [addAt_at]
        have g1 : wr.cell? ⟨gb, k * 2 + 1, none⟩ = some (.int .u64 ((R.allow k).hi.toNat : Int)) := by rw [hR4.blk.cell, rulesC_get1 _ _ _ _ k hlt]; simp only [addAt_at]
        have gf0 := hR4.blk.frozen (k * 2)
        have gf1 := hR4.blk.frozen (k * 2 + 1)
        have p0 : wr.cell? ⟨w1.heap.size, 0, none⟩ = some (.int .u64 ((PSet.only R.follow.length).lo.toNat : Int)) := hP4.cell 0
        have p1 : wr.cell? ⟨w1.heap.size, 1, none⟩ = some (.int .u64 ((PSet.only R.follow.length).hi.toNat : Int)) := hP4.cell 1
        have i0 : (0 : Int) ≤ (k : Int) := by omega
        have i1 : (k : Int) < 256 := by omega
        have z3 : gb < wr.heap.size := hR4.blk.lt
        have HH4 : Hid (RulesAt wr gb (fun k => O k ∨ k = g) { R with follow := R.follow ++ [PSet.none], allow := addAt R.allow A (PSet.only R.follow.length) k } (.slice (some ⟨g, 0, none⟩) (R.follow.length + 1) cap2) lv ∧
          Kept O w wr ∧ Blk wr w1.heap.size (setC (PSet.only R.follow.length)) 148 ∧ Blk wr (w.heap.size + 1) part0 222) := ⟨hR4, hk4, hP4, hZ4⟩
        have HA := hide hAk
        clear hR4 hk4 hP4 hZ4 hAk
        go_wp2_with fail
        go_region_with (go_at_call 140; refine (or_any (R.allow k) (PSet.only R.follow.length) _).mono ?_; rintro e w5 ⟨rfl, hb5⟩; have q0 := (hb5.cell (p := ⟨gb, k * 2, none⟩) z3).trans g0; have q1 := (hb5.cell (p := ⟨gb, k * 2 + 1, none⟩) z3).trans g1; have p0 := (hb5.frozen (p := ⟨gb, k * 2, none⟩) z3).trans gf0; have p1 := (hb5.frozen (p := ⟨gb, k * 2 + 1, none⟩) z3).trans gf1)
        all_goals
          go_wp2_with fail
          go_roundg (256 - (k + 1))
          case measure => omega
          case rel =>
            obtain ⟨q1, q2, q3, q4⟩ := HH4.out
            have hst := (q1.drew.below hb5).setAllow k hlt ((R.allow k).or (PSet.only R.follow.length))
            refine ⟨k + 1, by omega, rfl, by go_num, ?_, ?_, ?_, ?_⟩
            · rw [addAt_step _ _ _ k HA.out]; exact hst
            · exact (((q2.drew).below hb5).setCell (fun _ => hOg) _).setCell (fun _ => hOg) _
            · exact ((q3.drew.below hb5).setOther (by simp; omega) _).setOther (by simp; omega) _
            · exact ((q4.drew.below hb5).setOther (by simp; omega) _).setOther (by simp; omega) _
    · have e0 : decide ((k : Int) < 256) = false := by simp; omega
      have p0 : wr.cell? ⟨w1.heap.size, 0, none⟩ = some (.int .u64 ((PSet.only R.follow.length).lo.toNat : Int)) := hP4.cell 0
      have p1 : wr.cell? ⟨w1.heap.size, 1, none⟩ = some (.int .u64 ((PSet.only R.follow.length).hi.toNat : Int)) := hP4.cell 1
      have z0 : wr.cell? ⟨w.heap.size + 1, 0, none⟩ = some (.int .u64 0) := hZ4.cell 0
      have z1' : wr.cell? ⟨w.heap.size + 1, 1, none⟩ = some (.int .u64 0) := hZ4.cell 1
      have z2 : wr.cell? ⟨w.heap.size + 1, 2, none⟩ = some (.int .u64 0) := hZ4.cell 2
      have z3 : wr.cell? ⟨w.heap.size + 1, 3, none⟩ = some (.int .u64 0) := hZ4.cell 3
      have z4 : wr.cell? ⟨w.heap.size + 1, 4, none⟩ = some (.bool false) := hZ4.cell 4
      have f0 := hZ4.frozen 0
      have f1 := hZ4.frozen 1
      have f2 := hZ4.frozen 2
      have f3 := hZ4.frozen 3
      have f4 := hZ4.frozen 4
      have HH4 : Hid (RulesAt wr gb (fun k => O k ∨ k = g) { R with follow := R.follow ++ [PSet.none], allow := addAt R.allow A (PSet.only R.follow.length) k } (.slice (some ⟨g, 0, none⟩) (R.follow.length + 1) cap2) lv ∧
          Kept O w wr ∧ Blk wr (w.heap.size + 1) part0 222) := ⟨hR4, hk4, hZ4⟩
      clear hR4 hk4 hP4 hZ4
      go_wp2_with fail
      obtain ⟨q1, q2, q4⟩ := HH4.out
      have hgn := HGN.out
      have hq : ∀ {X : World} {v : Value} {j : Nat} {R' : RulesT} {fv' lv' : Value}, RulesAt X gb (fun k => O k ∨ k = g) R' fv' lv' → RulesAt (X.setCell ⟨w.heap.size + 1, j, none⟩ v) gb (fun k => O k ∨ k = g) R' fv' lv' := fun {X v j R' fv' lv'} hX =>
        hX.kept (ex := fun k => k = w.heap.size + 1) (Kept.setCell (ex := fun k => k = w.heap.size + 1) (Kept.refl _ _) (fun _ => rfl) _) (fun b hb e => by
          rcases hb with hb | hb
          · have := HNO.out b hb; omega
          · omega)
      have q5 := q1.allow_congr (al := addAllow R.allow A (PSet.only R.follow.length)) (fun b hb => by simp [addAt, show b < k by omega])
      exact bodyPost_ret (resultsPart (q := R.addPart) Try.results163 _ rfl (((((q4.set 0 _).set 1 _).set 2 _).set 3 _).set 4 _)) rfl
        ⟨rfl, _, _, hq (hq (hq (hq (hq q5)))), ((((q2.setCell (by simp; omega) _).setCell (by simp; omega) _).setCell (by simp; omega) _).setCell (by simp; omega) _).setCell (by simp; omega) _, fun k hk => hk.elim .inl (fun e => HG.out k e)⟩
end Go.Proofs.Ytcckhngbdoiikaa

namespace Go.Proofs.Ytcckhngbdoiikaa
open Go.RowKit Go.Deep
set_option linter.unusedVariables false

/-- Rows of ints, of bools, of slices of ints. -/
def IRow (w : World) (v : Value) (l : List Int) : Prop := w.ownsRow 0 3 1 v l.length (l.map (Value.int .i64))
def BRow (w : World) (v : Value) (l : List Bool) : Prop := w.ownsRow 0 4 1 v l.length (l.map Value.bool)
def NRow (w : World) (v : Value) (l : List Value) : Prop := w.ownsRow 0 40 1 v l.length l
/-- The graph: its rules, its rows. -/
structure GraphAt (w : World) (rv nv : Value) (g : Graph) : Prop where
  rule : IRow w rv g.rule
  next : ∃ vs : List Value, NRow w nv vs ∧ vs.length = g.next.length ∧ ∀ i v, vs[i]? = some v → IRow w v (g.next.getD i [])

section
variable {w w' : World} {v : Value}
theorem IRow.kept {l : List Int} {ex : Nat → Prop} (h : IRow w v l) (k : Kept ex w w') (he : ∀ b, v.ownBlock = some b → ¬ ex b) : IRow w' v l := ownsRow_kept h k he
theorem BRow.kept {l : List Bool} {ex : Nat → Prop} (h : BRow w v l) (k : Kept ex w w') (he : ∀ b, v.ownBlock = some b → ¬ ex b) : BRow w' v l := ownsRow_kept h k he
theorem NRow.kept {l : List Value} {ex : Nat → Prop} (h : NRow w v l) (k : Kept ex w w') (he : ∀ b, v.ownBlock = some b → ¬ ex b) : NRow w' v l := ownsRow_kept h k he
theorem IRow.below {l : List Int} (h : IRow w v l) (k : Below w.heap.size w w') : IRow w' v l := h.kept (ex := fun _ => False) (Kept.ofBelow k) (fun _ _ e => e)
theorem BRow.below {l : List Bool} (h : BRow w v l) (k : Below w.heap.size w w') : BRow w' v l := h.kept (ex := fun _ => False) (Kept.ofBelow k) (fun _ _ e => e)
theorem NRow.below {l : List Value} (h : NRow w v l) (k : Below w.heap.size w w') : NRow w' v l := h.kept (ex := fun _ => False) (Kept.ofBelow k) (fun _ _ e => e)
theorem ownsRow_lt {e : TypeId} {size n : Nat} {xs : List Value} (h : w.ownsRow 0 e size v n xs) : ∀ b, v.ownBlock = some b → b < w.heap.size := by
  intro b hb
  obtain ⟨_, ⟨rfl, _⟩ | ⟨g, cap, cur, rfl, _, h3, _⟩⟩ := h
  · simp [Value.ownBlock] at hb
  · cases (Option.some.inj hb : g = b)
    exact Blk.lt (h3 : Blk w _ cur e)
theorem GraphAt.below {rv nv : Value} {g : Graph} (h : GraphAt w rv nv g) (k : Below w.heap.size w w') : GraphAt w' rv nv g := by
  obtain ⟨vs, h1, h2, h3⟩ := h.next
  exact ⟨h.rule.below k, vs, h1.below k, h2, fun i v hv => (h3 i v hv).below k⟩

/-- What a slice of ints looks like, and its cells. -/
theorem IRow.form {l : List Int} (h : IRow w v l) : ∃ (ad : Option Addr) (cap : Nat), v = .slice ad l.length cap ∧ (l.length = 0 ∨ ∃ g, ad = some ⟨g, 0, none⟩) := by
  obtain ⟨_, ad, cap, rfl, hr⟩ := ownsRow_form h
  refine ⟨ad, cap, rfl, ?_⟩
  rcases hr with ⟨_, e⟩ | ⟨g, _, e, _⟩
  · exact .inl e
  · exact .inr ⟨g, e⟩
theorem IRow.cell {l : List Int} {g cap : Nat} (h : IRow w (.slice (some ⟨g, 0, none⟩) l.length cap) l) (j : Nat) (hj : j < l.length) : w.cell? ⟨g, j, none⟩ = some (.int .i64 l[j]) := by
  rw [ownsRow_cell h j (by omega)]; simp [hj]
theorem BRow.form {l : List Bool} (h : BRow w v l) : ∃ (ad : Option Addr) (cap : Nat), v = .slice ad l.length cap ∧ (l.length = 0 ∨ ∃ g, ad = some ⟨g, 0, none⟩) := by
  obtain ⟨_, ad, cap, rfl, hr⟩ := ownsRow_form h
  refine ⟨ad, cap, rfl, ?_⟩
  rcases hr with ⟨_, e⟩ | ⟨g, _, e, _⟩
  · exact .inl e
  · exact .inr ⟨g, e⟩
theorem BRow.cell {l : List Bool} {g cap : Nat} (h : BRow w (.slice (some ⟨g, 0, none⟩) l.length cap) l) (j : Nat) (hj : j < l.length) : w.cell? ⟨g, j, none⟩ = some (.bool l[j]) := by
  rw [ownsRow_cell h j (by omega)]; simp [hj]
theorem NRow.form {l : List Value} (h : NRow w v l) : ∃ (ad : Option Addr) (cap : Nat), v = .slice ad l.length cap ∧ (l.length = 0 ∨ ∃ g, ad = some ⟨g, 0, none⟩) := by
  obtain ⟨_, ad, cap, rfl, hr⟩ := ownsRow_form h
  refine ⟨ad, cap, rfl, ?_⟩
  rcases hr with ⟨_, e⟩ | ⟨g, _, e, _⟩
  · exact .inl e
  · exact .inr ⟨g, e⟩
theorem NRow.cell {l : List Value} {g cap : Nat} (h : NRow w (.slice (some ⟨g, 0, none⟩) l.length cap) l) (j : Nat) (hj : j < l.length) : w.cell? ⟨g, j, none⟩ = some l[j] := by
  rw [ownsRow_cell h j (by omega)]; simp [hj]
end
end Go.Proofs.Ytcckhngbdoiikaa

namespace Go.Proofs.Ytcckhngbdoiikaa
open Go.RowKit Go.Deep
set_option linter.unusedVariables false

/-- Every entry of a row is -1 or a node's number. -/
def RowOk (n : Nat) (row : List Int) : Prop := ∀ to ∈ row, to = -1 ∨ (0 ≤ to ∧ to < (n : Int))

set_option maxHeartbeats 1600000 in
theorem leads_any (rv mv : Value) (row : List Int) (marked : List Bool) (w : World) (hr : IRow w rv row) (hm : BRow w mv marked) (hl : row.length ≤ 1000) (hml : marked.length ≤ 1000) (hok : RowOk marked.length row) :
    Calls Try.prog 143 #[rv, mv] w fun e w' => e = .returned (.bool (leadsF row marked)) ∧ w' = w := by
  obtain ⟨ad, cap, rfl, hrow⟩ := hr.form
  obtain ⟨md, mcap, rfl, hmrow⟩ := hm.form
  generalize hF : leadsF row marked = F
  unfold leadsF at hF
  have HF := hide hF
  clear hF
  go_enter Try.func143, Try.ntmps143
  go_wp2_with fail
  go_loopg [9] row.length (fun g i wr => ∃ k : Nat, k ≤ row.length ∧ g = row.length - k ∧ i = .int .i64 (k : Int) ∧ wr = w ∧ (row.drop k).any (fun to => to != -1 && marked.getD to.toNat false) = F)
  case atStart => exact ⟨0, by omega, rfl, rfl, rfl, by simpa using HF.out⟩
  case round =>
    obtain ⟨k, hk, rfl, rfl, rfl, hfr⟩ := hrel
    clear HF
    by_cases hlt : k < row.length
    · have e0 : decide ((k : Int) < (row.length : Int)) = true := by simp; omega
      rcases hrow with h0 | ⟨g, rfl⟩
      · omega
      have r0 := hr.cell k hlt
      have i0 : (0 : Int) ≤ (k : Int) := by omega
      have i1 : (k : Int) < (row.length : Int) := by omega
      rw [List.drop_eq_getElem_cons hlt, List.any_cons] at hfr
      have hto := hok row[k] (List.getElem_mem hlt)
      generalize row[k] = to at r0 hfr hto
      by_cases hn : to = -1
      · subst hn
        have HFR := hide hfr
        clear hfr hto
        go_wp2_with fail
        go_roundg (row.length - (k + 1))
        case measure => omega
        case rel => exact ⟨k + 1, by omega, rfl, by go_num, rfl, by simpa using HFR.out⟩
      · have e1 : (to != -1) = true := by simp [hn]
        obtain ⟨j, rfl⟩ : ∃ j : Nat, to = (j : Int) := ⟨to.toNat, by omega⟩
        have hj : j < marked.length := by omega
        rcases hmrow with h0 | ⟨mg, rfl⟩
        · omega
        have m0 := hm.cell j hj
        have j0 : (0 : Int) ≤ (j : Int) := by omega
        have j1 : (j : Int) < (marked.length : Int) := by omega
        have hgd : marked.getD j false = marked[j] := by simp [hj]
        simp only [Int.toNat_natCast, hgd, e1, Bool.true_and] at hfr
        cases hb : marked[j] with
        | true =>
          rw [hb] at hfr m0
          have hfe : F = true := by simpa using hfr.symm
          subst hfe
          clear hfr hgd hb hto hn
          go_wp2_with fail
          go_ret
          exact ⟨rfl, rfl⟩
        | false =>
          rw [hb] at hfr m0
          have HFR := hide hfr
          clear hfr hgd hb hto hn
          go_wp2_with fail
          go_roundg (row.length - (k + 1))
          case measure => omega
          case rel => exact ⟨k + 1, by omega, rfl, by go_num, rfl, by simpa using HFR.out⟩
    · have e0 : decide ((k : Int) < (row.length : Int)) = false := by simp; omega
      rw [List.drop_of_length_le (by omega)] at hfr
      have hfe : F = false := by simpa using hfr.symm
      subst hfe
      clear hfr
      go_wp2_with fail
      go_ret
      exact ⟨rfl, rfl⟩
end Go.Proofs.Ytcckhngbdoiikaa

namespace Go.Proofs.Ytcckhngbdoiikaa
open Go.RowKit Go.Deep
set_option linter.unusedVariables false

theorem SetRow.below {w w' : World} {v : Value} {l : List PSet} (h : SetRow w v l) (k : Below w.heap.size w w') : SetRow w' v l := ownsRow_kept (ex := fun _ => False) h (Kept.ofBelow k) (fun _ _ e => e)

set_option maxHeartbeats 1600000 in
theorem find_any (v : Value) (l : List PSet) (s : PSet) (w : World) (h : SetRow w v l) (hl : l.length ≤ 1000) :
    Calls Try.prog 112 #[v, setV s] w fun e w' => e = .returned (.int .i64 (findF l s)) ∧ Below w.heap.size w w' := by
  obtain ⟨_, ad, cap, rfl, hrow⟩ := ownsRow_form h
  unfold findF
  cases he : s.isEmpty with
  | true =>
    rw [if_pos rfl]
    go_enter Try.func112, Try.ntmps112
    go_wp2_with fail
    refine (empty_any s _).mono ?_
    rintro e w1 ⟨rfl, hb1⟩
    rw [he]
    go_wp2_with fail
    go_ret
    exact ⟨rfl, (Below1 w _).trans (hb1.mono (by simp))⟩
  | false =>
    rw [if_neg (by simp)]
    generalize hF : idxF l s = F
    have HF := hide hF
    have HR := hide h
    clear hF h
    go_enter Try.func112, Try.ntmps112
    go_wp2_with fail
    refine (empty_any s _).mono ?_
    rintro e w1 ⟨rfl, hb1⟩
    rw [he]
    have HB : Hid (Below w.heap.size w w1 ∧ Blk w1 w.heap.size (setC s) 148) := ⟨(Below1 w _).trans (hb1.mono (by simp)), (Blk.new w _ _).below hb1⟩
    clear hb1
    go_wp2_with fail
    go_loopg [11] l.length (fun g i wr => ∃ k : Nat, k ≤ l.length ∧ g = l.length - k ∧ i = .int .i64 (k : Int) ∧
      Below w.heap.size w wr ∧ Blk wr w.heap.size (setC s) 148 ∧ k + idxF (l.drop k) s = F)
    case atStart =>
      obtain ⟨q1, q2⟩ := HB.out
      exact ⟨0, by omega, rfl, rfl, q1, q2, by simpa using HF.out⟩
    case round =>
      obtain ⟨k, hk, rfl, rfl, hb, hS, hfr⟩ := hrel
      clear HB HF
      by_cases hlt : k < l.length
      · have e0 : decide ((k : Int) < (l.length : Int)) = true := by simp; omega
        rcases hrow with ⟨rfl, h0⟩ | ⟨fb, cur, rfl, _⟩
        · omega
        have hRw := HR.out.below hb
        have r0 : wr.cell? ⟨fb, k * 2, none⟩ = some (.int .u64 (l[k].lo.toNat : Int)) := by rw [ownsRow_cell hRw _ (by omega), setsC_get0 _ k hlt]
        have r1 : wr.cell? ⟨fb, k * 2 + 1, none⟩ = some (.int .u64 (l[k].hi.toNat : Int)) := by rw [ownsRow_cell hRw _ (by omega), setsC_get1 _ k hlt]
        have i0 : (0 : Int) ≤ (k : Int) := by omega
        have i1 : (k : Int) < (l.length : Int) := by omega
        have s0 : wr.cell? ⟨w.heap.size, 0, none⟩ = some (.int .u64 (s.lo.toNat : Int)) := hS.cell 0
        have s1 : wr.cell? ⟨w.heap.size, 1, none⟩ = some (.int .u64 (s.hi.toNat : Int)) := hS.cell 1
        have zs0 : w.heap.size < wr.heap.size := hS.lt
        have HH : Hid (Below w.heap.size w wr ∧ Blk wr w.heap.size (setC s) 148 ∧ k + idxF (l.drop k) s = F) := ⟨hb, hS, hfr⟩
        clear hb hS hRw hfr
        cases hb1 : ((l[k].lo.toNat : Int) == (s.lo.toNat : Int)) with
        | false =>
          have HN := hide (PSet.ne_lo hb1)
          go_wp2_with fail
          go_roundg (l.length - (k + 1))
          case measure => omega
          case rel =>
            obtain ⟨hb, hS, hfr⟩ := HH.out
            rw [idxF_drop l s k hlt, if_neg HN.out] at hfr
            exact ⟨k + 1, by omega, rfl, by go_num, hb.alloc (by omega) _, hS.alloc _, by omega⟩
        | true =>
          cases hb2 : ((l[k].hi.toNat : Int) == (s.hi.toNat : Int)) with
          | false =>
            have HN := hide (PSet.ne_hi hb2)
            go_wp2_with fail
            go_roundg (l.length - (k + 1))
            case measure => omega
            case rel =>
              obtain ⟨hb, hS, hfr⟩ := HH.out
              rw [idxF_drop l s k hlt, if_neg HN.out] at hfr
              exact ⟨k + 1, by omega, rfl, by go_num, hb.alloc (by omega) _, hS.alloc _, by omega⟩
          | true =>
            have hN := PSet.eq_of hb1 hb2
            have hfe : F = k := by
              have hfr := HH.out.2.2
              rw [idxF_drop l s k hlt, if_pos hN] at hfr
              omega
            subst hfe
            clear hN
            go_wp2_with fail
            go_ret
            exact ⟨rfl, HH.out.1.alloc (by omega) _⟩
      · have e0 : decide ((k : Int) < (l.length : Int)) = false := by simp; omega
        rw [List.drop_of_length_le (by omega)] at hfr
        have hfe : F = l.length := by simp [idxF] at hfr; omega
        subst hfe
        clear hfr
        go_wp2_with fail
        go_ret
        exact ⟨rfl, hb⟩
end Go.Proofs.Ytcckhngbdoiikaa

namespace Go.Proofs.Ytcckhngbdoiikaa
open Go.RowKit Go.Deep
set_option linter.unusedVariables false

theorem afterFrom_append (s : PSet) : ∀ (l m : List PSet) (k : Nat) (acc : PSet), afterFrom s k (l ++ m) acc = afterFrom s (k + l.length) m (afterFrom s k l acc)
  | [], m, k, acc => by simp [afterFrom]
  | f :: r, m, k, acc => by
    simp only [List.cons_append, afterFrom, List.length_cons]
    rw [afterFrom_append s r m (k + 1), show k + 1 + r.length = k + (r.length + 1) by omega]
def afterAt (s : PSet) (l : List PSet) (k : Nat) : PSet := afterFrom s 0 (l.take k) PSet.none
theorem afterAt_step (s : PSet) (l : List PSet) (k : Nat) (h : k < l.length) : afterAt s l (k + 1) = if s.has k then (afterAt s l k).or l[k] else afterAt s l k := by
  unfold afterAt
  have hk : (l.take k).length = k := by rw [List.length_take]; omega
  rw [List.take_succ_eq_append_getElem h, afterFrom_append, hk, Nat.zero_add]
  simp [afterFrom]
theorem afterAt_all (s : PSet) (l : List PSet) (k : Nat) (h : l.length ≤ k) : afterAt s l k = afterFrom s 0 l PSet.none := by
  unfold afterAt; rw [List.take_of_length_le h]

theorem Try.infoS : (Try.prog.info? 148).map (·.size) = some 2 := by kernel_rfl
theorem resultsSet {fn : Func} {p : Tmp} (h : fn.results = #[.cell p 148]) {q : PSet} (tmps : Array Value) {w : World} {g : Nat}
    (hp : tmps.getD p undef = .pointer (some ⟨g, 0, none⟩)) (hg : Blk w g (setC q) 148) : (results fn tmps).run Try.prog w = .ok (setV q) w :=
  results_cell_row h tmps w g 148 _ (0, 0) _ hp hg Try.underlying148 rfl Try.infoS
theorem set0 : setC PSet.none = #[.int .u64 0, .int .u64 0] := rfl

set_option maxHeartbeats 1600000 in
theorem after_any (R : RulesT) (gb : Nat) (O : Nat → Prop) (fv lv : Value) (s : PSet) (w : World) (h : RulesAt w gb O R fv lv) (hl : R.follow.length ≤ 1000) :
    Calls Try.prog 110 #[.pointer (some ⟨gb, 0, none⟩), setV s] w fun e w' =>
      e = .returned (setV (R.after s)) ∧ Below w.heap.size w w' := by
  obtain ⟨_, ad, cap, rfl, hrow⟩ := ownsRow_form h.fol
  have cg : w.cell? ⟨gb, 514, none⟩ = some (.slice ad R.follow.length cap) := by rw [h.blk.cell]; exact rulesC_514 _ _ _ _
  have hgb := h.blk.lt
  have hgb1 : gb < w.heap.size + 1 := by omega
  have hgb2 : gb < w.heap.size + 1 + 1 := by omega
  go_enter Try.func110, Try.ntmps110
  go_wp2_with fail
  go_loopg [14] R.follow.length (fun g i wr => ∃ k : Nat, k ≤ R.follow.length ∧ g = R.follow.length - k ∧ i = .int .i64 (k : Int) ∧
    Below w.heap.size w wr ∧ Blk wr w.heap.size (setC s) 148 ∧ Blk wr (w.heap.size + 1) (setC PSet.none) 148 ∧ Blk wr (w.heap.size + 1 + 1) (setC (afterAt s R.follow k)) 148)
  case atStart =>
    refine ⟨0, by omega, rfl, rfl, Below3 _ _ _ _, ((Blk.new w _ _).alloc _).alloc _, ?_, ?_⟩
    · exact (Blk.at1 w _ _ _).alloc _
    · exact Blk.at2 w _ _ _ _
  case round =>
    obtain ⟨k, hk, rfl, rfl, hb, hS, hZ, hA⟩ := hrel
    by_cases hlt : k < R.follow.length
    · have e0 : decide ((k : Int) < (R.follow.length : Int)) = true := by simp; omega
      rcases hrow with ⟨rfl, h0⟩ | ⟨fb, cur, rfl, _⟩
      · omega
      have hRw := h.below hb
      have r0 : wr.cell? ⟨fb, k * 2, none⟩ = some (.int .u64 (R.follow[k].lo.toNat : Int)) := by rw [ownsRow_cell hRw.fol _ (by omega), setsC_get0 _ k hlt]
      have r1 : wr.cell? ⟨fb, k * 2 + 1, none⟩ = some (.int .u64 (R.follow[k].hi.toNat : Int)) := by rw [ownsRow_cell hRw.fol _ (by omega), setsC_get1 _ k hlt]
      have i0 : (0 : Int) ≤ (k : Int) := by omega
      have i1 : (k : Int) < (R.follow.length : Int) := by omega
      have s0 : wr.cell? ⟨w.heap.size, 0, none⟩ = some (.int .u64 (s.lo.toNat : Int)) := hS.cell 0
      have s1 : wr.cell? ⟨w.heap.size, 1, none⟩ = some (.int .u64 (s.hi.toNat : Int)) := hS.cell 1
      have zs : w.heap.size + 1 + 1 < wr.heap.size := hA.lt
      have zs0 : w.heap.size < wr.heap.size := by omega
      have HH : Hid (Below w.heap.size w wr ∧ Blk wr w.heap.size (setC s) 148 ∧ Blk wr (w.heap.size + 1) (setC PSet.none) 148 ∧ Blk wr (w.heap.size + 1 + 1) (setC (afterAt s R.follow k)) 148) := ⟨hb, hS, hZ, hA⟩
      have HR := hide h
      clear hb hS hZ hA hRw h cg
      go_wp2_with fail
      refine (has_any s k (by omega) _).mono ?_
      rintro e w1 ⟨rfl, hb1⟩
      obtain ⟨hb, hS, hZ, hA⟩ := HH.out
      have hS1 := (hS.alloc (.cells (setC R.follow[k]) 148)).below hb1
      have hZ1 := (hZ.alloc (.cells (setC R.follow[k]) 148)).below hb1
      have hA1 := (hA.alloc (.cells (setC R.follow[k]) 148)).below hb1
      have hF1 := (Blk.new wr (setC R.follow[k]) 148).below hb1
      have hbb := (hb.alloc (by omega) (.cells (setC R.follow[k]) 148)).trans (hb1.mono (by simp; omega))
      clear hb hS hZ hA HH
      cases hh : s.has k with
      | false =>
        have HH : Hid (Below w.heap.size w w1 ∧ Blk w1 w.heap.size (setC s) 148 ∧ Blk w1 (w.heap.size + 1) (setC PSet.none) 148 ∧ Blk w1 (w.heap.size + 1 + 1) (setC (afterAt s R.follow k)) 148) := ⟨hbb, hS1, hZ1, hA1⟩
        have HF := hide hh
        clear hbb hS1 hZ1 hA1 hF1 hb1 hh
        go_wp2_with fail
        go_roundg (R.follow.length - (k + 1))
        case measure => omega
        case rel =>
          obtain ⟨q1, q2, q3, q4⟩ := HH.out
          exact ⟨k + 1, by omega, rfl, by go_num, q1, q2, q3, by rw [afterAt_step s _ k hlt, if_neg (by simp [HF.out])]; exact q4⟩
      | true =>
        have a0 : w1.cell? ⟨w.heap.size + 1 + 1, 0, none⟩ = some (.int .u64 ((afterAt s R.follow k).lo.toNat : Int)) := hA1.cell 0
        have a1 : w1.cell? ⟨w.heap.size + 1 + 1, 1, none⟩ = some (.int .u64 ((afterAt s R.follow k).hi.toNat : Int)) := hA1.cell 1
        have f0 : w1.cell? ⟨wr.heap.size, 0, none⟩ = some (.int .u64 (R.follow[k].lo.toNat : Int)) := hF1.cell 0
        have f1 : w1.cell? ⟨wr.heap.size, 1, none⟩ = some (.int .u64 (R.follow[k].hi.toNat : Int)) := hF1.cell 1
        have HH : Hid (Below w.heap.size w w1 ∧ Blk w1 w.heap.size (setC s) 148 ∧ Blk w1 (w.heap.size + 1) (setC PSet.none) 148 ∧ Blk w1 (w.heap.size + 1 + 1) (setC (afterAt s R.follow k)) 148) := ⟨hbb, hS1, hZ1, hA1⟩
        have HF := hide hh
        clear hbb hS1 hZ1 hA1 hF1 hb1 hh
        go_wp2_with fail
        refine (or_any (afterAt s R.follow k) R.follow[k] _).mono ?_
        rintro e w2 ⟨rfl, hb2⟩
        obtain ⟨q1, q2, q3, q4⟩ := HH.out
        have q4' := q4.below hb2
        have g0 := q4'.cell 0
        have g1 := q4'.cell 1
        have gf0 := q4'.frozen 0
        have gf1 := q4'.frozen 1
        simp only [List.getElem?_toArray, List.getElem?_cons_zero, List.getElem?_cons_succ] at g0 g1
        have HH2 : Hid (Below w.heap.size w w2 ∧ Blk w2 w.heap.size (setC s) 148 ∧ Blk w2 (w.heap.size + 1) (setC PSet.none) 148 ∧ Blk w2 (w.heap.size + 1 + 1) (setC (afterAt s R.follow k)) 148) := ⟨q1.trans (hb2.mono (by have := q1.size; omega)), q2.below hb2, q3.below hb2, q4'⟩
        clear q1 q2 q3 q4 q4' hb2 HH
        go_wp2_with fail
        go_roundg (R.follow.length - (k + 1))
        case measure => omega
        case rel =>
          obtain ⟨q1, q2, q3, q4⟩ := HH2.out
          refine ⟨k + 1, by omega, rfl, by go_num, (q1.setCell (by simp; omega) _).setCell (by simp; omega) _, (q2.setOther (by simp; omega) _).setOther (by simp; omega) _, (q3.setOther (by simp) _).setOther (by simp) _, ?_⟩
          rw [afterAt_step s _ k hlt, if_pos HF.out]
          exact (q4.set 0 _).set 1 _
    · have e0 : decide ((k : Int) < (R.follow.length : Int)) = false := by simp; omega
      have a0 : wr.cell? ⟨w.heap.size + 1 + 1, 0, none⟩ = some (.int .u64 ((afterAt s R.follow k).lo.toNat : Int)) := hA.cell 0
      have a1 : wr.cell? ⟨w.heap.size + 1 + 1, 1, none⟩ = some (.int .u64 ((afterAt s R.follow k).hi.toNat : Int)) := hA.cell 1
      have z0 : wr.cell? ⟨w.heap.size + 1, 0, none⟩ = some (.int .u64 0) := hZ.cell 0
      have z1 : wr.cell? ⟨w.heap.size + 1, 1, none⟩ = some (.int .u64 0) := hZ.cell 1
      have zf0 := hZ.frozen 0
      have zf1 := hZ.frozen 1
      have HA := hide (afterAt_all s R.follow k (by omega))
      go_wp2_with fail
      have e9 : R.after s = afterAt s R.follow k := HA.out.symm
      rw [e9]
      exact bodyPost_ret (resultsSet Try.results110 _ rfl ((hZ.set 0 _).set 1 _)) rfl ⟨rfl, (hb.setCell (by simp) _).setCell (by simp) _⟩
end Go.Proofs.Ytcckhngbdoiikaa
