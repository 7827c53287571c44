import Derived.Test.YtmgpdaemcbbikaaBools
import Derived.Test.YtmgpdaemcbbikaaPlainRules
import Derived.Deep.RegionHeld3
import Derived.Deep.AppendLies
namespace Go.Proofs.Ytmgpdaemcbbikaa
open Go.RowKit Go.Deep
set_option linter.unusedVariables false

/-- The cells of a list of sets. -/
def setsC : List PSet → List Value
  | [] => []
  | s :: r => .int .u64 (s.lo.toNat : Int) :: .int .u64 (s.hi.toNat : Int) :: setsC r
theorem setsC_length : ∀ l : List PSet, (setsC l).length = l.length * 2
  | [] => rfl
  | s :: r => by simp [setsC, setsC_length r]; omega
theorem setsC_append : ∀ l m : List PSet, setsC (l ++ m) = setsC l ++ setsC m
  | [], m => rfl
  | s :: r, m => by simp [setsC, setsC_append r m]
theorem setsC_get0 : ∀ (l : List PSet) (k : Nat) (h : k < l.length), (setsC l)[k * 2]? = some (.int .u64 (l[k].lo.toNat : Int))
  | s :: r, 0, _ => rfl
  | s :: r, k + 1, h => by
    rw [show (k + 1) * 2 = k * 2 + 1 + 1 by omega]
    simp only [setsC, List.getElem?_cons_succ, List.getElem_cons_succ]
    exact setsC_get0 r k (by simpa using h)
theorem setsC_get1 : ∀ (l : List PSet) (k : Nat) (h : k < l.length), (setsC l)[k * 2 + 1]? = some (.int .u64 (l[k].hi.toNat : Int))
  | s :: r, 0, _ => rfl
  | s :: r, k + 1, h => by
    rw [show (k + 1) * 2 + 1 = k * 2 + 1 + 1 + 1 by omega]
    simp only [setsC, List.getElem?_cons_succ, List.getElem_cons_succ]
    exact setsC_get1 r k (by simpa using h)
theorem setsC_set : ∀ (l : List PSet) (k : Nat) (s : PSet), ((setsC l).set (k * 2) (.int .u64 (s.lo.toNat : Int))).set (k * 2 + 1) (.int .u64 (s.hi.toNat : Int)) = setsC (l.set k s)
  | [], k, s => by simp [setsC]
  | t :: r, 0, s => by simp [setsC]
  | t :: r, k + 1, s => by
    rw [show (k + 1) * 2 = k * 2 + 1 + 1 by omega]
    simp only [setsC, List.set_cons_succ]
    rw [setsC_set r k s]

/-- The cells of the rules' struct. -/
def rulesC (al : Nat → PSet) (f : PSet) (fv lv : Value) : Array Value :=
  (setsC ((List.range 256).map al) ++ [.int .u64 (f.lo.toNat : Int), .int .u64 (f.hi.toNat : Int), fv, lv]).toArray
theorem allows_length (al : Nat → PSet) : (setsC ((List.range 256).map al)).length = 512 := by simp [setsC_length]
theorem rulesC_size (al : Nat → PSet) (f : PSet) (fv lv : Value) : (rulesC al f fv lv).size = 516 := by
  simp [rulesC, setsC_length]
theorem zeroRules : Try.zeroCells143 = rulesC (fun _ => PSet.none) PSet.none (.slice none 0 0) (.slice none 0 0) := by kernel_rfl
section
variable (al : Nat → PSet) (f : PSet) (fv lv : Value)
theorem rulesC_get0 (b : Nat) (h : b < 256) : (rulesC al f fv lv)[b * 2]? = some (.int .u64 ((al b).lo.toNat : Int)) := by
  rw [rulesC, List.getElem?_toArray, List.getElem?_append_left (by rw [allows_length]; omega), setsC_get0 _ b (by simpa using h)]; simp
theorem rulesC_get1 (b : Nat) (h : b < 256) : (rulesC al f fv lv)[b * 2 + 1]? = some (.int .u64 ((al b).hi.toNat : Int)) := by
  rw [rulesC, List.getElem?_toArray, List.getElem?_append_left (by rw [allows_length]; omega), setsC_get1 _ b (by simpa using h)]; simp
theorem rulesC_512 : (rulesC al f fv lv)[512]? = some (.int .u64 (f.lo.toNat : Int)) := by
  rw [rulesC, List.getElem?_toArray, List.getElem?_append_right (by rw [allows_length]; omega), allows_length]; rfl
theorem rulesC_513 : (rulesC al f fv lv)[513]? = some (.int .u64 (f.hi.toNat : Int)) := by
  rw [rulesC, List.getElem?_toArray, List.getElem?_append_right (by rw [allows_length]; omega), allows_length]; rfl
theorem rulesC_514 : (rulesC al f fv lv)[514]? = some fv := by
  rw [rulesC, List.getElem?_toArray, List.getElem?_append_right (by rw [allows_length]; omega), allows_length]; rfl
theorem rulesC_515 : (rulesC al f fv lv)[515]? = some lv := by
  rw [rulesC, List.getElem?_toArray, List.getElem?_append_right (by rw [allows_length]; omega), allows_length]; rfl
theorem rulesC_setAllow (b : Nat) (h : b < 256) (s : PSet) :
    ((rulesC al f fv lv).setIfInBounds (b * 2) (.int .u64 (s.lo.toNat : Int))).setIfInBounds (b * 2 + 1) (.int .u64 (s.hi.toNat : Int)) = rulesC (fun j => if j = b then s else al j) f fv lv := by
  simp only [rulesC, List.setIfInBounds_toArray]
  rw [List.set_append_left _ _ (by rw [allows_length]; omega), List.set_append_left _ _ (by rw [List.length_set, allows_length]; omega), setsC_set]
  congr 3
  apply List.ext_getElem?
  intro j
  rw [List.getElem?_set]
  by_cases e : b = j
  · subst e; simp [h]
  · simp [e]
    by_cases hj : j < 256
    · simp [hj, show ¬ j = b from fun x => e x.symm]
    · simp [hj]
theorem rulesC_setFirst (s : PSet) :
    ((rulesC al f fv lv).setIfInBounds 512 (.int .u64 (s.lo.toNat : Int))).setIfInBounds 513 (.int .u64 (s.hi.toNat : Int)) = rulesC al s fv lv := by
  simp only [rulesC, List.setIfInBounds_toArray]
  rw [List.set_append_right _ _ (by rw [allows_length]; omega), List.set_append_right _ _ (by rw [allows_length]; omega), allows_length]; rfl
theorem rulesC_setFollow (v : Value) : (rulesC al f fv lv).setIfInBounds 514 v = rulesC al f v lv := by
  simp only [rulesC, List.setIfInBounds_toArray]
  rw [List.set_append_right _ _ (by rw [allows_length]; omega), allows_length]; rfl
theorem rulesC_setLast (v : Value) : (rulesC al f fv lv).setIfInBounds 515 v = rulesC al f fv v := by
  simp only [rulesC, List.setIfInBounds_toArray]
  rw [List.set_append_right _ _ (by rw [allows_length]; omega), allows_length]; rfl
end

/-- A slice of sets that the program has made: nil, or a row of its own from the block's beginning on. -/
def SetRow (w : World) (v : Value) (l : List PSet) : Prop := w.ownsRow 0 139 2 v l.length (setsC l)

/-- The rules' struct at block gb, and its two rows; O: the blocks that it owns. -/
structure RulesAt (w : World) (gb : Nat) (O : Nat → Prop) (R : RulesT) (fv lv : Value) : Prop where
  blk : Blk w gb (rulesC R.allow R.first fv lv) 143
  fol : SetRow w fv R.follow
  las : SetRow w lv R.last
  og : O gb
  ofo : ∀ k, fv.ownBlock = some k → O k ∧ k ≠ gb
  ola : ∀ k, lv.ownBlock = some k → O k ∧ k ≠ gb
  ne : ∀ k, fv.ownBlock = some k → lv.ownBlock ≠ some k
  olt : ∀ k, O k → k < w.heap.size

theorem ownsRow_kept {w w' : World} {ex : Nat → Prop} {base : Nat} {e : TypeId} {size : Nat} {v : Value} {n : Nat} {xs : List Value} (h : w.ownsRow base e size v n xs) (k : Kept ex w w') (he : ∀ b, v.ownBlock = some b → ¬ ex b) : w'.ownsRow base e size v n xs := by
  obtain ⟨h0, h | ⟨g, cap, cur, rfl, h2, h3, h4⟩⟩ := h
  · exact ⟨h0, .inl h⟩
  · have hlt : g < w.heap.size := by
      by_cases hb : g < w.heap.size
      · exact hb
      · rw [Array.getElem?_eq_none (by omega)] at h3; cases h3
    exact ⟨h0, .inr ⟨g, cap, cur, rfl, h2, by rw [k.block g hlt (he g rfl)]; exact h3, h4⟩⟩

theorem RulesAt.kept {w w' : World} {gb : Nat} {O ex : Nat → Prop} {R : RulesT} {fv lv : Value} (h : RulesAt w gb O R fv lv) (k : Kept ex w w') (he : ∀ b, O b → ¬ ex b) : RulesAt w' gb O R fv lv :=
  ⟨h.blk.kept k (he _ h.og), ownsRow_kept h.fol k (fun b hb => he b (h.ofo b hb).1), ownsRow_kept h.las k (fun b hb => he b (h.ola b hb).1), h.og, h.ofo, h.ola, h.ne, fun b hb => Nat.lt_of_lt_of_le (h.olt b hb) k.size⟩
theorem RulesAt.below {w w' : World} {gb : Nat} {O : Nat → Prop} {R : RulesT} {fv lv : Value} (h : RulesAt w gb O R fv lv) (k : Below w.heap.size w w') : RulesAt w' gb O R fv lv :=
  h.kept (ex := fun _ => False) (Kept.ofBelow k) (fun _ _ e => e)

/-- The form of an owned row that is not nil. -/
theorem ownsRow_form {w : World} {e : TypeId} {size : Nat} {v : Value} {n : Nat} {xs : List Value} (h : w.ownsRow 0 e size v n xs) :
    xs.length = n * size ∧ ∃ (ad : Option Addr) (cap : Nat), v = .slice ad n cap ∧ ((ad = none ∧ n = 0) ∨ ∃ g cur, ad = some ⟨g, 0, none⟩ ∧ Blk w g cur e ∧ n ≤ cap ∧ cap ≤ maxLen ∧ cur.size = cap * size ∧ cur.toList.take (n * size) = xs) := by
  obtain ⟨h0, ⟨rfl, rfl⟩ | ⟨g, cap, cur, rfl, _, h3, h4, h5, h6, h7⟩⟩ := h
  · exact ⟨h0, none, 0, rfl, .inl ⟨rfl, rfl⟩⟩
  · exact ⟨h0, some ⟨g, 0, none⟩, cap, rfl, .inr ⟨g, cur, rfl, h3, h4, h5, h6, h7⟩⟩
theorem ownsRow_mk {w : World} {e : TypeId} {size n cap g : Nat} {cur : Array Value} {xs : List Value} (h0 : xs.length = n * size) (hb : Blk w g cur e) (h1 : n ≤ cap) (h2 : cap ≤ maxLen) (h3 : cur.size = cap * size) (h4 : cur.toList.take (n * size) = xs) :
    w.ownsRow 0 e size (.slice (some ⟨g, 0, none⟩) n cap) n xs := ⟨h0, .inr ⟨g, cap, cur, rfl, Nat.zero_le _, hb, h1, h2, h3, h4⟩⟩
/-- A cell of it. -/
theorem ownsRow_cell {w : World} {e : TypeId} {size n cap g : Nat} {xs : List Value} (h : w.ownsRow 0 e size (.slice (some ⟨g, 0, none⟩) n cap) n xs) (j : Nat) (hj : j < n * size) : w.cell? ⟨g, j, none⟩ = xs[j]? := by
  obtain ⟨h0, ⟨h, _⟩ | ⟨g', cap', cur, e1, _, h3, h4, h5, h6, h7⟩⟩ := h
  · cases h
  · cases e1
    have : w.cell? ⟨g, j, none⟩ = cur[j]? := Blk.cell h3 j
    rw [this, ← h7, List.getElem?_take, if_pos hj]; simp
theorem ownsRow_frozen {w : World} {e : TypeId} {size n cap g : Nat} {xs : List Value} (h : w.ownsRow 0 e size (.slice (some ⟨g, 0, none⟩) n cap) n xs) (j : Nat) : w.frozen? ⟨g, j, none⟩ = false := by
  obtain ⟨h0, ⟨h, _⟩ | ⟨g', cap', cur, e1, _, h3, h4, h5, h6, h7⟩⟩ := h
  · cases h
  · cases e1; exact Blk.frozen h3 j
theorem ownsRow_set {w : World} {e : TypeId} {size n cap g : Nat} {xs : List Value} (h : w.ownsRow 0 e size (.slice (some ⟨g, 0, none⟩) n cap) n xs) (j : Nat) (v : Value) (hj : j < n * size) :
    (w.setCell ⟨g, j, none⟩ v).ownsRow 0 e size (.slice (some ⟨g, 0, none⟩) n cap) n (xs.set j v) := by
  obtain ⟨h0, ⟨h, _⟩ | ⟨g', cap', cur, e1, _, h3, h4, h5, h6, h7⟩⟩ := h
  · cases h
  · cases e1
    refine ownsRow_mk (by simpa using h0) (Blk.set h3 j v) h4 h5 (by simpa using h6) ?_
    rw [Array.toList_setIfInBounds, List.take_set, h7]

theorem ownsRow_setOther {w : World} {e : TypeId} {size : Nat} {v : Value} {n : Nat} {xs : List Value} (h : w.ownsRow 0 e size v n xs) {p : Addr} (hp : v.ownBlock ≠ some p.block) (u : Value) : (w.setCell p u).ownsRow 0 e size v n xs := by
  have hk : Kept (fun k => k = p.block) w (w.setCell p u) := Kept.setCell (ex := fun k => k = p.block) (p := p) (Kept.refl _ w) (fun _ => rfl) u
  exact ownsRow_kept h hk (fun b hb e => hp (e ▸ hb))
theorem RulesAt.drew {w : World} {gb : Nat} {O : Nat → Prop} {R : RulesT} {fv lv : Value} (h : RulesAt w gb O R fv lv) : RulesAt w.drew gb O R fv lv :=
  h.kept (ex := fun _ => False) (Kept.refl _ _).drew (fun _ _ e => e)
theorem RulesAt.drewN {w : World} {gb : Nat} {O : Nat → Prop} {R : RulesT} {fv lv : Value} (h : RulesAt w gb O R fv lv) (n : Nat) : RulesAt (w.drewN n) gb O R fv lv :=
  h.kept (ex := fun _ => False) ((Kept.refl _ _).drewN n) (fun _ _ e => e)
theorem RulesAt.alloc {w : World} {gb : Nat} {O : Nat → Prop} {R : RulesT} {fv lv : Value} (h : RulesAt w gb O R fv lv) (o : Obj) : RulesAt (w.alloc o) gb O R fv lv :=
  h.kept (ex := fun _ => False) ((Kept.refl _ _).alloc o) (fun _ _ e => e)
theorem RulesAt.setFollow {w : World} {gb fb cap : Nat} {O : Nat → Prop} {R : RulesT} {lv : Value} (h : RulesAt w gb O R (.slice (some ⟨fb, 0, none⟩) R.follow.length cap) lv) (k : Nat) (hk : k < R.follow.length) (s : PSet) :
    RulesAt ((w.setCell ⟨fb, k * 2, none⟩ (.int .u64 (s.lo.toNat : Int))).setCell ⟨fb, k * 2 + 1, none⟩ (.int .u64 (s.hi.toNat : Int))) gb O { R with follow := R.follow.set k s } (.slice (some ⟨fb, 0, none⟩) R.follow.length cap) lv := by
  have n1 := (h.ofo fb rfl).2
  refine ⟨(h.blk.setOther (Ne.symm n1) _).setOther (Ne.symm n1) _, ?_, ?_, h.og, h.ofo, h.ola, h.ne, fun b hb => by simpa using h.olt b hb⟩
  · have h1 := ownsRow_set (ownsRow_set h.fol (k * 2) (.int .u64 (s.lo.toNat : Int)) (by omega)) (k * 2 + 1) (.int .u64 (s.hi.toNat : Int)) (by omega)
    rw [setsC_set] at h1
    show World.ownsRow _ 0 139 2 _ (R.follow.set k s).length _
    rw [List.length_set]
    exact h1
  · exact ownsRow_setOther (ownsRow_setOther h.las (h.ne fb rfl) _) (h.ne fb rfl) _
theorem RulesAt.setAllow {w : World} {gb : Nat} {O : Nat → Prop} {R : RulesT} {fv lv : Value} (h : RulesAt w gb O R fv lv) (b : Nat) (hb : b < 256) (s : PSet) :
    RulesAt ((w.setCell ⟨gb, b * 2, none⟩ (.int .u64 (s.lo.toNat : Int))).setCell ⟨gb, b * 2 + 1, none⟩ (.int .u64 (s.hi.toNat : Int))) gb O { R with allow := fun j => if j = b then s else R.allow j } fv lv := by
  refine ⟨?_, ?_, ?_, h.og, h.ofo, h.ola, h.ne, fun b hb => by simpa using h.olt b hb⟩
  · have := (h.blk.set (b * 2) (.int .u64 (s.lo.toNat : Int))).set (b * 2 + 1) (.int .u64 (s.hi.toNat : Int))
    rw [rulesC_setAllow _ _ _ _ b hb s] at this
    exact this
  · exact ownsRow_setOther (ownsRow_setOther h.fol (fun e => (h.ofo _ e).2 rfl) _) (fun e => (h.ofo _ e).2 rfl) _
  · exact ownsRow_setOther (ownsRow_setOther h.las (fun e => (h.ola _ e).2 rfl) _) (fun e => (h.ola _ e).2 rfl) _
theorem RulesAt.setFirst {w : World} {gb : Nat} {O : Nat → Prop} {R : RulesT} {fv lv : Value} (h : RulesAt w gb O R fv lv) (s : PSet) :
    RulesAt ((w.setCell ⟨gb, 512, none⟩ (.int .u64 (s.lo.toNat : Int))).setCell ⟨gb, 513, none⟩ (.int .u64 (s.hi.toNat : Int))) gb O { R with first := s } fv lv := by
  refine ⟨?_, ?_, ?_, h.og, h.ofo, h.ola, h.ne, fun b hb => by simpa using h.olt b hb⟩
  · have := (h.blk.set 512 (.int .u64 (s.lo.toNat : Int))).set 513 (.int .u64 (s.hi.toNat : Int))
    rw [rulesC_setFirst] at this
    exact this
  · exact ownsRow_setOther (ownsRow_setOther h.fol (fun e => (h.ofo _ e).2 rfl) _) (fun e => (h.ofo _ e).2 rfl) _
  · exact ownsRow_setOther (ownsRow_setOther h.las (fun e => (h.ola _ e).2 rfl) _) (fun e => (h.ola _ e).2 rfl) _

end Go.Proofs.Ytmgpdaemcbbikaa
