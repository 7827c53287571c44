import Derived.Test.YtcckhngbdoiikaaN13
import Derived.Test.YtcckhngbdoiikaaN02
import Derived.Deep.RegionHeld3
import Derived.Deep.AppendLies

namespace Go.Proofs.Ytcckhngbdoiikaa
open Go.RowKit Go.Deep
set_option linter.unusedVariables false

/-- The cells of a list of sets. -/
def setsC : List PSet → List Value
  | [] => []
  | s :: r => .int .u64 (s.lo.toNat : Int) :: .int .u64 (s.hi.toNat : Int) :: setsC r
theorem setsC_length : ∀ l : List PSet, (setsC l).length = l.length * 2
  | [] => rfl
  | s :: r => by simp [setsC, setsC_length r]; omega
theorem setsC_append : ∀ l m : List PSet, setsC (l ++ m) = setsC l ++ setsC m
  | [], m => rfl
  | s :: r, m => by simp [setsC, setsC_append r m]
theorem setsC_get0 : ∀ (l : List PSet) (k : Nat) (h : k < l.length), (setsC l)[k * 2]? = some (.int .u64 (l[k].lo.toNat : Int))
  | s :: r, 0, _ => rfl
  | s :: r, k + 1, h => by
    rw [show (k + 1) * 2 = k * 2 + 1 + 1 by omega]
    simp only [setsC, List.getElem?_cons_succ, List.getElem_cons_succ]
    exact setsC_get0 r k (by simpa using h)
theorem setsC_get1 : ∀ (l : List PSet) (k : Nat) (h : k < l.length), (setsC l)[k * 2 + 1]? = some (.int .u64 (l[k].hi.toNat : Int))
  | s :: r, 0, _ => rfl
  | s :: r, k + 1, h => by
    rw [show (k + 1) * 2 + 1 = k * 2 + 1 + 1 + 1 by omega]
    simp only [setsC, List.getElem?_cons_succ, List.getElem_cons_succ]
    exact setsC_get1 r k (by simpa using h)
theorem setsC_set : ∀ (l : List PSet) (k : Nat) (s : PSet), ((setsC l).set (k * 2) (.int .u64 (s.lo.toNat : Int))).set (k * 2 + 1) (.int .u64 (s.hi.toNat : Int)) = setsC (l.set k s)
  | [], k, s => by simp [setsC]
  | t :: r, 0, s => by simp [setsC]
  | t :: r, k + 1, s => by
    rw [show (k + 1) * 2 = k * 2 + 1 + 1 by omega]
    simp only [setsC, List.set_cons_succ]
    rw [setsC_set r k s]

/-- The cells of the rules' struct. -/
def rulesC (al : Nat → PSet) (f : PSet) (fv lv : Value) : Array Value :=
  (setsC ((List.range 256).map al) ++ [.int .u64 (f.lo.toNat : Int), .int .u64 (f.hi.toNat : Int), fv, lv]).toArray
theorem allows_length (al : Nat → PSet) : (setsC ((List.range 256).map al)).length = 512 := by simp [setsC_length]
theorem zeroRules : Try.zeroCells152 = rulesC (fun _ => PSet.none) PSet.none (.slice none 0 0) (.slice none 0 0) := by kernel_rfl
section
variable (al : Nat → PSet) (f : PSet) (fv lv : Value)
theorem rulesC_get0 (b : Nat) (h : b < 256) : (rulesC al f fv lv)[b * 2]? = some (.int .u64 ((al b).lo.toNat : Int)) := by
  rw [rulesC, List.getElem?_toArray, List.getElem?_append_left (by rw [allows_length]; omega), setsC_get0 _ b (by simpa using h)]; simp
theorem rulesC_get1 (b : Nat) (h : b < 256) : (rulesC al f fv lv)[b * 2 + 1]? = some (.int .u64 ((al b).hi.toNat : Int)) := by
  rw [rulesC, List.getElem?_toArray, List.getElem?_append_left (by rw [allows_length]; omega), setsC_get1 _ b (by simpa using h)]; simp
theorem rulesC_512 : (rulesC al f fv lv)[512]? = some (.int .u64 (f.lo.toNat : Int)) := by
  rw [rulesC, List.getElem?_toArray, List.getElem?_append_right (by rw [allows_length]; omega), allows_length]; rfl
theorem rulesC_513 : (rulesC al f fv lv)[513]? = some (.int .u64 (f.hi.toNat : Int)) := by
  rw [rulesC, List.getElem?_toArray, List.getElem?_append_right (by rw [allows_length]; omega), allows_length]; rfl
theorem rulesC_514 : (rulesC al f fv lv)[514]? = some fv := by
  rw [rulesC, List.getElem?_toArray, List.getElem?_append_right (by rw [allows_length]; omega), allows_length]; rfl
theorem rulesC_515 : (rulesC al f fv lv)[515]? = some lv := by
  rw [rulesC, List.getElem?_toArray, List.getElem?_append_right (by rw [allows_length]; omega), allows_length]; rfl
theorem rulesC_setAllow (b : Nat) (h : b < 256) (s : PSet) :
    ((rulesC al f fv lv).setIfInBounds (b * 2) (.int .u64 (s.lo.toNat : Int))).setIfInBounds (b * 2 + 1) (.int .u64 (s.hi.toNat : Int)) = rulesC (fun j => if j = b then s else al j) f fv lv := by
  simp only [rulesC, List.setIfInBounds_toArray]
  rw [List.set_append_left _ _ (by rw [allows_length]; omega), List.set_append_left _ _ (by rw [List.length_set, allows_length]; omega), setsC_set]
  congr 3
  apply List.ext_getElem?
  intro j
  rw [List.getElem?_set]
  by_cases e : b = j
  · subst e; simp [h]
  · simp [e]
    by_cases hj : j < 256
    · simp [hj, show ¬ j = b from fun x => e x.symm]
    · simp [hj]
theorem rulesC_setFirst (s : PSet) :
    ((rulesC al f fv lv).setIfInBounds 512 (.int .u64 (s.lo.toNat : Int))).setIfInBounds 513 (.int .u64 (s.hi.toNat : Int)) = rulesC al s fv lv := by
  simp only [rulesC, List.setIfInBounds_toArray]
  rw [List.set_append_right _ _ (by rw [allows_length]; omega), List.set_append_right _ _ (by rw [allows_length]; omega), allows_length]; rfl
theorem rulesC_setFollow (v : Value) : (rulesC al f fv lv).setIfInBounds 514 v = rulesC al f v lv := by
  simp only [rulesC, List.setIfInBounds_toArray]
  rw [List.set_append_right _ _ (by rw [allows_length]; omega), allows_length]; rfl
theorem rulesC_setLast (v : Value) : (rulesC al f fv lv).setIfInBounds 515 v = rulesC al f fv v := by
  simp only [rulesC, List.setIfInBounds_toArray]
  rw [List.set_append_right _ _ (by rw [allows_length]; omega), allows_length]; rfl
end

/-- A slice of sets that the program has made: nil, or a row of its own from the block's beginning on. -/
def SetRow (w : World) (v : Value) (l : List PSet) : Prop := w.ownsRow 0 148 2 v l.length (setsC l)

/-- The rules' struct at block gb, and its two rows; O: the blocks that it owns. -/
structure RulesAt (w : World) (gb : Nat) (O : Nat → Prop) (R : RulesT) (fv lv : Value) : Prop where
  blk : Blk w gb (rulesC R.allow R.first fv lv) 152
  fol : SetRow w fv R.follow
  las : SetRow w lv R.last
  og : O gb
  ofo : ∀ k, fv.ownBlock = some k → O k ∧ k ≠ gb
  ola : ∀ k, lv.ownBlock = some k → O k ∧ k ≠ gb
  ne : ∀ k, fv.ownBlock = some k → lv.ownBlock ≠ some k
  olt : ∀ k, O k → k < w.heap.size

theorem ownsRow_kept {w w' : World} {ex : Nat → Prop} {base : Nat} {e : TypeId} {size : Nat} {v : Value} {n : Nat} {xs : List Value} (h : w.ownsRow base e size v n xs) (k : Kept ex w w') (he : ∀ b, v.ownBlock = some b → ¬ ex b) : w'.ownsRow base e size v n xs := by
  obtain ⟨h0, h | ⟨g, cap, cur, rfl, h2, h3, h4⟩⟩ := h
  · exact ⟨h0, .inl h⟩
  · have hlt : g < w.heap.size := by
      by_cases hb : g < w.heap.size
      · exact hb
      · rw [Array.getElem?_eq_none (by omega)] at h3; cases h3
    exact ⟨h0, .inr ⟨g, cap, cur, rfl, h2, by rw [k.block g hlt (he g rfl)]; exact h3, h4⟩⟩

theorem RulesAt.kept {w w' : World} {gb : Nat} {O ex : Nat → Prop} {R : RulesT} {fv lv : Value} (h : RulesAt w gb O R fv lv) (k : Kept ex w w') (he : ∀ b, O b → ¬ ex b) : RulesAt w' gb O R fv lv :=
  ⟨h.blk.kept k (he _ h.og), ownsRow_kept h.fol k (fun b hb => he b (h.ofo b hb).1), ownsRow_kept h.las k (fun b hb => he b (h.ola b hb).1), h.og, h.ofo, h.ola, h.ne, fun b hb => Nat.lt_of_lt_of_le (h.olt b hb) k.size⟩
theorem RulesAt.below {w w' : World} {gb : Nat} {O : Nat → Prop} {R : RulesT} {fv lv : Value} (h : RulesAt w gb O R fv lv) (k : Below w.heap.size w w') : RulesAt w' gb O R fv lv :=
  h.kept (ex := fun _ => False) (Kept.ofBelow k) (fun _ _ e => e)

/-- The form of an owned row that is not nil. -/
theorem ownsRow_form {w : World} {e : TypeId} {size : Nat} {v : Value} {n : Nat} {xs : List Value} (h : w.ownsRow 0 e size v n xs) :
    xs.length = n * size ∧ ∃ (ad : Option Addr) (cap : Nat), v = .slice ad n cap ∧ ((ad = none ∧ n = 0) ∨ ∃ g cur, ad = some ⟨g, 0, none⟩ ∧ Blk w g cur e ∧ n ≤ cap ∧ cap ≤ maxLen ∧ cur.size = cap * size ∧ cur.toList.take (n * size) = xs) := by
  obtain ⟨h0, ⟨rfl, rfl⟩ | ⟨g, cap, cur, rfl, _, h3, h4, h5, h6, h7⟩⟩ := h
  · exact ⟨h0, none, 0, rfl, .inl ⟨rfl, rfl⟩⟩
  · exact ⟨h0, some ⟨g, 0, none⟩, cap, rfl, .inr ⟨g, cur, rfl, h3, h4, h5, h6, h7⟩⟩
theorem ownsRow_mk {w : World} {e : TypeId} {size n cap g : Nat} {cur : Array Value} {xs : List Value} (h0 : xs.length = n * size) (hb : Blk w g cur e) (h1 : n ≤ cap) (h2 : cap ≤ maxLen) (h3 : cur.size = cap * size) (h4 : cur.toList.take (n * size) = xs) :
    w.ownsRow 0 e size (.slice (some ⟨g, 0, none⟩) n cap) n xs := ⟨h0, .inr ⟨g, cap, cur, rfl, Nat.zero_le _, hb, h1, h2, h3, h4⟩⟩
/-- A cell of it. -/
theorem ownsRow_cell {w : World} {e : TypeId} {size n cap g : Nat} {xs : List Value} (h : w.ownsRow 0 e size (.slice (some ⟨g, 0, none⟩) n cap) n xs) (j : Nat) (hj : j < n * size) : w.cell? ⟨g, j, none⟩ = xs[j]? := by
  obtain ⟨h0, ⟨h, _⟩ | ⟨g', cap', cur, e1, _, h3, h4, h5, h6, h7⟩⟩ := h
  · cases h
  · cases e1
    have : w.cell? ⟨g, j, none⟩ = cur[j]? := Blk.cell h3 j
    rw [this, ← h7, List.getElem?_take, if_pos hj]; simp
theorem ownsRow_frozen {w : World} {e : TypeId} {size n cap g : Nat} {xs : List Value} (h : w.ownsRow 0 e size (.slice (some ⟨g, 0, none⟩) n cap) n xs) (j : Nat) : w.frozen? ⟨g, j, none⟩ = false := by
  obtain ⟨h0, ⟨h, _⟩ | ⟨g', cap', cur, e1, _, h3, h4, h5, h6, h7⟩⟩ := h
  · cases h
  · cases e1; exact Blk.frozen h3 j
theorem ownsRow_set {w : World} {e : TypeId} {size n cap g : Nat} {xs : List Value} (h : w.ownsRow 0 e size (.slice (some ⟨g, 0, none⟩) n cap) n xs) (j : Nat) (v : Value) (hj : j < n * size) :
    (w.setCell ⟨g, j, none⟩ v).ownsRow 0 e size (.slice (some ⟨g, 0, none⟩) n cap) n (xs.set j v) := by
  obtain ⟨h0, ⟨h, _⟩ | ⟨g', cap', cur, e1, _, h3, h4, h5, h6, h7⟩⟩ := h
  · cases h
  · cases e1
    refine ownsRow_mk (by simpa using h0) (Blk.set h3 j v) h4 h5 (by simpa using h6) ?_
    rw [Array.toList_setIfInBounds, List.take_set, h7]

theorem ownsRow_setOther {w : World} {e : TypeId} {size : Nat} {v : Value} {n : Nat} {xs : List Value} (h : w.ownsRow 0 e size v n xs) {p : Addr} (hp : v.ownBlock ≠ some p.block) (u : Value) : (w.setCell p u).ownsRow 0 e size v n xs := by
  have hk : Kept (fun k => k = p.block) w (w.setCell p u) := Kept.setCell (ex := fun k => k = p.block) (p := p) (Kept.refl _ w) (fun _ => rfl) u
  exact ownsRow_kept h hk (fun b hb e => hp (e ▸ hb))
theorem RulesAt.drew {w : World} {gb : Nat} {O : Nat → Prop} {R : RulesT} {fv lv : Value} (h : RulesAt w gb O R fv lv) : RulesAt w.drew gb O R fv lv :=
  h.kept (ex := fun _ => False) (Kept.refl _ _).drew (fun _ _ e => e)
theorem RulesAt.drewN {w : World} {gb : Nat} {O : Nat → Prop} {R : RulesT} {fv lv : Value} (h : RulesAt w gb O R fv lv) (n : Nat) : RulesAt (w.drewN n) gb O R fv lv :=
  h.kept (ex := fun _ => False) ((Kept.refl _ _).drewN n) (fun _ _ e => e)
theorem RulesAt.alloc {w : World} {gb : Nat} {O : Nat → Prop} {R : RulesT} {fv lv : Value} (h : RulesAt w gb O R fv lv) (o : Obj) : RulesAt (w.alloc o) gb O R fv lv :=
  h.kept (ex := fun _ => False) ((Kept.refl _ _).alloc o) (fun _ _ e => e)
theorem RulesAt.setFollow {w : World} {gb fb cap : Nat} {O : Nat → Prop} {R : RulesT} {lv : Value} (h : RulesAt w gb O R (.slice (some ⟨fb, 0, none⟩) R.follow.length cap) lv) (k : Nat) (hk : k < R.follow.length) (s : PSet) :
    RulesAt ((w.setCell ⟨fb, k * 2, none⟩ (.int .u64 (s.lo.toNat : Int))).setCell ⟨fb, k * 2 + 1, none⟩ (.int .u64 (s.hi.toNat : Int))) gb O { R with follow := R.follow.set k s } (.slice (some ⟨fb, 0, none⟩) R.follow.length cap) lv := by
  have n1 := (h.ofo fb rfl).2
  refine ⟨(h.blk.setOther (Ne.symm n1) _).setOther (Ne.symm n1) _, ?_, ?_, h.og, h.ofo, h.ola, h.ne, fun b hb => by simpa using h.olt b hb⟩
  · have h1 := ownsRow_set (ownsRow_set h.fol (k * 2) (.int .u64 (s.lo.toNat : Int)) (by omega)) (k * 2 + 1) (.int .u64 (s.hi.toNat : Int)) (by omega)
    rw [setsC_set] at h1
    show World.ownsRow _ 0 148 2 _ (R.follow.set k s).length _
    rw [List.length_set]
    exact h1
  · exact ownsRow_setOther (ownsRow_setOther h.las (h.ne fb rfl) _) (h.ne fb rfl) _
theorem RulesAt.setAllow {w : World} {gb : Nat} {O : Nat → Prop} {R : RulesT} {fv lv : Value} (h : RulesAt w gb O R fv lv) (b : Nat) (hb : b < 256) (s : PSet) :
    RulesAt ((w.setCell ⟨gb, b * 2, none⟩ (.int .u64 (s.lo.toNat : Int))).setCell ⟨gb, b * 2 + 1, none⟩ (.int .u64 (s.hi.toNat : Int))) gb O { R with allow := fun j => if j = b then s else R.allow j } fv lv := by
  refine ⟨?_, ?_, ?_, h.og, h.ofo, h.ola, h.ne, fun b hb => by simpa using h.olt b hb⟩
  · have := (h.blk.set (b * 2) (.int .u64 (s.lo.toNat : Int))).set (b * 2 + 1) (.int .u64 (s.hi.toNat : Int))
    rw [rulesC_setAllow _ _ _ _ b hb s] at this
    exact this
  · exact ownsRow_setOther (ownsRow_setOther h.fol (fun e => (h.ofo _ e).2 rfl) _) (fun e => (h.ofo _ e).2 rfl) _
  · exact ownsRow_setOther (ownsRow_setOther h.las (fun e => (h.ola _ e).2 rfl) _) (fun e => (h.ola _ e).2 rfl) _
theorem RulesAt.setFirst {w : World} {gb : Nat} {O : Nat → Prop} {R : RulesT} {fv lv : Value} (h : RulesAt w gb O R fv lv) (s : PSet) :
    RulesAt ((w.setCell ⟨gb, 512, none⟩ (.int .u64 (s.lo.toNat : Int))).setCell ⟨gb, 513, none⟩ (.int .u64 (s.hi.toNat : Int))) gb O { R with first := s } fv lv := by
  refine ⟨?_, ?_, ?_, h.og, h.ofo, h.ola, h.ne, fun b hb => by simpa using h.olt b hb⟩
  · have := (h.blk.set 512 (.int .u64 (s.lo.toNat : Int))).set 513 (.int .u64 (s.hi.toNat : Int))
    rw [rulesC_setFirst] at this
    exact this
  · exact ownsRow_setOther (ownsRow_setOther h.fol (fun e => (h.ofo _ e).2 rfl) _) (fun e => (h.ofo _ e).2 rfl) _
  · exact ownsRow_setOther (ownsRow_setOther h.las (fun e => (h.ola _ e).2 rfl) _) (fun e => (h.ola _ e).2 rfl) _

end Go.Proofs.Ytcckhngbdoiikaa

namespace Go.Proofs.Ytcckhngbdoiikaa
open Go.RowKit Go.Deep
set_option linter.unusedVariables false

/-- The list while the loop goes. -/
def linkAt (a b : PSet) (l : List PSet) (k : Nat) : List PSet := linkFrom a b 0 (l.take k) ++ l.drop k
theorem linkAt_length (a b : PSet) (l : List PSet) (k : Nat) : (linkAt a b l k).length = l.length := by
  simp [linkAt, linkFrom_length]; omega
theorem linkAt_get (a b : PSet) (l : List PSet) (k : Nat) (h : k < l.length) : (linkAt a b l k)[k]? = some l[k] := by
  unfold linkAt
  have hlen : (linkFrom a b 0 (l.take k)).length = k := by rw [linkFrom_length, List.length_take]; omega
  rw [List.getElem?_append_right (by omega), hlen]; simp [h]
theorem linkAt_step (a b : PSet) (l : List PSet) (k : Nat) (h : k < l.length) :
    linkAt a b l (k + 1) = (linkAt a b l k).set k (if a.has k then l[k].or b else l[k]) := by
  unfold linkAt
  have hlen : (linkFrom a b 0 (l.take k)).length = k := by rw [linkFrom_length, List.length_take]; omega
  have hd : l.drop k = l[k] :: l.drop (k + 1) := List.drop_eq_getElem_cons h
  rw [List.take_succ_eq_append_getElem h, linkFrom_append, List.set_append_right _ _ (by omega), hlen, hd, Nat.sub_self, List.set_cons_zero, List.append_assoc]
  have hk : (l.take k).length = k := by rw [List.length_take]; omega
  rw [hk, Nat.zero_add]
  rfl
theorem linkAt_skip (a b : PSet) (l : List PSet) (k : Nat) (h : k < l.length) (hf : a.has k = false) : linkAt a b l (k + 1) = linkAt a b l k := by
  rw [linkAt_step a b l k h]
  apply List.ext_getElem?
  intro j
  rw [List.getElem?_set]
  by_cases e : k = j
  · subst e; rw [if_pos rfl, if_pos (by rw [linkAt_length]; exact h), linkAt_get a b l k h, if_neg (by simp [hf])]
  · simp [e]
theorem linkAt_all (a b : PSet) (l : List PSet) (k : Nat) (h : l.length ≤ k) : linkAt a b l k = linkFrom a b 0 l := by
  unfold linkAt; rw [List.take_of_length_le h, List.drop_of_length_le h, List.append_nil]

set_option maxHeartbeats 1600000 in
theorem link_any (R : RulesT) (gb : Nat) (O : Nat → Prop) (fv lv : Value) (a b : PSet) (w : World) (h : RulesAt w gb O R fv lv) (hl : R.follow.length ≤ 1000) :
    Calls Try.prog 160 #[.pointer (some ⟨gb, 0, none⟩), setV a, setV b] w fun e w' =>
      e = .returned (.tuple #[]) ∧ RulesAt w' gb O (R.link a b) fv lv ∧ Kept O w w' := by
  obtain ⟨_, ad, cap, rfl, hrow⟩ := ownsRow_form h.fol
  have cg : w.cell? ⟨gb, 514, none⟩ = some (.slice ad R.follow.length cap) := by rw [h.blk.cell]; exact rulesC_514 _ _ _ _
  have hgb := h.blk.lt
  go_enter Try.func160, Try.ntmps160
  go_wp2_with fail
  have hK : Kept O w w := Kept.refl _ _
  go_loopg [12] R.follow.length (fun g i wr => ∃ k : Nat, k ≤ R.follow.length ∧ g = R.follow.length - k ∧ i = .int .i64 (k : Int) ∧
    RulesAt wr gb O { R with follow := linkAt a b R.follow k } (.slice ad R.follow.length cap) lv ∧ Kept O w wr ∧ Blk wr w.heap.size (setC a) 148 ∧ Blk wr (w.heap.size + 1) (setC b) 148)
  case atStart =>
    refine ⟨0, by omega, rfl, rfl, ?_, (hK.alloc _).alloc _, (Blk.new w _ _).alloc _, ?_⟩
    · have e0 : linkAt a b R.follow 0 = R.follow := by simp [linkAt, linkFrom]
      rw [e0]
      exact h.below (Below2 _ _ _)
    · have := Blk.new (w.alloc (.cells (setC a) 148)) (setC b) 148
      simpa using this
  case round =>
    obtain ⟨k, hk, rfl, rfl, hR, hk1, hA, hB⟩ := hrel
    by_cases hlt : k < R.follow.length
    · have a0 : wr.cell? ⟨w.heap.size, 0, none⟩ = some (.int .u64 (a.lo.toNat : Int)) := hA.cell 0
      have a1 : wr.cell? ⟨w.heap.size, 1, none⟩ = some (.int .u64 (a.hi.toNat : Int)) := hA.cell 1
      have e0 : decide ((k : Int) < (R.follow.length : Int)) = true := by simp; omega
      rcases hrow with ⟨rfl, h0⟩ | ⟨fb, cur, rfl, _⟩
      · omega
      have HH : Hid (RulesAt wr gb O { R with follow := linkAt a b R.follow k } (.slice (some ⟨fb, 0, none⟩) R.follow.length cap) lv ∧ Kept O w wr ∧ Blk wr w.heap.size (setC a) 148 ∧ Blk wr (w.heap.size + 1) (setC b) 148) := ⟨hR, hk1, hA, hB⟩
      clear hR hk1 hA hB
      go_wp2_with fail
      refine (has_any a k (by omega) _).mono ?_
      rintro e w1 ⟨rfl, hb1⟩
      obtain ⟨hR, hk1, hA, hB⟩ := HH.out
      have hR1 := hR.below hb1
      have hk2 := hk1.below hb1
      have hA1 := hA.below hb1
      have hB1 := hB.below hb1
      clear hR hk1 hA hB HH
      cases hh : a.has k with
      | false =>
        have HH : Hid (RulesAt w1 gb O { R with follow := linkAt a b R.follow k } (.slice (some ⟨fb, 0, none⟩) R.follow.length cap) lv ∧ Kept O w w1 ∧ Blk w1 w.heap.size (setC a) 148 ∧ Blk w1 (w.heap.size + 1) (setC b) 148) := ⟨hR1, hk2, hA1, hB1⟩
        have HF := hide hh
        clear hR1 hk2 hA1 hB1 hb1 hh
        go_wp2_with fail
        go_roundg (R.follow.length - (k + 1))
        case measure => omega
        case rel =>
          obtain ⟨hR1, hk2, hA1, hB1⟩ := HH.out
          exact ⟨k + 1, by omega, rfl, by go_num, by rw [linkAt_skip a b _ k hlt HF.out]; exact hR1, hk2, hA1, hB1⟩
      | true =>
        have g0 : w1.cell? ⟨gb, 514, none⟩ = some (.slice (some ⟨fb, 0, none⟩) R.follow.length cap) := by rw [hR1.blk.cell]; exact rulesC_514 _ _ _ _
        have b0 : w1.cell? ⟨w.heap.size + 1, 0, none⟩ = some (.int .u64 (b.lo.toNat : Int)) := hB1.cell 0
        have b1 : w1.cell? ⟨w.heap.size + 1, 1, none⟩ = some (.int .u64 (b.hi.toNat : Int)) := hB1.cell 1
        have hL : (linkAt a b R.follow k)[k]? = some R.follow[k] := linkAt_get a b R.follow k hlt
        have hlen : (linkAt a b R.follow k).length = R.follow.length := linkAt_length a b R.follow k
        have hrow1 : w1.ownsRow 0 148 2 (.slice (some ⟨fb, 0, none⟩) R.follow.length cap) R.follow.length (setsC (linkAt a b R.follow k)) := by have := hR1.fol; unfold SetRow at this; simp only [hlen] at this; exact this
        have hg' : (linkAt a b R.follow k)[k]'(by rw [hlen]; exact hlt) = R.follow[k] := Option.some.inj ((List.getElem?_eq_getElem _).symm.trans hL)
        have r0 : w1.cell? ⟨fb, k * 2, none⟩ = some (.int .u64 (R.follow[k].lo.toNat : Int)) := by rw [ownsRow_cell hrow1 _ (by omega), setsC_get0 _ k (by rw [hlen]; exact hlt), hg']
        have r1 : w1.cell? ⟨fb, k * 2 + 1, none⟩ = some (.int .u64 (R.follow[k].hi.toNat : Int)) := by rw [ownsRow_cell hrow1 _ (by omega), setsC_get1 _ k (by rw [hlen]; exact hlt), hg']
        have fr0 := ownsRow_frozen hrow1 (k * 2)
        have fr1 := ownsRow_frozen hrow1 (k * 2 + 1)
        have i0 : (0 : Int) ≤ (k : Int) := by omega
        have i1 : (k : Int) < (R.follow.length : Int) := by omega
        have n1 : fb ≠ gb := (hR1.ofo fb rfl).2
        have hfbw : fb < w.heap.size := h.olt _ (hR1.ofo fb rfl).1
        have n2 : fb ≠ w.heap.size + 1 := by omega
        have z1 : gb < w1.heap.size := hR1.blk.lt
        have z2 : w.heap.size + 1 < w1.heap.size := hB1.lt
        have z3 : fb < w1.heap.size := hR1.olt _ (hR1.ofo fb rfl).1
        have HH : Hid (RulesAt w1 gb O { R with follow := linkAt a b R.follow k } (.slice (some ⟨fb, 0, none⟩) R.follow.length cap) lv ∧ Kept O w w1 ∧ Blk w1 w.heap.size (setC a) 148 ∧ Blk w1 (w.heap.size + 1) (setC b) 148) := ⟨hR1, hk2, hA1, hB1⟩
        have HL := hide hL
        have HROW := hide hrow1
        have HFol := hide hh
        have HLen := hide hlen
        clear hR1 hk2 hA1 hB1 hb1 hL hg' hrow1 hh hlen h cg a0 a1
        go_wp2_with fail
        go_region_with (go_at_call 140; refine (or_any R.follow[k] b _).mono ?_; rintro e w2 ⟨rfl, hb2⟩; have q0 := (hb2.cell (p := ⟨fb, k * 2, none⟩) z3).trans r0; have q1 := (hb2.cell (p := ⟨fb, k * 2 + 1, none⟩) z3).trans r1; have p0 := (hb2.frozen (p := ⟨fb, k * 2, none⟩) z3).trans fr0; have p1 := (hb2.frozen (p := ⟨fb, k * 2 + 1, none⟩) z3).trans fr1; have q2 := hb2.cell (p := ⟨gb, 514, none⟩) z1)
        all_goals
          go_wp2_with fail
          go_roundg (R.follow.length - (k + 1))
          case measure => omega
          case rel =>
            obtain ⟨hR1, hk2, hA1, hB1⟩ := HH.out
            have hR2 := (hR1.drew.below hb2)
            have hst := RulesAt.setFollow (R := { R with follow := linkAt a b R.follow k }) (by simpa [HLen.out] using hR2) k (by simpa [HLen.out] using hlt) (R.follow[k].or b)
            have e3 : linkAt a b R.follow (k + 1) = (linkAt a b R.follow k).set k (R.follow[k].or b) := by rw [linkAt_step a b _ k hlt, if_pos HFol.out]
            refine ⟨k + 1, by omega, rfl, by go_num, ?_, ?_, ?_, ?_⟩
            · rw [e3]; simpa [HLen.out] using hst
            · exact (((hk2.drew).below hb2).setCell (fun _ => (hR1.ofo fb rfl).1) _).setCell (fun _ => (hR1.ofo fb rfl).1) _
            · exact ((hA1.drew.below hb2).setOther (by simp; omega) _).setOther (by simp; omega) _
            · exact ((hB1.drew.below hb2).setOther (by simp; omega) _).setOther (by simp; omega) _
    · have e0 : decide ((k : Int) < (R.follow.length : Int)) = false := by simp; omega
      go_wp2_with fail
      go_end0
      have e3 := linkAt_all a b R.follow k (by omega)
      rw [e3] at hR
      exact ⟨rfl, hR, hk1⟩
end Go.Proofs.Ytcckhngbdoiikaa

namespace Go.Proofs.Ytcckhngbdoiikaa
open Go.RowKit Go.Deep
set_option linter.unusedVariables false

abbrev partC (p : PartT) : Array Value := #[.int .u64 (p.first.lo.toNat : Int), .int .u64 (p.first.hi.toNat : Int), .int .u64 (p.last.lo.toNat : Int), .int .u64 (p.last.hi.toNat : Int), .bool p.empty]
abbrev partV (p : PartT) : Value := .agg (partC p)

theorem Try.infoP : (Try.prog.info? 222).map (·.size) = some 5 := by kernel_rfl
theorem resultsPart {fn : Func} {p : Tmp} (h : fn.results = #[.cell p 222]) {q : PartT} (tmps : Array Value) {w : World} {g : Nat}
    (hp : tmps.getD p undef = .pointer (some ⟨g, 0, none⟩)) (hg : Blk w g (partC q) 222) : (results fn tmps).run Try.prog w = .ok (partV q) w :=
  results_cell_row h tmps w g 222 _ (0, 0) _ hp hg Try.underlying222 rfl Try.infoP
abbrev part0 : Array Value := #[.int .u64 0, .int .u64 0, .int .u64 0, .int .u64 0, .bool false]

set_option maxHeartbeats 1600000 in
theorem either_any (a b : PartT) (w : World) : Calls Try.prog 153 #[partV a, partV b] w fun e w' =>
    e = .returned (partV (eitherPart a b)) ∧ Below w.heap.size w w' := by
  obtain ⟨af, al, ae⟩ := a
  obtain ⟨bf, bl, be⟩ := b
  have hB0 : ∀ o1 o2 o3, Below w.heap.size w (((w.alloc o1).alloc o2).alloc o3) := Below3 w
  cases ae <;> cases be <;>
  · go_enter Try.func153, Try.ntmps153
    go_wp2_with fail
    refine (or_any af bf _).mono ?_
    rintro e w1 ⟨rfl, hb1⟩
    obtain ⟨hc1, hf1⟩ := bcell hb1
    have hz1 : w.heap.size + 2 < w1.heap.size := by have := hb1.size; simp at this; omega
    have y0 : w.heap.size < w1.heap.size := by omega
    have y1 : w.heap.size + 1 < w1.heap.size := by omega
    have y2 : w.heap.size + 1 + 1 < w1.heap.size := by omega
    go_wp2_with fail
    refine (or_any al bl _).mono ?_
    rintro e w2 ⟨rfl, hb2⟩
    obtain ⟨hc2, hf2⟩ := bcell hb2
    have hz2 : w1.heap.size < w2.heap.size := by have := hb2.size; simp at this; omega
    have x0 : w.heap.size < w2.heap.size := by omega
    have x1 : w.heap.size + 1 < w2.heap.size := by omega
    have x2 : w.heap.size + 1 + 1 < w2.heap.size := by omega
    go_wp2_with fail
    have hZ1 : Blk w1 (w.heap.size + 1 + 1) part0 222 := by
      have := (Blk.new ((w.alloc (.cells (partC ⟨af, al, _⟩) 222)).alloc (.cells (partC ⟨bf, bl, _⟩) 222)) part0 222).below hb1
      simpa using this
    have hZ2 := (hZ1.alloc _).below hb2
    have hBW := ((hB0 _ _ _).trans (hb1.mono (by simp; omega))).alloc (by omega) (.cells (setC (af.or bf)) 148)
    have hBX := hBW.trans (hb2.mono (by simp; omega))
    exact bodyPost_ret (resultsPart (q := eitherPart ⟨af, al, _⟩ ⟨bf, bl, _⟩) Try.results153 _ rfl ((((((hZ2.set 0 _).set 1 _).set 2 _).set 3 _).set 4 _).alloc _)) rfl
      ⟨rfl, (((((hBX.setCell (by simp; omega) _).setCell (by simp; omega) _).setCell (by simp; omega) _).setCell (by simp; omega) _).setCell (by simp; omega) _).alloc (by simp; omega) _⟩
end Go.Proofs.Ytcckhngbdoiikaa
