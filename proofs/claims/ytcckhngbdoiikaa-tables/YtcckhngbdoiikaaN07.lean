import Derived.Test.YtcckhngbdoiikaaN06

namespace Go.Proofs.Ytcckhngbdoiikaa
set_option linter.unusedVariables false

def bplaces : List BT → Nat
  | [] => 0
  | t :: ts => t.places + bplaces ts
def bglushAll : List BT → RulesT → RulesT
  | [], R => R
  | t :: ts, R => bglushAll ts ((t.glush R).2.endRule (t.glush R).1)
def LastAll : List BT → Nat → List Nat → Nat → Prop
  | [], n, w, q => False
  | t :: ts, n, w, q => t.Last n w q ∨ LastAll ts (n + t.places) w q
def posAll : List BT → List Nat
  | [] => []
  | t :: ts => t.pos ++ posAll ts
theorem bplaces_snoc (t : BT) : ∀ ts : List BT, bplaces (ts ++ [t]) = bplaces ts + t.places
  | [] => by simp [bplaces]
  | x :: ts => by simp [bplaces, bplaces_snoc t ts]; omega
theorem lastAll_snoc (t : BT) : ∀ (ts : List BT) (n : Nat) (w : List Nat) (q : Nat), LastAll (ts ++ [t]) n w q ↔ (LastAll ts n w q ∨ t.Last (n + bplaces ts) w q)
  | [], n, w, q => by simp [LastAll, bplaces]
  | x :: ts, n, w, q => by
    simp only [List.cons_append, LastAll, bplaces]
    rw [lastAll_snoc t ts, show n + x.places + bplaces ts = n + (x.places + bplaces ts) by omega, or_assoc]
theorem posAll_len : ∀ ts : List BT, (posAll ts).length = bplaces ts
  | [] => rfl
  | t :: ts => by simp [posAll, bplaces, t.pos_len, posAll_len ts]
theorem lastAll_in : ∀ (ts : List BT) (n : Nat) (w : List Nat) (q : Nat), LastAll ts n w q → n ≤ q ∧ q < n + bplaces ts
  | [], n, w, q, h => h.elim
  | t :: ts, n, w, q, h => by
    simp only [bplaces]
    rcases h with h | h
    · have := t.last_in n w q h; omega
    · have := lastAll_in ts _ w q h; omega
/-- By where places stand. -/
theorem plastAll_iff : ∀ (ts : List BT) (n : Nat) (w : List Nat) (a : Nat), (∃ t ∈ ts, t.PLast w a) ↔ ∃ q, LastAll ts n w q ∧ (posAll ts).getD (q - n) 0 = a
  | [], n, w, a => by simp [LastAll]
  | t :: ts, n, w, a => by
    have k1 := t.plast_iff n w a
    have k2 := plastAll_iff ts (n + t.places) w a
    have e := t.pos_len
    constructor
    · rintro ⟨x, hx, h⟩
      rw [List.mem_cons] at hx
      rcases hx with rfl | hx
      · obtain ⟨q, h4, h5⟩ := k1.1 h
        have := x.last_in n w q h4
        exact ⟨q, .inl h4, by rw [posAll, getD_app_left (by omega)]; exact h5⟩
      · obtain ⟨q, h4, h5⟩ := k2.1 ⟨x, hx, h⟩
        have := lastAll_in ts _ w q h4
        exact ⟨q, .inr h4, by rw [posAll, getD_app_right e (by omega), show q - n - t.places = q - (n + t.places) by omega]; exact h5⟩
    · rintro ⟨q, h | h, h5⟩
      · have := t.last_in n w q h
        rw [posAll, getD_app_left (by omega)] at h5
        exact ⟨t, by simp, k1.2 ⟨q, h, h5⟩⟩
      · have := lastAll_in ts _ w q h
        rw [posAll, getD_app_right e (by omega), show q - n - t.places = q - (n + t.places) by omega] at h5
        obtain ⟨x, hx, hh⟩ := k2.2 ⟨q, h, h5⟩
        exact ⟨x, by simp [hx], hh⟩

/-- What holds of all rules so far. -/
structure BTInv (R : RulesT) (ts : List BT) : Prop where
  closed : Closed R
  first : ∀ p, R.first.has p = true → p < R.follow.length
  len : R.last.length = ts.length
  fol : R.follow.length = bplaces ts
  last : ∀ i p, (R.last.getD i PSet.none).has p = true → p < R.follow.length
  word : ∀ i, (h : i < ts.length) → ∀ w, w ≠ [] → ((∃ p q, R.first.has p = true ∧ (R.last.getD i PSet.none).has q = true ∧ Reads R.F R.A p w q) ↔ ts[i].Word w)
  ends : ∀ w q, (∃ p, R.first.has p = true ∧ Reads R.F R.A p w q) ↔ LastAll ts 0 w q
theorem BTInv.new : BTInv RulesT.new [] where
  closed := ⟨fun p q h => by simp [RulesT.F, RulesT.new, has_none] at h, fun p x h => by simp [RulesT.A, RulesT.new, has_none] at h⟩
  first := fun p h => by simp [RulesT.new, has_none] at h
  len := rfl
  fol := rfl
  last := fun i p h => by simp [RulesT.new, has_none] at h
  word := fun i h => by simp at h
  ends := fun w q => by simp [RulesT.new, has_none, LastAll]
theorem BTInv.step {R : RulesT} {ts : List BT} (h : BTInv R ts) (t : BT) (hn : R.follow.length + t.places ≤ 128) : BTInv ((t.glush R).2.endRule (t.glush R).1) (ts ++ [t]) := by
  have g := bglush_fits t R hn
  have c := fits_closed g h.closed
  have gw := bglush_word t R hn h.closed
  have gl := bglush_last t R hn h.closed
  have gn := bglush_len t R
  generalize (t.glush R).1 = P at *
  generalize (t.glush R).2 = R1 at *
  have l1 := g.le
  have eF : (R1.endRule P).F = R1.F := rfl
  have eA : (R1.endRule P).A = R1.A := rfl
  have ef : ∀ p, (R1.endRule P).first.has p = true ↔ (R.first.has p = true ∨ P.first.has p = true) := by
    intro p
    show ((R1.first.or P.first).has p = true) ↔ _
    rw [has_or, Bool.or_eq_true, g.firstR]
  have el : (R1.endRule P).last = R.last ++ [P.last] := by show R1.last ++ [P.last] = _; rw [g.lastR]
  have elo : ∀ i, i < ts.length → (R1.endRule P).last.getD i PSet.none = R.last.getD i PSet.none := fun i hi => by
    rw [el, List.getD_eq_getElem?_getD, List.getElem?_append_left (by rw [h.len]; exact hi), ← List.getD_eq_getElem?_getD]
  have eln : (R1.endRule P).last.getD ts.length PSet.none = P.last := by rw [el, ← h.len]; simp
  have hold : ∀ {p q : Nat} {w : List Nat}, p < R.follow.length → (Reads R1.F R1.A p w q ↔ Reads R.F R.A p w q) := fun hp => reads_old g h.closed.1 hp
  have hnew : ∀ {p q : Nat} {w : List Nat}, R.follow.length ≤ p → Reads R1.F R1.A p w q → R.follow.length ≤ q := fun hp hr =>
    Reads.inv (I := fun p => R.follow.length ≤ p) (fun p p' hi h => (g.newF p p' hi h).1) hp hr
  refine ⟨c, fun p hp => ?_, by rw [el]; simp [h.len], ?_, fun i p hp => ?_, fun i hi w hw => ?_, fun w q => ?_⟩
  · show p < R1.follow.length
    rcases (ef p).1 hp with e | e
    · have := h.first p e; omega
    · exact (g.first p e).2
  · show R1.follow.length = _
    rw [gn, bplaces_snoc, h.fol]
  · show p < R1.follow.length
    by_cases hi : i < ts.length
    · rw [elo i hi] at hp; have := h.last i p hp; omega
    · by_cases hi2 : i = ts.length
      · rw [hi2, eln] at hp; exact (g.last p hp).2
      · have := has_of_mem hp; rw [el] at this; simp [h.len] at this; omega
  · rw [eF, eA]
    by_cases hi2 : i < ts.length
    · rw [elo i hi2, List.getElem_append_left hi2, ← h.word i hi2 w hw]
      constructor
      · rintro ⟨p, q, h1, h2, h3⟩
        rcases (ef p).1 h1 with e | e
        · exact ⟨p, q, e, h2, (hold (h.first p e)).1 h3⟩
        · have := hnew (g.first p e).1 h3
          have := h.last i q h2
          omega
      · rintro ⟨p, q, h1, h2, h3⟩
        exact ⟨p, q, (ef p).2 (.inl h1), h2, (hold (h.first p h1)).2 h3⟩
    · have hi3 : i = ts.length := by simp at hi; omega
      subst hi3
      rw [eln]
      simp only [List.getElem_append_right (Nat.le_refl _), Nat.sub_self, List.getElem_cons_zero]
      rw [← gw w]
      constructor
      · rintro ⟨p, q, h1, h2, h3⟩
        rcases (ef p).1 h1 with e | e
        · have h3' := (hold (h.first p e)).1 h3
          have := Reads.inv (I := fun p => p < R.follow.length) (fun p p' hi h' => h.closed.1 _ _ h') (h.first p e) h3'
          have := g.last q h2
          omega
        · exact .inr ⟨p, q, e, h2, h3⟩
      · rintro (⟨e, _⟩ | ⟨p, q, h1, h2, h3⟩)
        · exact absurd e hw
        · exact ⟨p, q, (ef p).2 (.inr h1), h2, h3⟩
  · rw [eF, eA, lastAll_snoc, ← h.ends w q, Nat.zero_add, ← h.fol, ← gl w q]
    constructor
    · rintro ⟨p, h1, h2⟩
      rcases (ef p).1 h1 with e | e
      · exact .inl ⟨p, e, (hold (h.first p e)).1 h2⟩
      · exact .inr ⟨p, e, h2⟩
    · rintro (⟨p, h1, h2⟩ | ⟨p, h1, h2⟩)
      · exact ⟨p, (ef p).2 (.inl h1), (hold (h.first p h1)).2 h2⟩
      · exact ⟨p, (ef p).2 (.inr h1), h2⟩
theorem bglushAll_inv : ∀ (ts us : List BT) (R : RulesT), BTInv R us → R.follow.length + bplaces ts ≤ 128 → BTInv (bglushAll ts R) (us ++ ts)
  | [], us, R, h, _ => by rw [List.append_nil]; exact h
  | t :: ts, us, R, h, hn => by
    unfold bplaces at hn
    unfold bglushAll
    have := bglushAll_inv ts (us ++ [t]) _ (h.step t (by omega)) (by show (t.glush R).2.follow.length + _ ≤ 128; rw [bglush_len]; omega)
    simpa using this
theorem brules_inv (ts : List BT) (hn : bplaces ts ≤ 128) : BTInv (bglushAll ts RulesT.new) ts := by
  have := bglushAll_inv ts [] RulesT.new BTInv.new (by simp [RulesT.new]; exact hn)
  simpa using this
/-- The set of a text, by numbers of places. -/
theorem BTInv.set {R : RulesT} {ts : List BT} (h : BTInv R ts) {w : List Nat} (hw : w ≠ []) (q : Nat) : (setW R w).has q = true ↔ LastAll ts 0 w q := by
  rw [setW_has R q w hw, h.ends]
/-- Places stand apart. -/
def PosApart (ts : List BT) : Prop := (posAll ts).Nodup
theorem posAll_inj {ts : List BT} (h : PosApart ts) {i j : Nat} (hi : i < bplaces ts) (hj : j < bplaces ts) (e : (posAll ts).getD i 0 = (posAll ts).getD j 0) : i = j := by
  rw [← posAll_len] at hi hj
  simp only [List.getD_eq_getElem?_getD, List.getElem?_eq_getElem hi, List.getElem?_eq_getElem hj, Option.getD_some] at e
  exact (List.getElem_inj h).1 e
/-- Two texts have one set for munchref just where they have one for the program. -/
theorem set_same {R : RulesT} {ts : List BT} (h : BTInv R ts) (hp : PosApart ts) {v w : List Nat} (hv : v ≠ []) (hw : w ≠ []) : (∀ a, (∃ t ∈ ts, t.PLast v a) ↔ ∃ t ∈ ts, t.PLast w a) ↔ setW R v = setW R w := by
  constructor
  · intro e
    refine pset_ext fun q => ?_
    rw [Bool.eq_iff_iff, h.set hv, h.set hw]
    have key : ∀ v w : List Nat, (∀ a, (∃ t ∈ ts, t.PLast v a) → ∃ t ∈ ts, t.PLast w a) → LastAll ts 0 v q → LastAll ts 0 w q := by
      intro v w e h1
      have h2 := e _ ((plastAll_iff ts 0 v _).2 ⟨q, h1, rfl⟩)
      obtain ⟨q', h3, h4⟩ := (plastAll_iff ts 0 w _).1 h2
      have i1 := lastAll_in ts 0 v q h1
      have i2 := lastAll_in ts 0 w q' h3
      simp only [Nat.sub_zero, Nat.zero_add] at h4 i1 i2
      rw [← posAll_inj hp i2.2 i1.2 h4]
      exact h3
    exact ⟨key v w (fun a => (e a).1), key w v (fun a => (e a).2)⟩
  · intro e a
    rw [plastAll_iff ts 0, plastAll_iff ts 0]
    have : ∀ q, LastAll ts 0 v q ↔ LastAll ts 0 w q := fun q => by rw [← h.set hv, ← h.set hw, e]
    simp only [this]
theorem set_empty {R : RulesT} {ts : List BT} (h : BTInv R ts) {w : List Nat} (hw : w ≠ []) : (∀ a, ¬ ∃ t ∈ ts, t.PLast w a) ↔ (setW R w).isEmpty = true := by
  rw [isEmpty_iff]
  constructor
  · intro e q
    cases hh : (setW R w).has q with
    | false => rfl
    | true => exact absurd ((plastAll_iff ts 0 w _).2 ⟨q, (h.set hw q).1 hh, rfl⟩) (e _)
  · intro e a h1
    obtain ⟨q, h2, _⟩ := (plastAll_iff ts 0 w a).1 h1
    have := (h.set hw q).2 h2
    rw [e q] at this
    cases this

/-- The rule of a text. -/
def BTokIs (ts : List BT) (w : List Nat) (r : Int) : Prop := (r = -1 ∧ ∀ i, (h : i < ts.length) → ¬ ts[i].Word w) ∨ ∃ i, ∃ h : i < ts.length, r = (i : Int) ∧ ts[i].Word w ∧ ∀ j, (hj : j < i) → ¬ (ts[j]'(by omega)).Word w
theorem BTokIs.one {ts : List BT} {w : List Nat} {r s : Int} (h : BTokIs ts w r) (g : BTokIs ts w s) : r = s := by
  rcases h with ⟨h1, h2⟩ | ⟨i, hi, h1, h2, h3⟩ <;> rcases g with ⟨g1, g2⟩ | ⟨j, hj, g1, g2, g3⟩
  · rw [h1, g1]
  · exact absurd g2 (h2 j hj)
  · exact absurd h2 (g2 i hi)
  · rcases Nat.lt_trichotomy i j with e | e | e
    · exact absurd h2 (g3 i e)
    · rw [h1, g1, e]
    · exact absurd g2 (h3 j e)
theorem rule_btok {R : RulesT} {ts : List BT} (h : BTInv R ts) (w : List Nat) (hw : w ≠ []) : BTokIs ts w (R.rule (setW R w)) := by
  have hm : ∀ i, (hi : i < ts.length) → ((setW R w).meets (R.last.getD i PSet.none) = true ↔ ts[i].Word w) := by
    intro i hi
    rw [meets_iff, ← h.word i hi w hw]
    constructor
    · rintro ⟨q, h1, h2⟩
      obtain ⟨p, h3, h4⟩ := (setW_has R q w hw).1 h1
      exact ⟨p, q, h3, h2, h4⟩
    · rintro ⟨p, q, h1, h2, h3⟩
      exact ⟨q, (setW_has R q w hw).2 ⟨p, h1, h3⟩, h2⟩
  unfold RulesT.rule
  rcases ruleFrom_spec (setW R w) R.last 0 with ⟨h1, h2⟩ | ⟨i, h1, h2, h3, h4⟩
  · refine .inl ⟨h1, fun i hi hW => ?_⟩
    have := (hm i hi).2 hW
    rw [h2 i (by rw [h.len]; exact hi)] at this
    cases this
  · rw [h.len] at h1
    refine .inr ⟨i, h1, by rw [h2]; simp, (hm i h1).1 h3, fun j hj hW => ?_⟩
    have := (hm j (by omega)).2 hW
    rw [h4 j hj] at this
    cases this
end Go.Proofs.Ytcckhngbdoiikaa

namespace Go.Proofs.Ytcckhngbdoiikaa
set_option linter.unusedVariables false

/-- An expression, item by item. m: the mark behind it, 0: none. -/
inductive PT where
  | nil
  | bar (r : PT)
  | leaf (i e : Nat) (A : Nat → Bool) (m : Nat) (r : PT)
  | group (t : PT) (m : Nat) (r : PT)
def deadBT : BT := .leaf 0 (fun _ => false)
def markBT (m : Nat) (t : BT) : BT := if m = 42 then .maybe (.plus t) else if m = 43 then .plus t else if m = 63 then .maybe t else t
def chainO : Option BT → BT → BT
  | none, x => x
  | some c, x => .row c x
def joinO : Option BT → BT → BT
  | none, x => x
  | some c, x => .or c x
/-- As a tree: behind the alternatives acc and the pieces cur. -/
def PT.bt : PT → Option BT → Option BT → BT
  | .nil, acc, cur => joinO acc (cur.getD deadBT)
  | .bar r, acc, cur => r.bt (some (joinO acc (cur.getD deadBT))) none
  | .leaf i e A m r, acc, cur => r.bt acc (some (chainO cur (markBT m (.leaf i A))))
  | .group t m r, acc, cur => r.bt acc (some (chainO cur (markBT m (t.bt none none))))
def MarkOk (s : ByteArray) (e m : Nat) : Prop := (m = 0 ∧ peekI s e ≠ 42 ∧ peekI s e ≠ 43 ∧ peekI s e ≠ 63) ∨ ((m = 42 ∨ m = 43 ∨ m = 63) ∧ peekI s e = (m : Int))
def stepM (m : Nat) : Nat := if m = 0 then 0 else 1
/-- It is spelled from i up to j. -/
def PT.Sp (s : ByteArray) : PT → Nat → Nat → Prop
  | .nil, i, j => i = j
  | .bar r, i, j => peekI s i = 124 ∧ r.Sp s (i + 1) j
  | .leaf a e A m r, i, j => a = i ∧ placeF s i = (A, true, e) ∧ peekI s i ≠ 40 ∧ MarkOk s e m ∧ r.Sp s (e + stepM m) j
  | .group t m r, i, j => peekI s i = 40 ∧ ∃ e, t.Sp s (i + 1) e ∧ peekI s e = 41 ∧ MarkOk s (e + 1) m ∧ r.Sp s (e + 1 + stepM m) j
/-- No alternative is empty (c: the one that is begun is not). -/
def PT.Ne : PT → Bool → Prop
  | .nil, c => c = true
  | .bar r, c => c = true ∧ r.Ne false
  | .leaf i e A m r, c => r.Ne true
  | .group t m r, c => t.Ne false ∧ r.Ne true

/-- What a method of the reader has read: an expression. -/
def ExSp (s : ByteArray) (ex : PFn) : Prop := ∀ p R, (ex p R).ok = true → ∃ t : PT, t.Sp s p (ex p R).at' ∧ t.Ne false ∧ (t.bt none none).glush R = ((ex p R).part, (ex p R).rules)

theorem mark_sp {s : ByteArray} {a : PRes} (hok : (markF s a).ok = true) (x : BT) {R : RulesT} (hx : x.glush R = (a.part, a.rules)) :
    a.ok = true ∧ ∃ m, MarkOk s a.at' m ∧ (markF s a).at' = a.at' + stepM m ∧ (markBT m x).glush R = ((markF s a).part, (markF s a).rules) := by
  unfold markF at hok ⊢
  split at hok
  · cases hok
  · rename_i h0
    have h0' : a.ok = true := by cases e : a.ok <;> simp_all
    refine ⟨h0', ?_⟩
    rw [if_neg h0]
    by_cases h1 : peekI s a.at' = 42
    · rw [if_pos h1]
      refine ⟨42, .inr ⟨.inl rfl, h1⟩, rfl, ?_⟩
      simp [markBT, BT.glush, hx]
    · rw [if_neg h1]
      by_cases h2 : peekI s a.at' = 43
      · rw [if_pos h2]
        refine ⟨43, .inr ⟨.inr (.inl rfl), h2⟩, rfl, ?_⟩
        simp [markBT, BT.glush, hx]
      · rw [if_neg h2]
        by_cases h3 : peekI s a.at' = 63
        · rw [if_pos h3]
          refine ⟨63, .inr ⟨.inr (.inr rfl), h3⟩, rfl, ?_⟩
          simp [markBT, BT.glush, hx]
        · rw [if_neg h3]
          exact ⟨0, .inl ⟨rfl, h1, h2, h3⟩, rfl, by simp [markBT, hx]⟩

/-- A piece: put ahead of what comes behind it. -/
structure PieceSp (s : ByteArray) (p q : Nat) (x : BT) (f : PT → PT) : Prop where
  sp : ∀ r j, r.Sp s q j → (f r).Sp s p j
  bt : ∀ r acc cur, (f r).bt acc cur = r.bt acc (some (chainO cur x))
  ne : ∀ r c, r.Ne true → (f r).Ne c
theorem piece_sp {s : ByteArray} {ex : PFn} (h : ExSp s ex) {p : Nat} {R : RulesT} (hok : (pieceF s ex p R).ok = true) :
    ∃ f x, PieceSp s p (pieceF s ex p R).at' x f ∧ x.glush R = ((pieceF s ex p R).part, (pieceF s ex p R).rules) := by
  unfold pieceF at hok ⊢
  have hok0 : (atomF s ex p R).ok = true := by
    unfold markF at hok
    split at hok
    · cases hok
    · rename_i h0; cases e : (atomF s ex p R).ok <;> simp_all
  by_cases h40 : peekI s p = 40
  · have ha : atomF s ex p R = groupF s ex p R := by unfold atomF; rw [if_pos h40]
    rw [ha] at hok hok0 ⊢
    unfold groupF at hok0
    split at hok0
    · rename_i hc
      have hg : groupF s ex p R = ⟨(ex (p + 1) R).part, true, (ex (p + 1) R).at' + 1, (ex (p + 1) R).rules⟩ := by unfold groupF; rw [if_pos hc]
      obtain ⟨t, t1, t2, t3⟩ := h (p + 1) R hc.1
      rw [hg] at hok ⊢
      obtain ⟨_, m, m1, m2, m3⟩ := mark_sp hok (t.bt none none) (R := R) t3
      refine ⟨fun r => .group t m r, markBT m (t.bt none none), ⟨fun r j hr => ?_, fun r acc cur => rfl, fun r c hr => ⟨t2, hr⟩⟩, m3⟩
      rw [m2] at hr
      exact ⟨h40, _, t1, hc.2, m1, hr⟩
    · cases hok0
  · unfold atomF at hok hok0 ⊢
    rw [if_neg h40] at hok hok0 ⊢
    by_cases hp : (placeF s p).2.1 = true
    · rw [if_pos hp] at hok ⊢
      obtain ⟨_, m, m1, m2, m3⟩ := mark_sp hok (.leaf p (placeF s p).1) (R := R) rfl
      refine ⟨fun r => .leaf p (placeF s p).2.2 (placeF s p).1 m r, markBT m (.leaf p (placeF s p).1), ⟨fun r j hr => ?_, fun r acc cur => rfl, fun r c hr => hr⟩, m3⟩
      rw [m2] at hr
      refine ⟨rfl, ?_, h40, m1, hr⟩
      rw [← hp]
    · rw [if_neg hp] at hok0
      cases hok0
/-- Pieces: behind the tree tc of those ahead of them. -/
structure PcsSp (s : ByteArray) (p q : Nat) (tc tc' : BT) (f : PT → PT) : Prop where
  sp : ∀ r j, r.Sp s q j → (f r).Sp s p j
  bt : ∀ r acc, (f r).bt acc (some tc) = r.bt acc (some tc')
  ne : ∀ r, r.Ne true → (f r).Ne true
theorem altLoop_ok {s : ByteArray} {ex : PFn} : ∀ (n : Nat) (r : PRes), (altLoopF s ex n r).ok = true → r.ok = true
  | 0, r, h => h
  | n + 1, r, h => by
    unfold altLoopF at h
    split at h
    · rename_i hc; exact hc.1
    · exact h
theorem altLoop_sp {s : ByteArray} {ex : PFn} (h : ExSp s ex) {Rc : RulesT} : ∀ (n : Nat) (r : PRes) (tc : BT), tc.glush Rc = (r.part, r.rules) → (altLoopF s ex n r).ok = true →
    ∃ f tc', PcsSp s r.at' (altLoopF s ex n r).at' tc tc' f ∧ tc'.glush Rc = ((altLoopF s ex n r).part, (altLoopF s ex n r).rules)
  | 0, r, tc, hg, hok => ⟨id, tc, ⟨fun _ _ h => h, fun _ _ => rfl, fun _ h => h⟩, hg⟩
  | n + 1, r, tc, hg, hok => by
    unfold altLoopF at hok ⊢
    by_cases hc : r.ok = true ∧ endsB (peekI s r.at') = false
    · rw [if_pos hc] at hok ⊢
      have hp := altLoop_ok n _ hok
      obtain ⟨f, x, f1, f2⟩ := piece_sp h (p := r.at') (R := r.rules) hp
      have hrow : (BT.row tc x).glush Rc = (chainPart r.part (pieceF s ex r.at' r.rules).part, (pieceF s ex r.at' r.rules).rules.chain r.part (pieceF s ex r.at' r.rules).part) := by
        simp only [BT.glush, hg, f2]
      obtain ⟨f', tc', g1, g2⟩ := altLoop_sp h n _ (.row tc x) hrow hok
      exact ⟨fun r => f (f' r), tc', ⟨fun r j hr => f1.sp _ j (g1.sp r j hr), fun r acc => by rw [f1.bt]; exact g1.bt r acc, fun r hr => f1.ne _ _ (g1.ne r hr)⟩, g2⟩
    · rw [if_neg hc] at hok ⊢
      exact ⟨id, tc, ⟨fun _ _ h => h, fun _ _ => rfl, fun _ h => h⟩, hg⟩
/-- An alternative. -/
structure AltSp (s : ByteArray) (p q : Nat) (tc : BT) (f : PT → PT) : Prop where
  sp : ∀ r j, r.Sp s q j → (f r).Sp s p j
  bt : ∀ r acc, (f r).bt acc none = r.bt acc (some tc)
  ne : ∀ r, r.Ne true → (f r).Ne false
theorem alt_sp {s : ByteArray} {ex : PFn} (h : ExSp s ex) {p : Nat} {R : RulesT} (hok : (alternativeF s ex p R).ok = true) :
    ∃ f tc, AltSp s p (alternativeF s ex p R).at' tc f ∧ tc.glush R = ((alternativeF s ex p R).part, (alternativeF s ex p R).rules) := by
  unfold alternativeF at hok ⊢
  have hp := altLoop_ok _ _ hok
  obtain ⟨f, x, f1, f2⟩ := piece_sp h hp
  obtain ⟨f', tc', g1, g2⟩ := altLoop_sp h (Rc := R) _ _ x f2 hok
  exact ⟨fun r => f (f' r), tc', ⟨fun r j hr => f1.sp _ j (g1.sp r j hr), fun r acc => by rw [f1.bt]; exact g1.bt r acc, fun r hr => f1.ne _ _ (g1.ne r hr)⟩, g2⟩
/-- Alternatives: behind the tree of those ahead of them. -/
structure EitSp (s : ByteArray) (p q : Nat) (acc : Option BT) (cur : BT) (acc' : Option BT) (cur' : BT) (f : PT → PT) : Prop where
  sp : ∀ r j, r.Sp s q j → (f r).Sp s p j
  bt : ∀ r, (f r).bt acc (some cur) = r.bt acc' (some cur')
  ne : ∀ r, r.Ne true → (f r).Ne true
theorem exprLoop_ok {s : ByteArray} {ex : PFn} : ∀ (n : Nat) (r : PRes), (exprLoopF s ex n r).ok = true → r.ok = true
  | 0, r, h => h
  | n + 1, r, h => by
    unfold exprLoopF at h
    split at h
    · rename_i hc; exact hc.1
    · exact h
theorem exprLoop_sp {s : ByteArray} {ex : PFn} (h : ExSp s ex) {R0 : RulesT} : ∀ (n : Nat) (r : PRes) (acc : Option BT) (cur : BT), (joinO acc cur).glush R0 = (r.part, r.rules) → (exprLoopF s ex n r).ok = true →
    ∃ f acc' cur', EitSp s r.at' (exprLoopF s ex n r).at' acc cur acc' cur' f ∧ (joinO acc' cur').glush R0 = ((exprLoopF s ex n r).part, (exprLoopF s ex n r).rules)
  | 0, r, acc, cur, hg, hok => ⟨id, acc, cur, ⟨fun _ _ h => h, fun _ => rfl, fun _ h => h⟩, hg⟩
  | n + 1, r, acc, cur, hg, hok => by
    unfold exprLoopF at hok ⊢
    by_cases hc : r.ok = true ∧ peekI s r.at' = 124
    · rw [if_pos hc] at hok ⊢
      have hp := exprLoop_ok n _ hok
      obtain ⟨f, x, f1, f2⟩ := alt_sp h (p := r.at' + 1) (R := r.rules) hp
      have hrow : (joinO (some (joinO acc cur)) x).glush R0 = (eitherPart r.part (alternativeF s ex (r.at' + 1) r.rules).part, (alternativeF s ex (r.at' + 1) r.rules).rules) := by
        show (BT.or (joinO acc cur) x).glush R0 = _
        simp only [BT.glush]
        rw [hg]
        simp only [f2]
      obtain ⟨f', acc', cur', g1, g2⟩ := exprLoop_sp h n _ (some (joinO acc cur)) x hrow hok
      exact ⟨fun r => .bar (f (f' r)), acc', cur', ⟨fun r j hr => ⟨hc.2, f1.sp _ j (g1.sp r j hr)⟩, fun r => by show (f (f' r)).bt (some (joinO acc cur)) none = _; rw [f1.bt]; exact g1.bt r, fun r hr => ⟨rfl, f1.ne _ (g1.ne r hr)⟩⟩, g2⟩
    · rw [if_neg hc] at hok ⊢
      exact ⟨id, acc, cur, ⟨fun _ _ h => h, fun _ => rfl, fun _ h => h⟩, hg⟩
theorem expression_sp {s : ByteArray} {ex : PFn} (h : ExSp s ex) : ExSp s (expressionF s ex) := by
  intro p R hok
  unfold expressionF at hok ⊢
  have hp := exprLoop_ok _ _ hok
  obtain ⟨f, x, f1, f2⟩ := alt_sp h hp
  obtain ⟨f', acc', cur', g1, g2⟩ := exprLoop_sp h (R0 := R) _ _ none x f2 hok
  refine ⟨f (f' .nil), f1.sp _ _ (g1.sp .nil _ rfl), f1.ne _ (g1.ne .nil rfl), ?_⟩
  rw [f1.bt, g1.bt]
  exact g2
theorem exprF_sp (s : ByteArray) : ∀ f, ExSp s (exprF s f)
  | 0 => fun p R h => by simp [exprF] at h
  | f + 1 => expression_sp (exprF_sp s f)

/-- Rules, from p up to the end. -/
def RSp (s : ByteArray) : List PT → Nat → Prop
  | [], p => False
  | [t], p => t.Sp s p s.size ∧ t.Ne false
  | t :: u :: l, p => ∃ q, t.Sp s p q ∧ t.Ne false ∧ peekI s q = 10 ∧ RSp s (u :: l) (q + 1)
theorem ruleF_sp {s : ByteArray} {p : Nat} {R : RulesT} (h : (ruleF s p R).1 = true) : ∃ t : PT, t.Sp s p (ruleF s p R).2.1 ∧ t.Ne false ∧ (ruleF s p R).2.2 = ((t.bt none none).glush R).2.endRule ((t.bt none none).glush R).1 := by
  unfold ruleF at h ⊢
  by_cases hc : (exprF s (s.size + 1) p R).ok = true
  · rw [if_pos hc]
    obtain ⟨t, t1, t2, t3⟩ := exprF_sp s (s.size + 1) p R hc
    exact ⟨t, t1, t2, by rw [t3]⟩
  · rw [if_neg hc] at h; cases h
theorem allLoop_ok {s : ByteArray} : ∀ (n : Nat) (r : Bool × Nat × RulesT), (allLoopF s n r).1 = true → r.1 = true
  | 0, r, h => h
  | n + 1, r, h => by
    unfold allLoopF at h
    split at h
    · rename_i hc; exact hc.1
    · exact h
theorem allLoop_sp {s : ByteArray} : ∀ (n : Nat) (p : Nat) (R : RulesT), (allLoopF s n (ruleF s p R)).1 = true → peekI s (allLoopF s n (ruleF s p R)).2.1 = -1 → (allLoopF s n (ruleF s p R)).2.1 ≤ s.size →
    ∃ ts : List PT, RSp s ts p ∧ (allLoopF s n (ruleF s p R)).2.2 = bglushAll (ts.map (fun t => t.bt none none)) R
  | 0, p, R, hok, he, hle => by
    obtain ⟨t, t1, t2, t3⟩ := ruleF_sp (s := s) (p := p) (R := R) hok
    have e : (allLoopF s 0 (ruleF s p R)) = ruleF s p R := rfl
    rw [e] at he hle ⊢
    have : (ruleF s p R).2.1 = s.size := by
      refine Nat.le_antisymm hle (Nat.le_of_not_lt fun hlt => ?_)
      unfold peekI at he; rw [dif_pos hlt] at he; omega
    exact ⟨[t], ⟨by rw [← this]; exact t1, t2⟩, by rw [t3]; rfl⟩
  | n + 1, p, R, hok, he, hle => by
    have hok1 := allLoop_ok (s := s) _ _ hok
    obtain ⟨t, t1, t2, t3⟩ := ruleF_sp (s := s) (p := p) (R := R) hok1
    unfold allLoopF at hok he hle ⊢
    by_cases hc : (ruleF s p R).1 = true ∧ peekI s (ruleF s p R).2.1 = 10
    · rw [if_pos hc] at hok he hle ⊢
      obtain ⟨ts, h1, h2⟩ := allLoop_sp n _ _ hok he hle
      cases ts with
      | nil => exact h1.elim
      | cons u l =>
        refine ⟨t :: u :: l, ⟨_, t1, t2, hc.2, h1⟩, ?_⟩
        rw [h2, t3]; rfl
    · rw [if_neg hc] at hok he hle ⊢
      have : (ruleF s p R).2.1 = s.size := by
        refine Nat.le_antisymm hle (Nat.le_of_not_lt fun hlt => ?_)
        unfold peekI at he; rw [dif_pos hlt] at he; omega
      exact ⟨[t], ⟨by rw [← this]; exact t1, t2⟩, by rw [t3]; rfl⟩
end Go.Proofs.Ytcckhngbdoiikaa
