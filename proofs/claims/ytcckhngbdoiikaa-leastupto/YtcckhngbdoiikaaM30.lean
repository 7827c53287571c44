import Derived.Test.YtcckhngbdoiikaaM29
import Derived.Test.YtcckhngbdoiikaaM25
import Derived.Test.YtcckhngbdoiikaaM20
import Derived.Deep.DeepCutAuto

namespace Go.Proofs.Ytcckhngbdoiikaa
open Go.RowKit Go.Deep
set_option linter.unusedVariables false

/-- The bytes of a string, as numbers. -/
def bytesN (s : ByteArray) : List Nat := s.data.toList.map UInt8.toNat
theorem bytesN_len (s : ByteArray) : (bytesN s).length = s.size := by rw [bytesN, List.length_map, Array.length_toList]; rfl
/-- What does not change while the rules go along a text. -/
structure MemoC where
  wb : Nat
  kg : Nat
  kcap : Nat
  R : Nat → Nat
  av : Value
  tv : Value
  s : ByteArray
  all : List NodeT
  tr : Nat → Tree
/-- How many ends there may be. -/
def MemoC.N (c : MemoC) : Nat := c.s.size + 1
theorem MemoC.ltN {c : MemoC} {p : Nat} : p < c.N ↔ p ≤ c.s.size := by unfold MemoC.N; omega
theorem rowT_len (c : MemoC) (t : Tree) (p : Nat) : (rowT (bytesN c.s) t p).length = c.N := by rw [rowW_len, bytesN_len]; rfl
def MemoC.M (c : MemoC) (b : Nat) : Prop := ∃ n, n < c.all.length ∧ b = c.R n
/-- A row of what was found: each cell holds nothing yet, or the row of ends from there on, in no block of A. -/
def FoundRow (c : MemoC) (A : Nat → Prop) (w : World) (n : Nat) : Prop := ∃ cs : Array Value, Blk w (c.R n) cs 119 ∧ cs.size = c.N ∧ ∀ p, p ≤ c.s.size → cs[p]? = some (.slice none 0 0) ∨ ∃ b, cs[p]? = some (.slice (some ⟨b, 0, none⟩) c.N c.N) ∧ ¬ A b ∧ BRow w (.slice (some ⟨b, 0, none⟩) c.N c.N) (rowT (bytesN c.s) (c.tr n) p)
structure Memo (c : MemoC) (A : Nat → Prop) (w : World) : Prop where
  blk : Blk w c.wb #[c.av, c.tv, .string c.s, .slice (some ⟨c.kg, 0, none⟩) c.all.length c.kcap] 128
  nodes : NodeRow w c.av c.all
  known : ∃ cs : Array Value, Blk w c.kg cs 61 ∧ ∀ n, n < c.all.length → cs[n]? = some (.slice (some ⟨c.R n, 0, none⟩) c.N c.N)
  rows : ∀ n, n < c.all.length → FoundRow c A w n
  inj : ∀ m n, m < c.all.length → n < c.all.length → c.R m = c.R n → m = n
theorem Memo.weak {c : MemoC} {A B : Nat → Prop} {w : World} (h : Memo c A w) (hb : ∀ b, B b → A b) : Memo c B w := by
  refine ⟨h.blk, h.nodes, h.known, fun n hn => ?_, h.inj⟩
  obtain ⟨cs, h1, h2, h3⟩ := h.rows n hn
  refine ⟨cs, h1, h2, fun p hp => ?_⟩
  rcases h3 p hp with e | ⟨b, e1, e2, e3⟩
  · exact .inl e
  · exact .inr ⟨b, e1, fun e => e2 (hb b e), e3⟩
theorem Memo.type {c : MemoC} {A : Nat → Prop} {w : World} (h : Memo c A w) {b : Nat} (hb : c.M b) : ∃ cs, Blk w b cs 119 := by
  obtain ⟨n, hn, rfl⟩ := hb
  obtain ⟨cs, h1, _⟩ := h.rows n hn
  exact ⟨cs, h1⟩
theorem Blk.one {w : World} {b : Nat} {c c' : Array Value} {t t' : TypeId} (h : Blk w b c t) (h' : Blk w b c' t') : c = c' ∧ t = t' := by
  unfold Blk at h h'
  rw [h] at h'
  injection h' with h'
  injection h' with h1 h2
  exact ⟨h1, h2⟩
theorem Memo.not {c : MemoC} {A : Nat → Prop} {w : World} (h : Memo c A w) {b : Nat} {cs : Array Value} {t : TypeId} (hb : Blk w b cs t) (ht : t ≠ 119) : ¬ c.M b := fun e => by
  obtain ⟨cs', h'⟩ := h.type e
  exact ht (hb.one h').2
theorem Memo.brow {c : MemoC} {A : Nat → Prop} {w w' : World} (h : Memo c A w) (k : Kept c.M w w') {v : Value} {l : List Bool} (hr : BRow w v l) : BRow w' v l :=
  hr.kept k (fun b hb e => by
    obtain ⟨cs, h1⟩ := h.type e
    exact ownsRow_ne hr h1 (by decide) hb)
theorem Memo.lt {c : MemoC} {A : Nat → Prop} {w : World} (h : Memo c A w) {b : Nat} (hb : c.M b) : b < w.heap.size := by
  obtain ⟨cs, h1⟩ := h.type hb
  exact h1.lt
/-- New memory leaves it as it is. -/
theorem Memo.below {c : MemoC} {A : Nat → Prop} {w w' : World} (h : Memo c A w) (hb : Below w.heap.size w w') : Memo c A w' := by
  refine ⟨h.blk.below hb, h.nodes.below hb, ?_, fun n hn => ?_, h.inj⟩
  · obtain ⟨cs, h1, h2⟩ := h.known
    exact ⟨cs, h1.below hb, h2⟩
  · obtain ⟨cs, h1, h2, h3⟩ := h.rows n hn
    refine ⟨cs, h1.below hb, h2, fun p hp => ?_⟩
    rcases h3 p hp with e | ⟨b, e1, e2, e3⟩
    · exact .inl e
    · exact .inr ⟨b, e1, e2, e3.below hb⟩
/-- Writes into a row of bools that is none of its own leave it as it is. -/
theorem Memo.keptA {c : MemoC} {A : Nat → Prop} {w w' : World} {g : Nat} {cs0 : Array Value} (h : Memo c A w) (k : Kept (fun b => b = g) w w') (hg : A g) (hb : Blk w g cs0 4) : Memo c A w' := by
  refine ⟨h.blk.kept k (fun e => ?_), h.nodes.kept k (fun b hb' e => ?_), ?_, fun n hn => ?_, h.inj⟩
  · have := (h.blk.one (e ▸ hb)).2; revert this; decide
  · exact ownsRow_ne h.nodes (e ▸ hb) (by decide) hb'
  · obtain ⟨cs, h1, h2⟩ := h.known
    exact ⟨cs, h1.kept k (fun e => by have := (h1.one (e ▸ hb)).2; revert this; decide), h2⟩
  · obtain ⟨cs, h1, h2, h3⟩ := h.rows n hn
    refine ⟨cs, h1.kept k (fun e => by have := (h1.one (e ▸ hb)).2; revert this; decide), h2, fun p hp => ?_⟩
    rcases h3 p hp with e | ⟨b, e1, e2, e3⟩
    · exact .inl e
    · exact .inr ⟨b, e1, e2, e3.kept k (fun b' hb' e => by cases (Option.some.inj hb' : b = b'); exact e2 (e ▸ hg))⟩
/-- One cell found. -/
theorem Memo.found {c : MemoC} {A : Nat → Prop} {w : World} (h : Memo c A w) {n p b : Nat} (hn : n < c.all.length) (hp : p ≤ c.s.size) (hA : ¬ A b) (hr : BRow w (.slice (some ⟨b, 0, none⟩) c.N c.N) (rowT (bytesN c.s) (c.tr n) p)) :
    Memo c A (w.setCell ⟨c.R n, p, none⟩ (.slice (some ⟨b, 0, none⟩) c.N c.N)) ∧ Kept c.M w (w.setCell ⟨c.R n, p, none⟩ (.slice (some ⟨b, 0, none⟩) c.N c.N)) := by
  have hk : Kept c.M w (w.setCell ⟨c.R n, p, none⟩ (.slice (some ⟨b, 0, none⟩) c.N c.N)) := (Kept.refl _ _).setCell (p := ⟨c.R n, p, none⟩) (fun _ => ⟨n, hn, rfl⟩) _
  refine ⟨⟨h.blk.kept hk (h.not h.blk (by decide)), h.nodes.kept hk (fun b hb e => ?_), ?_, fun m hm => ?_, h.inj⟩, hk⟩
  · obtain ⟨cs, h1⟩ := h.type e
    exact ownsRow_ne h.nodes h1 (by decide) hb
  · obtain ⟨cs, h1, h2⟩ := h.known
    exact ⟨cs, h1.kept hk (h.not h1 (by decide)), h2⟩
  · obtain ⟨cs, h1, h2, h3⟩ := h.rows m hm
    by_cases e : m = n
    · subst e
      refine ⟨_, h1.set p _, by simp [h2], fun q hq => ?_⟩
      by_cases e : p = q
      · subst e
        exact .inr ⟨b, by rw [Array.getElem?_setIfInBounds, if_pos rfl, if_pos (by rw [h2]; exact MemoC.ltN.2 hp)], hA, h.brow hk hr⟩
      · rcases h3 q hq with e1 | ⟨b', e1, e2, e3⟩
        · exact .inl (by rw [Array.getElem?_setIfInBounds, if_neg e]; exact e1)
        · exact .inr ⟨b', by rw [Array.getElem?_setIfInBounds, if_neg e]; exact e1, e2, h.brow hk e3⟩
    · have hne : c.R m ≠ c.R n := fun e' => e (h.inj m n hm hn e')
      refine ⟨cs, h1.setOther (p := ⟨c.R n, p, none⟩) (fun e' => hne e') _, h2, fun q hq => ?_⟩
      rcases h3 q hq with e1 | ⟨b', e1, e2, e3⟩
      · exact .inl e1
      · exact .inr ⟨b', e1, e2, h.brow hk e3⟩

/-- What comes out of 'over', 'all', 'often', 'find': a row of ends; all else as it was, but for what was found. -/
def RowOut (c : MemoC) (A : Nat → Prop) (w : World) (l : List Bool) (e : Ending) (w' : World) : Prop :=
  ∃ b, e = .returned (.slice (some ⟨b, 0, none⟩) c.N c.N) ∧ ¬ A b ∧ BRow w' (.slice (some ⟨b, 0, none⟩) c.N c.N) l ∧ Memo c A w' ∧ Kept c.M w w'
/-- The contract of 'over' at a node. -/
def OverC (c : MemoC) (n : Nat) : Prop := ∀ (A : Nat → Prop) (w : World) (p : Nat), (∀ b, A b → b < w.heap.size) → Memo c A w → p ≤ c.s.size →
  Calls Try.prog 67 #[.pointer (some ⟨c.wb, 0, none⟩), .int .i64 (n : Int), .int .i64 (p : Int)] w (RowOut c A w (rowT (bytesN c.s) (c.tr n) p))
end Go.Proofs.Ytcckhngbdoiikaa

namespace Go.Proofs.Ytcckhngbdoiikaa
open Go.RowKit Go.Deep
set_option linter.unusedVariables false

/-- What 'all' has gathered from the first k places. -/
def AllP (c : MemoC) (n : Nat) (now : List Bool) (k q : Nat) : Prop := ∃ m, m < k ∧ now.getD m false = true ∧ EndsW (bytesN c.s) (c.tr n).Word m q
theorem AllP_skip {c : MemoC} {n : Nat} {now : List Bool} {k q : Nat} (h : now.getD k false = false) : AllP c n now (k + 1) q ↔ AllP c n now k q := by
  constructor
  · rintro ⟨m, h1, h2, h3⟩
    refine ⟨m, ?_, h2, h3⟩
    rcases Nat.lt_or_ge m k with e | e
    · exact e
    · have : m = k := by omega
      rw [this, h] at h2; cases h2
  · rintro ⟨m, h1, h2, h3⟩; exact ⟨m, by omega, h2, h3⟩
theorem AllP_take {c : MemoC} {n : Nat} {now : List Bool} {k q : Nat} (h : now.getD k false = true) : AllP c n now (k + 1) q ↔ (AllP c n now k q ∨ EndsW (bytesN c.s) (c.tr n).Word k q) := by
  constructor
  · rintro ⟨m, h1, h2, h3⟩
    rcases Nat.lt_or_ge m k with e | e
    · exact .inl ⟨m, e, h2, h3⟩
    · have : m = k := by omega
      rw [this] at h3; exact .inr h3
  · rintro (⟨m, h1, h2, h3⟩ | h3)
    · exact ⟨m, by omega, h2, h3⟩
    · exact ⟨k, by omega, h, h3⟩
theorem getD_setB (l : List Bool) (k i : Nat) (x : Bool) (hk : k < l.length) : (l.set k x).getD i false = if i = k then x else l.getD i false := by
  rw [List.getD_eq_getElem?_getD, List.getElem?_set]
  by_cases h : k = i
  · subst h; simp [hk]
  · rw [if_neg h, if_neg (fun e => h e.symm), List.getD_eq_getElem?_getD]
theorem boolsA_cellD {w : World} {b : Nat} {l : List Bool} (h : Blk w b (boolsA l) 4) (i : Nat) (hi : i < l.length) : w.cell? ⟨b, i, none⟩ = some (.bool (l.getD i false)) := by
  rw [boolsA_cell h i hi]; simp [hi]
theorem BRow.cellD {w : World} {l : List Bool} {g n cap : Nat} (h : BRow w (.slice (some ⟨g, 0, none⟩) n cap) l) (j : Nat) (hj : j < l.length) : w.cell? ⟨g, j, none⟩ = some (.bool (l.getD j false)) := by
  have h' := h
  obtain ⟨_, ad, cap', e, _⟩ := ownsRow_form h
  injection e with e1 e2 e3
  subst e2
  rw [h.cell j hj]; simp [hj]

set_option maxRecDepth 20000 in
set_option maxHeartbeats 3200000 in
theorem wall_any (c : MemoC) (n : Nat) (HO : OverC c n) (A : Nat → Prop) (w : World) (ng ncap : Nat) (now : List Bool) (hA : ∀ b, A b → b < w.heap.size) (hm : Memo c A w) (hnow : BRow w (.slice (some ⟨ng, 0, none⟩) c.N ncap) now) (hl : now.length = c.N) (hs : c.s.size ≤ 50000) :
    Calls Try.prog 119 #[.pointer (some ⟨c.wb, 0, none⟩), .int .i64 (n : Int), .slice (some ⟨ng, 0, none⟩) c.N ncap] w fun e w' => ∃ l, l.length = c.N ∧ (∀ q, q ≤ c.s.size → (l.getD q false = true ↔ ∃ m, now.getD m false = true ∧ EndsW (bytesN c.s) (c.tr n).Word m q)) ∧ RowOut c A w l e w' := by
  have hN2 : c.N ≤ 50001 := by unfold MemoC.N; omega
  have hmk := makeBools c.N (by omega)
  have HNOW := hide hnow
  have HM := hide hm
  have HOV := hide HO
  have HL := hide hl
  have HAA := hide hA
  have hng : ng < w.heap.size := ownsRow_lt hnow ng rfl
  clear hnow hm HO hl hA
  go_enter Try.func119, Try.ntmps119
  go_wp2_with fail
  go_loopg [8] c.N (fun G pv wr => ∃ (p : Nat) (l : List Bool), pv = .int .i64 (p : Int) ∧ p ≤ c.N ∧ G = c.N - p ∧ l.length = c.N ∧ (∀ q, q ≤ c.s.size → (l.getD q false = true ↔ AllP c n now p q)) ∧
    Memo c (fun b => A b ∨ b = w.heap.size) wr ∧ Kept c.M w wr ∧ Blk wr w.heap.size (boolsA l) 4)
  case atStart =>
    refine ⟨0, List.replicate c.N false, rfl, by omega, rfl, by simp, fun q hq => ?_, ?_, (Kept.refl _ _).alloc _, Blk.new _ _ _⟩
    · constructor
      · intro h; simp [MemoC.ltN.2 hq] at h
      · rintro ⟨m, hm, _⟩; omega
    · refine ⟨(HM.out.below (Below1 _ _)).blk, (HM.out.below (Below1 _ _)).nodes, (HM.out.below (Below1 _ _)).known, fun n hn => ?_, HM.out.inj⟩
      obtain ⟨cs, h1, h2, h3⟩ := HM.out.rows n hn
      refine ⟨cs, h1.below (Below1 _ _), h2, fun p hp => ?_⟩
      rcases h3 p hp with e | ⟨b, e1, e2, e3⟩
      · exact .inl e
      · refine .inr ⟨b, e1, fun e => ?_, e3.below (Below1 _ _)⟩
        rcases e with e | e
        · exact e2 e
        · have := ownsRow_lt e3 b rfl; omega
  case round =>
    obtain ⟨p, l, rfl, hp, rfl, hll, hspec, hmm, hk, hI⟩ := hrel
    have zI := hI.lt
    by_cases hlt : p < c.N
    · have e0 : decide ((p : Int) < (c.N : Int)) = true := by simp; omega
      have cN := (HM.out.brow hk HNOW.out).cellD p (by rw [HL.out]; exact hlt)
      have p0 : (0 : Int) ≤ (p : Int) := by omega
      have p1 : (p : Int) < (c.N : Int) := by omega
      have HLL := hide hll
      have HSP := hide hspec
      have HH : Hid (Memo c (fun b => A b ∨ b = w.heap.size) wr ∧ Kept c.M w wr ∧ Blk wr w.heap.size (boolsA l) 4) := ⟨hmm, hk, hI⟩
      clear hmm hk hI hll hspec
      cases hnp : now.getD p false with
      | false =>
        rw [hnp] at cN
        have HNP := hide hnp
        clear hnp
        go_wp2_with fail
        go_roundg (c.N - (p + 1))
        case measure => omega
        case rel => exact ⟨p + 1, l, by go_num, by omega, rfl, HLL.out, fun q hq => by rw [AllP_skip HNP.out]; exact HSP.out q hq, HH.out.1, HH.out.2.1, HH.out.2.2⟩
      | true =>
        rw [hnp] at cN
        have HNP := hide hnp
        clear hnp
        go_wp2_with fail
        refine (HOV.out (fun b => A b ∨ b = w.heap.size) wr p (fun b hb => by rcases hb with e | e; have := HAA.out b e; omega; omega) HH.out.1 (MemoC.ltN.1 hlt)).mono ?_
        rintro e w1 ⟨b, rfl, hnb, hBR, hm1, hk1⟩
        have zz : w1.heap.size ≥ wr.heap.size := hk1.size
        have hI1 : Blk w1 w.heap.size (boolsA l) 4 := HH.out.2.2.kept hk1 (HH.out.1.not HH.out.2.2 (by decide))
        have hbg : b ≠ w.heap.size := fun e => hnb (.inr e)
        have HH1 : Hid (Memo c (fun b => A b ∨ b = w.heap.size) w1 ∧ Kept c.M w w1 ∧ Blk w1 w.heap.size (boolsA l) 4 ∧ BRow w1 (.slice (some ⟨b, 0, none⟩) c.N c.N) (rowT (bytesN c.s) (c.tr n) p)) := ⟨hm1, HH.out.2.1.trans hk1 (fun i _ e => e), hI1, hBR⟩
        clear hm1 hk1 hI1 hBR hnb HH cN
        obtain ⟨wo, rfl⟩ : ∃ wo : World, wo = w1 := ⟨_, rfl⟩
        go_wp2_with fail
        go_loopg [10] c.N (fun G iv wi => ∃ (i : Nat) (l' : List Bool), iv = .int .i64 (i : Int) ∧ i ≤ c.N ∧ G = c.N - i ∧ l'.length = c.N ∧ (∀ q, q < i → (l'.getD q false = true ↔ AllP c n now (p + 1) q)) ∧ (∀ q, i ≤ q → q ≤ c.s.size → (l'.getD q false = true ↔ AllP c n now p q)) ∧
          Blk wi w.heap.size (boolsA l') 4 ∧ Kept (fun x => x = w.heap.size) wo wi)
        case atStart => exact ⟨0, l, rfl, by omega, rfl, HLL.out, fun q hq => by omega, fun q _ hq => HSP.out q hq, HH1.out.2.2.1, Kept.refl _ _⟩
        case round =>
          obtain ⟨i, l', rfl, hi, rfl, hll', hsp1, hsp2, hIi, hki⟩ := hrel
          have zIi := hIi.lt
          by_cases hli : i < c.N
          · have e1 : decide ((i : Int) < (c.N : Int)) = true := by simp; omega
            have cO := boolsA_cellD hIi i (by rw [hll']; exact hli)
            have fO := hIi.frozen i
            have hBi : BRow wr (.slice (some ⟨b, 0, none⟩) c.N c.N) (rowT (bytesN c.s) (c.tr n) p) := HH1.out.2.2.2.kept hki (fun b' hb' e => by cases (Option.some.inj hb' : b = b'); exact hbg e)
            have cE := hBi.cellD i (by rw [rowT_len]; exact hli)
            have hE : (rowT (bytesN c.s) (c.tr n) p).getD i false = true ↔ EndsW (bytesN c.s) (c.tr n).Word p i := rowW_getD
            generalize (rowT (bytesN c.s) (c.tr n) p).getD i false = ei at cE hE
            have hO := hsp2 i (Nat.le_refl _) (MemoC.ltN.1 hli)
            generalize hoi : l'.getD i false = oi at cO hO
            have i0 : (0 : Int) ≤ (i : Int) := by omega
            have i1 : (i : Int) < (c.N : Int) := by omega
            have HI : Hid (Blk wr w.heap.size (boolsA l') 4 ∧ Kept (fun x => x = w.heap.size) wo wr ∧ l'.length = c.N ∧ (∀ q, q < i → (l'.getD q false = true ↔ AllP c n now (p + 1) q)) ∧ (∀ q, i ≤ q → q ≤ c.s.size → (l'.getD q false = true ↔ AllP c n now p q)) ∧ (ei = true ↔ EndsW (bytesN c.s) (c.tr n).Word p i) ∧ (oi = true ↔ AllP c n now p i)) := ⟨hIi, hki, hll', hsp1, hsp2, hE, hO⟩
            clear hIi hki hll' hsp1 hsp2 hE hO hoi hBi
            cases oi with
            | true =>
              go_wp2_with fail
              go_roundg (c.N - (i + 1))
              case measure => omega
              case rel =>
                obtain ⟨r1, r2, r3, r4, r5, r6, r7⟩ := HI.out
                refine ⟨i + 1, l'.set i true, by go_num, by omega, rfl, by simp [r3], fun q hq => ?_, fun q hq hq2 => ?_, ?_, ?_⟩
                · rw [getD_setB _ _ _ _ (by omega)]
                  split
                  · rename_i e; rw [e, AllP_take HNP.out]; exact ⟨fun _ => .inl (r7.1 (by simp)), fun _ => rfl⟩
                  · exact r4 q (by omega)
                · rw [getD_setB _ _ _ _ (by omega), if_neg (by omega)]; exact r5 q (by omega) hq2
                · rw [← boolsA_set]; exact r1.set i _
                · exact r2.setCell (p := ⟨w.heap.size, i, none⟩) (fun _ => rfl) _
            | false =>
              go_wp2_with fail
              go_roundg (c.N - (i + 1))
              case measure => omega
              case rel =>
                obtain ⟨r1, r2, r3, r4, r5, r6, r7⟩ := HI.out
                refine ⟨i + 1, l'.set i ei, by go_num, by omega, rfl, by simp [r3], fun q hq => ?_, fun q hq hq2 => ?_, ?_, ?_⟩
                · rw [getD_setB _ _ _ _ (by omega)]
                  split
                  · rename_i e; rw [e, AllP_take HNP.out]
                    exact ⟨fun h => .inr (r6.1 h), fun h => by rcases h with h | h; exact absurd (r7.2 h) (by simp); exact r6.2 h⟩
                  · exact r4 q (by omega)
                · rw [getD_setB _ _ _ _ (by omega), if_neg (by omega)]; exact r5 q (by omega) hq2
                · rw [← boolsA_set]; exact r1.set i _
                · exact r2.setCell (p := ⟨w.heap.size, i, none⟩) (fun _ => rfl) _
          · have e1 : decide ((i : Int) < (c.N : Int)) = false := by simp; omega
            obtain rfl : i = c.N := by omega
            have HI : Hid (Blk wr w.heap.size (boolsA l') 4 ∧ Kept (fun x => x = w.heap.size) wo wr ∧ l'.length = c.N ∧ (∀ q, q < c.N → (l'.getD q false = true ↔ AllP c n now (p + 1) q))) := ⟨hIi, hki, hll', hsp1⟩
            clear hIi hki hll' hsp1 hsp2
            go_wp2_with fail
            go_roundg (c.N - (p + 1))
            case measure => omega
            case rel =>
              obtain ⟨r1, r2, r3, r4⟩ := HI.out
              refine ⟨p + 1, l', by go_num, by omega, rfl, r3, fun q hq => r4 q (MemoC.ltN.2 hq), HH1.out.1.keptA r2 (.inr rfl) HH1.out.2.2.1, ?_, r1⟩
              exact ⟨r2.os.trans HH1.out.2.1.os, r2.tape.trans HH1.out.2.1.tape, r2.output.trans HH1.out.2.1.output, by have := HH1.out.2.1.size; have := r2.size; omega, fun k hk he => (r2.block k (by have := HH1.out.2.1.size; omega) (by omega)).trans (HH1.out.2.1.block k hk he)⟩
    · have e0 : decide ((p : Int) < (c.N : Int)) = false := by simp; omega
      obtain rfl : p = c.N := by omega
      have HH : Hid (Memo c (fun b => A b ∨ b = w.heap.size) wr ∧ Kept c.M w wr ∧ Blk wr w.heap.size (boolsA l) 4 ∧ l.length = c.N ∧ (∀ q, q ≤ c.s.size → (l.getD q false = true ↔ AllP c n now c.N q))) := ⟨hmm, hk, hI, hll, hspec⟩
      clear hmm hk hI hll hspec
      go_wp2_with fail
      go_ret
      obtain ⟨r1, r2, r3, r4, r5⟩ := HH.out
      refine ⟨l, r4, fun q hq => ?_, w.heap.size, rfl, fun e => by have := HAA.out _ e; omega, ?_, r1.weak (fun b e => .inl e), r2⟩
      · rw [r5 q hq]
        constructor
        · rintro ⟨m, _, h2, h3⟩; exact ⟨m, h2, h3⟩
        · rintro ⟨m, h2, h3⟩
          refine ⟨m, ?_, h2, h3⟩
          have := h3.1
          rw [MemoC.ltN]; omega
      · have := BRow.ofBlk r3 (by omega)
        rw [r4] at this
        exact this
end Go.Proofs.Ytcckhngbdoiikaa
