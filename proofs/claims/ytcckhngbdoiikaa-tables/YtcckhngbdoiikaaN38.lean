import Derived.Test.YtcckhngbdoiikaaN37
import Derived.Deep.QuietTactic
import Derived.BigQuiet

namespace Go.Proofs.Ytcckhngbdoiikaa
open Go.RowKit Go.Deep
set_option linter.unusedVariables false

mutual
/-- All parts of a part, itself too. -/
def MT.subs : MT → List MT
  | .place b i e A => [.place b i e A]
  | .node b v k l => .node b v k l :: subsL l
def subsL : List MT → List MT
  | [] => []
  | y :: l => y.subs ++ subsL l
end
theorem MT.sub_self (T : MT) : T ∈ T.subs := by cases T <;> simp [MT.subs]
theorem subsL_mem {l : List MT} {y T : MT} (hy : y ∈ l) (h : T ∈ y.subs) : T ∈ subsL l := by
  induction l with
  | nil => simp at hy
  | cons x l ih =>
    rw [List.mem_cons] at hy
    simp only [subsL, List.mem_append]
    rcases hy with rfl | hy
    · exact .inl h
    · exact .inr (ih hy)
mutual
theorem MT.subs_kid : ∀ (U T : MT), T ∈ U.subs → ∀ b v k l, T = .node b v k l → ∀ y ∈ l, y ∈ U.subs
  | .place b i e A, T, h, b', v, k, l, hT, y, hy => by
    simp only [MT.subs, List.mem_singleton] at h
    rw [h] at hT; cases hT
  | .node b0 v0 k0 l0, T, h, b', v, k, l, hT, y, hy => by
    simp only [MT.subs, List.mem_cons] at h ⊢
    rcases h with h | h
    · rw [h] at hT
      injection hT with e1 e2 e3 e4
      subst e4
      exact .inr (subsL_mem hy (MT.sub_self y))
    · exact .inr (subsL_kid l0 T h b' v k l hT y hy)
theorem subsL_kid : ∀ (L : List MT) (T : MT), T ∈ subsL L → ∀ b v k l, T = .node b v k l → ∀ y ∈ l, y ∈ subsL L
  | [], T, h, _, _, _, _, _, _, _ => by simp [subsL] at h
  | x :: L, T, h, b', v, k, l, hT, y, hy => by
    simp only [subsL, List.mem_append] at h ⊢
    rcases h with h | h
    · exact .inl (MT.subs_kid x T h b' v k l hT y hy)
    · exact .inr (subsL_kid L T h b' v k l hT y hy)
end
mutual
theorem MT.At.sub {w : World} {s : ByteArray} {f : Nat → Int} : ∀ (U T : MT), U.At w s f → T ∈ U.subs → T.At w s f
  | .place b i e A, T, h, hT => by
    simp only [MT.subs, List.mem_singleton] at hT
    rw [hT]; exact h
  | .node b v k l, T, h, hT => by
    simp only [MT.subs, List.mem_cons] at hT
    rcases hT with hT | hT
    · rw [hT]; exact h
    · simp only [MT.At] at h
      exact AtL.sub l T h.2.2 hT
theorem AtL.sub {w : World} {s : ByteArray} {f : Nat → Int} : ∀ (l : List MT) (T : MT), AtL w s f l → T ∈ subsL l → T.At w s f
  | [], T, h, hT => by simp [subsL] at hT
  | y :: l, T, h, hT => by
    simp only [AtL] at h
    simp only [subsL, List.mem_append] at hT
    rcases hT with hT | hT
    · exact MT.At.sub y T h.1 hT
    · exact AtL.sub l T h.2 hT
end
mutual
/-- A part of a part that is numbered from n on has a number among them. -/
theorem MT.Numd.sub {f : Nat → Int} : ∀ (U T : MT) (n : Nat), U.Numd f n → T ∈ U.subs → ∃ m, n ≤ m ∧ m + T.nt.parts ≤ n + U.nt.parts ∧ T.Numd f m
  | .place b i e A, T, n, h, hT => by
    simp only [MT.subs, List.mem_singleton] at hT
    subst hT
    exact ⟨n, Nat.le_refl _, Nat.le_refl _, h⟩
  | .node b v k l, T, n, h, hT => by
    simp only [MT.subs, List.mem_cons] at hT
    rcases hT with hT | hT
    · subst hT; exact ⟨n, Nat.le_refl _, Nat.le_refl _, h⟩
    · simp only [MT.Numd] at h
      obtain ⟨m, h1, h2, h3⟩ := NumdL.sub l T (n + 1) h.2 hT
      simp only [MT.nt, NT.parts]
      exact ⟨m, by omega, by omega, h3⟩
theorem NumdL.sub {f : Nat → Int} : ∀ (l : List MT) (T : MT) (n : Nat), NumdL f l n → T ∈ subsL l → ∃ m, n ≤ m ∧ m + T.nt.parts ≤ n + partsL (ntL l) ∧ T.Numd f m
  | [], T, n, h, hT => by simp [subsL] at hT
  | y :: l, T, n, h, hT => by
    simp only [NumdL] at h
    simp only [subsL, List.mem_append] at hT
    simp only [ntL, partsL]
    rcases hT with hT | hT
    · obtain ⟨m, h1, h2, h3⟩ := MT.Numd.sub y T n h.1 hT
      exact ⟨m, h1, by omega, h3⟩
    · obtain ⟨m, h1, h2, h3⟩ := NumdL.sub l T _ h.2 hT
      exact ⟨m, by omega, by omega, h3⟩
end
theorem MT.Numd.root {f : Nat → Int} {T : MT} {n : Nat} (h : T.Numd f n) : f T.root = (n : Int) := by
  cases T with
  | place => simpa [MT.Numd, MT.root] using h
  | node => simp only [MT.Numd] at h; exact h.1
mutual
/-- A number is one part's. -/
theorem MT.Numd.one {f : Nat → Int} : ∀ (U : MT) (n : Nat), U.Numd f n → ∀ T T', T ∈ U.subs → T' ∈ U.subs → f T.root = f T'.root → T = T'
  | .place b i e A, n, h, T, T', hT, hT', _ => by
    simp only [MT.subs, List.mem_singleton] at hT hT'
    rw [hT, hT']
  | .node b v k l, n, h, T, T', hT, hT', he => by
    have h0 := h
    simp only [MT.Numd] at h
    simp only [MT.subs, List.mem_cons] at hT hT'
    have key : ∀ S, S ∈ subsL l → f S.root ≠ f (MT.node b v k l).root := fun S hS e => by
      obtain ⟨m, h1, h2, h3⟩ := NumdL.sub l S (n + 1) h.2 hS
      rw [h3.root, h0.root] at e; omega
    rcases hT with hT | hT
    · rcases hT' with hT' | hT'
      · rw [hT, hT']
      · exact absurd (by rw [← he, hT]) (key T' hT')
    · rcases hT' with hT' | hT'
      · exact absurd (by rw [he, hT']) (key T hT)
      · exact NumdL.one l (n + 1) h.2 T T' hT hT' he
theorem NumdL.one {f : Nat → Int} : ∀ (l : List MT) (n : Nat), NumdL f l n → ∀ T T', T ∈ subsL l → T' ∈ subsL l → f T.root = f T'.root → T = T'
  | [], n, h, T, T', hT, _, _ => by simp [subsL] at hT
  | y :: l, n, h, T, T', hT, hT', he => by
    simp only [NumdL] at h
    simp only [subsL, List.mem_append] at hT hT'
    have key : ∀ S S', S ∈ y.subs → S' ∈ subsL l → f S.root ≠ f S'.root := fun S S' hS hS' e => by
      obtain ⟨m, h1, h2, h3⟩ := MT.Numd.sub y S n h.1 hS
      obtain ⟨m', g1, g2, g3⟩ := NumdL.sub l S' _ h.2 hS'
      have := S.nt.parts_pos
      rw [h3.root, g3.root] at e; omega
    rcases hT with hT | hT
    · rcases hT' with hT' | hT'
      · exact MT.Numd.one y n h.1 T T' hT hT' he
      · exact absurd he (key T T' hT hT')
    · rcases hT' with hT' | hT'
      · exact absurd he.symm (key T' T hT' hT)
      · exact NumdL.one l _ h.2 T T' hT hT' he
end

/-- What does not change while ways go along a text. -/
structure AlC where
  ab : Nat
  bg : Nat
  bcap : Nat
  wg : Nat
  wcap : Nat
  R : Nat → Nat
  U : Nat → Nat
  s : ByteArray
  rs : ByteArray
  f : Nat → Int
  rules : List MT
def AlC.N (c : AlC) : Nat := c.s.size + 1
def AlC.parts (c : AlC) : Nat := partsL (ntL c.rules)
/-- The words of the part with the number n. -/
def AlC.lang (c : AlC) (n : Nat) (w : List Nat) : Prop := ∃ T ∈ subsL c.rules, c.f T.root = (n : Int) ∧ T.nt.Word w
theorem AlC.ltN {c : AlC} {p : Nat} : p < c.N ↔ p ≤ c.s.size := by unfold AlC.N; omega
theorem rowA_len (c : AlC) (P : List Nat → Prop) (p : Nat) : (rowW (bytesN c.s) P p).length = c.N := by rw [rowW_len, bytesN_len]; rfl
def AlC.M (c : AlC) (b : Nat) : Prop := ∃ n, n < c.parts ∧ b = c.R n
/-- A row of what was found: each cell holds nothing yet, or the row of ends from there on, in no block of A. -/
def AFound (c : AlC) (A : Nat → Prop) (w : World) (n : Nat) : Prop := ∃ cs : Array Value, Blk w (c.R n) cs 119 ∧ cs.size = c.N ∧ ∀ p, p ≤ c.s.size → cs[p]? = some (.slice none 0 0) ∨ ∃ b, cs[p]? = some (.slice (some ⟨b, 0, none⟩) c.N c.N) ∧ ¬ A b ∧ BRow w (.slice (some ⟨b, 0, none⟩) c.N c.N) (rowW (bytesN c.s) (c.lang n) p)
structure AMemo (c : AlC) (A : Nat → Prop) (w : World) : Prop where
  blk : Blk w c.ab #[.string c.s, .slice (some ⟨c.bg, 0, none⟩) c.parts c.bcap, .slice (some ⟨c.wg, 0, none⟩) c.parts c.wcap] 231
  by' : ∃ cs : Array Value, Blk w c.bg cs 61 ∧ ∀ n, n < c.parts → cs[n]? = some (.slice (some ⟨c.R n, 0, none⟩) c.N c.N)
  was : ∃ cs : Array Value, Blk w c.wg cs 119 ∧ ∀ n, n < c.parts → cs[n]? = some (.slice (some ⟨c.U n, 0, none⟩) c.N c.N)
  rows : ∀ n, n < c.parts → AFound c A w n
  wrow : ∀ n, n < c.parts → A (c.U n) ∧ ∃ l : List Bool, l.length = c.N ∧ Blk w (c.U n) (boolsA l) 4
  inj : ∀ m n, m < c.parts → n < c.parts → c.R m = c.R n → m = n
  injU : ∀ m n, m < c.parts → n < c.parts → c.U m = c.U n → m = n
  nwg : ∀ n, n < c.parts → c.R n ≠ c.wg
  prt : AtL w c.rs c.f c.rules
  num : NumdL c.f c.rules 0
theorem AMemo.lang {c : AlC} {A : Nat → Prop} {w : World} (h : AMemo c A w) {T : MT} (hT : T ∈ subsL c.rules) {n : Nat} (hn : c.f T.root = (n : Int)) : c.lang n = T.nt.Word := by
  funext u
  refine propext ⟨?_, fun hu => ⟨T, hT, hn, hu⟩⟩
  rintro ⟨T', h1, h2, h3⟩
  rw [NumdL.one c.rules 0 h.num T T' hT h1 (by rw [hn, h2])]
  exact h3
theorem AMemo.id {c : AlC} {A : Nat → Prop} {w : World} (h : AMemo c A w) {T : MT} (hT : T ∈ subsL c.rules) : ∃ n, n < c.parts ∧ c.f T.root = (n : Int) := by
  obtain ⟨m, h1, h2, h3⟩ := NumdL.sub c.rules T 0 h.num hT
  have := T.nt.parts_pos
  exact ⟨m, by unfold AlC.parts; omega, h3.root⟩
theorem AMemo.weak {c : AlC} {A B : Nat → Prop} {w : World} (h : AMemo c A w) (hb : ∀ b, B b → A b) (hU : ∀ n, n < c.parts → B (c.U n)) : AMemo c B w := by
  refine ⟨h.blk, h.by', h.was, fun n hn => ?_, fun n hn => ⟨hU n hn, (h.wrow n hn).2⟩, h.inj, h.injU, h.nwg, h.prt, h.num⟩
  obtain ⟨cs, h1, h2, h3⟩ := h.rows n hn
  refine ⟨cs, h1, h2, fun p hp => ?_⟩
  rcases h3 p hp with e | ⟨b, e1, e2, e3⟩
  · exact .inl e
  · exact .inr ⟨b, e1, fun e => e2 (hb b e), e3⟩
theorem AMemo.type {c : AlC} {A : Nat → Prop} {w : World} (h : AMemo c A w) {b : Nat} (hb : c.M b) : ∃ cs, Blk w b cs 119 := by
  obtain ⟨n, hn, rfl⟩ := hb
  obtain ⟨cs, h1, _⟩ := h.rows n hn
  exact ⟨cs, h1⟩
theorem AMemo.not {c : AlC} {A : Nat → Prop} {w : World} (h : AMemo c A w) {b : Nat} {cs : Array Value} {t : TypeId} (hb : Blk w b cs t) (ht : t ≠ 119) : ¬ c.M b := fun e => by
  obtain ⟨cs', h'⟩ := h.type e
  exact ht (hb.one h').2
theorem AMemo.brow {c : AlC} {A : Nat → Prop} {w w' : World} (h : AMemo c A w) (k : Kept c.M w w') {v : Value} {l : List Bool} (hr : BRow w v l) : BRow w' v l :=
  hr.kept k (fun b hb e => by
    obtain ⟨cs, h1⟩ := h.type e
    exact ownsRow_ne hr h1 (by decide) hb)
theorem AMemo.lt {c : AlC} {A : Nat → Prop} {w : World} (h : AMemo c A w) {b : Nat} (hb : c.M b) : b < w.heap.size := by
  obtain ⟨cs, h1⟩ := h.type hb
  exact h1.lt
mutual
/-- A part has no block of other types. -/
theorem MT.At.type {w : World} {s : ByteArray} {f : Nat → Int} {b : Nat} {cs : Array Value} {t : TypeId} (hb : Blk w b cs t) (h1 : t ≠ 180) (h2 : t ≠ 139) : ∀ (T : MT), T.At w s f → ¬ T.has b
  | .place b' i e A, h, hx => by
    simp only [MT.At] at h
    simp only [MT.has] at hx
    subst hx
    exact h1 (hb.one h).2
  | .node b' v k l, h, hx => by
    simp only [MT.At] at h
    simp only [MT.has] at hx
    rcases hx with hx | hx | hx
    · subst hx; exact h1 (hb.one h.1).2
    · exact ownsRow_ne h.2.1 hb h2 hx
    · exact AtL.type hb h1 h2 l h.2.2 hx
theorem AtL.type {w : World} {s : ByteArray} {f : Nat → Int} {b : Nat} {cs : Array Value} {t : TypeId} (hb : Blk w b cs t) (h1 : t ≠ 180) (h2 : t ≠ 139) : ∀ (l : List MT), AtL w s f l → ¬ hasL l b
  | [], h, hx => by simp [hasL] at hx
  | y :: l, h, hx => by
    simp only [AtL] at h
    simp only [hasL] at hx
    rcases hx with hx | hx
    · exact MT.At.type hb h1 h2 y h.1 hx
    · exact AtL.type hb h1 h2 l h.2 hx
end
/-- New memory leaves it as it is. -/
theorem AMemo.below {c : AlC} {A : Nat → Prop} {w w' : World} (h : AMemo c A w) (hb : Below w.heap.size w w') : AMemo c A w' := by
  refine ⟨h.blk.below hb, ?_, ?_, fun n hn => ?_, fun n hn => ?_, h.inj, h.injU, h.nwg, AtL.kept (ex := fun _ => False) (Kept.ofBelow hb) _ h.prt (fun _ _ e => e), h.num⟩
  · obtain ⟨cs, h1, h2⟩ := h.by'
    exact ⟨cs, h1.below hb, h2⟩
  · obtain ⟨cs, h1, h2⟩ := h.was
    exact ⟨cs, h1.below hb, h2⟩
  · obtain ⟨cs, h1, h2, h3⟩ := h.rows n hn
    refine ⟨cs, h1.below hb, h2, fun p hp => ?_⟩
    rcases h3 p hp with e | ⟨b, e1, e2, e3⟩
    · exact .inl e
    · exact .inr ⟨b, e1, e2, e3.below hb⟩
  · obtain ⟨h0, l, h1, h2⟩ := h.wrow n hn
    exact ⟨h0, l, h1, h2.below hb⟩
/-- Writes into a row of bools that is none of its own leave it as it is. -/
theorem AMemo.keptA {c : AlC} {A : Nat → Prop} {w w' : World} {g : Nat} {cs0 : Array Value} (h : AMemo c A w) (k : Kept (fun b => b = g) w w') (hg : A g) (hgU : ∀ n, n < c.parts → c.U n ≠ g) (hb : Blk w g cs0 4) : AMemo c A w' := by
  refine ⟨h.blk.kept k (fun e => ?_), ?_, ?_, fun n hn => ?_, fun n hn => ?_, h.inj, h.injU, h.nwg, AtL.kept k _ h.prt (fun x hx e => AtL.type hb (by decide) (by decide) _ h.prt (e ▸ hx)), h.num⟩
  · have := (h.blk.one (e ▸ hb)).2; revert this; decide
  · obtain ⟨cs, h1, h2⟩ := h.by'
    exact ⟨cs, h1.kept k (fun e => by have := (h1.one (e ▸ hb)).2; revert this; decide), h2⟩
  · obtain ⟨cs, h1, h2⟩ := h.was
    exact ⟨cs, h1.kept k (fun e => by have := (h1.one (e ▸ hb)).2; revert this; decide), h2⟩
  · obtain ⟨cs, h1, h2, h3⟩ := h.rows n hn
    refine ⟨cs, h1.kept k (fun e => by have := (h1.one (e ▸ hb)).2; revert this; decide), h2, fun p hp => ?_⟩
    rcases h3 p hp with e | ⟨b, e1, e2, e3⟩
    · exact .inl e
    · exact .inr ⟨b, e1, e2, e3.kept k (fun b' hb' e => by cases (Option.some.inj hb' : b = b'); exact e2 (e ▸ hg))⟩
  · obtain ⟨h0, l, h1, h2⟩ := h.wrow n hn
    exact ⟨h0, l, h1, h2.kept k (hgU n hn)⟩
/-- A mark is set. -/
theorem AMemo.setU {c : AlC} {A : Nat → Prop} {w : World} (h : AMemo c A w) {n p : Nat} (hn : n < c.parts) : AMemo c A (w.setCell ⟨c.U n, p, none⟩ (.bool true)) := by
  have k : Kept (fun b => b = c.U n) w (w.setCell ⟨c.U n, p, none⟩ (.bool true)) := (Kept.refl (fun b => b = c.U n) _).setCell (p := ⟨c.U n, p, none⟩) (fun _ => rfl) _
  obtain ⟨hg, l0, hl0, hb⟩ := h.wrow n hn
  refine ⟨h.blk.kept k (fun e => ?_), ?_, ?_, fun m hm => ?_, fun m hm => ?_, h.inj, h.injU, h.nwg, AtL.kept k _ h.prt (fun x hx e => AtL.type hb (by decide) (by decide) _ h.prt (e ▸ hx)), h.num⟩
  · have := (h.blk.one (e ▸ hb)).2; revert this; decide
  · obtain ⟨cs, h1, h2⟩ := h.by'
    exact ⟨cs, h1.kept k (fun e => by have := (h1.one (e ▸ hb)).2; revert this; decide), h2⟩
  · obtain ⟨cs, h1, h2⟩ := h.was
    exact ⟨cs, h1.kept k (fun e => by have := (h1.one (e ▸ hb)).2; revert this; decide), h2⟩
  · obtain ⟨cs, h1, h2, h3⟩ := h.rows m hm
    refine ⟨cs, h1.kept k (fun e => by have := (h1.one (e ▸ hb)).2; revert this; decide), h2, fun q hq => ?_⟩
    rcases h3 q hq with e | ⟨b, e1, e2, e3⟩
    · exact .inl e
    · exact .inr ⟨b, e1, e2, e3.kept k (fun b' hb' e => by cases (Option.some.inj hb' : b = b'); exact e2 (e ▸ hg))⟩
  · by_cases e : m = n
    · subst e
      refine ⟨hg, l0.set p true, by simp [hl0], ?_⟩
      rw [← boolsA_set]; exact hb.set p _
    · obtain ⟨h0, l, h1, h2⟩ := h.wrow m hm
      exact ⟨h0, l, h1, h2.kept k (fun e' => e (h.injU m n hm hn e'))⟩
/-- One cell found. -/
theorem AMemo.found {c : AlC} {A : Nat → Prop} {w : World} (h : AMemo c A w) {n p b : Nat} (hn : n < c.parts) (hp : p ≤ c.s.size) (hA : ¬ A b) (hr : BRow w (.slice (some ⟨b, 0, none⟩) c.N c.N) (rowW (bytesN c.s) (c.lang n) p)) :
    AMemo c A (w.setCell ⟨c.R n, p, none⟩ (.slice (some ⟨b, 0, none⟩) c.N c.N)) ∧ Kept c.M w (w.setCell ⟨c.R n, p, none⟩ (.slice (some ⟨b, 0, none⟩) c.N c.N)) := by
  have hk : Kept c.M w (w.setCell ⟨c.R n, p, none⟩ (.slice (some ⟨b, 0, none⟩) c.N c.N)) := (Kept.refl _ _).setCell (p := ⟨c.R n, p, none⟩) (fun _ => ⟨n, hn, rfl⟩) _
  refine ⟨⟨h.blk.kept hk (h.not h.blk (by decide)), ?_, ?_, fun m hm => ?_, fun m hm => ?_, h.inj, h.injU, h.nwg, AtL.kept hk _ h.prt (fun x hx e => ?_), h.num⟩, hk⟩
  · obtain ⟨cs, h1, h2⟩ := h.by'
    exact ⟨cs, h1.kept hk (h.not h1 (by decide)), h2⟩
  · obtain ⟨cs, h1, h2⟩ := h.was
    exact ⟨cs, h1.kept hk (fun e => by obtain ⟨m, hm, e⟩ := e; exact h.nwg m hm e.symm), h2⟩
  · obtain ⟨cs, h1, h2, h3⟩ := h.rows m hm
    by_cases e : m = n
    · subst e
      refine ⟨_, h1.set p _, by simp [h2], fun q hq => ?_⟩
      by_cases e : p = q
      · subst e
        exact .inr ⟨b, by rw [Array.getElem?_setIfInBounds, if_pos rfl, if_pos (by rw [h2]; exact AlC.ltN.2 hp)], hA, h.brow hk hr⟩
      · rcases h3 q hq with e1 | ⟨b', e1, e2, e3⟩
        · exact .inl (by rw [Array.getElem?_setIfInBounds, if_neg e]; exact e1)
        · exact .inr ⟨b', by rw [Array.getElem?_setIfInBounds, if_neg e]; exact e1, e2, h.brow hk e3⟩
    · have hne : c.R m ≠ c.R n := fun e' => e (h.inj m n hm hn e')
      refine ⟨cs, h1.setOther (p := ⟨c.R n, p, none⟩) (fun e' => hne e') _, h2, fun q hq => ?_⟩
      rcases h3 q hq with e1 | ⟨b', e1, e2, e3⟩
      · exact .inl e1
      · exact .inr ⟨b', e1, e2, h.brow hk e3⟩
  · obtain ⟨h0, l, h1, h2⟩ := h.wrow m hm
    exact ⟨h0, l, h1, h2.kept hk (h.not h2 (by decide))⟩
  · obtain ⟨cs, h1⟩ := h.type e
    exact AtL.type h1 (by decide) (by decide) _ h.prt hx
/-- What was found lies in no block that is still to come. -/
theorem AMemo.fresh {c : AlC} {A : Nat → Prop} {w : World} (h : AMemo c A w) : AMemo c (fun b => A b ∨ b = w.heap.size) w := by
  refine ⟨h.blk, h.by', h.was, fun n hn => ?_, fun n hn => ⟨.inl (h.wrow n hn).1, (h.wrow n hn).2⟩, h.inj, h.injU, h.nwg, h.prt, h.num⟩
  obtain ⟨cs, h1, h2, h3⟩ := h.rows n hn
  refine ⟨cs, h1, h2, fun p hp => ?_⟩
  rcases h3 p hp with e | ⟨b, e1, e2, e3⟩
  · exact .inl e
  · refine .inr ⟨b, e1, fun e => ?_, e3⟩
    rcases e with e | e
    · exact e2 e
    · have := ownsRow_lt e3 b rfl; omega
/-- What comes out of 'ends', 'from', 'again', 'find': a row of ends; all else as it was, but for what was found. -/
def ROut (c : AlC) (A : Nat → Prop) (w : World) (l : List Bool) (e : Ending) (w' : World) : Prop :=
  ∃ b, e = .returned (.slice (some ⟨b, 0, none⟩) c.N c.N) ∧ ¬ A b ∧ BRow w' (.slice (some ⟨b, 0, none⟩) c.N c.N) l ∧ AMemo c A w' ∧ Kept c.M w w'
def EndsC (c : AlC) (T : MT) : Prop := ∀ (A : Nat → Prop) (w : World) (p : Nat), (∀ b, A b → b < w.heap.size) → AMemo c A w → p ≤ c.s.size →
  Calls Try.prog 136 #[.pointer (some ⟨c.ab, 0, none⟩), .pointer (some ⟨T.root, 0, none⟩), .int .i64 (p : Int)] w (ROut c A w (rowW (bytesN c.s) T.nt.Word p))
def FindRC (c : AlC) (T : MT) : Prop := ∀ (A : Nat → Prop) (w : World) (p : Nat), (∀ b, A b → b < w.heap.size) → AMemo c A w → p ≤ c.s.size →
  Calls Try.prog 151 #[.pointer (some ⟨c.ab, 0, none⟩), .pointer (some ⟨T.root, 0, none⟩), .int .i64 (p : Int)] w (ROut c A w (rowW (bytesN c.s) T.nt.Word p))
end Go.Proofs.Ytcckhngbdoiikaa

namespace Go.Proofs.Ytcckhngbdoiikaa
open Go.RowKit Go.Deep
set_option linter.unusedVariables false

theorem MT.At.id {w : World} {s : ByteArray} {f : Nat → Int} {T : MT} (h : T.At w s f) : w.cell? ⟨T.root, 1, none⟩ = some (.int .i64 (f T.root)) := by
  cases T with
  | place b i e A => simp only [MT.At] at h; exact h.cell 1
  | node b v k l => simp only [MT.At] at h; exact h.1.cell 1
set_option maxRecDepth 20000 in
set_option maxHeartbeats 3200000 in
theorem ends_any (c : AlC) (T : MT) (hT : T ∈ subsL c.rules) (HF : FindRC c T) : EndsC c T := by
  intro A w p hA hm hp
  have hpN : p < c.N := AlC.ltN.2 hp
  obtain ⟨n, hn, hid⟩ := hm.id hT
  have hlang := hm.lang hT hid
  obtain ⟨ks, hk1, hk2⟩ := hm.by'
  obtain ⟨cs, hr1, hr2, hr3⟩ := hm.rows n hn
  have hTw := AtL.sub c.rules T hm.prt hT
  have s3 : w.cell? ⟨c.ab, 1, none⟩ = some (.slice (some ⟨c.bg, 0, none⟩) c.parts c.bcap) := hm.blk.cell 1
  have s4 : w.cell? ⟨c.bg, n, none⟩ = some (.slice (some ⟨c.R n, 0, none⟩) c.N c.N) := by rw [hk1.cell]; exact hk2 n hn
  have s5 : w.cell? ⟨c.R n, p, none⟩ = cs[p]? := hr1.cell p
  have s6 : w.cell? ⟨T.root, 1, none⟩ = some (.int .i64 (n : Int)) := by rw [← hid]; exact hTw.id
  have n0 : (0 : Int) ≤ (n : Int) := by omega
  have n1 : (n : Int) < (c.parts : Int) := by omega
  have p0 : (0 : Int) ≤ (p : Int) := by omega
  have p1 : (p : Int) < (c.N : Int) := by omega
  have hq := fun (W : World) (ad : Option Addr) (l c : Nat) => Lib.run_eql_slice_nil W 119 4 ad l c 0 0 Try.underlying119
  rw [← hlang]
  rcases hr3 p hp with e | ⟨b, e, hnb, hBR⟩
  · rw [e] at s5
    have hq1 := fun W => hq W none 0 0
    clear hq
    have HFI : Hid (∀ W, Below w.heap.size w W → Calls Try.prog 151 #[.pointer (some ⟨c.ab, 0, none⟩), .pointer (some ⟨T.root, 0, none⟩), .int .i64 (p : Int)] W (ROut c A W (rowW (bytesN c.s) (c.lang n) p))) := hide (fun W hb => by rw [hlang]; exact HF A W p (fun b hb' => by have := hA b hb'; have := hb.size; omega) (hm.below hb) hp)
    have HFF : Hid (∀ W', AMemo c A W' → W'.cell? ⟨c.ab, 1, none⟩ = some (.slice (some ⟨c.bg, 0, none⟩) c.parts c.bcap) ∧ W'.cell? ⟨c.bg, n, none⟩ = some (.slice (some ⟨c.R n, 0, none⟩) c.N c.N) ∧ W'.cell? ⟨T.root, 1, none⟩ = some (.int .i64 (n : Int)) ∧ (∃ v9, W'.cell? ⟨c.R n, p, none⟩ = some v9) ∧ W'.frozen? ⟨c.R n, p, none⟩ = false) := hide (fun W' h9 => by
      obtain ⟨ks, hk1, hk2⟩ := h9.by'
      obtain ⟨cs, hr1, hr2, hr3⟩ := h9.rows n hn
      refine ⟨h9.blk.cell 1, by rw [hk1.cell]; exact hk2 n hn, by rw [← hid]; exact (AtL.sub c.rules T h9.prt hT).id, ?_, hr1.frozen p⟩
      rw [hr1.cell p]
      rcases hr3 p hp with e | ⟨b, e, _⟩
      · exact ⟨_, e⟩
      · exact ⟨_, e⟩)
    have hne3 : c.R n ≠ c.ab := fun e9 => by have := (hm.blk.one (e9 ▸ hr1)).2; revert this; decide
    have hne4 : c.R n ≠ c.bg := fun e9 => by have := (hk1.one (e9 ▸ hr1)).2; revert this; decide
    have hne5 : c.R n ≠ T.root := fun e9 => MT.At.type hr1 (by decide) (by decide) T hTw (e9 ▸ MT.has_root T)
    clear hm hk1 hk2 hr1 hr2 hr3 e HF hTw
    go_enter Try.func136, Try.ntmps136
    go_wp2_with fail
    go_quiet (fail)
    go_upto_region 2 with fail
    obtain ⟨w0, hw0⟩ : ∃ w0 : World, w.drewN nq = w0 := ⟨_, rfl⟩
    rw [hw0]
    have hb0 : Below w.heap.size w w0.drew := by rw [← hw0]; exact ⟨rfl, rfl, rfl, Nat.le_refl _, fun _ _ => rfl⟩
    have t3 : w0.cell? ⟨c.ab, 1, none⟩ = some (.slice (some ⟨c.bg, 0, none⟩) c.parts c.bcap) := by rw [← hw0]; exact s3
    have t4 : w0.cell? ⟨c.bg, n, none⟩ = some (.slice (some ⟨c.R n, 0, none⟩) c.N c.N) := by rw [← hw0]; exact s4
    have t6 : w0.cell? ⟨T.root, 1, none⟩ = some (.int .i64 (n : Int)) := by rw [← hw0]; exact s6
    have S0 : w0.drew.cell? ⟨c.ab, 1, none⟩ = some (.slice (some ⟨c.bg, 0, none⟩) c.parts c.bcap) ∧ w0.drew.cell? ⟨c.bg, n, none⟩ = some (.slice (some ⟨c.R n, 0, none⟩) c.N c.N) ∧ w0.drew.cell? ⟨T.root, 1, none⟩ = some (.int .i64 (n : Int)) := ⟨t3, t4, t6⟩
    have HFI2 := hide (HFI.out w0.drew hb0)
    have HB0 := hide hb0
    obtain ⟨tr, htr⟩ : ∃ tr, T.root = tr := ⟨_, rfl⟩
    rw [htr] at HFI2 S0 t6 hne5 HFF ⊢
    clear hw0 hb0 s3 s4 s5 s6 HFI
    go_region_held3 (fun w' => w'.cell? ⟨c.ab, 1, none⟩ = some (.slice (some ⟨c.bg, 0, none⟩) c.parts c.bcap) ∧ w'.cell? ⟨c.bg, n, none⟩ = some (.slice (some ⟨c.R n, 0, none⟩) c.N c.N) ∧ w'.cell? ⟨tr, 1, none⟩ = some (.int .i64 (n : Int)))
      (first | with_reducible exact S0 | with_reducible exact S1 | exact ⟨by simp [g3, hne3, World.cell?_setCell_far], by simp [g4, hne4, World.cell?_setCell_far], by simp [g7, hne5, World.cell?_setCell_far]⟩)
      (first | (go_at_call 151; refine HFI2.out.mono ?_; rintro e w1 ⟨b1, rfl, hnb1, hBR1, hm1, hk1⟩; obtain ⟨g3, g4, g7, ⟨v9, g5⟩, g6⟩ := HFF.out w1 hm1; have S1 := And.intro g3 (And.intro g4 g7); have HR1 := hide (And.intro hnb1 (And.intro hBR1 (And.intro hm1 hk1))); clear hnb1 hBR1 hm1 hk1))
    obtain ⟨hnb1, hBR1, hm1, hk1⟩ := HR1.out
    have hf := hm1.found hn hp hnb1 hBR1
    have hfin : ROut c A w (rowW (bytesN c.s) (c.lang n) p) (.returned (.slice (some ⟨b1, 0, none⟩) c.N c.N)) (w1.setCell ⟨c.R n, p, none⟩ (.slice (some ⟨b1, 0, none⟩) c.N c.N)) := ⟨b1, rfl, hnb1, hm1.brow hf.2 hBR1, hf.1, ((Kept.ofBelow HB0.out).trans hk1 (fun i _ e => e)).trans hf.2 (fun i _ e => e)⟩
    obtain ⟨u3, u4, u7, _, _⟩ := HFF.out _ hf.1
    obtain ⟨cz, hz1, hz2, hz3⟩ := hm1.rows n hn
    have u5 : (w1.setCell ⟨c.R n, p, none⟩ (.slice (some ⟨b1, 0, none⟩) c.N c.N)).cell? ⟨c.R n, p, none⟩ = some (.slice (some ⟨b1, 0, none⟩) c.N c.N) := by rw [(hz1.set p _).cell p, Array.getElem?_setIfInBounds, if_pos rfl, if_pos (by rw [hz2]; exact hpN)]
    obtain ⟨w9, hw9⟩ : ∃ w9 : World, (w1.setCell ⟨c.R n, p, none⟩ (.slice (some ⟨b1, 0, none⟩) c.N c.N)) = w9 := ⟨_, rfl⟩
    rw [hw9] at hfin u3 u4 u7 u5 ⊢
    have HFN := hide hfin
    clear hfin hz1 hz2 hz3 hf hnb1 hBR1 hm1 hk1 HR1 g3 g4 g5 g6 g7 S1 S0 t3 t4 t6 hw9 HFF HFI2
    go_wp2_with fail
    go_quiet (fail)
    go_wp2_with fail
    go_ret
    obtain ⟨b, h1, h2, h3, h4, h5⟩ := HFN.out
    injection h1 with h1
    exact ⟨b, by rw [← h1]; rfl, h2, h3.below ⟨rfl, rfl, rfl, Nat.le_refl _, fun _ _ => rfl⟩, h4.below ⟨rfl, rfl, rfl, Nat.le_refl _, fun _ _ => rfl⟩, h5.drewN _⟩
  · rw [e] at s5
    have HH : Hid (∀ W, Below w.heap.size w W → ROut c A w (rowW (bytesN c.s) (c.lang n) p) (.returned (.slice (some ⟨b, 0, none⟩) c.N c.N)) W) := hide fun W hb => ⟨b, rfl, hnb, hBR.below hb, hm.below hb, Kept.ofBelow hb⟩
    clear hm hk1 hk2 hr1 hr2 hr3 e HF hBR hnb hTw hid hlang
    have hq1 := fun W => hq W (some ⟨b, 0, none⟩) c.N c.N
    clear hq
    go_enter Try.func136, Try.ntmps136
    go_wp2_with fail
    go_quiet (fail)
    go_wp2_with fail
    go_quiet (fail)
    go_wp2_with fail
    go_ret
    exact HH.out _ ⟨rfl, rfl, rfl, Nat.le_refl _, fun _ _ => rfl⟩
end Go.Proofs.Ytcckhngbdoiikaa

namespace Go.Proofs.Ytcckhngbdoiikaa
open Go.RowKit Go.Deep
set_option linter.unusedVariables false

/-- What 'from' has gathered from the first k places. -/
def FromP (L : List Nat) (P : List Nat → Prop) (now : List Bool) (k q : Nat) : Prop := ∃ m, m < k ∧ now.getD m false = true ∧ EndsW L P m q
theorem FromP.skip {L : List Nat} {P : List Nat → Prop} {now : List Bool} {k q : Nat} (h : now.getD k false = false) : FromP L P now (k + 1) q ↔ FromP L P now k q := by
  constructor
  · rintro ⟨m, h1, h2, h3⟩
    refine ⟨m, ?_, h2, h3⟩
    rcases Nat.lt_or_ge m k with e | e
    · exact e
    · have : m = k := by omega
      rw [this, h] at h2; cases h2
  · rintro ⟨m, h1, h2, h3⟩; exact ⟨m, by omega, h2, h3⟩
theorem FromP.take {L : List Nat} {P : List Nat → Prop} {now : List Bool} {k q : Nat} (h : now.getD k false = true) : FromP L P now (k + 1) q ↔ (FromP L P now k q ∨ EndsW L P k q) := by
  constructor
  · rintro ⟨m, h1, h2, h3⟩
    rcases Nat.lt_or_ge m k with e | e
    · exact .inl ⟨m, e, h2, h3⟩
    · have : m = k := by omega
      rw [this] at h3; exact .inr h3
  · rintro (⟨m, h1, h2, h3⟩ | h3)
    · exact ⟨m, by omega, h2, h3⟩
    · exact ⟨k, by omega, h, h3⟩
/-- Its own blocks lie below. -/
theorem AMemo.ult {c : AlC} {A : Nat → Prop} {w : World} (h : AMemo c A w) : ∀ n, n < c.parts → c.U n < w.heap.size := fun n hn => by
  obtain ⟨_, l, _, h2⟩ := h.wrow n hn
  exact h2.lt
theorem AMemo.kept1 {c : AlC} {A : Nat → Prop} {w w' : World} (h : AMemo c A w) (k : Kept c.M w w') {b : Nat} {cs : Array Value} {t : TypeId} (hb : Blk w b cs t) (ht : t ≠ 119) : Blk w' b cs t := hb.kept k (h.not hb ht)

set_option maxRecDepth 20000 in
set_option maxHeartbeats 3200000 in
theorem from_any (c : AlC) (T : MT) (HO : EndsC c T) (A : Nat → Prop) (w : World) (ng ncap : Nat) (now : List Bool) (hA : ∀ b, A b → b < w.heap.size) (hm : AMemo c A w) (hnow : BRow w (.slice (some ⟨ng, 0, none⟩) c.N ncap) now) (hl : now.length = c.N) (hs : c.s.size ≤ 20000) :
    Calls Try.prog 148 #[.pointer (some ⟨c.ab, 0, none⟩), .pointer (some ⟨T.root, 0, none⟩), .slice (some ⟨ng, 0, none⟩) c.N ncap] w fun e w' => ∃ l, l.length = c.N ∧ (∀ q, q ≤ c.s.size → (l.getD q false = true ↔ ∃ m, now.getD m false = true ∧ EndsW (bytesN c.s) T.nt.Word m q)) ∧ ROut c A w l e w' := by
  have hN2 : c.N ≤ 20001 := by unfold AlC.N; omega
  have hN1 : (c.s.size : Int) + 1 = (c.N : Int) := by unfold AlC.N; omega
  have hmk := makeBools c.N (by omega)
  have s0 : w.cell? ⟨c.ab, 0, none⟩ = some (.string c.s) := hm.blk.cell 0
  have HNOW := hide hnow
  have HM := hide hm
  have HOV := hide HO
  have HL := hide hl
  have HAA := hide hA
  have HU := hide hm.ult
  have hng : ng < w.heap.size := ownsRow_lt hnow ng rfl
  clear hnow hm HO hl hA
  go_enter Try.func148, Try.ntmps148
  go_wp2_with fail
  go_loopg [8] c.N (fun G pv wr => ∃ (p : Nat) (l : List Bool), pv = .int .i64 (p : Int) ∧ p ≤ c.N ∧ G = c.N - p ∧ l.length = c.N ∧ (∀ q, q ≤ c.s.size → (l.getD q false = true ↔ FromP (bytesN c.s) T.nt.Word now p q)) ∧
    AMemo c (fun b => A b ∨ b = w.heap.size) wr ∧ Kept c.M w wr ∧ Blk wr w.heap.size (boolsA l) 4)
  case atStart =>
    refine ⟨0, List.replicate c.N false, rfl, by omega, rfl, by simp, fun q hq => ?_, HM.out.fresh.below (Below1 _ _), (Kept.refl _ _).alloc _, Blk.new _ _ _⟩
    constructor
    · intro h; simp [AlC.ltN.2 hq] at h
    · rintro ⟨m, hm, _⟩; omega
  case round =>
    obtain ⟨p, l, rfl, hp, rfl, hll, hspec, hmm, hk, hI⟩ := hrel
    have zI := hI.lt
    by_cases hlt : p < c.N
    · have e0 : decide ((p : Int) < (c.N : Int)) = true := by simp; omega
      have cN := (HM.out.brow hk HNOW.out).cellD p (by rw [HL.out]; exact hlt)
      have p0 : (0 : Int) ≤ (p : Int) := by omega
      have p1 : (p : Int) < (c.N : Int) := by omega
      have HLL := hide hll
      have HSP := hide hspec
      have HH : Hid (AMemo c (fun b => A b ∨ b = w.heap.size) wr ∧ Kept c.M w wr ∧ Blk wr w.heap.size (boolsA l) 4) := ⟨hmm, hk, hI⟩
      clear hmm hk hI hll hspec
      cases hnp : now.getD p false with
      | false =>
        rw [hnp] at cN
        have HNP := hide hnp
        clear hnp
        go_wp2_with fail
        go_roundg (c.N - (p + 1))
        case measure => omega
        case rel => exact ⟨p + 1, l, by go_num, by omega, rfl, HLL.out, fun q hq => by rw [FromP.skip HNP.out]; exact HSP.out q hq, HH.out.1, HH.out.2.1, HH.out.2.2⟩
      | true =>
        rw [hnp] at cN
        have HNP := hide hnp
        clear hnp
        go_wp2_with fail
        refine (HOV.out (fun b => A b ∨ b = w.heap.size) wr p (fun b hb => by rcases hb with e | e; have := HAA.out b e; omega; omega) HH.out.1 (AlC.ltN.1 hlt)).mono ?_
        rintro e w1 ⟨b, rfl, hnb, hBR, hm1, hk1⟩
        have zz : w1.heap.size ≥ wr.heap.size := hk1.size
        have hI1 : Blk w1 w.heap.size (boolsA l) 4 := HH.out.1.kept1 hk1 HH.out.2.2 (by decide)
        have hbg : b ≠ w.heap.size := fun e => hnb (.inr e)
        have HAD := hide (refAdd_any w.heap.size c.N c.N l (rowW (bytesN c.s) T.nt.Word p) (.slice (some ⟨b, 0, none⟩) c.N c.N) w1 hI1 hBR HLL.out (rowA_len _ _ _) (fun e => hbg (Option.some.inj e)) (by omega))
        have HH1 : Hid (AMemo c (fun b => A b ∨ b = w.heap.size) w1 ∧ Kept c.M w w1 ∧ Blk w1 w.heap.size (boolsA l) 4) := ⟨hm1, HH.out.2.1.trans hk1 (fun i _ e => e), hI1⟩
        clear hm1 hk1 hI1 hBR hnb HH cN
        go_wp2_with fail
        refine HAD.out.mono ?_
        rintro e w2 ⟨rfl, hB2, hk2⟩
        have HB2 := hide (And.intro hB2 hk2)
        clear hB2 hk2 HAD
        go_wp2_with fail
        go_roundg (c.N - (p + 1))
        case measure => omega
        case rel =>
          obtain ⟨r1, r2⟩ := HB2.out
          obtain ⟨q1, q2, q3⟩ := HH1.out
          refine ⟨p + 1, orL l (rowW (bytesN c.s) T.nt.Word p), by go_num, by omega, rfl, by rw [orL_len]; exact HLL.out, fun q hq => ?_, q1.keptA r2 (.inr rfl) (fun n hn => by have := HU.out n hn; omega) q3, ?_, r1⟩
          · rw [orL_getD _ _ _ (by rw [HLL.out]; exact AlC.ltN.2 hq) (by rw [rowA_len]; exact AlC.ltN.2 hq), Bool.or_eq_true, HSP.out q hq, rowW_getD, FromP.take HNP.out]
          · exact ⟨r2.os.trans q2.os, r2.tape.trans q2.tape, r2.output.trans q2.output, by have := q2.size; have := r2.size; omega, fun k hk he => (r2.block k (by have := q2.size; omega) (by omega)).trans (q2.block k hk he)⟩
    · have e0 : decide ((p : Int) < (c.N : Int)) = false := by simp; omega
      obtain rfl : p = c.N := by omega
      have HH : Hid (AMemo c (fun b => A b ∨ b = w.heap.size) wr ∧ Kept c.M w wr ∧ Blk wr w.heap.size (boolsA l) 4 ∧ l.length = c.N ∧ (∀ q, q ≤ c.s.size → (l.getD q false = true ↔ FromP (bytesN c.s) T.nt.Word now c.N q))) := ⟨hmm, hk, hI, hll, hspec⟩
      clear hmm hk hI hll hspec
      go_wp2_with fail
      go_ret
      obtain ⟨r1, r2, r3, r4, r5⟩ := HH.out
      refine ⟨l, r4, fun q hq => ?_, w.heap.size, rfl, fun e => by have := HAA.out _ e; omega, ?_, r1.weak (fun b e => .inl e) (fun n hn => (HM.out.wrow n hn).1), r2⟩
      · rw [r5 q hq]
        constructor
        · rintro ⟨m, _, h2, h3⟩; exact ⟨m, h2, h3⟩
        · rintro ⟨m, h2, h3⟩
          refine ⟨m, ?_, h2, h3⟩
          have h4 := h3.1
          rw [AlC.ltN]; omega
      · have := BRow.ofBlk r3 (by omega)
        rw [r4] at this
        exact this
end Go.Proofs.Ytcckhngbdoiikaa
