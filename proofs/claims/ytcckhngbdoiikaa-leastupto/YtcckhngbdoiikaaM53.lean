import Derived.Test.YtcckhngbdoiikaaM51
import Derived.Test.YtcckhngbdoiikaaM49
import Derived.Test.YtcckhngbdoiikaaM52
import Derived.Test.YtcckhngbdoiikaaM39

namespace Go.Proofs.Ytcckhngbdoiikaa
set_option linter.unusedVariables false

theorem newF_fit {s : ByteArray} {kd : Nat → Nat} {g : Graph} (h : newF s = .lexer kd g) : LexFit kd g := by
  obtain ⟨R, hR⟩ := newF_build h
  exact ⟨(newF_lexOk h).1, (build_lexG hR).stepsIn, build_small hR, (build_lexG hR).pos⟩
theorem allTok_path (kd : Nat → Nat) (g : Graph) (s : ByteArray) : ∀ (n p : Nat) (acc : List TokT), p ≤ s.size → s.size < n + p → ∃ l, allTok kd g s n p acc = acc ++ l ∧ TokPath kd g s p l s.size
  | 0, p, acc, hp, hn => by omega
  | n + 1, p, acc, hp, hn => by
    unfold allTok
    by_cases hlt : p < s.size
    · rw [if_pos hlt]
      obtain ⟨h1, h2, h3⟩ := nextTok_pos kd g s p hlt
      obtain ⟨l, h4, h5⟩ := allTok_path kd g s n (nextTok kd g s p).tt (acc ++ [nextTok kd g s p]) h2 (by omega)
      exact ⟨nextTok kd g s p :: l, by rw [h4]; simp, hlt, rfl, h5⟩
    · rw [if_neg hlt]
      exact ⟨[], by simp, by show p = s.size; omega⟩
theorem cutF_path (kd : Nat → Nat) (g : Graph) (s : ByteArray) : TokPath kd g s 0 (cutF kd g s) s.size := by
  obtain ⟨l, h1, h2⟩ := allTok_path kd g s (s.size + 1) 0 [] (Nat.zero_le _) (by omega)
  unfold cutF
  rw [h1]
  simpa using h2
theorem TokPath.le {kd : Nat → Nat} {g : Graph} {s : ByteArray} : ∀ {l : List TokT} {p q : Nat}, TokPath kd g s p l q → p + l.length ≤ q
  | [], p, q, h => by have : p = q := h; simp; omega
  | t :: r, p, q, ⟨h1, h2, h3⟩ => by
    have h4 := TokPath.le h3
    have h5 := (nextTok_pos kd g s p h1).1
    rw [← h2] at h5
    simp; omega
theorem path_split {kd : Nat → Nat} {g : Graph} {s : ByteArray} : ∀ {l m : List TokT} {p p' : Nat}, TokPath kd g s p m s.size → TokPath kd g s p l p' → ∃ m', m = l ++ m' ∧ TokPath kd g s p' m' s.size
  | [], m, p, p', hm, hl => ⟨m, rfl, by have e : p = p' := hl; rw [← e]; exact hm⟩
  | t :: r, [], p, p', hm, ⟨h1, _, _⟩ => by have : p = s.size := hm; omega
  | t :: r, t' :: m, p, p', ⟨g1, g2, g3⟩, ⟨h1, h2, h3⟩ => by
    have e : t = t' := by rw [h2, g2]
    subst e
    obtain ⟨m', e1, e2⟩ := path_split g3 h3
    exact ⟨m', by rw [e1]; rfl, e2⟩
theorem on_resume {kd : Nat → Nat} {g : Graph} {s : ByteArray} {p : Nat} {i : Info} (h1 : p ≤ i.1) (h2 : i.1 ≤ s.size) (h3 : i.1 = p → i = info0 p) (h4 : stretchF kd g (savOf p s i) = stretchF kd g (savOf p s (info0 p))) (ends : Bool) (n : Nat) (acc : List TokT) :
    onLoop kd g ends (n + 1) (savOf p s i) acc = onLoop kd g ends (n + 1) (savOf p s (info0 p)) acc := by
  by_cases e : i.1 = p
  · rw [h3 e]
  · have c1 : (savOf p s i).at_ < (savOf p s i).en ∨ (savOf p s i).tail.size ≠ 0 := .inl (by show p < i.1; omega)
    have c2 : (savOf p s (info0 p)).at_ < (savOf p s (info0 p)).en ∨ (savOf p s (info0 p)).tail.size ≠ 0 := .inr (by show (s.extract p s.size).size ≠ 0; rw [extract_size']; omega)
    unfold onLoop
    rw [if_pos c1, if_pos c2, h4]
/-- On, from how it stands, comes to the same as from the token's beginning. -/
theorem Stand.on {kd : Nat → Nat} {g : Graph} {x : ByteArray} {p : Nat} {v : SavT} (h : Stand kd g x p v) (y : ByteArray) (ends : Bool) :
    onF kd g v y ends = onLoop kd g ends ((x ++ y).size - p + 1) (savOf p (x ++ y) (info0 p)) [] := by
  obtain ⟨i, e1, h1, h2, h3, h4⟩ := h.more y
  have hle := h.le
  have hsz : (x ++ y).size = x.size + y.size := ByteArray.size_append
  unfold onF
  rw [e1]
  have hv : v.en - v.at_ + (v.tail ++ y).size + 1 = (x ++ y).size - p + 1 := by
    have e2 : v.en = i.1 := congrArg SavT.en e1
    have e3 : v.at_ = p := congrArg SavT.at_ e1
    have e4 : v.tail ++ y = (x ++ y).extract i.1 (x ++ y).size := congrArg SavT.tail e1
    rw [e2, e3, e4, extract_size']
    omega
  rw [hv]
  exact on_resume h1 (by omega) h3 h4 ends _ []
theorem Stand.start (kd : Nat → Nat) (g : Graph) : Stand kd g ⟨#[]⟩ 0 (startS 0) := by
  have e9 : restL (⟨#[]⟩ : ByteArray) 0 = [] := rfl
  refine ⟨Nat.le_refl _, ?_, ?_⟩
  · rw [e9]
    show startS 0 = savOf 0 ⟨#[]⟩ (info0 0)
    unfold startS savOf
    rfl
  · rw [e9]
    show (some (0 : Int)) ≠ none
    simp
theorem Stand.sizes {kd : Nat → Nat} {g : Graph} {x : ByteArray} {p : Nat} {v : SavT} (h : Stand kd g x p v) : v.at_ ≤ v.en ∧ v.en + v.tail.size = x.size := by
  obtain ⟨hle, rfl, _⟩ := h
  have hen := walkL_end kd g (restL x p) p 0 (info0 p)
  rw [restL_len] at hen
  generalize (walkL kd g (restL x p) p 0 (info0 p)).1 = i at hen
  have : p ≤ i.1 ∧ i.1 ≤ x.size := by
    rcases hen with e | ⟨a, b, _⟩
    · rw [e]; exact ⟨Nat.le_refl _, hle⟩
    · omega
  refine ⟨this.1, ?_⟩
  show i.1 + (x.extract i.1 x.size).size = x.size
  rw [extract_size']
  omega
/-- One piece more. -/
theorem Stand.feed {kd : Nat → Nat} {g : Graph} (ho : LexOk kd g) {x : ByteArray} {p : Nat} {v : SavT} (h : Stand kd g x p v) (y S z : ByteArray) (hS : S = (x ++ y) ++ z) (m : List TokT) (k : Nat) (hk : k ≤ m.length) (hm : TokPath kd g S p (m.drop k) S.size) :
    ∃ p', Stand kd g (x ++ y) p' (onF kd g v y false).2 ∧ k + (onF kd g v y false).1.length ≤ m.length ∧ (m.drop k).take (onF kd g v y false).1.length = (onF kd g v y false).1 ∧ TokPath kd g S p' (m.drop (k + (onF kd g v y false).1.length)) S.size := by
  have hle := h.le
  have hsz : (x ++ y).size = x.size + y.size := ByteArray.size_append
  obtain ⟨l, p', v', e1, h1, h2, h3⟩ := on_told ho (x ++ y) ((x ++ y).size - p + 1) p [] (by omega) (by omega)
  rw [h.on y false, e1]
  simp only [List.nil_append]
  have h4 := h3 z
  rw [← hS] at h4
  obtain ⟨m', e2, e3⟩ := path_split hm h4
  have hl : (m.drop k).length = l.length + m'.length := by rw [e2]; simp
  rw [List.length_drop] at hl
  refine ⟨p', h1, by omega, by rw [e2]; simp, ?_⟩
  have e4 : m.drop (k + l.length) = m' := by rw [← List.drop_drop, e2]; simp
  rw [e4]
  exact e3
/-- The end. -/
theorem Stand.close {kd : Nat → Nat} {g : Graph} {x : ByteArray} {p : Nat} {v : SavT} (h : Stand kd g x p v) (m : List TokT) (k : Nat) (hk : k ≤ m.length) (hm : TokPath kd g x p (m.drop k) x.size) :
    k + (onF kd g v ⟨#[]⟩ true).1.length = m.length ∧ (m.drop k).take (onF kd g v ⟨#[]⟩ true).1.length = (onF kd g v ⟨#[]⟩ true).1 := by
  have hle := h.le
  have ex : x ++ (⟨#[]⟩ : ByteArray) = x := by
    apply ByteArray.ext
    simp
  rw [h.on ⟨#[]⟩ true, ex, savOf_info0, on_cut kd g x _ p [] hle (by omega)]
  obtain ⟨l, e1, e2⟩ := allTok_path kd g x (x.size - p + 1) p [] hle (by omega)
  rw [e1, List.nil_append]
  obtain ⟨m', e3, e4⟩ := path_split hm e2
  have hm' : m' = [] := by
    cases m' with
    | nil => rfl
    | cons t r => have := e4.1; omega
  subst hm'
  have hl : (m.drop k).length = l.length := by rw [e3]; simp
  rw [List.length_drop] at hl
  exact ⟨by omega, by rw [e3]; simp⟩
end Go.Proofs.Ytcckhngbdoiikaa

namespace Go.Proofs.Ytcckhngbdoiikaa
open Go.RowKit Go.Deep
set_option linter.unusedVariables false

abbrev abaText : ByteArray := ⟨#[97, 98, 97]⟩
def gapOfNew : NewT → Bool × Nat
  | .bad _ _ => (false, 0)
  | .lexer kd g => ((gapOf kd g).bounded, (gapOf kd g).k)
def fedOfNew : NewT → List TokT
  | .bad _ _ => []
  | .lexer kd g => (onF kd g (startS 0) abaText false).1
theorem sureGap : gapOfNew (newF sureText) = (true, 2) := by kernel_rfl
theorem sureFed : fedOfNew (newF sureText) = [⟨0, 0, 1⟩, ⟨-1, 1, 2⟩] := by kernel_rfl

set_option maxRecDepth 20000 in
set_option maxHeartbeats 1600000 in
theorem flows_any (w : World) : Calls Try.prog 40 #[] w fun e w' => e = .returned (.bool true) ∧ Below w.heap.size w w' := by
  obtain ⟨kd, g, hn, hg⟩ := sureNew
  have hgp : (gapOf kd g).bounded = true ∧ (gapOf kd g).k = 2 := by
    have := sureGap
    rw [hn] at this
    exact ⟨congrArg Prod.fst this, congrArg Prod.snd this⟩
  have hfd : (onF kd g (startS 0) abaText false).1 = [⟨0, 0, 1⟩, ⟨-1, 1, 2⟩] := by have := sureFed; rw [hn] at this; exact this
  have hfit := newF_fit hn
  have HN := hide hn
  have HFD := hide hfd
  have HCU := hide (fun W => cuts_any W)
  have HNE := hide (fun W => new_any sureText (by decide) W)
  have HGA := hide (fun (pb : Nat) (W : World) (h : LexAt W pb kd g) => gap_any pb kd g W h hfit)
  have HOP := hide (fun (pb : Nat) (W : World) (h : LexAt W pb kd g) => open_any pb kd g W h hfit)
  have HFE := hide (fun (tb pb : Nat) (W : World) (h : StreamAt W tb pb (startS 0) false) (hL : LexAt W pb kd g) => feed_any tb pb kd g (startS 0) abaText W h hL hfit.ok (by show 0 + 0 + 3 ≤ 4000000; omega) (Nat.le_refl _))
  generalize gapOf kd g = X at HGA HOP hgp
  obtain ⟨xb, xk, x1, x2, x3, x4, x5⟩ := X
  obtain ⟨hx1, hx2⟩ := hgp
  simp only at hx1 hx2
  subst hx1 hx2
  clear hn hg hfd hfit
  go_enter Try.func40, Try.ntmps40
  go_wp2_with fail
  refine (HCU.out _).mono ?_
  rintro e w1 ⟨rfl, hb1⟩
  have HB1 := hide hb1
  clear hb1
  go_wp2_with fail
  refine (HNE.out _).mono ?_
  rw [HN.out]
  rintro e w2 ⟨hb2, pb, rfl, hL⟩
  have HB2 : Hid (Below w.heap.size w w2 ∧ LexAt w2 pb kd g) := ⟨HB1.out.trans (hb2.mono HB1.out.size), hL⟩
  clear hb2 hL HB1
  go_wp2_with fail
  refine (HGA.out pb _ HB2.out.2).mono ?_
  rintro e w3 ⟨rfl, hb3⟩
  obtain ⟨w4, hw4⟩ : ∃ w4 : World, w3.alloc (.cells #[.bool true, .int .i64 2, .string x1, .string x2, .string x3, .string x4, .string x5] 68) = w4 := ⟨_, rfl⟩
  have HB4 : Hid (Below w.heap.size w w4 ∧ LexAt w4 pb kd g ∧ Blk w4 w3.heap.size #[.bool true, .int .i64 2, .string x1, .string x2, .string x3, .string x4, .string x5] 68) := by
    have h9 : Below w.heap.size w w3 := HB2.out.1.trans (hb3.mono HB2.out.1.size)
    rw [← hw4]
    exact ⟨h9.alloc h9.size _, (HB2.out.2.below hb3).below (Below1 _ _), Blk.new _ _ _⟩
  clear hb3
  go_wp2_with fail
  try rw [hw4]
  clear hw4
  refine (HOP.out pb _ HB4.out.2.1).mono ?_
  rintro e w5 ⟨hb5, hres⟩
  rcases hres with ⟨hbad, _⟩ | ⟨_, tb, rfl, hS, hge⟩
  · exact absurd hbad (by simp)
  have hB5 := HB4.out.2.2.below hb5
  have c0 : w5.cell? ⟨w3.heap.size, 0, none⟩ = some (.bool true) := hB5.cell 0
  have c1 : w5.cell? ⟨w3.heap.size, 1, none⟩ = some (.int .i64 2) := hB5.cell 1
  have HB5 : Hid (Below w.heap.size w w5 ∧ LexAt w5 pb kd g ∧ StreamAt w5 tb pb (startS 0) false ∧ w4.heap.size ≤ tb) := ⟨HB4.out.1.trans (hb5.mono HB4.out.1.size), HB4.out.2.1.below hb5, hS, hge⟩
  have hz4 : w.heap.size ≤ w4.heap.size := HB4.out.1.size
  clear hb5 hS hge hB5 HB4
  go_wp2_with fail
  refine (HFE.out tb pb _ HB5.out.2.2.1 HB5.out.2.1).mono ?_
  rintro e w6 ⟨v, rfl, hT, hv, hS6, hk6⟩
  rw [HFD.out] at hT
  obtain ⟨td, tcap, rfl, htrow⟩ := hT.form
  rcases htrow with h0 | ⟨tg, rfl⟩
  · simp at h0
  have d0 : w6.cell? ⟨tg, 0, none⟩ = some (.int .i64 0) := ownsRow_cell hT 0 (by decide)
  have d1 : w6.cell? ⟨tg, 1, none⟩ = some (.int .i64 0) := ownsRow_cell hT 1 (by decide)
  have d2 : w6.cell? ⟨tg, 2, none⟩ = some (.int .i64 1) := ownsRow_cell hT 2 (by decide)
  have hbb : Below w.heap.size w w6 := HB5.out.1.trans ⟨hk6.os, hk6.tape, hk6.output, hk6.size, fun b hb => hk6.block b (by have := HB5.out.1.size; omega) (by have := HB5.out.2.2.2; omega)⟩
  have HB6 := hide hbb
  clear hbb hk6 hS6 hv hT HB5
  go_wp2_with fail
  go_ret
  exact ⟨rfl, HB6.out⟩
end Go.Proofs.Ytcckhngbdoiikaa
