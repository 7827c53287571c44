import Derived.Test.YtcckhngbdoiikaaN32
import Derived.BigQuiet
import Derived.Deep.QuietTactic

namespace Go.Proofs.Ytcckhngbdoiikaa
open Go.RowKit Go.Deep
set_option linter.unusedVariables false

/-- A token. -/
structure TokT where
  rule : Int
  fr : Nat
  tt : Nat
  deriving DecidableEq, Inhabited
abbrev tokC (t : TokT) : Array Value := #[.int .i64 t.rule, .int .i64 (t.fr : Int), .int .i64 (t.tt : Int)]
def cutLoop (kd : Nat → Nat) (g : Graph) (s : ByteArray) (fr : Nat) : Nat → Nat → Int → TokT → TokT
  | 0, _, _, tok => tok
  | n + 1, p, st, tok =>
    if p < s.size then
      if nextF kd g st (peekI s p) = -1 then tok
      else cutLoop kd g s fr n (p + 1) (nextF kd g st (peekI s p)) (if ruleOfF g (nextF kd g st (peekI s p)) = -1 then tok else ⟨ruleOfF g (nextF kd g st (peekI s p)), fr, p + 1⟩)
    else tok
def nextTok (kd : Nat → Nat) (g : Graph) (s : ByteArray) (fr : Nat) : TokT := cutLoop kd g s fr (s.size - fr + 1) fr 0 ⟨-1, fr, fr + 1⟩
theorem cutLoop_pos (kd : Nat → Nat) (g : Graph) (s : ByteArray) (fr : Nat) : ∀ (n p : Nat) (st : Int) (tok : TokT), fr ≤ p → fr < tok.tt → tok.tt ≤ s.size → tok.fr = fr → fr < (cutLoop kd g s fr n p st tok).tt ∧ (cutLoop kd g s fr n p st tok).tt ≤ s.size ∧ (cutLoop kd g s fr n p st tok).fr = fr
  | 0, p, st, tok, _, h1, h2, h3 => ⟨h1, h2, h3⟩
  | n + 1, p, st, tok, h0, h1, h2, h3 => by
    unfold cutLoop
    split
    · split
      · exact ⟨h1, h2, h3⟩
      · split
        · exact cutLoop_pos kd g s fr n _ _ _ (by omega) h1 h2 h3
        · exact cutLoop_pos kd g s fr n _ _ _ (by omega) (by show fr < p + 1; omega) (by show p + 1 ≤ s.size; omega) rfl
    · exact ⟨h1, h2, h3⟩
theorem nextTok_pos (kd : Nat → Nat) (g : Graph) (s : ByteArray) (fr : Nat) (h : fr < s.size) : fr < (nextTok kd g s fr).tt ∧ (nextTok kd g s fr).tt ≤ s.size ∧ (nextTok kd g s fr).fr = fr :=
  cutLoop_pos kd g s fr _ _ _ _ (Nat.le_refl _) (by show fr < fr + 1; omega) (by show fr + 1 ≤ s.size; omega) rfl
def allTok (kd : Nat → Nat) (g : Graph) (s : ByteArray) : Nat → Nat → List TokT → List TokT
  | 0, _, acc => acc
  | n + 1, p, acc => if p < s.size then allTok kd g s n (nextTok kd g s p).tt (acc ++ [nextTok kd g s p]) else acc
def cutF (kd : Nat → Nat) (g : Graph) (s : ByteArray) : List TokT := allTok kd g s (s.size + 1) 0 []
/-- The cells of a list of tokens. -/
def toksC : List TokT → List Value
  | [] => []
  | t :: r => .int .i64 t.rule :: .int .i64 (t.fr : Int) :: .int .i64 (t.tt : Int) :: toksC r
theorem toksC_append : ∀ l m : List TokT, toksC (l ++ m) = toksC l ++ toksC m
  | [], m => rfl
  | s :: r, m => by simp [toksC, toksC_append r m]
theorem toksC_get : ∀ (l : List TokT) (k : Nat) (h : k < l.length), (toksC l)[k * 3]? = some (.int .i64 l[k].rule) ∧ (toksC l)[k * 3 + 1]? = some (.int .i64 (l[k].fr : Int)) ∧ (toksC l)[k * 3 + 2]? = some (.int .i64 (l[k].tt : Int))
  | s :: r, 0, _ => ⟨rfl, rfl, rfl⟩
  | s :: r, k + 1, h => by
    rw [show (k + 1) * 3 = k * 3 + 1 + 1 + 1 by omega]
    simp only [toksC, List.getElem?_cons_succ, List.getElem_cons_succ, show k * 3 + 1 + 1 + 1 + 1 = (k * 3 + 1) + 1 + 1 + 1 by omega, show k * 3 + 1 + 1 + 1 + 2 = (k * 3 + 2) + 1 + 1 + 1 by omega]
    exact toksC_get r k (by simpa using h)
def TokRow (w : World) (v : Value) (l : List TokT) : Prop := w.ownsRow 0 66 3 v l.length (toksC l)
theorem Try.infoTok3 : (Try.prog.info? 66).map (fun i => (i.zero, i.size, i.bytes)) = some (some (.agg #[.int .i64 0, .int .i64 0, .int .i64 0]), 3, 24) := by kernel_rfl
theorem TokRow.kept {w w' : World} {v : Value} {l : List TokT} {ex : Nat → Prop} (h : TokRow w v l) (k : Kept ex w w') (he : ∀ b, v.ownBlock = some b → ¬ ex b) : TokRow w' v l := ownsRow_kept h k he
theorem TokRow.below {w w' : World} {v : Value} {l : List TokT} (h : TokRow w v l) (k : Below w.heap.size w w') : TokRow w' v l := h.kept (ex := fun _ => False) (Kept.ofBelow k) (fun _ _ e => e)
theorem TokRow.form {w : World} {v : Value} {l : List TokT} (h : TokRow w v l) : ∃ (ad : Option Addr) (cap : Nat), v = .slice ad l.length cap ∧ (l.length = 0 ∨ ∃ g, ad = some ⟨g, 0, none⟩) := by
  obtain ⟨_, ad, cap, rfl, ⟨_, h⟩ | ⟨g, _, rfl, _⟩⟩ := ownsRow_form h
  · exact ⟨ad, cap, rfl, .inl h⟩
  · exact ⟨_, cap, rfl, .inr ⟨g, rfl⟩⟩
theorem wrapByte (s : ByteArray) (p : Nat) (h : p < s.size) : wrap64 ((s[p].toNat : Nat) : Int) = peekI s p := by
  have hl : ((s[p].toNat : Nat) : Int) < 256 := by have := s[p].toNat_lt; omega
  rw [wrap64_small ((s[p].toNat : Nat) : Int) (by omega) (by omega)]
  simp [peekI, h]

/-- How a cut stands. -/
structure SavT where
  at_ : Nat
  en : Nat
  rule : Int
  state : Int
  tail : ByteArray
abbrev savV (x : SavT) : Value := .agg #[.int .i64 (x.at_ : Int), .int .i64 (x.en : Int), .int .i64 x.rule, .int .i64 x.state, .string x.tail]
abbrev savC (x : SavT) : Array Value := #[.int .i64 (x.at_ : Int), .int .i64 (x.en : Int), .int .i64 x.rule, .int .i64 x.state, .string x.tail]
def startS (p : Nat) : SavT := ⟨p, p, -1, 0, ⟨#[]⟩⟩
def leadOnF (g : Graph) (s : Int) : Bool := if s < 0 ∨ (g.next.length : Int) ≤ s then false else (g.next.getD s.toNat []).any (fun t => t != -1)
def stretchLoop (kd : Nat → Nat) (g : Graph) (text : ByteArray) (beg : Nat) : Nat → Nat → Int → SavT → SavT × Bool
  | 0, _, _, x => (x, false)
  | n + 1, i, st, x =>
    if i < text.size then
      if nextF kd g st (peekI text i) = -1 then (x, false)
      else stretchLoop kd g text beg n (i + 1) (nextF kd g st (peekI text i)) (if ruleOfF g (nextF kd g st (peekI text i)) = -1 then x else ⟨x.at_, beg + i + 1, ruleOfF g (nextF kd g st (peekI text i)), nextF kd g st (peekI text i), text.extract (i + 1) text.size⟩)
    else (x, leadOnF g st)
def stretchF (kd : Nat → Nat) (g : Graph) (x : SavT) : SavT × Bool := stretchLoop kd g x.tail x.en (x.tail.size + 1) 0 x.state x
/-- The token at which the cut stands, a lone byte if it has none. -/
def lone (x : SavT) : SavT := if x.en = x.at_ then { x with en := x.en + 1, tail := x.tail.extract 1 x.tail.size } else x
def onLoop (kd : Nat → Nat) (g : Graph) (ends : Bool) : Nat → SavT → List TokT → List TokT × SavT
  | 0, x, acc => (acc, x)
  | n + 1, x, acc =>
    if x.at_ < x.en ∨ x.tail.size ≠ 0 then
      if (stretchF kd g x).2 = true ∧ ends = false then (acc, (stretchF kd g x).1)
      else onLoop kd g ends n ⟨(lone (stretchF kd g x).1).en, (lone (stretchF kd g x).1).en, -1, 0, (lone (stretchF kd g x).1).tail⟩ (acc ++ [⟨(lone (stretchF kd g x).1).rule, (lone (stretchF kd g x).1).at_, (lone (stretchF kd g x).1).en⟩])
    else (acc, x)
def onF (kd : Nat → Nat) (g : Graph) (x : SavT) (bytes : ByteArray) (ends : Bool) : List TokT × SavT := onLoop kd g ends (x.en - x.at_ + (x.tail ++ bytes).size + 1) { x with tail := x.tail ++ bytes } []

/-- What a stretch keeps: its place; the token's end and what is behind it go up to the same place. -/
structure SavUp (x y : SavT) : Prop where
  at_ : y.at_ = x.at_
  up : x.en ≤ y.en
  sum : y.en + y.tail.size = x.en + x.tail.size
  same : y.en = x.en → y = x
theorem extract_size' (s : ByteArray) (a : Nat) : (s.extract a s.size).size = s.size - a := by rw [ByteArray.size_extract]; omega
theorem stretchLoop_up (kd : Nat → Nat) (g : Graph) (x : SavT) : ∀ (n i : Nat) (st : Int) (y : SavT), i ≤ x.tail.size → SavUp x y → SavUp x (stretchLoop kd g x.tail x.en n i st y).1
  | 0, i, st, y, _, h => h
  | n + 1, i, st, y, hi, h => by
    unfold stretchLoop
    split
    · rename_i hlt
      split
      · exact h
      · split
        · exact stretchLoop_up kd g x n _ _ _ hlt h
        · refine stretchLoop_up kd g x n _ _ _ hlt ⟨h.at_, ?_, ?_, ?_⟩
          · show x.en ≤ x.en + i + 1; omega
          · show x.en + i + 1 + (x.tail.extract (i + 1) x.tail.size).size = x.en + x.tail.size
            rw [extract_size']; omega
          · intro e
            have e' : x.en + i + 1 = x.en := e
            omega
    · exact h
theorem stretchF_up (kd : Nat → Nat) (g : Graph) (x : SavT) : SavUp x (stretchF kd g x).1 :=
  stretchLoop_up kd g x _ _ _ _ (Nat.zero_le _) ⟨rfl, Nat.le_refl _, rfl, fun _ => rfl⟩
theorem peek_extract (s : ByteArray) (p i : Nat) (h : p ≤ s.size) (hi : i < (s.extract p s.size).size) : peekI (s.extract p s.size) i = peekI s (p + i) := by
  have h1 : p + i < s.size := by rw [extract_size'] at hi; omega
  unfold peekI
  rw [dif_pos hi, dif_pos h1, ByteArray.getElem_extract]
theorem extract_extract (s : ByteArray) (p i : Nat) (hp : p ≤ s.size) : (s.extract p s.size).extract i (s.extract p s.size).size = s.extract (p + i) s.size := by
  rw [ByteArray.extract_extract, extract_size']
  congr 1
  omega
/-- The cut's own token and how a stretch stands. -/
def TokSav (s : ByteArray) (p : Nat) (tok : TokT) (x : SavT) : Prop :=
  x.at_ = p ∧ ((x.en = p ∧ x = ⟨p, p, -1, 0, s.extract p s.size⟩ ∧ tok = ⟨-1, p, p + 1⟩) ∨ (p < x.en ∧ x.en ≤ s.size ∧ tok = ⟨x.rule, p, x.en⟩ ∧ x.tail = s.extract x.en s.size))
theorem stretch_cut (kd : Nat → Nat) (g : Graph) (s : ByteArray) (p : Nat) (hp : p ≤ s.size) : ∀ (n i : Nat) (st : Int) (tok : TokT) (x : SavT), i ≤ s.size - p → TokSav s p tok x → TokSav s p (cutLoop kd g s p n (p + i) st tok) (stretchLoop kd g (s.extract p s.size) p n i st x).1
  | 0, i, st, tok, x, _, h => h
  | n + 1, i, st, tok, x, hi, h => by
    unfold cutLoop stretchLoop
    have hz := extract_size' s p
    by_cases hlt : p + i < s.size
    · have hlt' : i < (s.extract p s.size).size := by omega
      rw [if_pos hlt, if_pos hlt', peek_extract s p i hp hlt']
      split
      · exact h
      · refine stretch_cut kd g s p hp n (i + 1) _ _ _ (by omega) ?_
        split
        · exact h
        · refine ⟨h.1, .inr ⟨?_, ?_, rfl, ?_⟩⟩
          · show p < p + i + 1; omega
          · show p + i + 1 ≤ s.size; omega
          · show (s.extract p s.size).extract (i + 1) (s.extract p s.size).size = s.extract (p + i + 1) s.size
            rw [extract_extract s p (i + 1) hp]; rfl
    · have hlt' : ¬ i < (s.extract p s.size).size := by omega
      rw [if_neg hlt, if_neg hlt']
      exact h
/-- Going on from a place ahead of which all is told, to the end: the cut. -/
theorem on_cut (kd : Nat → Nat) (g : Graph) (s : ByteArray) : ∀ (n p : Nat) (acc : List TokT), p ≤ s.size → s.size < n + p → (onLoop kd g true n ⟨p, p, -1, 0, s.extract p s.size⟩ acc).1 = allTok kd g s n p acc
  | 0, p, acc, _, _ => rfl
  | n + 1, p, acc, hp, hn => by
    unfold onLoop allTok
    have hz := extract_size' s p
    by_cases hlt : p < s.size
    · rw [if_pos hlt, if_pos (.inr (by show (s.extract p s.size).size ≠ 0; omega)), if_neg (by simp)]
      have h := stretch_cut kd g s p hp (s.size - p + 1) 0 0 ⟨-1, p, p + 1⟩ ⟨p, p, -1, 0, s.extract p s.size⟩ (by omega) ⟨rfl, .inl ⟨rfl, rfl, rfl⟩⟩
      have e1 : stretchF kd g ⟨p, p, -1, 0, s.extract p s.size⟩ = stretchLoop kd g (s.extract p s.size) p (s.size - p + 1) 0 0 ⟨p, p, -1, 0, s.extract p s.size⟩ := by
        unfold stretchF
        simp only [hz]
      rw [e1]
      have e2 : nextTok kd g s p = cutLoop kd g s p (s.size - p + 1) (p + 0) 0 ⟨-1, p, p + 1⟩ := rfl
      rw [e2]
      generalize (stretchLoop kd g (s.extract p s.size) p (s.size - p + 1) 0 0 ⟨p, p, -1, 0, s.extract p s.size⟩).1 = x at h
      generalize cutLoop kd g s p (s.size - p + 1) (p + 0) 0 ⟨-1, p, p + 1⟩ = tok at h
      obtain ⟨h1, ⟨h2, rfl, rfl⟩ | ⟨h2, h3, rfl, h4⟩⟩ := h
      · have e3 : lone ⟨p, p, -1, 0, s.extract p s.size⟩ = ⟨p, p + 1, -1, 0, s.extract (p + 1) s.size⟩ := by
          unfold lone
          rw [if_pos rfl, extract_extract s p 1 hp]
        rw [e3]
        exact on_cut kd g s n (p + 1) _ (by omega) (by omega)
      · have e3 : lone x = x := by unfold lone; rw [if_neg (by omega)]
        rw [e3, h1, h4]
        exact on_cut kd g s n x.en _ h3 (by omega)
    · rw [if_neg hlt, if_neg (by simp only [not_or]; exact ⟨by omega, by omega⟩)]
theorem onF_cut (kd : Nat → Nat) (g : Graph) (s : ByteArray) : (onF kd g (startS 0) s true).1 = cutF kd g s := by
  unfold onF cutF startS
  have e : (⟨#[]⟩ : ByteArray) ++ s = s := by simp [ByteArray.ext_iff]
  simp only [e]
  have h := on_cut kd g s (s.size + 1) 0 [] (Nat.zero_le _) (by omega)
  rw [ByteArray.extract_zero_size] at h
  rw [show 0 - 0 + s.size + 1 = s.size + 1 by omega]
  exact h
end Go.Proofs.Ytcckhngbdoiikaa

namespace Go.Proofs.Ytcckhngbdoiikaa
open Go.RowKit Go.Deep
set_option linter.unusedVariables false

theorem IRow.few {w : World} {v : Value} {l : List Int} (h : IRow w v l) : l.length ≤ maxLen := by
  obtain ⟨_, ad, cap, _, ⟨_, h2⟩ | ⟨g, cur, _, _, h3, h4, _⟩⟩ := ownsRow_form h
  · unfold maxLen; omega
  · omega

set_option maxRecDepth 20000 in
set_option maxHeartbeats 1600000 in
theorem leadOn_any (pb : Nat) (kd : Nat → Nat) (g : Graph) (s : Int) (w : World) (h : LexAt w pb kd g) :
    Calls Try.prog 118 #[.pointer (some ⟨pb, 0, none⟩), .int .i64 s] w fun e w' => e = .returned (.bool (leadOnF g s)) ∧ w' = w := by
  obtain ⟨ruv, nxv, h1, h2⟩ := h
  obtain ⟨vs, hN, hvl, hvs⟩ := h2.next
  have c0 : w.cell? ⟨pb, 257, none⟩ = some nxv := by rw [h1.cell]; exact tableC_257 _ _ _
  obtain ⟨ad, cap, rfl, hrow⟩ := hN.form
  generalize hF : leadOnF g s = F
  unfold leadOnF at hF
  rw [← hvl] at hF
  by_cases hs0 : s < 0
  · have e0 : decide (s < 0) = true := by simp [hs0]
    rw [if_pos (.inl hs0)] at hF
    subst hF
    clear h1 h2 hN hvl hvs
    go_enter Try.func118, Try.ntmps118
    go_wp2_with fail
    go_ret
    exact ⟨rfl, rfl⟩
  · have e0 : decide (s < 0) = false := by simp; omega
    by_cases hs1 : (vs.length : Int) ≤ s
    · have e1 : decide ((vs.length : Int) ≤ s) = true := by simp [hs1]
      rw [if_pos (.inr hs1)] at hF
      subst hF
      clear h1 h2 hN hvl hvs
      go_enter Try.func118, Try.ntmps118
      go_wp2_with fail
      go_ret
      exact ⟨rfl, rfl⟩
    · have e1 : decide ((vs.length : Int) ≤ s) = false := by simp; omega
      rw [if_neg (by omega)] at hF
      obtain ⟨j, rfl⟩ : ∃ j : Nat, s = (j : Int) := ⟨s.toNat, by omega⟩
      have hj : j < vs.length := by omega
      rcases hrow with h0 | ⟨ng, rfl⟩
      · omega
      have n0 := hN.cell j hj
      have hr := hvs j vs[j] (List.getElem?_eq_getElem _)
      rw [Int.toNat_natCast] at hF
      generalize g.next.getD j [] = row at hr hF
      generalize vs[j] = vj at n0 hr
      obtain ⟨ed, ecap, rfl, herow⟩ := hr.form
      have hmx := hr.few
      unfold maxLen at hmx
      have i0 : (0 : Int) ≤ (j : Int) := by omega
      have i1 : (j : Int) < (vs.length : Int) := by omega
      have HF := hide hF
      clear h1 h2 hN hvl hvs hF
      go_enter Try.func118, Try.ntmps118
      go_wp2_with fail
      go_loopg [28] row.length (fun G i wr => ∃ k : Nat, k ≤ row.length ∧ G = row.length - k ∧ i = .int .i64 (k : Int) ∧ wr = w ∧ (row.drop k).any (fun t => t != -1) = F)
      case atStart => exact ⟨0, by omega, rfl, rfl, rfl, by simpa using HF.out⟩
      case round =>
        obtain ⟨k, hk, rfl, rfl, rfl, hfr⟩ := hrel
        clear HF
        by_cases hlt : k < row.length
        · have e2 : decide ((k : Int) < (row.length : Int)) = true := by simp; omega
          rcases herow with h0 | ⟨eg, rfl⟩
          · omega
          have r0 := hr.cell k hlt
          have i2 : (0 : Int) ≤ (k : Int) := by omega
          have i3 : (k : Int) < (row.length : Int) := by omega
          rw [List.drop_eq_getElem_cons hlt, List.any_cons] at hfr
          generalize row[k] = tt at r0 hfr
          by_cases hn : tt = -1
          · subst hn
            have HFR := hide hfr
            clear hfr
            go_wp2_with fail
            go_roundg (row.length - (k + 1))
            case measure => omega
            case rel => exact ⟨k + 1, by omega, rfl, by go_num, rfl, by simpa using HFR.out⟩
          · have e3 : (tt != -1) = true := by simp [hn]
            have hfe : F = true := by rw [e3] at hfr; simpa using hfr.symm
            subst hfe
            clear hfr hn
            go_wp2_with fail
            go_ret
            exact ⟨rfl, rfl⟩
        · have e2 : decide ((k : Int) < (row.length : Int)) = false := by simp; omega
          rw [List.drop_of_length_le (by omega)] at hfr
          have hfe : F = false := by simpa using hfr.symm
          subst hfe
          clear hfr
          go_wp2_with fail
          go_ret
          exact ⟨rfl, rfl⟩
end Go.Proofs.Ytcckhngbdoiikaa
