import Derived.Test.YtcckhngbdoiikaaM56
import Derived.Test.YtcckhngbdoiikaaM53
import Derived.Test.YtcckhngbdoiikaaM49

namespace Go.Proofs.Ytcckhngbdoiikaa
open Go.RowKit Go.Deep
set_option linter.unusedVariables false

theorem stepsLoop_keeps (kd : Nat → Nat) (g : Graph) (s : Nat) : ∀ (n b : Nat) (seen : List Bool) (acc : List StepT), ∀ t ∈ acc, t ∈ stepsLoop kd g s n b seen acc
  | 0, b, seen, acc, t, ht => ht
  | n + 1, b, seen, acc, t, ht => by
    unfold stepsLoop
    split
    · split
      · exact stepsLoop_keeps kd g s n _ _ _ t ht
      · exact stepsLoop_keeps kd g s n _ _ _ t (by simp [ht])
    · exact ht
theorem stepsLoop_all {kd : Nat → Nat} {g : Graph} (hi : StepsIn kd g) (s : Nat) : ∀ (n b : Nat) (seen : List Bool) (acc : List StepT), 256 < n + b → seen.length = g.rule.length → (∀ q, seen.getD q false = true → ∃ t ∈ acc, t.q = q) →
    ∀ c : Nat, b ≤ c → c < 256 → nextF kd g (s : Int) (c : Int) ≠ -1 → ∃ t ∈ stepsLoop kd g s n b seen acc, t.q = (nextF kd g (s : Int) (c : Int)).toNat
  | 0, b, seen, acc, hn, hl, hs, c, h1, h2, h3 => by omega
  | n + 1, b, seen, acc, hn, hl, hs, c, h1, h2, h3 => by
    unfold stepsLoop
    rw [if_pos (by omega)]
    by_cases e : c = b
    · subst e
      split
      · rename_i hc
        rcases hc with hc | hc
        · exact absurd hc h3
        · obtain ⟨t, ht, hq⟩ := hs _ hc
          exact ⟨t, stepsLoop_keeps kd g s n _ _ _ t ht, hq⟩
      · exact ⟨_, stepsLoop_keeps kd g s n _ _ _ ⟨c, (nextF kd g (s : Int) (c : Int)).toNat⟩ (by simp), rfl⟩
    · split
      · exact stepsLoop_all hi s n (b + 1) seen acc (by omega) hl hs c (by omega) h2 h3
      · rename_i hc
        have hin := hi (s : Int) (b : Int)
        refine stepsLoop_all hi s n (b + 1) _ _ (by omega) (by simp [hl]) (fun q hq => ?_) c (by omega) h2 h3
        rw [getD_setB _ _ _ _ (by omega)] at hq
        split at hq
        · rename_i eq
          exact ⟨_, List.mem_append.2 (.inr (List.mem_singleton.2 rfl)), eq.symm⟩
        · obtain ⟨t, ht, hq'⟩ := hs q hq
          exact ⟨t, by simp [ht], hq'⟩
theorem stepsF_all {kd : Nat → Nat} {g : Graph} (hi : StepsIn kd g) (s c : Nat) (hc : c < 256) (h : nextF kd g (s : Int) (c : Int) ≠ -1) : ∃ t ∈ stepsF kd g s, t.q = (nextF kd g (s : Int) (c : Int)).toNat :=
  stepsLoop_all hi s 257 0 _ _ (by omega) (by simp) (fun q hq => by simp [List.getD_eq_getElem?_getD, List.getElem?_replicate] at hq; split at hq <;> cases hq) c (Nat.zero_le _) hc h
theorem weave_token (kd : Nat → Nat) (g : Graph) {s : Nat} (hs : s < g.rule.length) : (weaveF kd g).token.getD s false = decide (ruleOfF g (s : Int) ≠ -1) := by simp [weaveF, tokenF, hs]
theorem weave_lead {kd : Nat → Nat} {g : Graph} (hi : StepsIn kd g) {s c : Nat} (hs : s < g.rule.length) (hc : c < 256) (h : nextF kd g (s : Int) (c : Int) ≠ -1) {m : List Bool} (hm : m.getD (nextF kd g (s : Int) (c : Int)).toNat false = true) : leadsInto (weaveF kd g) m s = true := by
  obtain ⟨t, h1, h2⟩ := stepsF_all hi s c hc h
  unfold leadsInto intoF
  have e : (weaveF kd g).steps.getD s [] = stepsF kd g s := by simp [weaveF, stepsTo, hs]
  rw [e, List.find?_isSome]
  exact ⟨t, h1, by rw [h2]; exact hm⟩
theorem far_layer {kd : Nat → Nat} {g : Graph} (hi : StepsIn kd g) : ∀ (d s : Nat), s < g.rule.length → FarT kd g d (s : Int) → (layerAt (weaveF kd g) d).getD s false = true
  | 0, s, hs, h => by
    show (weaveF kd g).token.getD s false = true
    rw [weave_token kd g hs]
    exact decide_eq_true h
  | d + 1, s, hs, ⟨h1, b, h2, h3, h4⟩ => by
    have hin := hi (s : Int) (b : Int)
    obtain ⟨q, hq⟩ : ∃ q : Nat, nextF kd g (s : Int) (b : Int) = (q : Int) := ⟨(nextF kd g (s : Int) (b : Int)).toNat, by omega⟩
    rw [hq] at h4 hin
    have ih := far_layer hi d q (by omega) h4
    have hl := weave_lead hi hs h2 h3 (m := layerAt (weaveF kd g) d) (by rw [hq, Int.toNat_natCast]; exact ih)
    have ht := weave_token kd g hs
    rw [h1] at ht
    have hlen : s < (weaveF kd g).token.length := by simp [weaveF, tokenF_len, hs]
    show (layerF (weaveF kd g) (layerAt (weaveF kd g) d)).getD s false = true
    unfold layerF
    simp [hlen, hl]
    simpa [hlen] using ht
theorem far_down {kd : Nat → Nat} {g : Graph} (hi : StepsIn kd g) : ∀ (e d s : Nat), s < g.rule.length → FarT kd g (d + e) (s : Int) → ∃ s' : Nat, s' < g.rule.length ∧ FarT kd g d (s' : Int)
  | 0, d, s, hs, h => ⟨s, hs, h⟩
  | e + 1, d, s, hs, h => by
    obtain ⟨h1, b, h2, h3, h4⟩ : FarT kd g (d + e + 1) (s : Int) := h
    have hin := hi (s : Int) (b : Int)
    obtain ⟨q, hq⟩ : ∃ q : Nat, nextF kd g (s : Int) (b : Int) = (q : Int) := ⟨(nextF kd g (s : Int) (b : Int)).toNat, by omega⟩
    rw [hq] at h4 hin
    exact far_down hi e d q (by omega) h4
theorem farD_max (x : WebT) (LL : List (List Bool)) {d s : Nat} (hs : s < x.token.length) (h : farStop x (LL.getD d []) s = true) : ∀ D, d < D → d + 1 ≤ (farD x LL D).2
  | 0, hD => by omega
  | D + 1, hD => by
    unfold farD
    split
    · show d + 1 ≤ D + 1
      omega
    · rename_i hf
      by_cases e : D = d
      · subst e
        rw [List.find?_eq_none] at hf
        exact absurd h (hf s (by simp [hs]))
      · exact farD_max x LL hs h D (by omega)
/-- From a token, or from the beginning, the next token is not further away than K. -/
theorem lead_near {kd : Nat → Nat} {g : Graph} (hf : LexFit kd g) (hb : (gapOf kd g).bounded = true) {d s : Nat} (hs : s < g.rule.length) (ht : ruleOfF g (s : Int) ≠ -1 ∨ s = 0) (h : LeadT kd g d (s : Int)) : d + 1 ≤ (gapOf kd g).k := by
  have hi := hf.into
  obtain ⟨b, h2, h3, h4⟩ := h
  have hin := hi (s : Int) (b : Int)
  obtain ⟨q, hq⟩ : ∃ q : Nat, nextF kd g (s : Int) (b : Int) = (q : Int) := ⟨(nextF kd g (s : Int) (b : Int)).toNat, by omega⟩
  have h4' := h4
  rw [hq] at h4'
  rw [hq] at hin
  unfold gapOf at hb ⊢
  split at hb
  · simp [endlessF] at hb
  · rename_i hnone
    have hd : d < g.rule.length := by
      refine Nat.lt_of_not_le fun hge => ?_
      obtain ⟨e, rfl⟩ : ∃ e, d = g.rule.length + e := ⟨d - g.rule.length, by omega⟩
      obtain ⟨s', g1, g2⟩ := far_down hi e g.rule.length q (by omega) h4'
      have g3 := far_layer hi _ s' g1 g2
      rw [List.find?_eq_none] at hnone
      exact hnone s' (by simp [g1]) g3
    have hL := far_layer hi d q (by omega) h4'
    have hl := weave_lead hi hs h2 h3 (m := layerAt (weaveF kd g) d) (by rw [hq, Int.toNat_natCast]; exact hL)
    have hlen : s < (weaveF kd g).token.length := by simp [weaveF, tokenF_len, hs]
    have hst : farStop (weaveF kd g) ((layersF (weaveF kd g) g.rule.length).getD d []) s = true := by
      unfold farStop
      rw [layersF_get _ _ _ hd, hl, weave_token kd g hs]
      rcases ht with e | e <;> simp [e]
    show d + 1 ≤ (farD (weaveF kd g) (layersF (weaveF kd g) g.rule.length) (layersF (weaveF kd g) g.rule.length).length).2
    exact farD_max _ _ hlen hst _ (by rw [layersF_len]; exact hd)
/-- A walk that comes over no token. -/
theorem walkL_lead {kd : Nat → Nat} {g : Graph} : ∀ (L : List Int) (q : Nat) (st : Int) (info : Info) (s' : Int) (d : Nat), (∀ b ∈ L, 0 ≤ b ∧ b < 256) → info.1 ≤ q → (walkL kd g L q st info).1 = info → (walkL kd g L q st info).2 = some s' → LeadT kd g d s' → LeadT kd g (L.length + d) st
  | [], q, st, info, s', d, _, _, _, h2, hd => by
    have e : some st = some s' := h2
    injection e with e
    subst e
    rw [List.length_nil, Nat.zero_add]
    exact hd
  | b :: r, q, st, info, s', d, hb, hq, h1, h2, hd => by
    rw [walkL_cons] at h1 h2
    split at h1
    · rename_i hn
      rw [if_pos hn] at h2
      cases h2
    · rename_i hn
      rw [if_neg hn] at h2
      have hen := walkL_end kd g r (q + 1) (nextF kd g st b) (if ruleOfF g (nextF kd g st b) = -1 then info else (q + 1, ruleOfF g (nextF kd g st b), nextF kd g st b))
      by_cases hr : ruleOfF g (nextF kd g st b) = -1
      · rw [if_pos hr] at h1 h2
        have ih := walkL_lead r (q + 1) _ info s' d (fun c hc => hb c (by simp [hc])) (by omega) h1 h2 hd
        obtain ⟨b0, e0⟩ : ∃ b0 : Nat, b = (b0 : Int) := ⟨b.toNat, by have := hb b (by simp); omega⟩
        subst e0
        have hb0 := hb (b0 : Int) (by simp)
        refine ⟨b0, by omega, hn, ?_⟩
        rw [List.length_cons, show r.length + 1 + d = (r.length + d) + 1 by omega]
        exact ⟨hr, ih⟩
      · exfalso
        rw [if_neg hr] at h1 hen
        rw [h1] at hen
        rcases hen with e | ⟨e, _⟩
        · have : info.1 = q + 1 := congrArg Prod.fst e
          omega
        · omega
theorem walkL_state {kd : Nat → Nat} {g : Graph} : ∀ (L : List Int) (q : Nat) (st : Int) (info : Info), (walkL kd g L q st info).1 = info ∨ ruleOfF g (walkL kd g L q st info).1.2.2 ≠ -1
  | [], q, st, info => .inl rfl
  | b :: r, q, st, info => by
    rw [walkL_cons]
    split
    · exact .inl rfl
    · rcases walkL_state r (q + 1) (nextF kd g st b) (if ruleOfF g (nextF kd g st b) = -1 then info else (q + 1, ruleOfF g (nextF kd g st b), nextF kd g st b)) with e | e
      · rw [e]
        split
        · exact .inl rfl
        · rename_i hr
          exact .inr hr
      · exact .inr e
theorem restL_byte (s : ByteArray) (p : Nat) : ∀ b ∈ restL s p, 0 ≤ b ∧ b < 256 := by
  intro b hb
  unfold restL at hb
  rw [List.mem_map] at hb
  obtain ⟨c, _, rfl⟩ := hb
  have := c.toNat_lt
  omega
/-- Where a token ends, as due has it: a lone byte where it begins. -/
def endT (t : TokT) : Nat := if t.rule = -1 then t.fr else t.tt
def dueF (n k : Nat) : List TokT → Nat
  | [] => 0
  | t :: r => if n < endT t + k then 0 else dueF n k r + 1
theorem dueF_lt (n k : Nat) : ∀ (m : List TokT) (i : Nat), i < dueF n k m → ∃ t r, m.drop i = t :: r ∧ endT t + k ≤ n
  | [], i, h => by simp [dueF] at h
  | t :: r, i, h => by
    unfold dueF at h
    split at h
    · omega
    · rename_i hc
      cases i with
      | zero => exact ⟨t, r, rfl, by omega⟩
      | succ i => exact dueF_lt n k r i (by omega)
/-- Each token is told with which K bytes stand behind it. -/
theorem due_told {R : RulesT} {kd : Nat → Nat} {g : Graph} (hR : buildF R = some (kd, g)) (hf : LexFit kd g) (hbd : (gapOf kd g).bounded = true) {x y : ByteArray} {p : Nat} (hle : p ≤ x.size) (hop : p = x.size ∨ openOf g (walkL kd g (restL x p) p 0 (info0 p)).2 = true)
    (m : List TokT) (k : Nat) (hm : TokPath kd g (x ++ y) p (m.drop k) (x ++ y).size) (K : Nat) (hK : (gapOf kd g).k ≤ K) (hK1 : 1 ≤ K) : dueF x.size K m ≤ k := by
  refine Nat.le_of_not_lt fun hlt => ?_
  obtain ⟨t, r, e1, e2⟩ := dueF_lt _ _ _ _ hlt
  rw [e1] at hm
  obtain ⟨h1, h2, _⟩ := hm
  have hsz : (x ++ y).size = x.size + y.size := ByteArray.size_append
  rw [nextTok_walk kd g (x ++ y) p (by omega), restL_app x y p hle] at h2
  have hend : ∀ i : Info, t = tokOf p i → (i = info0 p ∨ (p < i.1 ∧ i.2.1 ≠ -1)) → endT t = i.1 := by
    intro i e hi
    rw [e]
    unfold tokOf endT
    rcases hi with rfl | ⟨h1, h2⟩
    · simp
    · rw [if_neg (show ¬ i.1 = p by omega), if_neg (by exact h2)]
  have hall := walkL_end kd g (restL x p ++ restL y 0) p 0 (info0 p)
  have hE := hend _ h2 (by rcases hall with e | ⟨e, _, e'⟩; exact .inl e; exact .inr ⟨e, e'⟩)
  rcases hop with e | hop
  · subst e
    rcases hall with e | ⟨e, _⟩
    · rw [e] at hE
      have : endT t = x.size := hE
      omega
    · omega
  · cases hh : (walkL kd g (restL x p) p 0 (info0 p)).2 with
    | none => rw [hh] at hop; cases hop
    | some s' =>
      rw [hh] at hop
      obtain ⟨d, hd⟩ := leadOn_lead hR (show leadOnF g s' = true from hop)
      have happ := walkL_app kd g (restL x p) (restL y 0) p 0 (info0 p)
      rw [hh] at happ
      simp only at happ
      have hen := walkL_end kd g (restL x p) p 0 (info0 p)
      have hag := walkL_again kd g (restL x p) p 0 (info0 p) s' hh
      have hst := walkL_state (kd := kd) (g := g) (restL x p) p 0 (info0 p)
      have hen2 := walkL_end kd g (restL y 0) (p + (restL x p).length) s' (walkL kd g (restL x p) p 0 (info0 p)).1
      rw [← happ] at hen2
      rw [restL_len] at hen hen2
      generalize hr : walkL kd g (restL x p) p 0 (info0 p) = W at hh hen hag hst hen2
      have hE1 : endT t = W.1.1 := by
        rcases hen2 with e | ⟨e, _⟩
        · rw [hE, e]
        · omega
      have hlead : LeadT kd g (x.size - W.1.1 + d) W.1.2.2 ∧ (ruleOfF g W.1.2.2 ≠ -1 ∨ W.1.2.2 = 0) := by
        rcases hag with e | ⟨k, k0, k1, k2, k3⟩
        · have hl := walkL_lead (kd := kd) (g := g) (restL x p) p 0 (info0 p) s' d (restL_byte x p) (Nat.le_refl _) (by rw [hr]; exact e) (by rw [hr]; exact hh) hd
          rw [restL_len] at hl
          rw [e]
          exact ⟨hl, .inr rfl⟩
        · have hl := walkL_lead (kd := kd) (g := g) ((restL x p).drop k) (p + k) W.1.2.2 W.1 s' d (by rw [restL_drop]; exact restL_byte x _) (by omega) (by rw [k3]) (by rw [k3]; exact hh) hd
          rw [restL_drop, restL_len, ← k2] at hl
          refine ⟨hl, .inl ?_⟩
          rcases hst with e | e
          · have : W.1.1 = p := by rw [e]
            omega
          · exact e
      have hin : 0 ≤ W.1.2.2 ∧ W.1.2.2 < (g.rule.length : Int) := by
        rcases hlead.2 with e | e
        · unfold ruleOfF at e
          split at e
          · exact absurd rfl e
          · omega
        · rw [e]
          have := hf.pos
          omega
      obtain ⟨s, hs⟩ : ∃ s : Nat, W.1.2.2 = (s : Int) := ⟨W.1.2.2.toNat, by omega⟩
      rw [hs] at hlead hin
      have := lead_near hf hbd (by omega) (by rcases hlead.2 with e | e; exact .inl e; exact .inr (by omega)) hlead.1
      omega
end Go.Proofs.Ytcckhngbdoiikaa

namespace Go.Proofs.Ytcckhngbdoiikaa
set_option linter.unusedVariables false

/-- On stops where a longer token may come, or at the end. -/
theorem on_open {kd : Nat → Nat} {g : Graph} (ho : LexOk kd g) (s : ByteArray) : ∀ (n p : Nat) (acc : List TokT), p ≤ s.size → s.size < n + p →
    (onLoop kd g false n (savOf p s (info0 p)) acc).2.at_ = s.size ∨ openOf g (walkL kd g (restL s (onLoop kd g false n (savOf p s (info0 p)) acc).2.at_) (onLoop kd g false n (savOf p s (info0 p)) acc).2.at_ 0 (info0 (onLoop kd g false n (savOf p s (info0 p)) acc).2.at_)).2 = true
  | 0, p, acc, _, _ => by omega
  | n + 1, p, acc, hp, hn => by
    have hz := extract_size' s p
    by_cases hlt : p < s.size
    · have hen := walkL_end kd g (restL s p) p 0 (info0 p)
      rw [restL_len] at hen
      by_cases ho' : openOf g (walkL kd g (restL s p) p 0 (info0 p)).2 = true
      · have e : onLoop kd g false (n + 1) (savOf p s (info0 p)) acc = (acc, savOf p s (walkL kd g (restL s p) p 0 (info0 p)).1) := by
          unfold onLoop
          rw [if_pos (.inr (by show (s.extract p s.size).size ≠ 0; omega)), stretchF_walk kd g s p (info0 p) hp]
          show (if openOf g (walkL kd g (restL s p) p 0 (info0 p)).2 = true ∧ false = false then _ else _) = _
          rw [if_pos ⟨ho', rfl⟩]
        rw [e]
        exact .inr ho'
      · obtain ⟨a1, a2, a3, a4⟩ := lone_tok p s (walkL kd g (restL s p) p 0 (info0 p)).1 hlt (by rcases hen with e | ⟨e1, e2, _⟩; exact .inl e; exact .inr ⟨e1, by omega⟩)
        have e : onLoop kd g false (n + 1) (savOf p s (info0 p)) acc = onLoop kd g false n (savOf (tokOf p (walkL kd g (restL s p) p 0 (info0 p)).1).tt s (info0 (tokOf p (walkL kd g (restL s p) p 0 (info0 p)).1).tt)) (acc ++ [tokOf p (walkL kd g (restL s p) p 0 (info0 p)).1]) := by
          rw [← a1, ← a2]
          conv => lhs; unfold onLoop
          rw [if_pos (.inr (by show (s.extract p s.size).size ≠ 0; omega)), stretchF_walk kd g s p (info0 p) hp]
          show (if openOf g (walkL kd g (restL s p) p 0 (info0 p)).2 = true ∧ false = false then _ else _) = _
          rw [if_neg (fun e => ho' e.1)]
        rw [e]
        exact on_open ho s n _ _ a4 (by omega)
    · left
      unfold onLoop
      have e : p = s.size := by omega
      subst e
      rw [if_neg (by simp only [not_or]; exact ⟨by show ¬ s.size < s.size; omega, by show ¬ (s.extract s.size s.size).size ≠ 0; omega⟩)]
      rfl
theorem path_app {kd : Nat → Nat} {g : Graph} {s : ByteArray} : ∀ {l m : List TokT} {p q r : Nat}, TokPath kd g s p l q → TokPath kd g s q m r → TokPath kd g s p (l ++ m) r
  | [], m, p, q, r, hl, hm => by have e : p = q := hl; rw [e]; exact hm
  | t :: l, m, p, q, r, ⟨h1, h2, h3⟩, hm => ⟨h1, h2, path_app h3 hm⟩
/-- How it stands when all of `pre` was told: whatever comes behind, that is its cut's beginning. -/
structure Told (kd : Nat → Nat) (g : Graph) (x : ByteArray) (p : Nat) (v : SavT) (pre : List TokT) : Prop where
  st : Stand kd g x p v
  path : ∀ z, TokPath kd g (x ++ z) 0 pre p
theorem Told.start (kd : Nat → Nat) (g : Graph) : Told kd g ⟨#[]⟩ 0 (startS 0) [] := ⟨Stand.start kd g, fun z => rfl⟩
/-- One piece more. -/
theorem Told.feed {kd : Nat → Nat} {g : Graph} (ho : LexOk kd g) {x : ByteArray} {p : Nat} {v : SavT} {pre : List TokT} (h : Told kd g x p v pre) (y : ByteArray) :
    ∃ p', Told kd g (x ++ y) p' (onF kd g v y false).2 (pre ++ (onF kd g v y false).1) ∧ (p' = (x ++ y).size ∨ openOf g (walkL kd g (restL (x ++ y) p') p' 0 (info0 p')).2 = true) := by
  have hle := h.st.le
  have hsz : (x ++ y).size = x.size + y.size := ByteArray.size_append
  obtain ⟨l, p', v', e1, h1, h2, h3⟩ := on_told ho (x ++ y) ((x ++ y).size - p + 1) p [] (by omega) (by omega)
  have h4 := on_open ho (x ++ y) ((x ++ y).size - p + 1) p [] (by omega) (by omega)
  rw [e1] at h4
  rw [h.st.on y false, e1]
  have e2 : v'.at_ = p' := by rw [h1.eq]; rfl
  simp only [List.nil_append] at h4 ⊢
  rw [e2] at h4
  refine ⟨p', ⟨h1, fun z => ?_⟩, h4⟩
  have h5 := h.path (y ++ z)
  rw [← ByteArray.append_assoc] at h5
  exact path_app h5 (h3 z)
/-- The cut of whatever begins so begins with what was told. -/
theorem Told.cut {kd : Nat → Nat} {g : Graph} {x : ByteArray} {p : Nat} {v : SavT} {pre : List TokT} (h : Told kd g x p v pre) (z : ByteArray) :
    ∃ m', cutF kd g (x ++ z) = pre ++ m' ∧ TokPath kd g (x ++ z) p m' (x ++ z).size := path_split (cutF_path kd g (x ++ z)) (h.path z)
theorem Told.stands {kd : Nat → Nat} {g : Graph} {x : ByteArray} {p : Nat} {v : SavT} {pre l : List TokT} (h : Told kd g x p v (pre ++ l)) (z : ByteArray) :
    pre.length + l.length ≤ (cutF kd g (x ++ z)).length ∧ ((cutF kd g (x ++ z)).drop pre.length).take l.length = l := by
  obtain ⟨m', e, _⟩ := h.cut z
  rw [e]
  constructor
  · simp
  · rw [List.append_assoc, List.drop_append_of_le_length (Nat.le_refl _), List.drop_length, List.nil_append, List.take_append_of_le_length (Nat.le_refl _), List.take_length]
theorem Told.due {R : RulesT} {kd : Nat → Nat} {g : Graph} (hR : buildF R = some (kd, g)) (hf : LexFit kd g) (hbd : (gapOf kd g).bounded = true) {x : ByteArray} {p : Nat} {v : SavT} {pre : List TokT} (h : Told kd g x p v pre) (hop : p = x.size ∨ openOf g (walkL kd g (restL x p) p 0 (info0 p)).2 = true) (z : ByteArray) (K : Nat) (hK : (gapOf kd g).k ≤ K) (hK1 : 1 ≤ K) :
    dueF x.size K (cutF kd g (x ++ z)) ≤ pre.length := by
  obtain ⟨m', e, hp⟩ := h.cut z
  rw [e]
  refine due_told hR hf hbd h.st.le hop (y := z) _ _ ?_ K hK hK1
  rw [List.drop_append_of_le_length (Nat.le_refl _), List.drop_length, List.nil_append]
  exact hp
/-- The cut's tokens lie in the text. -/
theorem path_in {kd : Nat → Nat} {g : Graph} {s : ByteArray} : ∀ {l : List TokT} {p : Nat}, TokPath kd g s p l s.size → ∀ t ∈ l, t.fr ≤ s.size ∧ t.tt ≤ s.size
  | [], p, _, t, ht => by simp at ht
  | t' :: l, p, ⟨h1, h2, h3⟩, t, ht => by
    rw [List.mem_cons] at ht
    rcases ht with rfl | ht
    · have h4 := nextTok_pos kd g s p h1
      have h5 := nextTok_walk kd g s p (by omega)
      rw [h2]
      refine ⟨?_, h4.2.1⟩
      rw [h5]
      unfold tokOf
      split <;> (show p ≤ s.size; omega)
    · exact path_in h3 t ht
end Go.Proofs.Ytcckhngbdoiikaa

namespace Go.Proofs.Ytcckhngbdoiikaa
open Go.RowKit Go.Deep
set_option linter.unusedVariables false

theorem dueF_cons (n k : Nat) (t : TokT) (r : List TokT) : dueF n k (t :: r) = if n < endT t + k then 0 else dueF n k r + 1 := rfl
set_option maxRecDepth 20000 in
set_option maxHeartbeats 1600000 in
theorem due_any (l : List TokT) (n k K : Nat) (lv : Value) (w : World) (h : TokRow w lv l) (hn : n ≤ 100000) (hk : k ≤ 100000) (hK : K = if k < 1 then 1 else k) (hl : l.length ≤ 100000) (ht : ∀ t ∈ l, t.fr ≤ 100000 ∧ t.tt ≤ 100000) :
    Calls Try.prog 46 #[lv, .int .i64 (n : Int), .int .i64 (k : Int)] w fun e w' => e = .returned (.int .i64 (dueF n K l : Int)) ∧ Below w.heap.size w w' := by
  obtain ⟨ld, lcap, rfl, hlrow⟩ := h.form
  have HT := hide ht
  have HL := hide h
  have hK2 : K ≤ 100000 := by rw [hK]; split <;> omega
  generalize hD : dueF n K l = D
  have HD := hide hD
  have HK := hide hK
  clear h ht hD hK
  go_enter Try.func46, Try.ntmps46
  go_upto_if 10 with fail
  go_cut [2] (fun kv wx => kv = .int .i64 (K : Int) ∧ wx = w)
  case first =>
    by_cases hk1 : k < 1
    · have e1 : decide ((k : Int) < 1) = true := by simp; omega
      have hKv : K = 1 := by rw [HK.out, if_pos hk1]
      subst hKv
      go_wp2_with fail
      go_meet
      exact ⟨rfl, rfl⟩
    · have e1 : decide ((k : Int) < 1) = false := by simp; omega
      have hKv : K = k := by rw [HK.out, if_neg hk1]
      subst hKv
      go_wp2_with fail
      go_meet
      exact ⟨rfl, rfl⟩
  case rest =>
    obtain ⟨rfl, rfl⟩ := hcut
    go_wp2_with fail
    go_loopg [7, 8] l.length (fun G iv ev wr => ∃ i : Nat, iv = .int .i64 (i : Int) ∧ i ≤ l.length ∧ G = l.length - i ∧ D = i + dueF n K (l.drop i) ∧ Below wc.heap.size wc wr)
    case atStart => exact ⟨0, rfl, by omega, rfl, by rw [List.drop_zero, HD.out, Nat.zero_add], Below.refl _ _⟩
    case round =>
      obtain ⟨i, rfl, hi, rfl, hX, hbw⟩ := hrel
      by_cases hlt : i < l.length
      · have e1 : decide ((i : Int) < (l.length : Int)) = true := by simp; omega
        rcases hlrow with h9 | ⟨lg, rfl⟩
        · omega
        rw [List.drop_eq_getElem_cons hlt, dueF_cons] at hX
        obtain ⟨g0, g1, g2⟩ := toksC_get l i hlt
        have hT := HL.out.below hbw
        have a0 := (ownsRow_cell hT (i * 3) (by omega)).trans g0
        have a1 := (ownsRow_cell hT (i * 3 + 1) (by omega)).trans g1
        have a2 := (ownsRow_cell hT (i * 3 + 2) (by omega)).trans g2
        obtain ⟨t1, t2⟩ := HT.out l[i] (List.getElem_mem hlt)
        generalize l[i] = t at a0 a1 a2 hX t1 t2
        obtain ⟨tr, tf, tt⟩ := t
        simp only at a0 a1 a2 t1 t2
        have i0 : (0 : Int) ≤ (i : Int) := by omega
        have i1 : (i : Int) < (l.length : Int) := by omega
        have HB := hide hbw
        have HX := hide hX
        clear g0 g1 g2 hT hbw hX
        by_cases hr : tr = -1
        · subst hr
          by_cases hc : n < tf + K
          · have e3 : decide ((n : Int) < (tf : Int) + (K : Int)) = true := by simp; omega
            go_wp2_with fail
            go_ret
            have := HX.out
            rw [if_pos (by exact hc), Nat.add_zero] at this
            subst this
            exact ⟨rfl, HB.out⟩
          · have e3 : decide ((n : Int) < (tf : Int) + (K : Int)) = false := by simp; omega
            go_wp2_with fail
            go_roundg (l.length - (i + 1))
            case measure => omega
            case rel =>
              have := HX.out
              rw [if_neg (by exact hc)] at this
              exact ⟨i + 1, by go_num, by omega, rfl, by omega, HB.out⟩
        · have hr' : (tr == -1) = false := by simp [hr]
          by_cases hc : n < tt + K
          · have e3 : decide ((n : Int) < (tt : Int) + (K : Int)) = true := by simp; omega
            go_wp2_with fail
            go_ret
            have := HX.out
            have e9 : endT ⟨tr, tf, tt⟩ = tt := by unfold endT; rw [if_neg (by exact hr)]
            rw [e9, if_pos hc, Nat.add_zero] at this
            subst this
            exact ⟨rfl, HB.out⟩
          · have e3 : decide ((n : Int) < (tt : Int) + (K : Int)) = false := by simp; omega
            go_wp2_with fail
            go_roundg (l.length - (i + 1))
            case measure => omega
            case rel =>
              have := HX.out
              have e9 : endT ⟨tr, tf, tt⟩ = tt := by unfold endT; rw [if_neg (by exact hr)]
              rw [e9, if_neg hc] at this
              exact ⟨i + 1, by go_num, by omega, rfl, by omega, HB.out⟩
      · have e1 : decide ((i : Int) < (l.length : Int)) = false := by simp; omega
        have HB := hide hbw
        have hD : D = l.length := by
          rw [hX, List.drop_eq_nil_of_le (by omega)]
          show i + 0 = _
          omega
        clear hbw hX
        go_wp2_with fail
        go_ret
        subst hD
        exact ⟨rfl, HB.out⟩
end Go.Proofs.Ytcckhngbdoiikaa
