import Derived.Test.YtcckhngbdoiikaaM31

namespace Go.Proofs.Ytcckhngbdoiikaa
set_option linter.unusedVariables false

/-- The bytes from a place on. -/
def restL (s : ByteArray) (p : Nat) : List Int := (s.data.toList.drop p).map (fun b => ((b.toNat : Nat) : Int))
theorem restL_nil {s : ByteArray} {p : Nat} (h : s.size ≤ p) : restL s p = [] := by
  have h9 : s.data.size = s.size := rfl
  unfold restL
  rw [List.drop_eq_nil_of_le (by simp; omega)]; rfl
theorem restL_cons {s : ByteArray} {p : Nat} (h : p < s.size) : restL s p = peekI s p :: restL s (p + 1) := by
  have h9 : p < s.data.toList.length := by simpa using h
  unfold restL
  rw [List.drop_eq_getElem_cons h9, List.map_cons]
  congr 1
  unfold peekI
  rw [dif_pos h]
  rfl
theorem restL_len (s : ByteArray) (p : Nat) : (restL s p).length = s.size - p := by
  have h9 : s.data.size = s.size := rfl
  simp [restL]
theorem restL_app (x y : ByteArray) (p : Nat) (h : p ≤ x.size) : restL (x ++ y) p = restL x p ++ restL y 0 := by
  have h9 : x.data.size = x.size := rfl
  have e : (x ++ y).data.toList = x.data.toList ++ y.data.toList := by simp
  unfold restL
  rw [e, List.drop_append_of_le_length (by simp; omega), List.map_append, List.drop_zero]
theorem restL_drop (s : ByteArray) (p k : Nat) : (restL s p).drop k = restL s (p + k) := by
  unfold restL
  rw [← List.map_drop, List.drop_drop]
/-- The longest token so far: its end, its rule, its state. -/
abbrev Info : Type := Nat × Int × Int
def walkL (kd : Nat → Nat) (g : Graph) : List Int → Nat → Int → Info → Info × Option Int
  | [], q, st, info => (info, some st)
  | b :: r, q, st, info => if nextF kd g st b = -1 then (info, none) else walkL kd g r (q + 1) (nextF kd g st b) (if ruleOfF g (nextF kd g st b) = -1 then info else (q + 1, ruleOfF g (nextF kd g st b), nextF kd g st b))
theorem walkL_cons (kd : Nat → Nat) (g : Graph) (b : Int) (r : List Int) (q : Nat) (st : Int) (info : Info) : walkL kd g (b :: r) q st info = if nextF kd g st b = -1 then (info, none) else walkL kd g r (q + 1) (nextF kd g st b) (if ruleOfF g (nextF kd g st b) = -1 then info else (q + 1, ruleOfF g (nextF kd g st b), nextF kd g st b)) := rfl
theorem walkL_app (kd : Nat → Nat) (g : Graph) : ∀ (L M : List Int) (q : Nat) (st : Int) (info : Info), walkL kd g (L ++ M) q st info = match (walkL kd g L q st info).2 with
    | none => walkL kd g L q st info
    | some st' => walkL kd g M (q + L.length) st' (walkL kd g L q st info).1
  | [], M, q, st, info => rfl
  | b :: r, M, q, st, info => by
    show walkL kd g (b :: (r ++ M)) q st info = _
    rw [walkL_cons, walkL_cons]
    by_cases hd : nextF kd g st b = -1
    · rw [if_pos hd, if_pos hd]
    · rw [if_neg hd, if_neg hd]
      have e9 : q + 1 + r.length = q + (b :: r).length := by simp; omega
      rw [← e9]
      exact walkL_app kd g r M (q + 1) _ _
/-- Going again from the longest token comes to the same. -/
theorem walkL_again (kd : Nat → Nat) (g : Graph) : ∀ (L : List Int) (q : Nat) (st : Int) (info : Info) (s' : Int), (walkL kd g L q st info).2 = some s' →
    (walkL kd g L q st info).1 = info ∨ ∃ k, 0 < k ∧ k ≤ L.length ∧ (walkL kd g L q st info).1.1 = q + k ∧ walkL kd g (L.drop k) (q + k) (walkL kd g L q st info).1.2.2 (walkL kd g L q st info).1 = walkL kd g L q st info
  | [], q, st, info, s', h => .inl rfl
  | b :: r, q, st, info, s', h => by
    rw [walkL_cons] at h ⊢
    by_cases hd : nextF kd g st b = -1
    · rw [if_pos hd] at h; cases h
    · rw [if_neg hd] at h ⊢
      rcases walkL_again kd g r (q + 1) _ _ s' h with e | ⟨k, k0, k1, k2, k3⟩
      · by_cases hr : ruleOfF g (nextF kd g st b) = -1
        · rw [if_pos hr] at e ⊢
          exact .inl e
        · rw [if_neg hr] at e ⊢
          refine .inr ⟨1, by omega, by simp, by rw [e], ?_⟩
          rw [e]
          simp only [List.drop_succ_cons, List.drop_zero]
      · refine .inr ⟨k + 1, by omega, by simp; omega, by rw [k2]; omega, ?_⟩
        rw [List.drop_succ_cons, show q + (k + 1) = q + 1 + k by omega]
        exact k3
theorem walkL_end (kd : Nat → Nat) (g : Graph) : ∀ (L : List Int) (q : Nat) (st : Int) (info : Info), (walkL kd g L q st info).1 = info ∨ (q < (walkL kd g L q st info).1.1 ∧ (walkL kd g L q st info).1.1 ≤ q + L.length ∧ (walkL kd g L q st info).1.2.1 ≠ -1)
  | [], q, st, info => .inl rfl
  | b :: r, q, st, info => by
    rw [walkL_cons]
    split
    · exact .inl rfl
    · rename_i hd
      rcases walkL_end kd g r (q + 1) (nextF kd g st b) (if ruleOfF g (nextF kd g st b) = -1 then info else (q + 1, ruleOfF g (nextF kd g st b), nextF kd g st b)) with e | ⟨h1, h2, h3⟩
      · rw [e]
        split
        · exact .inl rfl
        · rename_i hr
          exact .inr ⟨by show q < q + 1; omega, by show q + 1 ≤ _; simp, hr⟩
      · exact .inr ⟨by omega, by simp; omega, h3⟩
/-- How a cut stands in a text. -/
def savOf (p : Nat) (s : ByteArray) (i : Info) : SavT := ⟨p, i.1, i.2.1, i.2.2, s.extract i.1 s.size⟩
def openOf (g : Graph) : Option Int → Bool
  | none => false
  | some st => leadOnF g st
theorem stretch_walk (kd : Nat → Nat) (g : Graph) (s : ByteArray) (p b : Nat) (hb : b ≤ s.size) : ∀ (n i : Nat) (st : Int) (info : Info), s.size < n + (b + i) → b + i ≤ s.size →
    stretchLoop kd g (s.extract b s.size) b n i st (savOf p s info) = (savOf p s (walkL kd g (restL s (b + i)) (b + i) st info).1, openOf g (walkL kd g (restL s (b + i)) (b + i) st info).2)
  | 0, i, st, info, hn, hi => by omega
  | n + 1, i, st, info, hn, hi => by
    unfold stretchLoop
    have hz := extract_size' s b
    by_cases hlt : b + i < s.size
    · have hlt' : i < (s.extract b s.size).size := by omega
      rw [if_pos hlt', peek_extract s b i hb hlt', restL_cons hlt]
      rw [walkL_cons]
      by_cases hd : nextF kd g st (peekI s (b + i)) = -1
      · rw [if_pos hd, if_pos hd]; rfl
      · rw [if_neg hd, if_neg hd]
        have ih := stretch_walk kd g s p b hb n (i + 1) (nextF kd g st (peekI s (b + i))) (if ruleOfF g (nextF kd g st (peekI s (b + i))) = -1 then info else (b + i + 1, ruleOfF g (nextF kd g st (peekI s (b + i))), nextF kd g st (peekI s (b + i)))) (by omega) (by omega)
        rw [show b + (i + 1) = b + i + 1 by omega] at ih
        rw [← ih]
        congr 1
        split
        · rfl
        · show SavT.mk p (b + i + 1) _ _ _ = SavT.mk _ _ _ _ _
          rw [extract_extract s b (i + 1) hb]; rfl
    · have hlt' : ¬ i < (s.extract b s.size).size := by omega
      rw [if_neg hlt', restL_nil (by omega)]
      rfl
theorem stretchF_walk (kd : Nat → Nat) (g : Graph) (s : ByteArray) (p : Nat) (info : Info) (hb : info.1 ≤ s.size) :
    stretchF kd g (savOf p s info) = (savOf p s (walkL kd g (restL s info.1) info.1 info.2.2 info).1, openOf g (walkL kd g (restL s info.1) info.1 info.2.2 info).2) := by
  have h := stretch_walk kd g s p info.1 hb ((s.extract info.1 s.size).size + 1) 0 info.2.2 info (by rw [extract_size']; omega) (by omega)
  exact h
/-- The beginning of a token. -/
abbrev info0 (p : Nat) : Info := (p, -1, 0)
/-- How it stands when a text has come, all up to p told: the longest token from there, with which it is not over. -/
structure Stand (kd : Nat → Nat) (g : Graph) (x : ByteArray) (p : Nat) (v : SavT) : Prop where
  le : p ≤ x.size
  eq : v = savOf p x (walkL kd g (restL x p) p 0 (info0 p)).1
  opn : (walkL kd g (restL x p) p 0 (info0 p)).2 ≠ none
theorem savOf_app (p : Nat) (x y : ByteArray) (i : Info) (h : i.1 ≤ x.size) : ({ savOf p x i with tail := (savOf p x i).tail ++ y } : SavT) = savOf p (x ++ y) i := by
  unfold savOf
  simp only
  congr 1
  rw [ByteArray.ext_iff]
  apply Array.toList_inj.1
  have h9 : x.data.toList.length = x.size := by simp
  simp only [ByteArray.data_append, ByteArray.data_extract, Array.toList_append, Array.toList_extract, List.extract, ByteArray.size_append]
  rw [List.drop_append_of_le_length (by omega), List.take_of_length_le (by simp), List.take_of_length_le (by simp; omega)]
/-- More bytes: as if the token had begun anew. -/
theorem Stand.more {kd : Nat → Nat} {g : Graph} {x : ByteArray} {p : Nat} {v : SavT} (h : Stand kd g x p v) (y : ByteArray) :
    ∃ i : Info, ({ v with tail := v.tail ++ y } : SavT) = savOf p (x ++ y) i ∧ p ≤ i.1 ∧ i.1 ≤ x.size ∧ (i.1 = p → i = info0 p) ∧ stretchF kd g (savOf p (x ++ y) i) = stretchF kd g (savOf p (x ++ y) (info0 p)) := by
  obtain ⟨hle, rfl, hop⟩ := h
  have hsz : (x ++ y).size = x.size + y.size := ByteArray.size_append
  have hen := walkL_end kd g (restL x p) p 0 (info0 p)
  rw [restL_len] at hen
  obtain ⟨s', hs'⟩ : ∃ s', (walkL kd g (restL x p) p 0 (info0 p)).2 = some s' := by
    cases hh : (walkL kd g (restL x p) p 0 (info0 p)).2 with
    | none => exact absurd hh hop
    | some s' => exact ⟨s', rfl⟩
  have hag := walkL_again kd g (restL x p) p 0 (info0 p) s' hs'
  have happ := walkL_app kd g (restL x p) (restL y 0) p 0 (info0 p)
  rw [hs'] at happ
  generalize hr : walkL kd g (restL x p) p 0 (info0 p) = r at hen hs' hag happ hop ⊢
  have hle1 : r.1.1 ≤ x.size := by
    rcases hen with e | ⟨_, h2, _⟩
    · rw [e]; exact hle
    · omega
  refine ⟨r.1, savOf_app p x y r.1 hle1, ?_, hle1, ?_, ?_⟩
  · rcases hen with e | ⟨h1, _⟩
    · rw [e]; exact Nat.le_refl _
    · omega
  · intro e
    rcases hen with e' | ⟨h1, _⟩
    · exact e'
    · omega
  · rw [stretchF_walk kd g (x ++ y) p r.1 (by omega), stretchF_walk kd g (x ++ y) p (info0 p) (by show p ≤ _; omega)]
    have hA : walkL kd g (restL (x ++ y) r.1.1) r.1.1 r.1.2.2 r.1 = walkL kd g (restL (x ++ y) p) p 0 (info0 p) := by
      rw [restL_app x y p hle, happ, restL_app x y r.1.1 hle1]
      rcases hag with e | ⟨k, k0, k1, k2, k3⟩
      · rw [e]
        show walkL kd g (restL x p ++ restL y 0) p 0 (info0 p) = _
        rw [walkL_app, hr, hs', e]
      · rw [restL_drop, ← k2] at k3
        rw [walkL_app, k3, hs', restL_len, restL_len, show r.1.1 + (x.size - r.1.1) = p + (x.size - p) by omega]
    rw [hA]
theorem leadOn_no {kd : Nat → Nat} {g : Graph} (ho : LexOk kd g) {st b : Int} (h : leadOnF g st = false) : nextF kd g st b = -1 := by
  unfold leadOnF at h
  unfold nextF
  split
  · rfl
  · rename_i hc
    rw [if_neg (by omega)] at h
    have hk := ho st.toNat (by omega) b.toNat (by omega)
    have hm : (g.next.getD st.toNat []).getD (kd b.toNat) 0 ∈ g.next.getD st.toNat [] := by
      generalize g.next.getD st.toNat [] = row at hk
      rw [List.getD_eq_getElem?_getD, List.getElem?_eq_getElem hk]; exact List.getElem_mem hk
    rw [List.any_eq_false] at h
    have := h _ hm
    simpa using this
/-- Where no longer token may come, what comes behind does not matter. -/
theorem walkL_shut {kd : Nat → Nat} {g : Graph} (ho : LexOk kd g) (L M : List Int) (q : Nat) (st : Int) (info : Info) (h : openOf g (walkL kd g L q st info).2 = false) : (walkL kd g (L ++ M) q st info).1 = (walkL kd g L q st info).1 := by
  rw [walkL_app]
  cases hh : (walkL kd g L q st info).2 with
  | none => rfl
  | some s' =>
    rw [hh] at h
    simp only
    cases M with
    | nil => rfl
    | cons b r =>
      rw [walkL_cons, if_pos (leadOn_no ho h)]
/-- The token of the cut, by the walk. -/
def tokOf (p : Nat) (i : Info) : TokT := if i.1 = p then ⟨-1, p, p + 1⟩ else ⟨i.2.1, p, i.1⟩
theorem savOf_info0 (p : Nat) (s : ByteArray) : savOf p s (info0 p) = ⟨p, p, -1, 0, s.extract p s.size⟩ := rfl
theorem nextTok_walk (kd : Nat → Nat) (g : Graph) (s : ByteArray) (p : Nat) (hp : p ≤ s.size) : nextTok kd g s p = tokOf p (walkL kd g (restL s p) p 0 (info0 p)).1 := by
  have h := stretch_cut kd g s p hp (s.size - p + 1) 0 0 ⟨-1, p, p + 1⟩ ⟨p, p, -1, 0, s.extract p s.size⟩ (by omega) ⟨rfl, .inl ⟨rfl, rfl, rfl⟩⟩
  have h2 := stretch_walk kd g s p p hp (s.size - p + 1) 0 0 (info0 p) (by omega) (by omega)
  rw [savOf_info0, Nat.add_zero] at h2
  rw [h2] at h
  have e2 : nextTok kd g s p = cutLoop kd g s p (s.size - p + 1) (p + 0) 0 ⟨-1, p, p + 1⟩ := rfl
  rw [e2]
  generalize (walkL kd g (restL s p) p 0 (info0 p)).1 = i at h
  generalize cutLoop kd g s p (s.size - p + 1) (p + 0) 0 ⟨-1, p, p + 1⟩ = tok at h
  obtain ⟨h1, ⟨h3, _, h5⟩ | ⟨h3, h4, h5, _⟩⟩ := h
  · have h3' : i.1 = p := h3
    unfold tokOf
    rw [if_pos h3', h5]
  · have h3' : p < i.1 := h3
    unfold tokOf
    rw [if_neg (by omega), h5]
    rfl
/-- Tokens of the cut, from p up to p'. -/
def TokPath (kd : Nat → Nat) (g : Graph) (s : ByteArray) : Nat → List TokT → Nat → Prop
  | p, [], p' => p = p'
  | p, t :: r, p' => p < s.size ∧ t = nextTok kd g s p ∧ TokPath kd g s t.tt r p'
theorem lone_tok (p : Nat) (s : ByteArray) (i : Info) (hp : p < s.size) (h : i = info0 p ∨ (p < i.1 ∧ i.1 ≤ s.size)) :
    (⟨(lone (savOf p s i)).en, (lone (savOf p s i)).en, -1, 0, (lone (savOf p s i)).tail⟩ : SavT) = savOf (tokOf p i).tt s (info0 (tokOf p i).tt) ∧ (⟨(lone (savOf p s i)).rule, (lone (savOf p s i)).at_, (lone (savOf p s i)).en⟩ : TokT) = tokOf p i ∧ p < (tokOf p i).tt ∧ (tokOf p i).tt ≤ s.size := by
  rcases h with rfl | ⟨h1, h2⟩
  · have e : lone (savOf p s (info0 p)) = ⟨p, p + 1, -1, 0, s.extract (p + 1) s.size⟩ := by
      unfold lone
      rw [if_pos (show (savOf p s (info0 p)).en = (savOf p s (info0 p)).at_ from rfl)]
      show SavT.mk p (p + 1) (-1) 0 ((s.extract p s.size).extract 1 (s.extract p s.size).size) = _
      rw [extract_extract s p 1 (by omega)]
    rw [e]
    unfold tokOf
    rw [if_pos rfl]
    exact ⟨rfl, rfl, by show p < p + 1; omega, by show p + 1 ≤ s.size; omega⟩
  · have e : lone (savOf p s i) = savOf p s i := by
      unfold lone
      rw [if_neg (by show ¬ i.1 = p; omega)]
    rw [e]
    unfold tokOf
    rw [if_neg (by omega)]
    exact ⟨rfl, rfl, h1, h2⟩
/-- What is told now, and how it stands then. -/
theorem on_told {kd : Nat → Nat} {g : Graph} (ho : LexOk kd g) (s : ByteArray) : ∀ (n p : Nat) (acc : List TokT), p ≤ s.size → s.size < n + p →
    ∃ l p' v', onLoop kd g false n (savOf p s (info0 p)) acc = (acc ++ l, v') ∧ Stand kd g s p' v' ∧ p ≤ p' ∧ ∀ z, TokPath kd g (s ++ z) p l p'
  | 0, p, acc, _, _ => by omega
  | n + 1, p, acc, hp, hn => by
    unfold onLoop
    have hz := extract_size' s p
    by_cases hlt : p < s.size
    · rw [if_pos (.inr (by show (s.extract p s.size).size ≠ 0; omega)), stretchF_walk kd g s p (info0 p) hp]
      have hen := walkL_end kd g (restL s p) p 0 (info0 p)
      rw [restL_len] at hen
      have hnt := nextTok_walk kd g s p hp
      have hsh := fun M => walkL_shut ho (restL s p) M p 0 (info0 p)
      have hst : Stand kd g s p (savOf p s (walkL kd g (restL s p) p 0 (info0 p)).1) ∨ (walkL kd g (restL s p) p 0 (info0 p)).2 = none := by
        by_cases e : (walkL kd g (restL s p) p 0 (info0 p)).2 = none
        · exact .inr e
        · exact .inl ⟨hp, rfl, e⟩
      show ∃ l p' v', (if openOf g (walkL kd g (restL s p) p 0 (info0 p)).2 = true ∧ false = false then _ else _) = _ ∧ _
      generalize walkL kd g (restL s p) p 0 (info0 p) = r at hen hnt hsh hst
      by_cases ho' : openOf g r.2 = true
      · rw [if_pos ⟨ho', rfl⟩]
        refine ⟨[], p, savOf p s r.1, by simp, ?_, Nat.le_refl _, fun z => rfl⟩
        rcases hst with e | e
        · exact e
        · rw [e] at ho'; cases ho'
      · rw [if_neg (fun e => ho' e.1)]
        have ho2 : openOf g r.2 = false := by simpa using ho'
        obtain ⟨a1, a2, a3, a4⟩ := lone_tok p s r.1 hlt (by rcases hen with e | ⟨e1, e2, _⟩; exact .inl e; exact .inr ⟨e1, by omega⟩)
        simp only at a1 a2 ⊢
        rw [a1, a2]
        obtain ⟨l, p', v', b1, b2, b3, b4⟩ := on_told ho s n (tokOf p r.1).tt (acc ++ [tokOf p r.1]) a4 (by omega)
        refine ⟨tokOf p r.1 :: l, p', v', by rw [b1]; simp, b2, by omega, fun z => ?_⟩
        have hsz : (s ++ z).size = s.size + z.size := ByteArray.size_append
        refine ⟨by omega, ?_, b4 z⟩
        rw [nextTok_walk kd g (s ++ z) p (by omega), restL_app s z p hp, hsh (restL z 0) ho2]
    · have e : p = s.size := by omega
      subst e
      rw [if_neg (by simp only [not_or]; exact ⟨by show ¬ s.size < s.size; omega, by show ¬ (s.extract s.size s.size).size ≠ 0; omega⟩)]
      have e9 : walkL kd g (restL s s.size) s.size 0 (info0 s.size) = (info0 s.size, some 0) := by rw [restL_nil (Nat.le_refl _)]; rfl
      exact ⟨[], s.size, _, by simp; rfl, ⟨Nat.le_refl _, by rw [e9], by rw [e9]; simp⟩, Nat.le_refl _, fun z => rfl⟩
end Go.Proofs.Ytcckhngbdoiikaa
