import Derived.Test.YtmgpdaemcbbikaaB05

namespace Go.Proofs.Ytmgpdaemcbbikaa
set_option linter.unusedVariables false

/-- A list of different numbers below n has at most n. -/
theorem nodup_len : ∀ (n : Nat) (l : List Nat), l.Nodup → (∀ x ∈ l, x < n) → l.length ≤ n
  | 0, l, _, h => by
    cases l with
    | nil => simp
    | cons x l => have := h x (by simp); omega
  | n + 1, l, hd, h => by
    have h1 := nodup_len n (l.erase n) (hd.erase n) (fun x hx => by
      have h2 := (hd.mem_erase_iff).1 hx
      have := h x h2.2
      have := h2.1
      omega)
    have := List.length_erase (a := n) (l := l)
    split at this <;> omega
def sub5 (s : PSet) : Prop := ∀ p, s.has p = true → p < 5
def code5 (s : PSet) : Nat := (s.has 0).toNat + 2 * (s.has 1).toNat + 4 * (s.has 2).toNat + 8 * (s.has 3).toNat + 16 * (s.has 4).toNat
theorem code5_lt (s : PSet) : code5 s < 32 := by
  have h0 := Bool.toNat_lt (s.has 0)
  have h1 := Bool.toNat_lt (s.has 1)
  have h2 := Bool.toNat_lt (s.has 2)
  have h3 := Bool.toNat_lt (s.has 3)
  have h4 := Bool.toNat_lt (s.has 4)
  unfold code5
  omega
theorem toNat_inj {a b : Bool} (h : a.toNat = b.toNat) : a = b := by cases a <;> cases b <;> simp at h <;> rfl
theorem code5_inj {s t : PSet} (hs : sub5 s) (ht : sub5 t) (h : code5 s = code5 t) : s = t := by
  unfold code5 at h
  have h0 := Bool.toNat_lt (s.has 0)
  have h1 := Bool.toNat_lt (s.has 1)
  have h2 := Bool.toNat_lt (s.has 2)
  have h3 := Bool.toNat_lt (s.has 3)
  have h4 := Bool.toNat_lt (s.has 4)
  have g0 := Bool.toNat_lt (t.has 0)
  have g1 := Bool.toNat_lt (t.has 1)
  have g2 := Bool.toNat_lt (t.has 2)
  have g3 := Bool.toNat_lt (t.has 3)
  have g4 := Bool.toNat_lt (t.has 4)
  refine pset_ext fun p => ?_
  by_cases hp : p < 5
  · obtain e | e | e | e | e : p = 0 ∨ p = 1 ∨ p = 2 ∨ p = 3 ∨ p = 4 := by omega
    all_goals
      subst e
      apply toNat_inj
      omega
  · cases e : s.has p with
    | true => exact absurd (hs p e) hp
    | false =>
      cases e2 : t.has p with
      | true => exact absurd (ht p e2) hp
      | false => rfl
theorem sets_len {l : List PSet} (hd : l.Nodup) (h : ∀ s ∈ l, sub5 s) : l.length ≤ 32 := by
  have hn : (l.map code5).Nodup := by
    rw [List.Nodup, List.pairwise_map]
    exact List.Pairwise.imp_of_mem (fun {a b} ha hb hab e => hab (code5_inj (h a ha) (h b hb) e)) hd
  have := nodup_len 32 (l.map code5) hn (fun x hx => by
    rw [List.mem_map] at hx
    obtain ⟨s, _, rfl⟩ := hx
    exact code5_lt s)
  simpa using this
theorem rowF_nodup (aft : PSet) (ha : sub5 aft) : ∀ (kinds sets : List PSet), sets.Nodup → (∀ s ∈ sets, sub5 s) → (rowF aft kinds sets).2.Nodup ∧ ∀ s ∈ (rowF aft kinds sets).2, sub5 s
  | [], sets, h1, h2 => ⟨h1, h2⟩
  | k :: ks, sets, h1, h2 => by
    unfold rowF
    simp only
    split
    · rename_i hf
      unfold findF at hf
      split at hf
      · omega
      · have hx : idxF sets (aft.and k) = sets.length := by omega
        have hm := idxF_mem sets _ hx
        refine rowF_nodup aft ha ks _ ?_ ?_
        · rw [List.nodup_append]
          exact ⟨h1, by simp, fun a ha' b hb => by simp at hb; subst hb; exact fun e => hm (e ▸ ha')⟩
        · intro s hs
          rw [List.mem_append] at hs
          rcases hs with e | e
          · exact h2 s e
          · simp at e
            subst e
            intro p hp
            rw [has_and, Bool.and_eq_true] at hp
            exact ha p hp.1
    · exact rowF_nodup aft ha ks sets h1 h2
theorem explore_few (R : RulesT) (kinds : List PSet) (hf : ∀ p, R.first.has p = true → p < 5) (hF : ∀ p q, R.F p q → q < 5) : ∀ (n i : Nat) (sets : List PSet) (g : Graph), n + i = 63 → i ≤ sets.length → sets.Nodup → (∀ s ∈ sets, sub5 s) → exploreLoop R kinds n i sets g ≠ none
  | 0, i, sets, g, h, hi, h1, h2 => by have := sets_len h1 h2; omega
  | n + 1, i, sets, g, h, hi, h1, h2 => by
    unfold exploreLoop
    split
    · rename_i hlt
      have ha : sub5 (if 0 < i then R.after (sets.getD i PSet.none) else R.first) := by
        intro p hp
        split at hp
        · obtain ⟨j, _, h3⟩ := (after_has R _ p).1 hp
          exact hF j p h3
        · exact hf p hp
      generalize (if 0 < i then R.after (sets.getD i PSet.none) else R.first) = aft at ha
      have hr := rowF_nodup aft ha kinds sets h1 h2
      have hp := (rowF_sets aft kinds sets).1.length_le
      have hl := sets_len hr.1 hr.2
      simp only
      rw [if_neg (by omega)]
      exact explore_few R kinds hf hF n (i + 1) _ _ (by omega) (by omega) hr.1 hr.2
    · simp
theorem build_few {ts : List Tree} (hn : placesAll ts ≤ 5) : buildF (glushAll ts RulesT.new) ≠ none := by
  have h := rules_inv ts (by omega)
  have hl := glushAll_len ts RulesT.new
  have h0 : RulesT.new.follow.length = 0 := rfl
  generalize glushAll ts RulesT.new = R at *
  have := explore_few R (kindsAt R.allow 256) (fun p hp => by have := h.first p hp; omega) (fun p q hq => by have := h.closed.1 p q hq; omega) 63 0 [PSet.none] Graph.new (by omega) (by simp) (by simp) (fun s hs => by simp at hs; subst hs; intro p hp; rw [has_none] at hp; cases hp)
  unfold buildF exploreF
  split
  · rename_i e; exact absurd e this
  · simp
end Go.Proofs.Ytmgpdaemcbbikaa
