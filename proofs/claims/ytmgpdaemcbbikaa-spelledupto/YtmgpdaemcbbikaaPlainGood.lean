/-
  WHAT HOLDS OF THE GRAPHS, plainly.
-/
import Derived.Test.YtmgpdaemcbbikaaExplore
import Derived.Test.YtmgpdaemcbbikaaMerge
import Derived.Test.YtmgpdaemcbbikaaPrune
namespace Go.Proofs.Ytmgpdaemcbbikaa
set_option linter.unusedVariables false

theorem RowOk.mono {n m : Nat} {row : List Int} (h : RowOk n row) (hm : n ≤ m) : RowOk m row := fun tt ht => by
  rcases h tt ht with e | e
  · exact .inl e
  · exact .inr (by omega)
theorem rowF_ok (aft : PSet) : ∀ (kinds sets : List PSet), RowOk (rowF aft kinds sets).2.length (rowF aft kinds sets).1
  | [], sets => by intro tt ht; simp [rowF] at ht
  | k :: ks, sets => by
    have ih := rowF_ok aft ks (if findF sets (aft.and k) = (sets.length : Int) then sets ++ [aft.and k] else sets)
    have hl := rowF_len aft ks (if findF sets (aft.and k) = (sets.length : Int) then sets ++ [aft.and k] else sets)
    unfold rowF
    intro tt ht
    rw [List.mem_cons] at ht
    rcases ht with e | e
    · subst e
      simp only
      unfold findF at hl ⊢
      split
      · exact .inl rfl
      · rename_i hne
        rw [if_neg hne] at hl
        right
        have h1 := idxF_le sets (aft.and k)
        refine ⟨by omega, ?_⟩
        by_cases h2 : (idxF sets (aft.and k) : Int) = (sets.length : Int)
        · rw [if_pos h2] at hl ⊢
          have := hl.2.1
          simp only [List.length_append, List.length_cons, List.length_nil] at this
          omega
        · rw [if_neg h2] at hl ⊢
          have := hl.2.1
          omega
    · exact ih tt e
theorem exploreLoop_ok (R : RulesT) (kinds : List PSet) : ∀ (n i : Nat) (sets : List PSet) (g g' : Graph), exploreLoop R kinds n i sets g = some g' → g.rule.length = i → g.next.length = i → i ≤ sets.length → sets.length ≤ 61 → 0 < sets.length →
    (∀ row ∈ g.next, row.length = kinds.length ∧ RowOk sets.length row) → GOk g' kinds.length ∧ 0 < g'.rule.length ∧ g'.rule.length ≤ 61
  | 0, i, sets, g, g', h, _, _, _, _, _, _ => by simp [exploreLoop] at h
  | n + 1, i, sets, g, g', h, h1, h2, h3, h4, h5, h6 => by
    unfold exploreLoop at h
    by_cases hlt : i < sets.length
    · rw [if_pos hlt] at h
      generalize haft : (if 0 < i then R.after (sets.getD i PSet.none) else R.first) = aft at h
      have hl := rowF_len aft kinds sets
      have ho := rowF_ok aft kinds sets
      simp only at h
      split at h
      · cases h
      · refine exploreLoop_ok R kinds n (i + 1) _ _ g' h (by simp [h1]) (by simp [h2]) (by omega) (by omega) (by omega) ?_
        intro row hrow
        simp at hrow
        rcases hrow with e | e
        · exact ⟨(h6 row e).1, (h6 row e).2.mono hl.2.1⟩
        · subst e; exact ⟨hl.1, ho⟩
    · rw [if_neg hlt] at h
      cases h
      have hs : sets.length = i := by omega
      refine ⟨⟨by omega, fun j hj => ?_⟩, by omega, by omega⟩
      have hm : g.next.getD j [] ∈ g.next := by simp [hj]
      have := h6 _ hm
      rw [hs, ← h1] at this
      exact this
theorem exploreF_ok {R : RulesT} {kinds : List PSet} {g : Graph} (h : exploreF R kinds = some g) : GOk g kinds.length ∧ 0 < g.rule.length ∧ g.rule.length ≤ 61 :=
  exploreLoop_ok R kinds 63 0 [PSet.none] Graph.new g h rfl rfl (by simp) (by simp) (by simp) (fun row hr => by simp [Graph.new] at hr)
theorem pruneF_ok {g : Graph} {K : Nat} (h : GOk g K) : GOk (pruneF g) K := by
  refine ⟨by simp [pruneF, h.len], fun i hi => ?_⟩
  have hi' : i < g.next.length := by simpa [pruneF] using hi
  have he : (pruneF g).next.getD i [] = pruneRow (aliveF g) (g.next.getD i []) := by simp [pruneF, hi']
  rw [he]
  obtain ⟨h1, h2⟩ := h.row i hi'
  refine ⟨by simpa [pruneRow] using h1, fun tt ht => ?_⟩
  unfold pruneRow at ht
  rw [List.mem_map] at ht
  obtain ⟨x, hx, rfl⟩ := ht
  split
  · exact h2 x hx
  · exact .inl rfl
theorem mergeLoop_bd (g : Graph) : ∀ (f : Nat) (cls : List Int) (count : Nat), (∀ x ∈ cls, 0 ≤ x ∧ x < (g.rule.length : Int)) → ∀ x ∈ mergeLoop g f cls count, 0 ≤ x ∧ x < (g.rule.length : Int)
  | 0, cls, count, h => h
  | f + 1, cls, count, h => by
    have hb := refineAt_bd g cls g.rule.length
    have hb' : ∀ x ∈ (refineAt g cls g.rule.length).1, 0 ≤ x ∧ x < (g.rule.length : Int) := fun x hx => by have := hb.1 x hx; have := hb.2; omega
    unfold mergeLoop
    split
    · exact hb'
    · exact mergeLoop_bd g f _ _ hb'
theorem mergeF_bd (g : Graph) (h : 0 < g.rule.length) : ∀ x ∈ mergeF g, 0 ≤ x ∧ x < (g.rule.length : Int) :=
  mergeLoop_bd g _ _ _ (fun x hx => by rw [List.mem_replicate] at hx; omega)
end Go.Proofs.Ytmgpdaemcbbikaa
