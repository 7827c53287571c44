import Derived.Test.YtcckhngbdoiikaaM36
import Derived.Test.YtcckhngbdoiikaaM43

namespace Go.Proofs.Ytcckhngbdoiikaa
set_option linter.unusedVariables false

theorem LexG.stepsIn {kd : Nat → Nat} {g : Graph} (h : LexG kd g) : StepsIn kd g := by
  intro s b
  by_cases hc : s < 0 ∨ (g.next.length : Int) ≤ s ∨ b < 0 ∨ 256 ≤ b
  · left
    unfold nextF
    rw [if_pos hc]
  · obtain ⟨j, rfl⟩ : ∃ j : Nat, s = (j : Int) := ⟨s.toNat, by omega⟩
    obtain ⟨c, rfl⟩ : ∃ c : Nat, b = (c : Int) := ⟨b.toNat, by omega⟩
    have hl := h.len
    rw [nextF_step h (by omega) (by omega)]
    rcases h.step j c (by omega) (by omega) with e | ⟨j', e, hj'⟩
    · exact .inl e
    · right; rw [e]; omega
theorem build_small {R : RulesT} {kd : Nat → Nat} {g : Graph} (h : buildF R = some (kd, g)) : g.rule.length ≤ 61 := by
  obtain ⟨g0, hg, rfl, rfl⟩ := buildF_some h
  obtain ⟨ho, hp, hn⟩ := exploreF_ok hg
  have ho' := pruneF_ok ho
  have hp' : 0 < (pruneF g0).rule.length := hp
  have hv := (visitF_inv ho' hp' (mergeF_len _) (mergeF_bd _ hp')).1
  have h1 := hv.ok
  have e1 : (numberF (pruneF g0) (mergeF (pruneF g0))).rule.length = (visitF (pruneF g0) (mergeF (pruneF g0))).1.length := by simp [numberF]
  have e2 : (pruneF g0).rule.length = g0.rule.length := rfl
  have := h1.sum
  omega
theorem newF_build {s : ByteArray} {kd : Nat → Nat} {g : Graph} (h : newF s = .lexer kd g) : ∃ R, buildF R = some (kd, g) := by
  unfold newF at h
  split at h
  · cases h
  · split at h
    · cases h
    · split at h
      · cases h
      · rename_i hx
        injection h with h1 h2
        subst h1 h2
        exact ⟨_, hx⟩
end Go.Proofs.Ytcckhngbdoiikaa
