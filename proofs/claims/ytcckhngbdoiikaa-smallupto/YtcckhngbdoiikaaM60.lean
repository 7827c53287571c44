import Derived.Test.YtcckhngbdoiikaaM57
import Derived.Test.YtcckhngbdoiikaaM49
import Derived.Test.YtcckhngbdoiikaaM39
import Derived.Deep.RegionWith
import Derived.Deep.DeepCutAuto

namespace Go.Proofs.Ytcckhngbdoiikaa
set_option linter.unusedVariables false

theorem tail_small {R : RulesT} {kd : Nat → Nat} {g : Graph} (hR : buildF R = some (kd, g)) (hf : LexFit kd g) (hbd : (gapOf kd g).bounded = true) {x : ByteArray} {p : Nat} {v : SavT} (h : Stand kd g x p v) (hop : p = x.size ∨ openOf g (walkL kd g (restL x p) p 0 (info0 p)).2 = true) :
    v.tail.size = 0 ∨ v.tail.size < (gapOf kd g).k := by
  obtain ⟨hle, rfl, _⟩ := h
  have ht : (savOf p x (walkL kd g (restL x p) p 0 (info0 p)).1).tail.size = x.size - (walkL kd g (restL x p) p 0 (info0 p)).1.1 := extract_size' x _
  rw [ht]
  rcases hop with e | hop
  · subst e
    left
    rw [restL_nil (Nat.le_refl _)]
    show x.size - x.size = 0
    omega
  · right
    cases hh : (walkL kd g (restL x p) p 0 (info0 p)).2 with
    | none => rw [hh] at hop; cases hop
    | some s' =>
      rw [hh] at hop
      obtain ⟨d, hd⟩ := leadOn_lead hR (show leadOnF g s' = true from hop)
      have hag := walkL_again kd g (restL x p) p 0 (info0 p) s' hh
      have hst := walkL_state (kd := kd) (g := g) (restL x p) p 0 (info0 p)
      generalize hr : walkL kd g (restL x p) p 0 (info0 p) = W at hh hag hst
      have hlead : LeadT kd g (x.size - W.1.1 + d) W.1.2.2 ∧ (ruleOfF g W.1.2.2 ≠ -1 ∨ W.1.2.2 = 0) := by
        rcases hag with e | ⟨k, k0, k1, k2, k3⟩
        · have hl := walkL_lead (kd := kd) (g := g) (restL x p) p 0 (info0 p) s' d (restL_byte x p) (Nat.le_refl _) (by rw [hr]; exact e) (by rw [hr]; exact hh) hd
          rw [restL_len] at hl
          rw [e]
          exact ⟨hl, .inr rfl⟩
        · have hl := walkL_lead (kd := kd) (g := g) ((restL x p).drop k) (p + k) W.1.2.2 W.1 s' d (by rw [restL_drop]; exact restL_byte x _) (by omega) (by rw [k3]) (by rw [k3]; exact hh) hd
          rw [restL_drop, restL_len, ← k2] at hl
          refine ⟨hl, .inl ?_⟩
          rcases hst with e | e
          · have : W.1.1 = p := by rw [e]
            omega
          · exact e
      have hin : 0 ≤ W.1.2.2 ∧ W.1.2.2 < (g.rule.length : Int) := by
        rcases hlead.2 with e | e
        · unfold ruleOfF at e
          split at e
          · exact absurd rfl e
          · omega
        · rw [e]
          have := hf.pos
          omega
      obtain ⟨s, hs⟩ : ∃ s : Nat, W.1.2.2 = (s : Int) := ⟨W.1.2.2.toNat, by omega⟩
      rw [hs] at hlead hin
      have := lead_near hf hbd (by omega) (by rcases hlead.2 with e | e; exact .inl e; exact .inr (by omega)) hlead.1
      omega
end Go.Proofs.Ytcckhngbdoiikaa

namespace Go.Proofs.Ytcckhngbdoiikaa
set_option linter.unusedVariables false

/-- Along the bytes over no token, to where one may come. -/
def awaitL (kd : Nat → Nat) (g : Graph) : List Int → Int → Bool
  | [], st => leadOnF g st
  | b :: r, st => if nextF kd g st b = -1 then false else if ruleOfF g (nextF kd g st b) = -1 then awaitL kd g r (nextF kd g st b) else false
theorem awaitL_cons {kd : Nat → Nat} {g : Graph} {b : Int} {r : List Int} {st : Int} (h : awaitL kd g (b :: r) st = true) : nextF kd g st b ≠ -1 ∧ ruleOfF g (nextF kd g st b) = -1 ∧ awaitL kd g r (nextF kd g st b) = true := by
  unfold awaitL at h
  by_cases h1 : nextF kd g st b = -1
  · rw [if_pos h1] at h; cases h
  · rw [if_neg h1] at h
    by_cases h2 : ruleOfF g (nextF kd g st b) = -1
    · rw [if_pos h2] at h; exact ⟨h1, h2, h⟩
    · rw [if_neg h2] at h; cases h
theorem walkL_await {kd : Nat → Nat} {g : Graph} : ∀ (L : List Int) (q : Nat) (st : Int) (info : Info) (s' : Int), info.1 ≤ q → (walkL kd g L q st info).1 = info → (walkL kd g L q st info).2 = some s' → leadOnF g s' = true → awaitL kd g L st = true
  | [], q, st, info, s', _, _, h2, h3 => by
    have e : st = s' := by
      have h4 : some st = some s' := h2
      exact Option.some.inj h4
    subst e
    exact h3
  | b :: r, q, st, info, s', hq, h1, h2, h3 => by
    rw [walkL_cons] at h1 h2
    unfold awaitL
    by_cases hd : nextF kd g st b = -1
    · rw [if_pos hd] at h2; cases h2
    · rw [if_neg hd] at h1 h2 ⊢
      by_cases hr : ruleOfF g (nextF kd g st b) = -1
      · rw [if_pos hr] at h1 h2 ⊢
        exact walkL_await r (q + 1) _ info s' (by omega) h1 h2 h3
      · exfalso
        rw [if_neg hr] at h1
        have h4 := walkL_end kd g r (q + 1) (nextF kd g st b) (q + 1, ruleOfF g (nextF kd g st b), nextF kd g st b)
        rw [h1] at h4
        rcases h4 with e | ⟨e, _⟩
        · have : info.1 = q + 1 := by rw [e]
          omega
        · omega
theorem walkL_rule {kd : Nat → Nat} {g : Graph} : ∀ (L : List Int) (q : Nat) (st : Int) (info : Info), (walkL kd g L q st info).1 = info ∨ (ruleOfF g (walkL kd g L q st info).1.2.2 = (walkL kd g L q st info).1.2.1 ∧ (walkL kd g L q st info).1.2.1 ≠ -1)
  | [], q, st, info => .inl rfl
  | b :: r, q, st, info => by
    rw [walkL_cons]
    by_cases hd : nextF kd g st b = -1
    · rw [if_pos hd]; exact .inl rfl
    · rw [if_neg hd]
      by_cases hr : ruleOfF g (nextF kd g st b) = -1
      · rw [if_pos hr]; exact walkL_rule r (q + 1) _ info
      · rw [if_neg hr]
        rcases walkL_rule (kd := kd) (g := g) r (q + 1) (nextF kd g st b) (q + 1, ruleOfF g (nextF kd g st b), nextF kd g st b) with e | e
        · rw [e]; exact .inr ⟨rfl, hr⟩
        · exact .inr e
theorem restL_extract (x : ByteArray) (p : Nat) : restL (x.extract p x.size) 0 = restL x p := by
  have h9 : x.data.toList.length = x.size := by simp
  unfold restL
  congr 1
  simp only [ByteArray.data_extract, Array.toList_extract, List.extract, List.drop_zero]
  exact List.take_of_length_le (by simp)
/-- What Resume lets in. -/
structure SavFit (kd : Nat → Nat) (g : Graph) (v : SavT) : Prop where
  le : v.at_ ≤ v.en
  names : (v.en = v.at_ ∧ v.rule = -1 ∧ v.state = 0) ∨ (v.at_ < v.en ∧ ruleOfF g v.state = v.rule ∧ v.rule ≠ -1)
  awaits : (v.en = v.at_ ∧ v.tail.size = 0) ∨ ((v.at_ < v.en ∨ v.tail.size ≠ 0) ∧ awaitL kd g (restL v.tail 0) v.state = true)
theorem Stand.fit {kd : Nat → Nat} {g : Graph} {x : ByteArray} {p : Nat} {v : SavT} (h : Stand kd g x p v) (hop : p = x.size ∨ openOf g (walkL kd g (restL x p) p 0 (info0 p)).2 = true) : SavFit kd g v := by
  obtain ⟨q1, q2⟩ := h.sizes
  obtain ⟨hle, rfl, hne⟩ := h
  rcases hop with e | hop
  · subst e
    have e9 : walkL kd g (restL x x.size) x.size 0 (info0 x.size) = (info0 x.size, some 0) := by rw [restL_nil (Nat.le_refl _)]; rfl
    rw [e9] at q1 q2 ⊢
    refine ⟨q1, .inl ⟨rfl, rfl, rfl⟩, .inl ⟨rfl, ?_⟩⟩
    have h2 : x.size + (savOf x.size x (info0 x.size, (some (0 : Int))).1).tail.size = x.size := q2
    omega
  · have hru := walkL_rule (kd := kd) (g := g) (restL x p) p 0 (info0 p)
    have hen := walkL_end kd g (restL x p) p 0 (info0 p)
    cases hh : (walkL kd g (restL x p) p 0 (info0 p)).2 with
    | none => exact absurd hh hne
    | some s' =>
      rw [hh] at hop
      have hop' : leadOnF g s' = true := hop
      have hag := walkL_again kd g (restL x p) p 0 (info0 p) s' hh
      have haw : awaitL kd g (restL x (walkL kd g (restL x p) p 0 (info0 p)).1.1) (walkL kd g (restL x p) p 0 (info0 p)).1.2.2 = true := by
        rcases hag with e | ⟨k, k0, k1, k2, k3⟩
        · have h4 := walkL_await (kd := kd) (g := g) (restL x p) p 0 (info0 p) s' (Nat.le_refl _) e hh hop'
          rw [e]
          exact h4
        · rw [restL_drop, ← k2] at k3
          exact walkL_await (kd := kd) (g := g) _ _ _ _ s' (Nat.le_refl _) (by rw [k3]) (by rw [k3]; exact hh) hop'
      generalize walkL kd g (restL x p) p 0 (info0 p) = W at q1 q2 hru hen haw
      have hna : (W.1.1 = p ∧ W.1.2.1 = -1 ∧ W.1.2.2 = 0) ∨ (p < W.1.1 ∧ ruleOfF g W.1.2.2 = W.1.2.1 ∧ W.1.2.1 ≠ -1) := by
        rcases hen with e | ⟨e1, _, e3⟩
        · rw [e]; exact .inl ⟨rfl, rfl, rfl⟩
        · rcases hru with e | e
          · have : W.1.1 = p := by rw [e]
            omega
          · exact .inr ⟨e1, e⟩
      refine ⟨q1, hna, ?_⟩
      by_cases hc : (savOf p x W.1).en = (savOf p x W.1).at_ ∧ (savOf p x W.1).tail.size = 0
      · exact .inl hc
      · refine .inr ⟨?_, ?_⟩
        · have h1 : (savOf p x W.1).at_ ≤ (savOf p x W.1).en := q1
          omega
        · show awaitL kd g (restL (x.extract W.1.1 x.size) 0) W.1.2.2 = true
          rw [restL_extract]
          exact haw
theorem Stand.tail_eq {kd : Nat → Nat} {g : Graph} {x : ByteArray} {p : Nat} {v : SavT} (h : Stand kd g x p v) : x.extract v.en x.size = v.tail := by
  rw [h.eq]; rfl
/-- All that is told of some pieces more, and of the end. -/
def fedF (kd : Nat → Nat) (g : Graph) : List ByteArray → SavT → List TokT
  | [], v => (onF kd g v ⟨#[]⟩ true).1
  | y :: r, v => (onF kd g v y false).1 ++ fedF kd g r (onF kd g v y false).2
end Go.Proofs.Ytcckhngbdoiikaa

namespace Go.Proofs.Ytcckhngbdoiikaa
set_option linter.unusedVariables false

theorem Stand.step {kd : Nat → Nat} {g : Graph} (ho : LexOk kd g) {x : ByteArray} {p : Nat} {v : SavT} (h : Stand kd g x p v) (y : ByteArray) :
    ∃ p', Stand kd g (x ++ y) p' (onF kd g v y false).2 ∧ p + (onF kd g v y false).1.length ≤ p' := by
  have hle := h.le
  have hsz : (x ++ y).size = x.size + y.size := ByteArray.size_append
  obtain ⟨l, p', v', e1, h1, h2, h3⟩ := on_told ho (x ++ y) ((x ++ y).size - p + 1) p [] (by omega) (by omega)
  rw [h.on y false, e1]
  simp only [List.nil_append]
  exact ⟨p', h1, (h3 ⟨#[]⟩).le⟩
theorem Stand.fin {kd : Nat → Nat} {g : Graph} {x : ByteArray} {p : Nat} {v : SavT} (h : Stand kd g x p v) : p + (onF kd g v ⟨#[]⟩ true).1.length ≤ x.size := by
  have hle := h.le
  have ex : x ++ (⟨#[]⟩ : ByteArray) = x := by
    apply ByteArray.ext
    simp
  rw [h.on ⟨#[]⟩ true, ex, savOf_info0, on_cut kd g x _ p [] hle (by omega)]
  obtain ⟨l, e1, e2⟩ := allTok_path kd g x (x.size - p + 1) p [] hle (by omega)
  rw [e1, List.nil_append]
  exact e2.le
end Go.Proofs.Ytcckhngbdoiikaa

namespace Go.Proofs.Ytcckhngbdoiikaa
set_option linter.unusedVariables false

theorem fed_len {kd : Nat → Nat} {g : Graph} (ho : LexOk kd g) (ps : List ByteArray) : ∀ (d i : Nat), i ≤ ps.length → ps.length ≤ i + d → ∀ {p : Nat} {v : SavT}, Stand kd g (joinTo ps i) p v → p + (fedF kd g (ps.drop i) v).length ≤ (joinB ps).size
  | 0, i, h1, h2, p, v, h => by
    have e : i = ps.length := by omega
    subst e
    rw [List.drop_length]
    exact h.fin
  | d + 1, i, h1, h2, p, v, h => by
    by_cases hlt : i < ps.length
    · obtain ⟨p', f1, f2⟩ := h.step ho ps[i]
      have hnx : joinTo ps (i + 1) = joinTo ps i ++ ps[i] := by show joinTo ps i ++ ps.getD i ⟨#[]⟩ = _; simp [hlt]
      rw [← hnx] at f1
      have ih := fed_len ho ps d (i + 1) (by omega) (by omega) f1
      rw [List.drop_eq_getElem_cons hlt]
      show p + ((onF kd g v ps[i] false).1 ++ fedF kd g (ps.drop (i + 1)) (onF kd g v ps[i] false).2).length ≤ _
      rw [List.length_append]
      omega
    · have e : i = ps.length := by omega
      subst e
      rw [List.drop_length]
      exact h.fin
end Go.Proofs.Ytcckhngbdoiikaa

namespace Go.Proofs.Ytcckhngbdoiikaa
open Go.RowKit Go.Deep
set_option linter.unusedVariables false

set_option maxRecDepth 20000 in
set_option maxHeartbeats 1600000 in
theorem inRoom_any (x : SavT) (w : World) (h1 : x.at_ ≤ x.en) (h2 : x.en + x.tail.size ≤ 4000000) : Calls Try.prog 96 #[savV x] w fun e w' => e = .returned (.bool true) ∧ Below w.heap.size w w' := by
  obtain ⟨xa, xe, xr, xs, xt⟩ := x
  simp only at h1 h2
  have e0 : decide ((xa : Int) < 0) = false := by simp
  have e1 : decide ((xe : Int) < (xa : Int)) = false := by simp; omega
  have hn : ¬ xe < xa := by omega
  have e2 : decide ((xt.size : Int) ≤ 1099511627776 - (xe : Int)) = true := by simp; omega
  go_enter Try.func96, Try.ntmps96
  go_wp2_with fail
  go_ret
  exact ⟨rfl, Below1 _ _⟩

set_option maxRecDepth 20000 in
set_option maxHeartbeats 1600000 in
theorem namesToken_any (pb : Nat) (kd : Nat → Nat) (g : Graph) (x : SavT) (w : World) (h : LexAt w pb kd g) (hx : (x.en = x.at_ ∧ x.rule = -1 ∧ x.state = 0) ∨ (x.at_ < x.en ∧ ruleOfF g x.state = x.rule ∧ x.rule ≠ -1)) :
    Calls Try.prog 97 #[.pointer (some ⟨pb, 0, none⟩), savV x] w fun e w' => e = .returned (.bool true) ∧ Below w.heap.size w w' := by
  obtain ⟨xa, xe, xr, xs, xt⟩ := x
  simp only at hx
  have HR := hide (fun (W : World) (hb : Below w.heap.size w W) => tableRule_any pb kd g xs W (h.below hb))
  clear h
  rcases hx with ⟨rfl, rfl, rfl⟩ | ⟨h1, h2, h3⟩
  · go_enter Try.func97, Try.ntmps97
    go_wp2_with fail
    go_ret
    exact ⟨rfl, Below1 _ _⟩
  · have e0 : ((xe : Int) == (xa : Int)) = false := by simp; omega
    have hne : ¬ xe = xa := by omega
    have e1 : (xr != -1) = true := by simp [h3]
    have e2 : (xr == xr) = true := by simp
    rw [h2] at HR
    go_enter Try.func97, Try.ntmps97
    go_wp2_with fail
    refine (HR.out _ (Below1 _ _)).mono ?_
    rintro e w1 ⟨rfl, rfl⟩
    go_wp2_with fail
    go_ret
    exact ⟨rfl, Below1 _ _⟩

set_option maxRecDepth 20000 in
set_option maxHeartbeats 1600000 in
theorem awaitsMore_any (pb : Nat) (kd : Nat → Nat) (g : Graph) (x : SavT) (w : World) (h : LexAt w pb kd g) (ho : LexOk kd g) (hz : x.tail.size ≤ 4000000) (hx : (x.en = x.at_ ∧ x.tail.size = 0) ∨ ((x.at_ < x.en ∨ x.tail.size ≠ 0) ∧ awaitL kd g (restL x.tail 0) x.state = true)) :
    Calls Try.prog 98 #[.pointer (some ⟨pb, 0, none⟩), savV x] w fun e w' => e = .returned (.bool true) ∧ Below w.heap.size w w' := by
  obtain ⟨xa, xe, xr, xs, xt⟩ := x
  simp only at hx hz
  have HN := hide (fun (W : World) (hb : Below w.heap.size w W) (st b : Int) => tableNext_any pb kd g st b W (h.below hb) ho)
  have HR := hide (fun (W : World) (hb : Below w.heap.size w W) (st : Int) => tableRule_any pb kd g st W (h.below hb))
  have HL := hide (fun (W : World) (hb : Below w.heap.size w W) (st : Int) => leadOn_any pb kd g st W (h.below hb))
  clear h ho
  rcases hx with ⟨rfl, h2⟩ | ⟨h1, h2⟩
  · have hxt : xt = ⟨#[]⟩ := (emptyStr xt).2 h2
    subst hxt
    go_enter Try.func98, Try.ntmps98
    go_wp2_with fail
    go_ret
    exact ⟨rfl, Below1 _ _⟩
  · have hway : (¬ xe = xa ∧ ((xe : Int) == (xa : Int)) = false ∧ (xt = ⟨#[]⟩ ∨ xt.toList.isEmpty = false)) ∨ xt.toList.isEmpty = false := by
      by_cases e : xt.size = 0
      · left
        have : xa < xe := by omega
        exact ⟨by omega, by simp; omega, .inl ((emptyStr xt).2 e)⟩
      · exact .inr (notEmpty xt e)
    have H2 := hide h2
    clear h1 h2
    go_enter Try.func98, Try.ntmps98
    go_upto_region 2 with fail
    go_cut [19] (fun cv wx => cv = .bool false ∧ wx = w.alloc (.cells (savC ⟨xa, xe, xr, xs, xt⟩) 84))
    case first =>
      rcases hway with ⟨hne, e1, rfl | e2⟩ | e2
      all_goals
        go_wp2_with fail
        go_meet
        exact ⟨rfl, rfl⟩
    case rest =>
      obtain ⟨rfl, rfl⟩ := hcut
      clear hway
      go_wp2_with fail
      go_loopg [6, 7] xt.size (fun G sv iv wr => ∃ (i : Nat) (st : Int), sv = .int .i64 st ∧ iv = .int .i64 (i : Int) ∧ i ≤ xt.size ∧ G = xt.size - i ∧ awaitL kd g (restL xt i) st = true ∧ Below w.heap.size w wr)
      case atStart => exact ⟨0, xs, rfl, rfl, by omega, rfl, H2.out, Below1 _ _⟩
      case round =>
        obtain ⟨i, st, rfl, rfl, hi, rfl, haw, hb⟩ := hrel
        by_cases hlt : i < xt.size
        · have e0 : decide ((i : Int) < (xt.size : Int)) = true := by simp; omega
          rw [restL_cons hlt] at haw
          obtain ⟨a1, a2, a3⟩ := awaitL_cons haw
          have p0 : (0 : Int) ≤ (i : Int) := by omega
          have p1 : (i : Int) < (xt.size : Int) := by omega
          have HB := hide hb
          have HAW := hide a3
          clear hb haw a3
          go_wp2_with fail
          rw [wrapByte xt i hlt]
          refine (HN.out wr HB.out st _).mono ?_
          rintro e w1 ⟨rfl, hb1⟩
          generalize nextF kd g st (peekI xt i) = n at HAW a1 a2
          have HB1 := hide (HB.out.trans (hb1.mono HB.out.size))
          have e1 : (n == -1) = false := by simp [a1]
          clear hb1 HB a1
          go_wp2_with fail
          refine (HR.out w1 HB1.out n).mono ?_
          rintro e w2 ⟨rfl, rfl⟩
          rw [a2]
          clear a2
          go_wp2_with fail
          go_roundg (xt.size - (i + 1))
          case measure => omega
          case rel => exact ⟨i + 1, n, rfl, by go_num, by omega, rfl, HAW.out, HB1.out⟩
        · have e0 : decide ((i : Int) < (xt.size : Int)) = false := by simp; omega
          rw [restL_nil (by omega)] at haw
          have hl : leadOnF g st = true := haw
          have HB := hide hb
          have HLL := hide (HL.out wr hb st)
          rw [hl] at HLL
          clear hb haw hl
          go_wp2_with fail
          refine HLL.out.mono ?_
          rintro e w1 ⟨rfl, rfl⟩
          go_wp2_with fail
          go_ret
          exact ⟨rfl, HB.out⟩
end Go.Proofs.Ytcckhngbdoiikaa

namespace Go.Proofs.Ytcckhngbdoiikaa
open Go.RowKit Go.Deep
set_option linter.unusedVariables false

set_option maxRecDepth 20000 in
set_option maxHeartbeats 1600000 in
theorem cutResume_any (pb : Nat) (kd : Nat → Nat) (g : Graph) (x : SavT) (w : World) (h : LexAt w pb kd g) (ho : LexOk kd g) (hz : x.en + x.tail.size ≤ 4000000) (hx : SavFit kd g x) :
    Calls Try.prog 71 #[.pointer (some ⟨pb, 0, none⟩), savV x] w fun e w' => e = .returned (.tuple #[savV x, .bool true]) ∧ Below w.heap.size w w' := by
  have HIR := hide (fun w => inRoom_any x w hx.le hz)
  have HNT := hide (fun (W : World) (hb : Below w.heap.size w W) => namesToken_any pb kd g x W (h.below hb) hx.names)
  have HAM := hide (fun (W : World) (hb : Below w.heap.size w W) => awaitsMore_any pb kd g x W (h.below hb) ho (by omega) hx.awaits)
  have HOW := hide (fun w => own_any x.tail w (by omega))
  clear h ho hx
  obtain ⟨xa, xe, xr, xs, xt⟩ := x
  go_enter Try.func71, Try.ntmps71
  go_wp2_with fail
  refine (HIR.out _).mono ?_
  rintro e w1 ⟨rfl, hb1⟩
  have HB1 : Hid (Below w.heap.size w w1 ∧ Blk w1 w.heap.size (savC ⟨xa, xe, xr, xs, xt⟩) 84 ∧ Blk w1 (w.heap.size + 1) sav0 84) := ⟨(Below2 _ _ _).trans (hb1.mono (by simp; omega)), ((Blk.new _ _ _).alloc _).below hb1, (Blk.at1 _ _ _ _).below hb1⟩
  clear hb1 HIR
  go_wp2_with (first | refine loadSav (x := ⟨xa, xe, xr, xs, xt⟩) rfl (.tmp 3) rfl w.heap.size rfl HB1.out.2.1 ?_)
  refine (HNT.out _ HB1.out.1).mono ?_
  rintro e w2 ⟨rfl, hb2⟩
  have HB2 : Hid (Below w.heap.size w w2 ∧ Blk w2 w.heap.size (savC ⟨xa, xe, xr, xs, xt⟩) 84 ∧ Blk w2 (w.heap.size + 1) sav0 84) := ⟨HB1.out.1.trans (hb2.mono HB1.out.1.size), HB1.out.2.1.below hb2, HB1.out.2.2.below hb2⟩
  clear hb2 HNT HB1
  go_wp2_with (first | refine loadSav (x := ⟨xa, xe, xr, xs, xt⟩) rfl (.tmp 3) rfl w.heap.size rfl HB2.out.2.1 ?_)
  refine (HAM.out _ HB2.out.1).mono ?_
  rintro e w3 ⟨rfl, hb3⟩
  have HB3 : Hid (Below w.heap.size w w3 ∧ Blk w3 w.heap.size (savC ⟨xa, xe, xr, xs, xt⟩) 84 ∧ Blk w3 (w.heap.size + 1) sav0 84) := ⟨HB2.out.1.trans (hb3.mono HB2.out.1.size), HB2.out.2.1.below hb3, HB2.out.2.2.below hb3⟩
  clear hb3 HAM HB2
  have c4 := HB3.out.2.1.cell 4
  go_wp2_with fail
  refine (HOW.out _).mono ?_
  rintro e w4 ⟨rfl, hb4⟩
  have HB4 : Hid (Below w.heap.size w w4 ∧ Blk w4 w.heap.size (savC ⟨xa, xe, xr, xs, xt⟩) 84 ∧ Blk w4 (w.heap.size + 1) sav0 84) := ⟨HB3.out.1.trans (hb4.mono HB3.out.1.size), HB3.out.2.1.below hb4, HB3.out.2.2.below hb4⟩
  clear hb4 HOW HB3 c4
  have c4 := HB4.out.2.1.cell 4
  have f4 := HB4.out.2.1.frozen 4
  go_upto_region 8 with fail
  obtain ⟨w5, hw5⟩ : ∃ w5 : World, w4.setCell ⟨w.heap.size, 4, none⟩ (.string xt) = w5 := ⟨_, rfl⟩
  have hA5 : Below w.heap.size w w5 ∧ Blk w5 w.heap.size (savC ⟨xa, xe, xr, xs, xt⟩) 84 ∧ Blk w5 (w.heap.size + 1) sav0 84 := by
    rw [← hw5]
    exact ⟨HB4.out.1.setCell (p := ⟨w.heap.size, 4, none⟩) (Nat.le_refl _) _, HB4.out.2.1.set 4 _, HB4.out.2.2.setOther (p := ⟨w.heap.size, 4, none⟩) (by simp) _⟩
  rw [hw5]
  have HB5 := hide hA5
  clear hw5 hA5 HB4 c4 f4
  go_wp2_with (first | refine loadSav (x := ⟨xa, xe, xr, xs, xt⟩) rfl (.tmp 3) rfl w.heap.size rfl HB5.out.2.1 ?_ | refine storeSav (x := ⟨xa, xe, xr, xs, xt⟩) rfl _ _ rfl (w.heap.size + 1) rfl rfl HB5.out.2.2 rfl ?_)
  exact bodyPost_ret (resultsSav (x := ⟨xa, xe, xr, xs, xt⟩) Try.results71 _ rfl (HB5.out.2.2.setRow _)) rfl ⟨rfl, Below_setRow HB5.out.1 (by omega) _⟩
end Go.Proofs.Ytcckhngbdoiikaa

namespace Go.Proofs.Ytcckhngbdoiikaa
open Go.RowKit Go.Deep
set_option linter.unusedVariables false

set_option maxRecDepth 20000 in
set_option maxHeartbeats 1600000 in
theorem save_any (tb pb : Nat) (x : SavT) (w : World) (h : StreamAt w tb pb x false) :
    Calls Try.prog 47 #[.pointer (some ⟨tb, 0, none⟩)] w fun e w' => e = .returned (.tuple #[savV x, .int .i64 0]) ∧ Below w.heap.size w w' := by
  obtain ⟨xa, xe, xr, xs, xt⟩ := x
  have c0 : w.cell? ⟨tb, 0, none⟩ = some (.pointer (some ⟨pb, 0, none⟩)) := h.cell 0
  have c1 : w.cell? ⟨tb, 1, none⟩ = some (.int .i64 (xa : Int)) := h.cell 1
  have c2 : w.cell? ⟨tb, 2, none⟩ = some (.int .i64 (xe : Int)) := h.cell 2
  have c3 : w.cell? ⟨tb, 3, none⟩ = some (.int .i64 xr) := h.cell 3
  have c4 : w.cell? ⟨tb, 4, none⟩ = some (.int .i64 xs) := h.cell 4
  have c5 : w.cell? ⟨tb, 5, none⟩ = some (.string xt) := h.cell 5
  have c6 : w.cell? ⟨tb, 6, none⟩ = some (.bool false) := h.cell 6
  have zt := h.lt
  have hne : tb ≠ w.heap.size := by omega
  clear h
  go_enter Try.func47, Try.ntmps47
  go_wp2_with fail
  exact bodyPost_ret (resultsSav (x := ⟨xa, xe, xr, xs, xt⟩) Try.results47 _ rfl (Blk.new _ _ _)) rfl ⟨rfl, Below1 _ _⟩

set_option maxRecDepth 20000 in
set_option maxHeartbeats 1600000 in
theorem resume_any (pb : Nat) (kd : Nat → Nat) (g : Graph) (x : SavT) (w : World) (h : LexAt w pb kd g) (hf : LexFit kd g) (hbd : (gapOf kd g).bounded = true) (hz : x.en + x.tail.size ≤ 4000000) (hx : SavFit kd g x) :
    Calls Try.prog 49 #[.pointer (some ⟨pb, 0, none⟩), savV x] w fun e w' => Below w.heap.size w w' ∧ ∃ tb, e = .returned (.tuple #[.pointer (some ⟨tb, 0, none⟩), .int .i64 0]) ∧ StreamAt w' tb pb x false ∧ w.heap.size ≤ tb := by
  have HF := hide (fun (W : World) (hb : Below w.heap.size w W) => gapFind_any pb kd g W (h.below hb) hf.ok hf.into (by have := hf.few; omega) hf.pos)
  have HC := hide (fun (W : World) (hb : Below w.heap.size w W) => cutResume_any pb kd g x W (h.below hb) hf.ok hz hx)
  clear h hf hx
  generalize gapOf kd g = X at HF hbd
  obtain ⟨xb, xk, x1, x2, x3, x4, x5⟩ := X
  simp only at hbd
  subst hbd
  obtain ⟨xa, xe, xr, xs, xt⟩ := x
  obtain ⟨w0, hw0⟩ : ∃ w0 : World, w.alloc (.cells (savC ⟨xa, xe, xr, xs, xt⟩) 84) = w0 := ⟨_, rfl⟩
  have hb0 : Below w.heap.size w w0 := by rw [← hw0]; exact Below1 _ _
  have hB0 : Blk w0 w.heap.size (savC ⟨xa, xe, xr, xs, xt⟩) 84 := by rw [← hw0]; exact Blk.new _ _ _
  have HB0 := hide (And.intro hb0 hB0)
  clear hb0 hB0
  go_enter Try.func49, Try.ntmps49
  go_wp2_with fail
  try rw [hw0]
  clear hw0
  refine (HF.out _ HB0.out.1).mono ?_
  rintro e w1 ⟨rfl, hb1⟩
  obtain ⟨w2, hw2⟩ : ∃ w2 : World, w1.alloc (.cells #[.bool true, .int .i64 (xk : Int), .string x1, .string x2, .string x3, .string x4, .string x5] 68) = w2 := ⟨_, rfl⟩
  have hb2 : Below w.heap.size w w2 := by rw [← hw2]; exact (HB0.out.1.trans (hb1.mono HB0.out.1.size)).alloc (by have := HB0.out.1.size; have := hb1.size; omega) _
  have hB2 : Blk w2 w.heap.size (savC ⟨xa, xe, xr, xs, xt⟩) 84 := by rw [← hw2]; exact (HB0.out.2.below hb1).alloc _
  have hG2 : Blk w2 w1.heap.size #[.bool true, .int .i64 (xk : Int), .string x1, .string x2, .string x3, .string x4, .string x5] 68 := by rw [← hw2]; exact Blk.new _ _ _
  have k0 := hG2.cell 0
  have HB2 := hide (And.intro hb2 hB2)
  clear hb1 hb2 hB2 hG2
  go_wp2_with (first | refine loadSav (x := ⟨xa, xe, xr, xs, xt⟩) rfl _ rfl w.heap.size rfl HB2.out.2 ?_)
  try rw [hw2]
  clear hw2 k0
  have k0 := HB2.out.2.cell 0
  have k1 := HB2.out.2.cell 1
  have k2 := HB2.out.2.cell 2
  have k3 := HB2.out.2.cell 3
  have k4 := HB2.out.2.cell 4
  have zt1 := HB2.out.2.lt
  have hd1 : Below w.heap.size w w2.drew := Below_drew HB2.out.1
  have hd2 : Below w.heap.size w (w2.drew.alloc (.cells sav0 84)) := hd1.alloc hd1.size _
  have HD1 := hide hd1
  have HD2 := hide hd2
  clear hd1 hd2
  go_cut [7, 8] (fun bv fv wx => fv = .bool true ∧ ∃ sb, bv = .pointer (some ⟨sb, 0, none⟩) ∧ Blk wx sb (savC ⟨xa, xe, xr, xs, xt⟩) 84 ∧ Below w.heap.size w wx)
  case first =>
    go_region_with (go_at_call 71; refine (HC.out _ (by first | exact HD1.out | exact HD2.out)).mono ?_; rintro e w3 ⟨rfl, hb3⟩; try (have hq : Blk w3 w2.heap.size sav0 84 := (Blk.new w2.drew sav0 84).below hb3; have q0 := hq.cell 0; have q1 := hq.cell 1; have q2 := hq.cell 2; have q3 := hq.cell 3; have q4 := hq.cell 4; have f0 := hq.frozen 0; have f1 := hq.frozen 1; have f2 := hq.frozen 2; have f3 := hq.frozen 3; have f4 := hq.frozen 4))
    all_goals
      first
      | (have hbb : Below w.heap.size w w3 := HD1.out.trans (hb3.mono HD1.out.size)
         have HH := hide hbb
         clear hbb hb3 k0 k1 k2 k3 k4
         go_wp2_with fail
         go_meet
         exact ⟨rfl, w3.heap.size, rfl, Blk.new _ _ _, HH.out.alloc HH.out.size _⟩)
      | (have hbb : Below w.heap.size w w3 := HD2.out.trans (hb3.mono HD2.out.size)
         have hz9 : w.heap.size ≤ w2.heap.size := HB2.out.1.size
         have HH : Hid (Below w.heap.size w w3 ∧ Blk w3 w2.heap.size sav0 84) := ⟨hbb, hq⟩
         clear hbb hb3 k0 k1 k2 k3 k4 q0 q1 q2 q3 q4 f0 f1 f2 f3 f4 hq
         go_wp2_with fail
         go_meet
         exact ⟨rfl, w2.heap.size, rfl, ((((HH.out.2.set 0 _).set 1 _).set 2 _).set 3 _).set 4 _, ((((HH.out.1.setCell (p := ⟨w2.heap.size, 0, none⟩) hz9 _).setCell (p := ⟨w2.heap.size, 1, none⟩) hz9 _).setCell (p := ⟨w2.heap.size, 2, none⟩) hz9 _).setCell (p := ⟨w2.heap.size, 3, none⟩) hz9 _).setCell (p := ⟨w2.heap.size, 4, none⟩) hz9 _⟩)
  case rest =>
    obtain ⟨rfl, sb, rfl, hSB, hBel⟩ := hcut
    clear k0 k1 k2 k3 k4 HD1 HD2 HC HF
    have c0 := hSB.cell 0
    have c1 := hSB.cell 1
    have c2 := hSB.cell 2
    have c3 := hSB.cell 3
    have c4 := hSB.cell 4
    have zsb := hSB.lt
    have HB4 := hide hBel
    clear hSB hBel
    go_wp2_with fail
    go_region
    clear c0 c1 c2 c3 c4
    go_wp2_with fail
    go_ret2
    have hfin : Below w.heap.size w (wc.alloc (.cells (streamC pb ⟨xa, xe, xr, xs, xt⟩ false) 133)).drew ∧ StreamAt (wc.alloc (.cells (streamC pb ⟨xa, xe, xr, xs, xt⟩ false) 133)).drew wc.heap.size pb ⟨xa, xe, xr, xs, xt⟩ false ∧ w.heap.size ≤ wc.heap.size := ⟨Below_drew (HB4.out.alloc HB4.out.size _), Blk.drew (Blk.new _ _ _), HB4.out.size⟩
    exact ⟨hfin.1, wc.heap.size, rfl, hfin.2⟩
end Go.Proofs.Ytcckhngbdoiikaa
