import Derived.Test.YtcckhngbdoiikaaN36
import Derived.Deep.RegionWith
import Derived.Deep.RegionHeld3
import Derived.Test.YtcckhngbdoiikaaN28

namespace Go.Proofs.Ytcckhngbdoiikaa
open Go.RowKit Go.Deep
set_option linter.unusedVariables false

theorem extract_size {s : ByteArray} {i e : Nat} (he : e ≤ s.size) : (s.extract i e).size = e - i := by rw [ByteArray.size_extract]; omega
theorem peekI_sub {s : ByteArray} {i e k : Nat} (he : e ≤ s.size) (hk : i + k < e) : peekI (s.extract i e) k = peekI s (i + k) := by
  have h1 : k < (s.extract i e).size := by rw [extract_size he]; omega
  rw [peekI_at h1, peekI_at (by omega), ByteArray.getElem_extract]
theorem Cls.sub {s : ByteArray} {i e : Nat} (he : e ≤ s.size) : ∀ {l : List Int} {q z : Nat}, Cls s l (i + q) (i + z) → i + z < e → Cls (s.extract i e) l q z
  | [], q, z, h, hz => ⟨by have := h.1; omega, by rw [peekI_sub he hz]; exact h.2⟩
  | v :: l, q, z, h, hz => by
    rcases h with ⟨h1, h2, h3⟩ | ⟨h1, h2, h3, h4, h5⟩ | ⟨h1, h2, h3, h4, h5, h6, h7⟩
    · have := h3.le
      exact .inl ⟨by rw [peekI_sub he (by omega)]; exact h1, h2, Cls.sub he (by rw [show i + (q + 1) = i + q + 1 by omega]; exact h3) hz⟩
    · have := h5.le
      have e1 : peekI (s.extract i e) (q + 1) = peekI s (i + q + 1) := by rw [peekI_sub he (by omega)]; congr 1
      exact .inr (.inl ⟨by rw [peekI_sub he (by omega)]; exact h1, by rw [e1]; exact h2, by rw [e1]; exact h3, by rw [e1]; exact h4, Cls.sub he (by rw [show i + (q + 2) = i + q + 2 by omega]; exact h5) hz⟩)
    · have := h7.le
      have e1 : peekI (s.extract i e) q = peekI s (i + q) := peekI_sub he (by omega)
      exact .inr (.inr ⟨by rw [e1]; exact h1, by rw [e1]; exact h2, by rw [e1]; exact h3, by rw [e1]; exact h4, by rw [e1]; exact h5, by rw [e1]; exact h6, Cls.sub he (by rw [show i + (q + 1) = i + q + 1 by omega]; exact h7) hz⟩)
theorem PlaceIs.sub {s : ByteArray} {i e : Nat} {A : Nat → Bool} (h : PlaceIs s i e A) : PlaceIs (s.extract i e) 0 (s.extract i e).size A := by
  have hl := h.lt
  have hz := extract_size (i := i) hl.2
  have e0 : peekI (s.extract i e) 0 = peekI s i := by rw [peekI_sub hl.2 (by omega)]; rfl
  rw [hz]
  cases h with
  | any h1 h2 h3 => exact .any (by rw [e0]; exact h1) (by omega) h3
  | esc h1 h2 h3 h4 h5 =>
    have e1 : peekI (s.extract i e) (0 + 1) = peekI s (i + 1) := peekI_sub hl.2 (by omega)
    exact .esc (by rw [e0]; exact h1) (by omega) (by rw [e1]; exact h3) (by rw [e1]; exact h4) (by rw [e1]; exact h5)
  | cls l neg z h1 h2 h3 h4 h5 =>
    have hc := h4.le
    have hn : neg.toNat ≤ 1 := by cases neg <;> simp
    have e1 : peekI (s.extract i e) (0 + 1) = peekI s (i + 1) := peekI_sub hl.2 (by omega)
    refine .cls l neg (z - i) (by rw [e0]; exact h1) (by omega) (by rw [e1]; exact h3) ?_ h5
    refine Cls.sub hl.2 ?_ (by omega)
    rw [show i + (0 + 1 + neg.toNat) = i + 1 + neg.toNat by omega, show i + (z - i) = z by omega]
    exact h4
  | one h1 h2 h3 h4 h5 h6 => exact .one (by rw [e0]; exact h1) (by rw [e0]; exact h2) (by rw [e0]; exact h3) (by rw [e0]; exact h4) (by omega) (by rw [e0]; exact h6)

/-- What 'Allows' does. -/
def AllC (t : ByteArray) (A : Nat → Bool) : Prop := ∀ (c : Nat) (w : World), c < 256 → Calls Try.prog 134 #[.string t, .int .i64 (c : Int)] w fun e w' => e = .returned (.bool (A c)) ∧ Below w.heap.size w w'

set_option maxHeartbeats 1600000 in
theorem allows_any1 (t : ByteArray) (A : Nat → Bool) (h1 : peekI t 0 = 46) (h3 : ∀ c : Nat, A c = true) : AllC t A := by
  intro c w hc
  have h0 := peekI_in (s := t) (p := 0) (by rw [h1]; decide)
  rw [peekI_at h0] at h1
  rw [h3 c]
  have i1 : (0 : Int) < (t.size : Int) := by omega
  have e1 : (((t[0].toNat : Nat) : Int) == 46) = true := by simp; omega
  clear h1 h3
  go_enter Try.func134, Try.ntmps134
  go_wp2_with fail
  go_ret
  exact ⟨rfl, Below.refl _ _⟩

set_option maxHeartbeats 1600000 in
theorem allows_one (t : ByteArray) (A : Nat → Bool) (hb : ¬ placeBar (peekI t 0)) (h1 : peekI t 0 ≠ 46) (h2 : peekI t 0 ≠ 91) (h4 : peekI t 0 ≠ 92) (h3 : ∀ c : Nat, A c = decide (peekI t 0 = (c : Int))) : AllC t A := by
  intro c w hc
  have h0 := peekI_in (s := t) (p := 0) (fun e => hb (.inl e))
  rw [peekI_at h0] at h1 h2 h4
  rw [h3 c, peekI_at h0]
  have i1 : (0 : Int) < (t.size : Int) := by omega
  have e1 : (((t[0].toNat : Nat) : Int) == 46) = false := by simp; omega
  have e2 : (((t[0].toNat : Nat) : Int) == 92) = false := by simp; omega
  have e3 : (((t[0].toNat : Nat) : Int) == 91) = false := by simp; omega
  have hlt := t[0].toNat_lt
  have hw : wrap64 ((t[0].toNat : Nat) : Int) = ((t[0].toNat : Nat) : Int) := by unfold wrap64; omega
  clear h1 h2 h4 h3 hb hlt
  go_enter Try.func134, Try.ntmps134
  go_wp2_with fail
  go_ret
  refine ⟨?_, Below.refl _ _⟩
  show Ending.returned (Value.bool (((t[0].toNat : Nat) : Int) == (c : Int))) = _
  congr 2

set_option maxHeartbeats 1600000 in
theorem allows_esc (t : ByteArray) (A : Nat → Bool) (h1 : peekI t 0 = 92) (h2 : peekI t 1 ≠ -1) (h3 : ∀ c : Nat, A c = decide (meantF (peekI t 1) = (c : Int))) : AllC t A := by
  intro c w hc
  have h0 := peekI_in (s := t) (p := 0) (by rw [h1]; decide)
  have h9 := peekI_in h2
  rw [peekI_at h0] at h1
  rw [h3 c, peekI_at h9]
  have i1 : (0 : Int) < (t.size : Int) := by omega
  have i2 : (1 : Int) < (t.size : Int) := by omega
  have e1 : (((t[0].toNat : Nat) : Int) == 46) = false := by simp; omega
  have e2 : (((t[0].toNat : Nat) : Int) == 92) = true := by simp; omega
  have HM := hide (fun W => meant_any t[1].toNat W (t[1].toNat_lt))
  generalize meantF ((t[1].toNat : Nat) : Int) = mm at HM ⊢
  clear h1 h2 h3
  go_enter Try.func134, Try.ntmps134
  go_wp2_with fail
  refine (HM.out _).mono ?_
  rintro e w1 ⟨rfl, rfl⟩
  go_wp2_with fail
  go_ret
  refine ⟨?_, Below.refl _ _⟩
  show Ending.returned (Value.bool (mm == (c : Int))) = _
  congr 2

theorem memF_skip {l : List Int} {i : Nat} {c : Int} (h : i < l.length) (hn : ¬ (i + 2 < l.length ∧ l.getD (i + 1) 0 = -1)) : memF (l.drop i) c = (decide (c = l.getD i 0) || memF (l.drop (i + 1)) c) := by
  rw [List.drop_eq_getElem_cons h, memF_one]
  · simp [h]
  · intro d b r' e hd
    apply hn
    have hl := congrArg List.length e
    simp only [List.length_drop, List.length_cons] at hl
    refine ⟨by omega, ?_⟩
    have hh := congrArg (fun l => l.getD 0 0) e
    simp only [List.getD_cons_zero] at hh
    rw [← hd, ← hh]
    simp
theorem memF_take {l : List Int} {i : Nat} {c : Int} (h : i + 2 < l.length) (hn : l.getD (i + 1) 0 = -1) : memF (l.drop i) c = ((decide (l.getD i 0 ≤ c) && decide (c ≤ l.getD (i + 2) 0)) || memF (l.drop (i + 3)) c) := by
  have e1 : l.getD i 0 = l[i] := by simp [show i < l.length by omega]
  have e2 : l.getD (i + 1) 0 = l[i + 1] := by simp [show i + 1 < l.length by omega]
  have e3 : l.getD (i + 2) 0 = l[i + 2] := by simp [h]
  rw [e2] at hn
  rw [List.drop_eq_getElem_cons (show i < l.length by omega), List.drop_eq_getElem_cons (show i + 1 < l.length by omega), List.drop_eq_getElem_cons (show i + 1 + 1 < l.length by omega), hn, memF_pair, e1, e3]

theorem IRow.getD {w : World} {l : List Int} {g n cap : Nat} (h : IRow w (.slice (some ⟨g, 0, none⟩) n cap) l) (j : Nat) (hj : j < l.length) : w.cell? ⟨g, j, none⟩ = some (.int .i64 (l.getD j 0)) := by
  obtain ⟨_, ad, cap', e, _⟩ := ownsRow_form h
  injection e with e1 e2 e3
  subst e2
  rw [h.cell j hj]; simp [hj]

set_option maxRecDepth 20000 in
set_option maxHeartbeats 6400000 in
theorem allows_cls (t : ByteArray) (A : Nat → Bool) (l : List Int) (neg : Bool) (z : Nat) (hs : t.size ≤ 120) (h1 : peekI t 0 = 91) (h2 : neg = decide (peekI t 1 = 94)) (hc : Cls t l (1 + neg.toNat) z) (h3 : ∀ c : Nat, A c = (memF l (c : Int) != neg)) : AllC t A := by
  intro c w hcc
  have hcl := hc.le
  have h0 := peekI_in (s := t) (p := 0) (by rw [h1]; decide)
  have h9 : 1 < t.size := by omega
  rw [peekI_at h0] at h1
  rw [peekI_at h9] at h2
  rw [h3 c]
  have i1 : (0 : Int) < (t.size : Int) := by omega
  have i2 : (1 : Int) < (t.size : Int) := by omega
  have e1 : (((t[0].toNat : Nat) : Int) == 46) = false := by simp; omega
  have e2 : (((t[0].toNat : Nat) : Int) == 92) = false := by simp; omega
  have e3 : (((t[0].toNat : Nat) : Int) == 91) = true := by simp; omega
  have hll : l.length ≤ 120 := by omega
  have HM : ∃ M, M = memF l (c : Int) := ⟨_, rfl⟩
  obtain ⟨M, hM⟩ := HM
  rw [← hM]
  have HMM := hide hM
  have HIT := hide (items_any t (1 + neg.toNat) z l w hs hc)
  clear h1 h3 hc hcl hM
  have e4 : (((t[1].toNat : Nat) : Int) == 94) = neg := h2.symm
  clear h2
  cases neg
  all_goals
    go_enter Try.func134, Try.ntmps134
    go_wp2_with fail
    refine HIT.out.mono ?_
    rintro e w1 ⟨v, rfl, hrow, hlo, hbl⟩
    obtain ⟨ad, cap, rfl, hrw⟩ := hrow.form
    have HR := hide (And.intro hrow hbl)
    clear hrow hlo hbl HIT
    go_wp2_with fail
    go_loopg [8, 9] l.length (fun G bv iv wr => ∃ (i : Nat) (x : Bool), bv = .bool x ∧ iv = .int .i64 (i : Int) ∧ i ≤ l.length ∧ G = l.length - i ∧ (x || memF (l.drop i) (c : Int)) = M ∧ wr = w1)
    case atStart => exact ⟨0, false, rfl, rfl, by omega, rfl, by simp [HMM.out], rfl⟩
    case round =>
      obtain ⟨i, x, rfl, rfl, hi, rfl, hinv, rfl⟩ := hrel
      by_cases hlt : i < l.length
      · rcases hrw with e | ⟨g, rfl⟩
        · omega
        have f0 : decide ((i : Int) < (l.length : Int)) = true := by simp; omega
        have c0 := HR.out.1.getD i hlt
        have j0 : (0 : Int) ≤ (i : Int) := by omega
        have j1 : (i : Int) < (l.length : Int) := by omega
        by_cases ht : i + 2 < l.length ∧ l.getD (i + 1) 0 = -1
        · have f1 : decide ((i : Int) + 2 < (l.length : Int)) = true := by simp; omega
          have c1 := HR.out.1.getD (i + 1) (by omega)
          have c2 := HR.out.1.getD (i + 2) (by omega)
          rw [ht.2] at c1
          have j2 : (0 : Int) ≤ (i : Int) + 1 := by omega
          have j3 : (i : Int) + 1 < (l.length : Int) := by omega
          have j4 : (0 : Int) ≤ (i : Int) + 2 := by omega
          have j5 : (i : Int) + 2 < (l.length : Int) := by omega
          have j6 : ((i : Int) + 1).toNat = i + 1 := by omega
          have j7 : ((i : Int) + 2).toNat = i + 2 := by omega
          have hmt := memF_take (c := (c : Int)) ht.1 ht.2
          generalize hx1 : decide (l.getD i 0 ≤ (c : Int)) = x1 at hmt
          generalize hx2 : decide ((c : Int) ≤ l.getD (i + 2) 0) = x2 at hmt
          have HI := hide (And.intro hinv hmt)
          have hi2 := ht.1
          generalize l.getD i 0 = a0 at c0 hx1
          generalize l.getD (i + 2) 0 = a2 at c2 hx2
          clear hinv hmt ht
          cases x <;> cases x1 <;> cases x2
          all_goals
            go_wp2_with fail
            go_roundg (l.length - (i + 3))
            case measure => omega
            case rel =>
              obtain ⟨b1, b2⟩ := HI.out
              rw [b2] at b1
              exact ⟨i + 3, _, rfl, by go_num, by omega, rfl, by simpa using b1, rfl⟩
        · have hms := memF_skip (c := (c : Int)) hlt ht
          generalize hx1 : decide ((c : Int) = l.getD i 0) = x1 at hms
          have hx2 : ((c : Int) == l.getD i 0) = x1 := hx1
          have HI := hide (And.intro hinv hms)
          clear hx1 hinv hms
          by_cases ht1 : i + 2 < l.length
          · have f1 : decide ((i : Int) + 2 < (l.length : Int)) = true := by simp; omega
            have c1 := HR.out.1.getD (i + 1) (by omega)
            have j2 : (0 : Int) ≤ (i : Int) + 1 := by omega
            have j3 : (i : Int) + 1 < (l.length : Int) := by omega
            have j6 : ((i : Int) + 1).toNat = i + 1 := by omega
            have f2 : (l.getD (i + 1) 0 == -1) = false := by
              cases hh : (l.getD (i + 1) 0 == -1) with
              | false => rfl
              | true => exact absurd ⟨ht1, by simpa using hh⟩ ht
            generalize l.getD i 0 = a0 at c0 hx2
            generalize l.getD (i + 1) 0 = a1 at c1 f2
            clear ht
            cases x <;> cases x1
            all_goals
              go_wp2_with fail
              go_roundg (l.length - (i + 1))
              case measure => omega
              case rel =>
                obtain ⟨b1, b2⟩ := HI.out
                rw [b2] at b1
                exact ⟨i + 1, _, rfl, by go_num, by omega, rfl, by simpa using b1, rfl⟩
          · have f1 : decide ((i : Int) + 2 < (l.length : Int)) = false := by simp; omega
            generalize l.getD i 0 = a0 at c0 hx2
            clear ht
            cases x <;> cases x1
            all_goals
              go_wp2_with fail
              go_roundg (l.length - (i + 1))
              case measure => omega
              case rel =>
                obtain ⟨b1, b2⟩ := HI.out
                rw [b2] at b1
                exact ⟨i + 1, _, rfl, by go_num, by omega, rfl, by simpa using b1, rfl⟩
      · obtain rfl : i = l.length := by omega
        have f0 : decide ((l.length : Int) < (l.length : Int)) = false := by simp
        rw [List.drop_length, memF_nil, Bool.or_false] at hinv
        subst hinv
        go_wp2_with fail
        go_ret
        exact ⟨by cases x <;> rfl, HR.out.2⟩
theorem allows_place {t : ByteArray} {A : Nat → Bool} (hs : t.size ≤ 120) (h : PlaceIs t 0 t.size A) : AllC t A := by
  cases h with
  | any h1 h2 h3 => exact allows_any1 t A h1 h3
  | esc h1 h2 h3 h4 h5 => exact allows_esc t A h1 h3 h5
  | cls l neg z h1 h2 h3 h4 h5 => exact allows_cls t A l neg z hs h1 h3 (by simpa using h4) h5
  | one h1 h2 h3 h4 h5 h6 => exact allows_one t A h1 h2 h3 h4 h6
end Go.Proofs.Ytcckhngbdoiikaa

namespace Go.Proofs.Ytcckhngbdoiikaa
open Go.RowKit Go.Deep
set_option linter.unusedVariables false

/-- A place in memory: its block, its text, what it allows. -/
structure PlT where
  b : Nat
  t : ByteArray
  A : Nat → Bool
/-- The places of munchref's lexer. -/
structure PlsAt (w : World) (xb : Nat) (pls : List PlT) : Prop where
  blk : ∃ c pv, Blk w xb c 110 ∧ c[2]? = some pv ∧ w.ownsRow 0 139 1 pv pls.length (ptrs (pls.map PlT.b))
  pl : ∀ p ∈ pls, ∃ c, Blk w p.b c 180 ∧ c[3]? = some (.string p.t)
  al : ∀ p ∈ pls, AllC p.t p.A
theorem PlsAt.below {w w' : World} {xb : Nat} {pls : List PlT} (h : PlsAt w xb pls) (k : Below w.heap.size w w') : PlsAt w' xb pls := by
  obtain ⟨c, pv, h1, h2, h3⟩ := h.blk
  refine ⟨⟨c, pv, h1.below k, h2, ownsRow_kept (ex := fun _ => False) h3 (Kept.ofBelow k) (fun _ _ e => e)⟩, fun p hp => ?_, h.al⟩
  obtain ⟨c, h1, h2⟩ := h.pl p hp
  exact ⟨c, h1.below k, h2⟩
/-- Do all places allow both bytes, or neither? -/
def twF (pls : List PlT) (a b : Nat) : Bool := pls.all (fun p => p.A a == p.A b)
theorem twF_iff {pls : List PlT} {a b : Nat} : twF pls a b = true ↔ ∀ p ∈ pls, p.A a = p.A b := by simp [twF]
theorem twF_refl (pls : List PlT) (a : Nat) : twF pls a a = true := twF_iff.2 fun _ _ => rfl
theorem twF_trans {pls : List PlT} {a b c : Nat} (h : twF pls a b = true) (g : twF pls b c = true) : twF pls a c = true := twF_iff.2 fun p hp => (twF_iff.1 h p hp).trans (twF_iff.1 g p hp)
theorem twF_drop {pls : List PlT} {a b i : Nat} (h : i < pls.length) : twF (pls.drop i) a b = ((pls[i].A a == pls[i].A b) && twF (pls.drop (i + 1)) a b) := by
  rw [List.drop_eq_getElem_cons h]; rfl
theorem Below_drew' (w : World) : Below w.heap.size w w.drew := ⟨rfl, rfl, rfl, Nat.le_refl _, fun _ _ => rfl⟩

set_option maxRecDepth 20000 in
set_option maxHeartbeats 3200000 in
theorem twin_any (pls : List PlT) (xb a b : Nat) (w : World) (h : PlsAt w xb pls) (ha : a < 256) (hb : b < 256) (hn : pls.length ≤ 1000) :
    Calls Try.prog 104 #[.pointer (some ⟨xb, 0, none⟩), .int .i64 (a : Int), .int .i64 (b : Int)] w fun e w' => e = .returned (.bool (twF pls a b)) ∧ Below w.heap.size w w' := by
  obtain ⟨TW, hTW⟩ : ∃ TW, twF pls a b = TW := ⟨_, rfl⟩
  rw [hTW]
  have HTW := hide hTW
  have HP := hide h
  clear hTW h
  go_enter Try.func104, Try.ntmps104
  go_wp2_with fail
  go_loopg [7] pls.length (fun G iv wr => ∃ i : Nat, iv = .int .i64 (i : Int) ∧ i ≤ pls.length ∧ G = pls.length - i ∧ twF (pls.drop i) a b = TW ∧ Below w.heap.size w wr)
  case atStart => exact ⟨0, rfl, by omega, rfl, by simpa using HTW.out, Below.refl _ _⟩
  case round =>
    obtain ⟨i, rfl, hi, rfl, hinv, hbl⟩ := hrel
    have hz := hbl.size
    have hP := HP.out.below hbl
    obtain ⟨cx, pv, hx1, hx2, hx3⟩ := hP.blk
    have c2 : wr.cell? ⟨xb, 2, none⟩ = some pv := by rw [hx1.cell]; exact hx2
    obtain ⟨_, pd, pcap, rfl, hprow⟩ := ownsRow_form hx3
    by_cases hlt : i < pls.length
    · have e0 : decide ((i : Int) < (pls.length : Int)) = true := by simp; omega
      rcases hprow with ⟨_, e⟩ | ⟨pg, pc, rfl, hpb, _⟩
      · omega
      have cg : wr.cell? ⟨pg, i, none⟩ = some (.pointer (some ⟨pls[i].b, 0, none⟩)) := by rw [ownsRow_cell hx3 i (by omega)]; simp [ptrs, hlt]
      obtain ⟨cp, hp1, hp2⟩ := hP.pl pls[i] (List.getElem_mem hlt)
      have c3 : wr.cell? ⟨pls[i].b, 3, none⟩ = some (.string pls[i].t) := by rw [hp1.cell]; exact hp2
      have HA := hide (hP.al pls[i] (List.getElem_mem hlt))
      unfold AllC at HA
      have hdr := twF_drop (a := a) (b := b) hlt
      rw [hdr] at hinv
      generalize pls[i].A = A at HA hinv
      generalize pls[i].b = pb at cg c3 hp1
      generalize pls[i].t = pt at c3 HA
      have i0 : (0 : Int) ≤ (i : Int) := by omega
      have i1 : (i : Int) < (pls.length : Int) := by omega
      have z1 := hx1.lt
      have z2 := hpb.lt
      have z3 := hp1.lt
      have HI := hide (And.intro hinv hbl)
      clear hinv hbl hP hx1 hx2 hx3 hpb hp1 hp2 hdr
      go_upto_region 4 with fail
      go_cut [41] (fun bv wx => bv = .bool (A a != A b) ∧ Below wr.heap.size wr wx)
      case first =>
        have S0 : wr.drew.cell? ⟨xb, 2, none⟩ = some (.slice (some ⟨pg, 0, none⟩) pls.length pcap) ∧ wr.drew.cell? ⟨pg, i, none⟩ = some (.pointer (some ⟨pb, 0, none⟩)) ∧ wr.drew.cell? ⟨pb, 3, none⟩ = some (.string pt) := ⟨c2, cg, c3⟩
        go_region_held3 (fun W => W.cell? ⟨xb, 2, none⟩ = some (.slice (some ⟨pg, 0, none⟩) pls.length pcap) ∧ W.cell? ⟨pg, i, none⟩ = some (.pointer (some ⟨pb, 0, none⟩)) ∧ W.cell? ⟨pb, 3, none⟩ = some (.string pt))
          (first | with_reducible exact S0 | with_reducible exact S1 | with_reducible exact S2)
          (first
            | (go_at_call_of 134 (Value.int IntKind.i64 (a : Int)); with_reducible refine (HA.out a _ ha).mono ?_; rintro e w1 ⟨rfl, hb1⟩; have hb1' := (Below_drew' wr).trans (hb1.mono (Nat.le_refl _)); have g0 := (hb1'.cell (p := ⟨xb, 2, none⟩) z1).trans c2; have g1 := (hb1'.cell (p := ⟨pg, i, none⟩) z2).trans cg; have g2 := (hb1'.cell (p := ⟨pb, 3, none⟩) z3).trans c3; have S1 := And.intro g0 (And.intro g1 g2); clear hb1)
            | (go_at_call_of 134 (Value.int IntKind.i64 (b : Int)); with_reducible refine (HA.out b _ hb).mono ?_; rintro e w2 ⟨rfl, hb2⟩; have hb2' := hb1'.trans (hb2.mono hb1'.size); have k0 := (hb2'.cell (p := ⟨xb, 2, none⟩) z1).trans c2; have k1 := (hb2'.cell (p := ⟨pg, i, none⟩) z2).trans cg; have k2 := (hb2'.cell (p := ⟨pb, 3, none⟩) z3).trans c3; have S2 := And.intro k0 (And.intro k1 k2); clear hb2))
        all_goals
          go_wp2_with fail
          go_meet
          exact ⟨rfl, hb2'⟩
      case rest =>
        obtain ⟨rfl, hbc⟩ := hcut
        have HB := hide hbc
        clear hbc c2 cg c3
        generalize hxx : (A a != A b) = xx
        have hx2 : (A a == A b) = !xx := by rw [← hxx]; simp [bne]
        have HX := hide hx2
        clear hxx hx2
        cases xx with
        | true =>
          go_wp2_with fail
          go_ret
          obtain ⟨a1, a2⟩ := HI.out
          rw [HX.out] at a1
          simp only [Bool.not_true, Bool.false_and] at a1
          refine ⟨by rw [← a1]; rfl, a2.trans (HB.out.mono hz)⟩
        | false =>
          go_wp2_with fail
          go_roundg (pls.length - (i + 1))
          case measure => omega
          case rel =>
            obtain ⟨a1, a2⟩ := HI.out
            rw [HX.out] at a1
            simp only [Bool.not_false, Bool.true_and] at a1
            exact ⟨i + 1, by go_num, by omega, rfl, a1, a2.trans (HB.out.mono hz)⟩
    · obtain rfl : i = pls.length := by omega
      have e0 : decide ((pls.length : Int) < (pls.length : Int)) = false := by simp
      have HI := hide (And.intro hinv hbl)
      clear hinv hbl hP hx1 hx2 hx3 hprow
      go_wp2_with fail
      go_ret
      obtain ⟨a1, a2⟩ := HI.out
      rw [List.drop_length] at a1
      exact ⟨by rw [← a1]; rfl, a2⟩

/-- k is the lowest byte that is treated as b. -/
def LowB (pls : List PlT) (b k : Nat) : Prop := k ≤ b ∧ twF pls k b = true ∧ ∀ j, j < k → twF pls j b = false
theorem LowB.step {pls : List PlT} {low : List Int} {b : Nat} (h : ∀ c, c < b → ∃ k : Nat, low.getD c 0 = (k : Int) ∧ LowB pls c k) {k : Nat} (hk : k ≤ b) (hn : ∀ j, j < k → ¬ (low.getD j 0 = (j : Int) ∧ twF pls j b = true)) : ∀ j, j < k → twF pls j b = false := by
  intro j hj
  cases hh : twF pls j b with
  | false => rfl
  | true =>
    exfalso
    obtain ⟨m, h1, h2, h3, h4⟩ := h j (by omega)
    obtain ⟨m', g1, g2, g3, g4⟩ := h m (by omega)
    have : m' = m := by
      rcases Nat.lt_or_ge m' m with e | e
      · have := h4 m' e
        rw [twF_trans g3 h3] at this; cases this
      · omega
    subst this
    exact hn m' (by omega) ⟨g1, twF_trans h3 hh⟩

set_option maxRecDepth 20000 in
set_option maxHeartbeats 3200000 in
theorem lowest_any (pls : List PlT) (xb : Nat) (w : World) (h : PlsAt w xb pls) (hn : pls.length ≤ 1000) :
    Calls Try.prog 79 #[.pointer (some ⟨xb, 0, none⟩)] w fun e w' => ∃ v low, e = .returned v ∧ IRow w' v low ∧ low.length = 256 ∧ (∀ b, b < 256 → ∃ k : Nat, low.getD b 0 = (k : Int) ∧ LowB pls b k) ∧ (∀ b, v.ownBlock = some b → w.heap.size ≤ b) ∧ Below w.heap.size w w' := by
  have HP := hide h
  clear h
  go_enter Try.func79, Try.ntmps79
  go_wp2_with fail
  go_loopg [3, 4] 256 (fun G lv bv wr => ∃ (b : Nat) (low : List Int), bv = .int .i64 (b : Int) ∧ b ≤ 256 ∧ G = 256 - b ∧ IRow wr lv low ∧ low.length = b ∧ (∀ c, c < b → ∃ k : Nat, low.getD c 0 = (k : Int) ∧ LowB pls c k) ∧ (∀ x, lv.ownBlock = some x → w.heap.size ≤ x) ∧ Below w.heap.size w wr)
  case atStart => exact ⟨0, [], rfl, by omega, rfl, World.ownsRow_nil _ _ _ _, rfl, fun c hc => by omega, fun x hx => by simp [Value.ownBlock] at hx, Below.refl _ _⟩
  case round =>
    obtain ⟨b, low, rfl, hb, rfl, hrow, hlen, hlow, hlo, hbl⟩ := hrel
    have hz := hbl.size
    obtain ⟨ld, lcap, rfl, hlrow⟩ := hrow.form
    rw [hlen] at hlrow
    by_cases hlt : b < 256
    · have e0 : decide ((b : Int) < 256) = true := by simp; omega
      have HI := hide (And.intro hrow (And.intro hlen (And.intro hlow (And.intro hlo hbl))))
      have HL : Hid (low.length = b) := hide hlen
      have hsz : (intsV low).length + 1 ≤ 4000000 := by rw [intsV_len]; omega
      obtain ⟨n, hnn⟩ : ∃ n, low.length = n := ⟨_, rfl⟩
      rw [hnn]
      have HN := hide hnn
      clear hrow hlen hlow hlo hbl hnn
      obtain ⟨wo, rfl⟩ : ∃ wo : World, wo = wr := ⟨_, rfl⟩
      go_wp2_with fail
      go_loopg [5] b (fun G kv wi => ∃ k : Nat, kv = .int .i64 (k : Int) ∧ k ≤ b ∧ G = b - k ∧ (∀ j, j < k → ¬ (low.getD j 0 = (j : Int) ∧ twF pls j b = true)) ∧ Below wo.heap.size wo wi)
      case atStart => exact ⟨0, rfl, by omega, rfl, fun j hj => by omega, Below.refl _ _⟩
      case round =>
        obtain ⟨k, rfl, hk, rfl, hnot, hbi⟩ := hrel
        by_cases hkb : k < b
        · have e1 : decide ((k : Int) < (b : Int)) = true := by simp; omega
          rcases hlrow with e | ⟨lg, rfl⟩
          · omega
          have hnb : n = b := HN.out.symm.trans HL.out
          have k0 : (0 : Int) ≤ (k : Int) := by omega
          have k1 : (k : Int) < (n : Int) := by omega
          have cl : wr.cell? ⟨lg, k, none⟩ = some (.int .i64 (low.getD k 0)) := (HI.out.1.below hbi).getD k (by rw [HL.out]; exact hkb)
          generalize hlk : low.getD k 0 = lk at cl
          have HTW := hide (fun W (hb : Below wr.heap.size wr W) => twin_any pls xb k b W (((HP.out.below HI.out.2.2.2.2).below hbi).below hb) (by omega) hlt hn)
          by_cases hkk : lk = (k : Int)
          · subst hkk
            have e2 : ((k : Int) == (k : Int)) = true := by simp
            have HT1 := hide (HTW.out wr (Below.refl _ _))
            have HLK := hide hlk
            have HNB := hide hnb
            have HB := hide (And.intro hnot hbi)
            clear HTW hlk hnb hnot hbi
            generalize htw : twF pls k b = tw at HT1
            have HTT := hide htw
            clear htw
            cases tw with
            | true =>
              go_wp2_with fail
              refine HT1.out.mono ?_
              rintro e w1 ⟨rfl, hb1⟩
              obtain ⟨hnot, hbi0⟩ := HB.out
              have hbi : Below wo.heap.size wo w1 := hbi0.trans (hb1.mono hbi0.size)
              obtain ⟨wr, rfl⟩ : ∃ wr : World, wr = w1 := ⟨_, rfl⟩
              obtain ⟨q1, q2, q3, q4, q5⟩ := HI.out
              have hb9 : Below w.heap.size w wr := q5.trans (hbi.mono hz)
              have hr9 : IRow wr (.slice (some ⟨lg, 0, none⟩) n lcap) low := by have h9 := q1.below hbi; rw [HN.out] at h9; exact h9
              have hzi := hbi.size
              have HR := hide hr9.val
              have hlo9 : Hid (∀ x, (Value.slice (some ⟨lg, 0, none⟩) n lcap).ownBlock = some x → w.heap.size ≤ x) := by have h9 := q4; rw [HN.out] at h9; exact hide h9
              have HLB : Hid (LowB pls b k) := hide ⟨hk, HTT.out, LowB.step q3 hk hnot⟩
              have HB9 := hide hb9
              clear q1 q2 q3 q4 q5 hb9 hr9 hbi hnot hb1 hbi0 HB
              go_wp2_with (at_builtin; (refine append1 Try.underlying40 Try.infoI3 rfl (by omega) (la := intsV low) (ll := [.int .i64 (k : Int)]) (va := .slice (some ⟨lg, 0, none⟩) n lcap) (vl := .slice (some ⟨wr.heap.size, 0, none⟩) 1 1) (by rfl) _ _ (by rfl) (by rfl) (by rfl) (rowAl HR.out _) (one_row wr 3 (.int .i64 (k : Int))) (fun u hu => by rw [List.mem_singleton] at hu; rw [hu]; rfl) w.heap.size (by simp; omega) hlo9.out hsz ?_))
              intro v6 w6 r1 r2 r3
              have HK : Hid (IRow w6 v6 (low ++ [(k : Int)]) ∧ (∀ x, v6.ownBlock = some x → w.heap.size ≤ x) ∧ Below w.heap.size w w6) := by
                refine hide ⟨IRow.ofVal ?_, r2, ?_⟩
                · have e9 : intsV (low ++ [(k : Int)]) = intsV low ++ [.int .i64 (k : Int)] := by simp [intsV]
                  rw [e9, List.length_append]; exact r1
                · exact Below_kept (HB9.out.alloc (by omega) _) r3 (by simp; omega) (fun x hx e => by have := hlo9.out x e; omega)
              clear r1 r2 r3 HR hlo9 HB9 hsz
              go_wp2_with fail
              go_roundg (256 - (b + 1))
              case measure => omega
              case rel =>
                obtain ⟨q1, q2, q3, q4, q5⟩ := HI.out
                obtain ⟨k1, k2, k3⟩ := HK.out
                refine ⟨b + 1, low ++ [(k : Int)], by go_num, by omega, rfl, k1, by rw [List.length_append, q2]; rfl, fun c hc => ?_, k2, k3⟩
                by_cases hcb : c < b
                · obtain ⟨m, m1, m2⟩ := q3 c hcb
                  exact ⟨m, by rw [List.getD_eq_getElem?_getD, List.getElem?_append_left (by omega), ← List.getD_eq_getElem?_getD]; exact m1, m2⟩
                · have hcb2 : c = b := by omega
                  subst hcb2
                  exact ⟨k, by rw [List.getD_eq_getElem?_getD, List.getElem?_append_right (by omega), q2]; simp, HLB.out⟩
            | false =>
              go_wp2_with fail
              refine HT1.out.mono ?_
              rintro e w1 ⟨rfl, hb1⟩
              have HB1 := hide hb1
              clear hb1 HT1
              go_wp2_with fail
              go_roundg (b - (k + 1))
              case measure => omega
              case rel =>
                obtain ⟨hnot, hbi0⟩ := HB.out
                refine ⟨k + 1, by go_num, by omega, rfl, fun j hj => ?_, hbi0.trans (HB1.out.mono hbi0.size)⟩
                by_cases hjk : j < k
                · exact hnot j hjk
                · have : j = k := by omega
                  subst this
                  rw [HTT.out]; simp
          · have e2 : (lk == (k : Int)) = false := by simp; exact hkk
            have HB := hide (And.intro hnot (And.intro hbi (And.intro hlk hkk)))
            clear HTW hlk hnb hnot hbi hkk
            go_wp2_with fail
            go_roundg (b - (k + 1))
            case measure => omega
            case rel =>
              obtain ⟨hnot, hbi0, hlk, hkk⟩ := HB.out
              refine ⟨k + 1, by go_num, by omega, rfl, fun j hj => ?_, hbi0⟩
              by_cases hjk : j < k
              · exact hnot j hjk
              · have : j = k := by omega
                subst this
                exact fun e => hkk (hlk.symm.trans e.1)
        · obtain rfl : k = b := by omega
          have e1 : decide ((k : Int) < (k : Int)) = false := by simp
          obtain ⟨q1, q2, q3, q4, q5⟩ := HI.out
          have hb9 : Below w.heap.size w wr := q5.trans (hbi.mono hz)
          have hr9 : IRow wr (.slice ld n lcap) low := by have h9 := q1.below hbi; rw [HN.out] at h9; exact h9
          have hzi := hbi.size
          have HR := hide hr9.val
          have hlo9 : Hid (∀ x, (Value.slice ld n lcap).ownBlock = some x → w.heap.size ≤ x) := by have h9 := q4; rw [HN.out] at h9; exact hide h9
          have HLB : Hid (LowB pls k k) := hide ⟨hk, twF_refl _ _, LowB.step q3 hk hnot⟩
          have HB9 := hide hb9
          clear q1 q2 q3 q4 q5 hb9 hr9 hbi hnot
          go_wp2_with (at_builtin; (refine append1 Try.underlying40 Try.infoI3 rfl (by omega) (la := intsV low) (ll := [.int .i64 (k : Int)]) (va := .slice ld n lcap) (vl := .slice (some ⟨wr.heap.size, 0, none⟩) 1 1) (by rfl) _ _ (by rfl) (by rfl) (by rfl) (rowAl HR.out _) (one_row wr 3 (.int .i64 (k : Int))) (fun u hu => by rw [List.mem_singleton] at hu; rw [hu]; rfl) w.heap.size (by simp; omega) hlo9.out hsz ?_))
          intro v6 w6 r1 r2 r3
          have HK : Hid (IRow w6 v6 (low ++ [(k : Int)]) ∧ (∀ x, v6.ownBlock = some x → w.heap.size ≤ x) ∧ Below w.heap.size w w6) := by
            refine hide ⟨IRow.ofVal ?_, r2, ?_⟩
            · have e9 : intsV (low ++ [(k : Int)]) = intsV low ++ [.int .i64 (k : Int)] := by simp [intsV]
              rw [e9, List.length_append]; exact r1
            · exact Below_kept (HB9.out.alloc (by omega) _) r3 (by simp; omega) (fun x hx e => by have := hlo9.out x e; omega)
          clear r1 r2 r3 HR hlo9 HB9 hsz
          go_wp2_with fail
          go_roundg (256 - (k + 1))
          case measure => omega
          case rel =>
            obtain ⟨q1, q2, q3, q4, q5⟩ := HI.out
            obtain ⟨k1, k2, k3⟩ := HK.out
            refine ⟨k + 1, low ++ [(k : Int)], by go_num, by omega, rfl, k1, by rw [List.length_append, q2]; rfl, fun c hc => ?_, k2, k3⟩
            by_cases hcb : c < k
            · obtain ⟨m, m1, m2⟩ := q3 c hcb
              exact ⟨m, by rw [List.getD_eq_getElem?_getD, List.getElem?_append_left (by omega), ← List.getD_eq_getElem?_getD]; exact m1, m2⟩
            · have hcb2 : c = k := by omega
              subst hcb2
              exact ⟨c, by rw [List.getD_eq_getElem?_getD, List.getElem?_append_right (by omega), q2]; simp, HLB.out⟩
    · obtain rfl : b = 256 := by omega
      have e0 : decide (((256 : Nat) : Int) < 256) = false := by simp
      have HI := hide (And.intro hrow (And.intro hlen (And.intro hlow (And.intro hlo hbl))))
      clear hrow hlow hlo hbl hlen
      go_wp2_with fail
      go_ret
      obtain ⟨q1, q2, q3, q4, q5⟩ := HI.out
      exact ⟨_, low, rfl, q1, q2, q3, q4, q5⟩
end Go.Proofs.Ytcckhngbdoiikaa

namespace Go.Proofs.Ytcckhngbdoiikaa
open Go.RowKit Go.Deep
set_option linter.unusedVariables false

def onlyL (i n : Nat) : List Bool := (List.replicate n false).set i true
theorem onlyL_len (i n : Nat) : (onlyL i n).length = n := by simp [onlyL]
theorem onlyL_getD {i n q : Nat} (hi : i < n) (hq : q < n) : (onlyL i n).getD q false = decide (q = i) := by
  unfold onlyL
  rw [getD_setB _ _ _ _ (by simp; exact hi)]
  by_cases h : q = i
  · simp [h]
  · simp [h, hq]

set_option maxHeartbeats 1600000 in
theorem refOnly_any (i n : Nat) (w : World) (hi : i < n) (hn : n ≤ 50000) : Calls Try.prog 146 #[.int .i64 (i : Int), .int .i64 (n : Int)] w fun e w' => e = .returned (.slice (some ⟨w.heap.size, 0, none⟩) n n) ∧ Blk w' w.heap.size (boolsA (onlyL i n)) 4 ∧ Below w.heap.size w w' := by
  have hmk := makeBools n (by omega)
  have hB := Blk.new w (boolsA (List.replicate n false)) 4
  have c0 := boolsA_cellD hB i (by simp; exact hi)
  have f0 := hB.frozen i
  have i0 : (0 : Int) ≤ (i : Int) := by omega
  have i1 : (i : Int) < (n : Int) := by omega
  have HB := hide hB
  clear hB
  go_enter Try.func146, Try.ntmps146
  go_wp2_with fail
  go_ret
  refine ⟨rfl, ?_, Below1 _ _⟩
  rw [boolsA_set]
  exact Blk.new _ _ _

def orL : List Bool → List Bool → List Bool
  | a :: l, b :: m => (a || b) :: orL l m
  | l, _ => l
theorem orL_len : ∀ l m : List Bool, (orL l m).length = l.length
  | [], m => by cases m <;> simp [orL]
  | a :: l, [] => by simp [orL]
  | a :: l, b :: m => by simp [orL, orL_len l m]
theorem orL_getD : ∀ (l m : List Bool) (i : Nat), i < l.length → i < m.length → (orL l m).getD i false = (l.getD i false || m.getD i false)
  | [], m, i, h, _ => by simp at h
  | a :: l, [], i, _, h => by simp at h
  | a :: l, b :: m, 0, _, _ => by simp [orL]
  | a :: l, b :: m, i + 1, h, g => by
    have := orL_getD l m i (by simpa using h) (by simpa using g)
    simpa [orL] using this

set_option maxRecDepth 20000 in
set_option maxHeartbeats 3200000 in
theorem refAdd_any (g n cap : Nat) (l m : List Bool) (v : Value) (w : World) (hl : Blk w g (boolsA l) 4) (hm : BRow w v m) (hln : l.length = n) (hmn : m.length = n) (hg : v.ownBlock ≠ some g) (hn : n ≤ 50000) :
    Calls Try.prog 155 #[.slice (some ⟨g, 0, none⟩) n cap, v] w fun e w' => e = .returned (.tuple #[]) ∧ Blk w' g (boolsA (orL l m)) 4 ∧ Kept (fun x => x = g) w w' := by
  obtain ⟨md, mcap, rfl, hmr⟩ := hm.form
  rw [hmn] at hmr
  have HL := hide (And.intro hl (And.intro hm (And.intro hln (And.intro hmn hg))))
  obtain ⟨k, hk⟩ : ∃ k, m.length = k := ⟨_, rfl⟩
  rw [hk]
  have hkn : k = n := hk.symm.trans hmn
  have HK := hide hk
  clear hl hm hln hmn hg hk
  go_enter Try.func155, Try.ntmps155
  go_wp2_with fail
  go_loopg [4] n (fun G iv wr => ∃ (i : Nat) (l' : List Bool), iv = .int .i64 (i : Int) ∧ i ≤ n ∧ G = n - i ∧ l'.length = n ∧ (∀ q, q < n → l'.getD q false = if q < i then (orL l m).getD q false else l.getD q false) ∧ Blk wr g (boolsA l') 4 ∧ Kept (fun x => x = g) w wr)
  case atStart => exact ⟨0, l, rfl, by omega, rfl, HL.out.2.2.1, fun q hq => by simp, HL.out.1, Kept.refl _ _⟩
  case round =>
    obtain ⟨i, l', rfl, hi, rfl, hll, hsp, hB, hkp⟩ := hrel
    by_cases hlt : i < n
    · have e0 : decide ((i : Int) < (n : Int)) = true := by simp; omega
      rcases hmr with e | ⟨mg, rfl⟩
      · omega
      have hne : mg ≠ g := fun e => HL.out.2.2.2.2 (by rw [e]; rfl)
      have cO := boolsA_cellD hB i (by rw [hll]; exact hlt)
      have fO := hB.frozen i
      have hmw : BRow wr (.slice (some ⟨mg, 0, none⟩) m.length mcap) m := HL.out.2.1.kept hkp (fun b' hb' e => by cases (Option.some.inj hb' : mg = b'); exact hne e)
      have cE := hmw.cellD i (by rw [HL.out.2.2.2.1]; exact hlt)
      have hso := hsp i hlt
      rw [if_neg (by omega)] at hso
      have hor := orL_getD l m i (by rw [HL.out.2.2.1]; exact hlt) (by rw [HL.out.2.2.2.1]; exact hlt)
      rw [← hso] at hor
      generalize hx : l'.getD i false = x at cO hor
      generalize m.getD i false = y at cE hor
      have i0 : (0 : Int) ≤ (i : Int) := by omega
      have i1 : (i : Int) < (n : Int) := by omega
      have i2 : (i : Int) < (k : Int) := by omega
      have HI := hide (And.intro hll (And.intro hsp (And.intro hB (And.intro hkp hor))))
      clear hll hsp hB hkp hor hmw hso hx
      cases x <;> cases y
      all_goals
        go_wp2_with fail
        go_roundg (n - (i + 1))
        case measure => omega
        case rel =>
          obtain ⟨a1, a2, a3, a4, a5⟩ := HI.out
          refine ⟨i + 1, l'.set i _, by go_num, by omega, rfl, by simp [a1], fun q hq => ?_, by rw [← boolsA_set]; exact a3.set i _, a4.setCell (p := ⟨g, i, none⟩) (fun _ => rfl) _⟩
          rw [getD_setB _ _ _ _ (by omega)]
          by_cases hqi : q = i
          · subst hqi
            rw [if_pos rfl, if_pos (by omega), a5]; rfl
          · rw [if_neg hqi, a2 q hq]
            by_cases hq2 : q < i
            · rw [if_pos hq2, if_pos (by omega)]
            · rw [if_neg hq2, if_neg (by omega)]
    · obtain rfl : i = n := by omega
      have e0 : decide ((i : Int) < (i : Int)) = false := by simp
      have HI := hide (And.intro hll (And.intro hsp (And.intro hB hkp)))
      clear hll hsp hB hkp
      go_wp2_with fail
      go_end0
      obtain ⟨a1, a2, a3, a4⟩ := HI.out
      have : l' = orL l m := by
        refine bools_ext (by rw [a1, orL_len, HL.out.2.2.1]) fun q => ?_
        by_cases hq : q < i
        · rw [a2 q hq, if_pos hq]
        · rw [List.getD_eq_getElem?_getD, List.getElem?_eq_none (by omega), List.getD_eq_getElem?_getD, List.getElem?_eq_none (by rw [orL_len, HL.out.2.2.1]; omega)]
      rw [← this]
      exact ⟨rfl, a3, a4⟩
end Go.Proofs.Ytcckhngbdoiikaa
