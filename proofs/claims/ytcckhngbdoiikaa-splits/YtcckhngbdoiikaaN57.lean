import Derived.Test.YtcckhngbdoiikaaN51
import Derived.Test.YtcckhngbdoiikaaN56
import Derived.Laws.AppendOwnNone
import Derived.BigQuiet

namespace Go.Proofs.Ytcckhngbdoiikaa
open Go.RowKit Go.Deep
set_option linter.unusedVariables false

section
variable {kd : Nat → Nat} {g : Graph} {s : ByteArray} {fr : Nat}
theorem nextF_dead (kd : Nat → Nat) (g : Graph) (b : Int) : nextF kd g (-1) b = -1 := by unfold nextF; rw [if_pos (.inl (by omega))]
theorem ruleOfF_dead (g : Graph) : ruleOfF g (-1) = -1 := by unfold ruleOfF; rw [if_pos (.inl (by omega))]
/-- How the longest token stands, ahead of place q. -/
def LongI (kd : Nat → Nat) (g : Graph) (s : ByteArray) (fr q : Nat) (st rule : Int) (en : Nat) : Prop := (st = -1 ∧ (⟨rule, fr, en⟩ : TokT) = nextTok kd g s fr) ∨ cutLoop kd g s fr (s.size - q + 1) q st ⟨rule, fr, en⟩ = nextTok kd g s fr
theorem LongI.start : LongI kd g s fr fr 0 (-1) (fr + 1) := .inr rfl
theorem LongI.next {q en : Nat} {st rule : Int} (h : LongI kd g s fr q st rule en) (hq : q < s.size) : LongI kd g s fr (q + 1) (nextF kd g st (peekI s q)) (if ruleOfF g (nextF kd g st (peekI s q)) = -1 then rule else ruleOfF g (nextF kd g st (peekI s q))) (if ruleOfF g (nextF kd g st (peekI s q)) = -1 then en else q + 1) := by
  rcases h with ⟨rfl, h⟩ | h
  · rw [nextF_dead, ruleOfF_dead, if_pos rfl, if_pos rfl]; exact .inl ⟨rfl, h⟩
  · rw [show s.size - q + 1 = (s.size - (q + 1) + 1) + 1 by omega] at h
    unfold cutLoop at h
    rw [if_pos hq] at h
    by_cases e : nextF kd g st (peekI s q) = -1
    · rw [if_pos e] at h
      rw [e, ruleOfF_dead, if_pos rfl, if_pos rfl]; exact .inl ⟨rfl, h⟩
    · rw [if_neg e] at h
      right
      rw [← h]
      by_cases e2 : ruleOfF g (nextF kd g st (peekI s q)) = -1
      · rw [if_pos e2, if_pos e2, if_pos e2]
      · rw [if_neg e2, if_neg e2, if_neg e2]
theorem LongI.done {q en : Nat} {st rule : Int} (h : LongI kd g s fr q st rule en) (hq : s.size ≤ q) : (⟨rule, fr, en⟩ : TokT) = nextTok kd g s fr := by
  rcases h with ⟨_, h⟩ | h
  · exact h
  · unfold cutLoop at h
    rw [if_neg (by omega)] at h
    exact h
end
set_option maxRecDepth 20000 in
set_option maxHeartbeats 6400000 in
theorem refLongest_any (yb : Nat) (kd : Nat → Nat) (g : Graph) (TX : List ByteArray) (s : ByteArray) (fr : Nat) (w : World) (h : RLexP w yb kd g TX) (hs : s.size ≤ 4000000) (hf : fr ≤ s.size) :
    Calls Try.prog 117 #[.pointer (some ⟨yb, 0, none⟩), .string s, .int .i64 (fr : Int)] w fun e w' => e = .returned (.tuple #[.int .i64 (nextTok kd g s fr).rule, .int .i64 ((nextTok kd g s fr).tt : Int)]) ∧ Below w.heap.size w w' := by
  have HP := hide h
  clear h
  go_enter Try.func117, Try.ntmps117
  go_wp2_with fail
  go_loopg [8, 9, 10, 11] (s.size - fr) (fun G rv ev sv qv wr => ∃ (q en : Nat) (st rule : Int), rv = .int .i64 rule ∧ ev = .int .i64 (en : Int) ∧ sv = .int .i64 st ∧ qv = .int .i64 (q : Int) ∧ fr ≤ q ∧ q ≤ s.size ∧ G = s.size - q ∧ LongI kd g s fr q st rule en ∧ Below w.heap.size w wr)
  case atStart => exact ⟨fr, fr + 1, 0, -1, rfl, by go_num, rfl, rfl, Nat.le_refl _, hf, rfl, LongI.start, Below.refl _ _⟩
  case round =>
    obtain ⟨q, en, st, rule, rfl, rfl, rfl, rfl, hfq, hq, rfl, hI, hB⟩ := hrel
    by_cases hlt : q < s.size
    · have e0 : decide ((q : Int) < (s.size : Int)) = true := by simp; omega
      have p0 : (0 : Int) ≤ (q : Int) := by omega
      have p1 : (q : Int) < (s.size : Int) := by omega
      have HN := hide (refNext_any yb kd g TX st (peekI s q) wr (HP.out.below hB))
      have HR : Hid (∀ W n, Below wr.heap.size wr W → Calls Try.prog 57 #[.pointer (some ⟨yb, 0, none⟩), .int .i64 n] W fun e w' => e = .returned (.int .i64 (ruleOfF g n)) ∧ w' = W) := hide fun W n k => refRule_any yb kd g TX n W ((HP.out.below hB).below k)
      have HI := hide (And.intro (hI.next hlt) hB)
      generalize nextF kd g st (peekI s q) = n at HN HI
      clear hI hB
      go_wp2_with fail
      rw [wrapByte s q hlt]
      refine HN.out.mono ?_
      rintro e w1 ⟨rfl, hb1⟩
      have HR1 := hide (HR.out w1 n hb1)
      have HB1 : Hid (Below w.heap.size w w1) := hide (HI.out.2.trans (hb1.mono HI.out.2.size))
      clear hb1 HN HR
      generalize ruleOfF g n = r at HR1 HI
      go_wp2_with fail
      refine HR1.out.mono ?_
      rintro e w2 ⟨rfl, rfl⟩
      clear HR1
      by_cases hr : r = -1
      · have e2 : (r != -1) = false := by simp [hr]
        have hx := HI.out.1
        rw [if_pos hr, if_pos hr] at hx
        have HX := hide hx
        clear hx HI hr
        go_wp2_with fail
        go_roundg (s.size - (q + 1))
        case measure => omega
        case rel => exact ⟨q + 1, en, n, rule, rfl, rfl, rfl, by go_num, by omega, by omega, rfl, HX.out, HB1.out⟩
      · have e2 : (r != -1) = true := by simp [hr]
        have hx := HI.out.1
        rw [if_neg hr, if_neg hr] at hx
        have HX := hide hx
        clear hx HI hr
        go_wp2_with fail
        go_roundg (s.size - (q + 1))
        case measure => omega
        case rel => exact ⟨q + 1, q + 1, n, r, rfl, by go_num, rfl, by go_num, by omega, by omega, rfl, HX.out, HB1.out⟩
    · have e0 : decide ((q : Int) < (s.size : Int)) = false := by rw [decide_eq_false_iff_not]; omega
      have hd := hI.done (by omega)
      have HD := hide (And.intro hd hB)
      clear hI hB hd
      go_wp2_with fail
      go_ret2
      rw [← HD.out.1]
      exact ⟨rfl, HD.out.2⟩
theorem toksQ_one : ∀ (l : List TokT), ∀ u ∈ toksC l, u.oneCell' = true
  | [], u, h => by simp [toksC] at h
  | t :: r, u, h => by
    simp only [toksC, List.mem_cons] at h
    rcases h with rfl | rfl | rfl | h
    · rfl
    · rfl
    · rfl
    · exact toksQ_one r u h
/-- Tokens behind tokens. -/
theorem appendTokQ {la ll : List TokT} {va vl : Value} {ops : Array Oper} {rest : List Oper} {o : Oper} {a : Act} {w : World} {Q : Exit → Act → World → Prop} (hgd : o.guard = none) (s x : Operand)
    (ho : o.op = .call { callee := .builtin .append, args := #[s, x], argTypes := #[55, 55] })
    (hs : a.eval s = va) (hx : a.eval x = vl) (ha : TokRow w va la) (hl : TokRow w vl ll) (N : Nat) (hN : N ≤ w.heap.size) (hown : ∀ b, va.ownBlock = some b → N ≤ b) (hsz : la.length + ll.length ≤ 4000001)
    (h : ∀ v' w', TokRow w' v' (la ++ ll) → (∀ b, v'.ownBlock = some b → N ≤ b) → Kept (fun b => va.ownBlock = some b) w w' → wpList Try.prog ops Q rest (a.put o.dst v') w') : wpList Try.prog ops Q (o :: rest) a w := by
  obtain ⟨ii, hii, hz0, hz1, hz2⟩ := info_parts Try.infoTok3
  have ha' : w.ownsRow N 66 3 va la.length (toksC la) := by
    obtain ⟨h1, h2 | ⟨g, cap, cur, rfl, h3, h4⟩⟩ := ha
    · exact ⟨h1, .inl h2⟩
    · exact ⟨h1, .inr ⟨g, cap, cur, rfl, hown g rfl, h4⟩⟩
  have key : ∀ v' w', w'.ownsRow N 66 3 v' (la.length + ll.length) (toksC la ++ toksC ll) → w.grownBy w' va.ownBlock → wpList Try.prog ops Q rest (a.put o.dst v') w' := fun v' w' h2 h3 => by
    refine h v' w' ?_ ?_ ⟨h3.os, h3.tape, h3.output, h3.size, fun k hk he => h3.block k hk (fun e => he e.symm)⟩
    · unfold TokRow
      rw [toksC_append, List.length_append]
      obtain ⟨h4, h5 | ⟨g, cap, cur, rfl, h6, h7⟩⟩ := h2
      · exact ⟨h4, .inl h5⟩
      · exact ⟨h4, .inr ⟨g, cap, cur, rfl, Nat.zero_le _, h7⟩⟩
    · intro b hb
      obtain ⟨h4, ⟨rfl, _⟩ | ⟨g, cap, cur, rfl, h6, h7⟩⟩ := h2
      · cases hb
      · cases (Option.some.inj hb : g = b)
        exact h6
  obtain ⟨h1, ⟨rfl, h2⟩ | ⟨g, cap, cur, rfl, h3, h4⟩⟩ := hl
  · refine wpList_append_own_none hgd s x 55 ho N 66 ii 3 Try.underlying55 hii va la.length (toksC la) hs ha' hx ?_
    have e : ll = [] := List.eq_nil_of_length_eq_zero h2
    subst e
    exact key va w (by simpa [toksC] using ha') ⟨rfl, rfl, rfl, Nat.le_refl _, fun _ _ _ => rfl⟩
  · have hrow : w.ownsRow 0 66 3 (.slice (some ⟨g, 0, none⟩) ll.length cap) ll.length (toksC ll) := ⟨h1, .inr ⟨g, cap, cur, rfl, h3, h4⟩⟩
    exact wpList_append_own w hgd s x 55 ho N 66 ii _ 3 24 Try.underlying55 hii hz0 hz1 hz2 rfl (by omega) va la.length (toksC la) hs ha' ⟨g, 0, none⟩ ll.length cap (toksC ll) hx h1 (hrow.cells (g := g) rfl) (toksQ_one ll) (by unfold maxLen; omega) (by omega) hN (fun v' w' h2 h3 _ => key v' w' h2 h3)
theorem tok_one (w : World) (t : TokT) : TokRow (w.alloc (.cells (tokC t) 66)) (.slice (some ⟨w.heap.size, 0, none⟩) 1 1) [t] :=
  ownsRow_mk (by simp [toksC]) (Blk.new _ _ _) (Nat.le_refl _) (by unfold maxLen; omega) (by simp) (by simp [toksC])
theorem allTok_len {kd : Nat → Nat} {g : Graph} {s : ByteArray} : ∀ (n p : Nat) (acc : List TokT), acc.length ≤ p → (allTok kd g s n p acc).length ≤ max p s.size
  | 0, p, acc, h => by unfold allTok; omega
  | n + 1, p, acc, h => by
    unfold allTok
    split
    · rename_i hp
      have h1 := nextTok_pos kd g s p hp
      have := allTok_len (kd := kd) (g := g) (s := s) n (nextTok kd g s p).tt (acc ++ [nextTok kd g s p]) (by simp; omega)
      omega
    · omega
set_option maxRecDepth 20000 in
set_option maxHeartbeats 6400000 in
theorem refCut_any (yb : Nat) (kd : Nat → Nat) (g : Graph) (TX : List ByteArray) (s : ByteArray) (w : World) (h : RLexP w yb kd g TX) (hs : s.size ≤ 4000000) :
    Calls Try.prog 88 #[.pointer (some ⟨yb, 0, none⟩), .string s] w fun e w' => ∃ v, e = .returned v ∧ TokRow w' v (cutF kd g s) ∧ (∀ b, v.ownBlock = some b → w.heap.size ≤ b) ∧ Below w.heap.size w w' := by
  have HP := hide h
  clear h
  go_enter Try.func88, Try.ntmps88
  go_wp2_with fail
  go_loopg [5, 6] (s.size + 1) (fun G lv pv wr => ∃ (p f : Nat) (l : List TokT), pv = .int .i64 (p : Int) ∧ p ≤ s.size ∧ G = s.size + 1 - p ∧ s.size - p < f ∧ l.length ≤ p ∧ allTok kd g s f p l = cutF kd g s ∧ TokRow wr lv l ∧ (∀ b, lv.ownBlock = some b → w.heap.size ≤ b) ∧ Below w.heap.size w wr)
  case atStart => exact ⟨0, s.size + 1, [], rfl, by omega, rfl, by omega, by simp, rfl, World.ownsRow_nil _ _ _ _, fun b hb => by simp [Value.ownBlock] at hb, Below.refl _ _⟩
  case round =>
    obtain ⟨p, f, l, rfl, hp, rfl, hf, hll, hal, hT, hO, hB⟩ := hrel
    by_cases hlt : p < s.size
    · have e0 : decide ((p : Int) < (s.size : Int)) = true := by simp; omega
      have HL := hide (refLongest_any yb kd g TX s p wr (HP.out.below hB) hs (by omega))
      have hps := nextTok_pos kd g s p hlt
      obtain ⟨f', rfl⟩ : ∃ f', f = f' + 1 := ⟨f - 1, by omega⟩
      unfold allTok at hal
      rw [if_pos hlt] at hal
      obtain ⟨ad, cap, rfl, _⟩ := hT.form
      have hbz := hB.size
      generalize nextTok kd g s p = t at HL hps hal
      obtain ⟨tr, tf, tt⟩ := t
      simp only at hps
      have htf : tf = p := hps.2.2
      subst htf
      have HI := hide (And.intro hal (And.intro hT (And.intro hO hB)))
      have hz1 : l.length + 1 ≤ 4000001 := by omega
      clear hal hT hO hB
      go_wp2_with fail
      refine HL.out.mono ?_
      rintro e w1 ⟨rfl, hb1⟩
      have hz2 := hb1.size
      have HA : Hid (TokRow (w1.alloc (.cells (tokC ⟨tr, tf, tt⟩) 66)) (.slice ad l.length cap) l) := hide ((HI.out.2.1.below hb1).below (Below1 _ _))
      have HO := hide HI.out.2.2.1
      have HB1 : Hid (Below w.heap.size w w1) := hide (HI.out.2.2.2.trans (hb1.mono hbz))
      clear hb1 HL
      go_wp2_with (at_builtin; (refine appendTokQ (la := l) (ll := [⟨tr, tf, tt⟩]) (va := .slice ad l.length cap) (vl := .slice (some ⟨w1.heap.size, 0, none⟩) 1 1) (by rfl) _ _ (by rfl) (by rfl) (by rfl) HA.out (tok_one w1 ⟨tr, tf, tt⟩) w.heap.size (by simp; omega) HO.out (by simpa using hz1) ?_))
      intro v2 w2 r1 r2 r3
      have HR := hide (And.intro r1 (And.intro r2 (Below_kept (HB1.out.alloc HB1.out.size _) r3 (by simp; omega) (fun x hx e => by have := HO.out x e; omega))))
      clear r1 r2 r3
      go_wp2_with fail
      go_roundg (s.size + 1 - tt)
      case measure => omega
      case rel => exact ⟨tt, f', l ++ [⟨tr, tf, tt⟩], rfl, by omega, rfl, by omega, by simp; omega, HI.out.1, HR.out.1, HR.out.2.1, HR.out.2.2⟩
    · have e0 : decide ((p : Int) < (s.size : Int)) = false := by rw [decide_eq_false_iff_not]; omega
      obtain ⟨f', rfl⟩ : ∃ f', f = f' + 1 := ⟨f - 1, by omega⟩
      unfold allTok at hal
      rw [if_neg hlt] at hal
      have HI := hide (And.intro hal (And.intro hT (And.intro hO hB)))
      clear hal hT hO hB
      go_wp2_with fail
      go_ret
      obtain ⟨a1, a2, a3, a4⟩ := HI.out
      rw [← a1]
      exact ⟨_, rfl, a2, a3, a4⟩
end Go.Proofs.Ytcckhngbdoiikaa

namespace Go.Proofs.Ytcckhngbdoiikaa
open Go.RowKit Go.Deep
set_option linter.unusedVariables false

set_option maxRecDepth 20000 in
set_option maxHeartbeats 3200000 in
theorem same_any (l : List TokT) (a b : Value) (w : World) (h : TokRow w a l) (hm : TokRow w b l) (hl : l.length ≤ 4000001) :
    Calls Try.prog 64 #[a, b] w fun e w' => e = .returned (.bool true) ∧ Below w.heap.size w w' := by
  obtain ⟨ld, lcap, rfl, hlrow⟩ := h.form
  obtain ⟨md, mcap, rfl, hmrow⟩ := hm.form
  have HL := hide h
  have HM := hide hm
  have e0 : ((l.length : Int) != (l.length : Int)) = false := by simp
  clear h hm
  go_enter Try.func64, Try.ntmps64
  go_wp2_with fail
  go_loopg [5] l.length (fun G iv wr => ∃ i : Nat, iv = .int .i64 (i : Int) ∧ i ≤ l.length ∧ G = l.length - i ∧ Below w.heap.size w wr)
  case atStart => exact ⟨0, rfl, by omega, rfl, Below.refl _ _⟩
  case round =>
    obtain ⟨i, rfl, hi, rfl, hbw⟩ := hrel
    by_cases hlt : i < l.length
    · have e1 : decide ((i : Int) < (l.length : Int)) = true := by simp; omega
      rcases hlrow with h9 | ⟨lg, rfl⟩
      · omega
      rcases hmrow with h9 | ⟨mg, rfl⟩
      · omega
      obtain ⟨g0, g1, g2⟩ := toksC_get l i hlt
      have hT := HL.out.below hbw
      have hM := HM.out.below hbw
      have a0 := (ownsRow_cell hT (i * 3) (by omega)).trans g0
      have a1 := (ownsRow_cell hT (i * 3 + 1) (by omega)).trans g1
      have a2 := (ownsRow_cell hT (i * 3 + 2) (by omega)).trans g2
      have b0 := (ownsRow_cell hM (i * 3) (by omega)).trans g0
      have b1 := (ownsRow_cell hM (i * 3 + 1) (by omega)).trans g1
      have b2 := (ownsRow_cell hM (i * 3 + 2) (by omega)).trans g2
      generalize l[i] = t at a0 a1 a2 b0 b1 b2
      obtain ⟨tr, tf, tt⟩ := t
      simp only at a0 a1 a2 b0 b1 b2
      have i0 : (0 : Int) ≤ (i : Int) := by omega
      have i1 : (i : Int) < (l.length : Int) := by omega
      have HB := hide hbw
      clear g0 g1 g2 hT hM hbw
      go_wp2_with fail
      go_quiet (fail)
      go_wp2_with fail
      go_roundg (l.length - (i + 1))
      case measure => omega
      case rel => exact ⟨i + 1, by go_num, by omega, rfl, Below_drewN HB.out _⟩
    · have e1 : decide ((i : Int) < (l.length : Int)) = false := by simp; omega
      have HB := hide hbw
      clear hbw
      go_wp2_with fail
      go_ret
      exact ⟨rfl, HB.out⟩
set_option maxRecDepth 20000 in
set_option maxHeartbeats 3200000 in
theorem refSplit_any (yb : Nat) (kd : Nat → Nat) (g : Graph) (TX : List ByteArray) (s : ByteArray) (w : World) (h : RLexP w yb kd g TX) (hs : s.size ≤ maxLen) :
    Calls Try.prog 63 #[.pointer (some ⟨yb, 0, none⟩), .string s] w fun e w' => Below w.heap.size w w' ∧
      ((4096 < s.size ∧ e = .returned (.tuple #[.slice none 0 0, .int .i64 5])) ∨ (s.size ≤ 4096 ∧ ∃ v, e = .returned (.tuple #[v, .int .i64 0]) ∧ TokRow w' v (cutF kd g s) ∧ ∀ b, v.ownBlock = some b → w.heap.size ≤ b)) := by
  by_cases hlt : 4096 < s.size
  · have e0 : decide ((4096 : Int) < (s.size : Int)) = true := by simp; omega
    clear h
    go_enter Try.func63, Try.ntmps63
    go_wp2_with fail
    go_ret2
    exact ⟨Below.refl _ _, .inl ⟨hlt, rfl⟩⟩
  · have e0 : decide ((4096 : Int) < (s.size : Int)) = false := by simp; omega
    have HC := hide (refCut_any yb kd g TX s w h (by omega))
    clear h
    go_enter Try.func63, Try.ntmps63
    go_wp2_with fail
    refine HC.out.mono ?_
    rintro e w1 ⟨v, rfl, h1, h2, h3⟩
    have HR := hide (And.intro h1 (And.intro h2 h3))
    clear h1 h2 h3 HC
    go_wp2_with fail
    go_ret2
    exact ⟨HR.out.2.2, .inr ⟨by omega, v, rfl, HR.out.1, HR.out.2.1⟩⟩
theorem cutF_len {kd : Nat → Nat} {g : Graph} {s : ByteArray} : (cutF kd g s).length ≤ s.size := by
  have := allTok_len (kd := kd) (g := g) (s := s) (s.size + 1) 0 [] (by simp)
  unfold cutF
  omega
set_option maxRecDepth 20000 in
set_option maxHeartbeats 3200000 in
theorem pairSplit_any (pb xb yb : Nat) (kd : Nat → Nat) (g : Graph) (TX : List ByteArray) (s : ByteArray) (w : World) (h : PairAt w pb xb yb kd g TX) (hs : s.size ≤ maxLen) :
    Calls Try.prog 30 #[.pointer (some ⟨pb, 0, none⟩), .string s] w fun e w' => e = .returned (.bool true) ∧ Below w.heap.size w w' := by
  have c0 : w.cell? ⟨pb, 0, none⟩ = some (.pointer (some ⟨xb, 0, none⟩)) := h.blk.cell 0
  have zb := h.blk.lt
  have HC1 : Hid (∀ W, Below w.heap.size w W → W.cell? ⟨pb, 1, none⟩ = some (.pointer (some ⟨yb, 0, none⟩)) ∧ pb < W.heap.size) := hide fun W q => ⟨(h.blk.below q).cell 1, (h.blk.below q).lt⟩
  have HS1 := hide (split_any xb kd g s w h.lex h.ok hs)
  have HS2 : Hid (∀ W, Below w.heap.size w W → Calls Try.prog 63 #[.pointer (some ⟨yb, 0, none⟩), .string s] W fun e w' => Below W.heap.size W w' ∧
      ((4096 < s.size ∧ e = .returned (.tuple #[.slice none 0 0, .int .i64 5])) ∨ (s.size ≤ 4096 ∧ ∃ v, e = .returned (.tuple #[v, .int .i64 0]) ∧ TokRow w' v (cutF kd g s) ∧ ∀ b, v.ownBlock = some b → W.heap.size ≤ b))) := hide fun W q => refSplit_any yb kd g TX s W (h.ref.below q) hs
  have HNUM := hide num_law
  have hcl := cutF_len (kd := kd) (g := g) (s := s)
  generalize cutF kd g s = L at HS1 HS2 hcl
  clear h
  go_enter Try.func30, Try.ntmps30
  go_wp2_with fail
  refine HS1.out.mono ?_
  rintro e w1 ⟨hb1, ⟨hlt, rfl⟩ | ⟨hle, v1, rfl, t1, o1⟩⟩
  · obtain ⟨d1, d2⟩ := HC1.out w1 hb1
    have HS3 := hide (HS2.out w1 hb1)
    have HB1 := hide hb1
    clear hb1 HS1 HS2 HC1
    go_wp2_with fail
    refine HS3.out.mono ?_
    rintro e w2 ⟨hb2, hh⟩
    obtain rfl : e = .returned (.tuple #[.slice none 0 0, .int .i64 5]) := by
      rcases hh with h9 | ⟨h9, _⟩
      · exact h9.2
      · omega
    clear hh
    have HB2 : Hid (Below w.heap.size w w2) := hide (HB1.out.trans (hb2.mono HB1.out.size))
    have HSA := hide (same_any [] (.slice none 0 0) (.slice none 0 0) w2 (World.ownsRow_nil _ _ _ _) (World.ownsRow_nil _ _ _ _) (by simp))
    clear hb2 HS3
    go_wp2_with fail
    refine HSA.out.mono ?_
    rintro e w3 ⟨rfl, hb3⟩
    have HB3 : Hid (Below w.heap.size w w3) := hide (HB2.out.trans (hb3.mono HB2.out.size))
    clear hb3 HSA
    go_wp2_with fail
    refine (HNUM.out _ _).mono ?_
    rintro e w4 ⟨rfl, rfl⟩
    go_wp2_with fail
    refine (HNUM.out _ _).mono ?_
    rintro e w5 ⟨rfl, rfl⟩
    go_wp2_with fail
    go_ret
    exact ⟨rfl, HB3.out⟩
  · obtain ⟨d1, d2⟩ := HC1.out w1 hb1
    have HS3 := hide (HS2.out w1 hb1)
    have HB1 := hide (And.intro hb1 t1)
    clear hb1 HS1 HS2 HC1 t1 o1
    go_wp2_with fail
    refine HS3.out.mono ?_
    rintro e w2 ⟨hb2, hh⟩
    obtain ⟨v2, rfl, t2, o2⟩ : ∃ v, e = .returned (.tuple #[v, .int .i64 0]) ∧ TokRow w2 v L ∧ ∀ b, v.ownBlock = some b → w1.heap.size ≤ b := by
      rcases hh with ⟨h9, _⟩ | ⟨_, h9⟩
      · omega
      · exact h9
    clear hh
    have HB2 : Hid (Below w.heap.size w w2) := hide (HB1.out.1.trans (hb2.mono HB1.out.1.size))
    have HSA := hide (same_any L v1 v2 w2 (HB1.out.2.below hb2) t2 (by omega))
    clear hb2 HS3 t2 o2
    go_wp2_with fail
    refine HSA.out.mono ?_
    rintro e w3 ⟨rfl, hb3⟩
    have HB3 : Hid (Below w.heap.size w w3) := hide (HB2.out.trans (hb3.mono HB2.out.size))
    clear hb3 HSA
    go_wp2_with fail
    refine (HNUM.out _ _).mono ?_
    rintro e w4 ⟨rfl, rfl⟩
    go_wp2_with fail
    refine (HNUM.out _ _).mono ?_
    rintro e w5 ⟨rfl, rfl⟩
    go_wp2_with fail
    go_ret
    exact ⟨rfl, HB3.out⟩
set_option maxRecDepth 20000 in
set_option maxHeartbeats 6400000 in
theorem splits_any (s t : ByteArray) (hm : s.size ≤ maxLen) (ht : t.size ≤ maxLen) (w : World) : Calls Try.prog 7 #[.string s, .string t] w fun e w' => e = .returned (.bool true) ∧ Below w.heap.size w w' := by
  have HK := hide (known_any w)
  have HM := hide (fun w => made_any s hm w)
  have HT := hide ht
  generalize newF s = X at HM
  clear hm ht
  go_enter Try.func7, Try.ntmps7
  go_wp2_with fail
  refine HK.out.mono ?_
  rintro e w1 ⟨rfl, hb1⟩
  have HM1 := hide (HM.out w1)
  have HB1 := hide hb1
  clear hb1 HK HM
  cases X with
  | bad c a =>
    go_wp2_with fail
    refine HM1.out.mono ?_
    rintro e w2 ⟨hb2, rfl⟩
    have HB2 := hide hb2
    clear hb2 HM1
    go_wp2_with fail
    go_ret
    exact ⟨rfl, HB1.out.trans (HB2.out.mono HB1.out.size)⟩
  | lexer kd g =>
    go_wp2_with fail
    refine HM1.out.mono ?_
    rintro e w2 ⟨hb2, pb, xb, yb, TX, rfl, hP⟩
    have HS := hide (pairSplit_any pb xb yb kd g TX t w2 hP HT.out)
    have HB2 : Hid (Below w.heap.size w w2) := hide (HB1.out.trans (hb2.mono HB1.out.size))
    clear hb2 HM1 hP HB1
    go_wp2_with fail
    refine HS.out.mono ?_
    rintro e w3 ⟨rfl, hb3⟩
    have HB3 := hide hb3
    clear hb3 HS
    go_wp2_with fail
    go_ret
    exact ⟨rfl, HB2.out.trans (HB3.out.mono HB2.out.size)⟩
end Go.Proofs.Ytcckhngbdoiikaa
