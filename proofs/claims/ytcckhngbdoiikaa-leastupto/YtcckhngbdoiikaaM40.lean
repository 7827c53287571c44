import Derived.Test.YtcckhngbdoiikaaM27
import Derived.Test.YtcckhngbdoiikaaM09
import Derived.BigRegion
import Derived.IntWalk
import Derived.Deep.DeepCutAuto
import Derived.Deep.CutBlock
import Derived.StillTailTactics

namespace Go.Proofs.Ytcckhngbdoiikaa
open Go.RowKit Go.Deep
set_option linter.unusedVariables false

theorem Try.infoRules : (Try.prog.info? 42).map (·.size) = some 2 := by kernel_rfl
theorem storeRules {av tv : Value} {ops : Array Oper} {rest : List Oper} {o : Oper} {a : Act} {w : World} {Q : Exit → Act → World → Prop} (hgd : o.guard = none) (p q : Operand) (ho : o.op = .store 42 p q)
    (g : Nat) (hx : a.eval p = .pointer (some ⟨g, 0, none⟩)) (hy : a.eval q = .agg #[av, tv]) {old : Array Value} (hb : Blk w g old 42) (hold : old.size = 2)
    (h1 : ∀ u ∈ [av, tv], u.oneCell' = true)
    (h : wpList Try.prog ops Q rest (a.put o.dst undef) (w.setRow g #[av, tv])) : wpList Try.prog ops Q (o :: rest) a w :=
  wpList_store_row hgd 42 p q ho g _ hx hy 42 _ hb Try.infoRules hold (by simpa using h1) h
theorem loadRules {av tv : Value} {ops : Array Oper} {rest : List Oper} {o : Oper} {a : Act} {w : World} {Q : Exit → Act → World → Prop} (hgd : o.guard = none) (p : Operand) (ho : o.op = .load 42 p)
    (g : Nat) (hx : a.eval p = .pointer (some ⟨g, 0, none⟩)) (hb : Blk w g #[av, tv] 42)
    (h : wpList Try.prog ops Q rest (a.put o.dst (.agg #[av, tv])) w) : wpList Try.prog ops Q (o :: rest) a w :=
  wpList_load_row hgd 42 p ho g hx 42 _ (0, 0) _ hb Try.underlying42 rfl Try.infoRules h
theorem Kept1row' (w : World) (b : Nat) (c : Array Value) : Kept (fun k => k = b) w (w.setRow b c) := Kept.setRow (ex := fun k => k = b) (Kept.refl _ _) (fun _ => rfl) _
theorem storeNx {x : NodeT} {ops : Array Oper} {rest : List Oper} {o : Oper} {a : Act} {w : World} {Q : Exit → Act → World → Prop} (hgd : o.guard = none) (p q : Operand) (ho : o.op = .store 114 p q)
    (g : Nat) (hx : a.eval p = .pointer (some ⟨g, 0, none⟩)) (hy : a.eval q = nodeV x) {old : Array Value} (hb : Blk w g old 114) (hold : old.size = 7)
    (h : ∀ w', Kept (fun b => b = g) w w' → Blk w' g (nodeC x) 114 → wpList Try.prog ops Q rest (a.put o.dst undef) w') : wpList Try.prog ops Q (o :: rest) a w :=
  storeN hgd p q ho g hx hy hb hold (h _ (Kept1row' _ _ _) (hb.setRow _))
/-- All that stood in W stands in w'. -/
def Old (W w' : World) : Prop := ∀ b o, b < W.heap.size → w'.cell? ⟨b, o, none⟩ = W.cell? ⟨b, o, none⟩
theorem Old.drew (W : World) : Old W W.drew := fun b o _ => rfl
theorem Old.al {W w' : World} (h : Old W w') (hz : W.heap.size ≤ w'.heap.size) (ob : Obj) : Old W (w'.alloc ob) := fun b o hp => (World.cell?_alloc_past (w := w') ob b o (by omega)).trans (h b o hp)
theorem Old.st {W w' : World} (h : Old W w') {g c : Nat} (hg : W.heap.size ≤ g) (v : Value) : Old W (w'.setCell ⟨g, c, none⟩ v) := fun b o hp => (World.cell?_setCell_far w' ⟨g, c, none⟩ ⟨b, o, none⟩ v (by simp; omega)).trans (h b o hp)
theorem region_tail {P : Program} {id : Nat} {Q : Exit → Act → World → Prop} {a : Act} {w : World} {l : List Oper} (n : Nat) (hm : P.follows .mixedOrders = true) (hB : Region.lexTailB .any l.toArray n = true)
    (h : ∀ OPS : Array Oper, wpStill P OPS { w with drawn := w.drawn + 1 } (fun a' => wpList P OPS Q (l.drop n) a' { w with drawn := w.drawn + 1 }) (l.take n) a) : (Code.region id l.toArray true).wp P Q a w :=
  wp_region_still_tail n hm hB (h _)
theorem Try.mixed : Try.prog.follows .mixedOrders = true := by kernel_rfl
theorem wrapNat (m : Nat) (h : m < 4000000) : wrap64 (m : Int) = (m : Int) := by unfold wrap64; omega
theorem strLe1 (a : ByteArray) (h : a.size ≤ 8400000) : (⟨#[40]⟩ : ByteArray).size + a.size ≤ 9223372036854775807 := by have : (⟨#[40]⟩ : ByteArray).size = 1 := rfl; omega
theorem strLe2 (a m : ByteArray) (h : a.size ≤ 8400000) (hm : m.size ≤ 1) : ((⟨#[40]⟩ : ByteArray) ++ a).size + m.size ≤ 9223372036854775807 := by have : (⟨#[40]⟩ : ByteArray).size = 1 := rfl; rw [ByteArray.size_append]; omega
theorem strLe3 (a b m : ByteArray) (h : a.size ≤ 8400000) (hb : b.size ≤ 8400000) (hm : m.size ≤ 1) : ((⟨#[40]⟩ : ByteArray) ++ a ++ m).size + b.size ≤ 9223372036854775807 := by have : (⟨#[40]⟩ : ByteArray).size = 1 := rfl; rw [ByteArray.size_append, ByteArray.size_append]; omega
theorem strLe4 (a b m : ByteArray) (h : a.size ≤ 8400000) (hb : b.size ≤ 8400000) (hm : m.size ≤ 1) : ((⟨#[40]⟩ : ByteArray) ++ a ++ m ++ b).size + (⟨#[41]⟩ : ByteArray).size ≤ 9223372036854775807 := by have : (⟨#[40]⟩ : ByteArray).size = 1 := rfl; have : (⟨#[41]⟩ : ByteArray).size = 1 := rfl; rw [ByteArray.size_append, ByteArray.size_append, ByteArray.size_append]; omega
theorem wrapSum (a b : Nat) (h : a + b < 17000000) : wrap64 ((a : Int) + (b : Int)) = (a : Int) + (b : Int) := by unfold wrap64; omega
theorem wrapNatI (m : Nat) (h : m < 4000000) : IntKind.i64.wrap (m : Int) = (m : Int) := (Go.IntWalk.i64_left _).trans (wrapNat m h)
/-- The rules as they are put together: the struct, its two rows, apart from each other and above block B. -/
structure BuildAt (w : World) (B rb : Nat) (av tv : Value) (st : List NodeT × List Nat) : Prop where
  blk : Blk w rb #[av, tv] 42
  nodes : NodeRow w av st.1
  tops : IRow w tv (natsI st.2)
  oa : ∀ b, av.ownBlock = some b → B < b ∧ b ≠ rb
  ot : ∀ b, tv.ownBlock = some b → B < b ∧ b ≠ rb
  ne : ∀ b, av.ownBlock = some b → tv.ownBlock ≠ some b
theorem BuildAt.kept {w w' : World} {B rb : Nat} {av tv : Value} {st : List NodeT × List Nat} {ex : Nat → Prop} (h : BuildAt w B rb av tv st) (k : Kept ex w w') (he : ∀ b, B < b → b < w.heap.size → ¬ ex b) (hr : ¬ ex rb) : BuildAt w' B rb av tv st :=
  ⟨h.blk.kept k hr, h.nodes.kept k (fun b hb => he b (h.oa b hb).1 (ownsRow_lt h.nodes b hb)), h.tops.kept k (fun b hb => he b (h.ot b hb).1 (ownsRow_lt h.tops b hb)), h.oa, h.ot, h.ne⟩
theorem BuildAt.below {w w' : World} {B rb : Nat} {av tv : Value} {st : List NodeT × List Nat} (h : BuildAt w B rb av tv st) (k : Below w.heap.size w w') : BuildAt w' B rb av tv st :=
  h.kept (ex := fun _ => False) (Kept.ofBelow k) (fun _ _ _ e => e) (fun e => e)

set_option maxRecDepth 20000 in
set_option maxHeartbeats 25600000 in
theorem built_any (ops : List OpT) (v : Value) (w : World) (h : OpsAt w v ops) :
    Calls Try.prog 22 #[v] w fun e w' => ∃ av tv, e = .returned (.agg #[av, tv]) ∧ NodeRow w' av (builtF ops).1 ∧ IRow w' tv (natsI (builtF ops).2) ∧ Below w.heap.size w w' := by
  obtain ⟨⟨od, ocap, rfl, hcell⟩, hok, hfew⟩ := h
  generalize hX : builtF ops = X
  unfold builtF at hX
  generalize hY : builtFold ops ([], []) = Y at hX
  have HX := hide hX
  have HY := hide hY
  have HC := hide hcell
  have HOK := hide hok
  clear hX hY hcell hok
  go_enter Try.func22, Try.ntmps22
  go_wp2_with fail
  go_loopg [4] ops.length (fun G iv wr => ∃ (i : Nat) (st : List NodeT × List Nat) (av tv : Value), iv = .int .i64 (i : Int) ∧ i ≤ ops.length ∧ G = ops.length - i ∧ builtFold (ops.drop i) st = Y ∧ BInv i st ∧
    Below w.heap.size w wr ∧ Blk wr w.heap.size #[.slice none 0 0, .slice none 0 0] 42 ∧ BuildAt wr (w.heap.size + 1) (w.heap.size + 1) av tv st)
  case atStart =>
    refine ⟨0, ([], []), .slice none 0 0, .slice none 0 0, rfl, by omega, rfl, HY.out, ⟨fun t ht => by simp at ht, by simp, rfl, by simp, fun x hx => by simp at hx⟩, Below2 _ _ _, (Blk.new _ _ _).alloc _, ⟨Blk.at1 _ _ _ _, World.ownsRow_nil _ _ _ _, World.ownsRow_nil _ _ _ _, fun b h => by simp [Value.ownBlock] at h, fun b h => by simp [Value.ownBlock] at h, fun b h => by simp [Value.ownBlock] at h⟩⟩
  case round =>
    obtain ⟨i, st, av, tv, rfl, hi, rfl, hY, hinv, hb, hZ, hB⟩ := hrel
    clear HY
    by_cases hlt : i < ops.length
    · have e0 : decide ((i : Int) < (ops.length : Int)) = true := by simp; omega
      rcases HC.out with h0 | ⟨ob, ooff, rfl, holt, hcc⟩
      · omega
      obtain ⟨c0, c1, c2⟩ := hcc i hlt
      have k0 := (hb.cell (p := ⟨ob, ooff + i * 3, none⟩) holt).trans c0
      have k1 := (hb.cell (p := ⟨ob, ooff + i * 3 + 1, none⟩) holt).trans c1
      have k2 := (hb.cell (p := ⟨ob, ooff + i * 3 + 2, none⟩) holt).trans c2
      clear c0 c1 c2 hcc
      have hoi := HOK.out ops[i] (List.getElem_mem hlt)
      rw [List.drop_eq_getElem_cons hlt] at hY
      generalize ops[i] = o at k0 k1 k2 hoi hY
      obtain ⟨ok, oa, obb⟩ := o
      simp only at k0 k1 k2
      have PK : Hid (∀ W, Calls Try.prog 17 #[.int .i64 ok, .int .i64 9] W fun e w' => e = .returned (.int .i64 (pickF ok 9 : Int)) ∧ w' = W) := hide (fun W => pick_any ok 9 hoi.1 (by omega) (by omega) W)
      have LF : Hid (∀ W, Calls Try.prog 58 #[opV ⟨ok, oa, obb⟩] W fun e w' => e = .returned (nodeV (leafN ⟨ok, oa, obb⟩)) ∧ Below W.heap.size W w') := hide (fun W => leaf_any ⟨ok, oa, obb⟩ hoi W)
      have i0 : (0 : Int) ≤ (i : Int) := by omega
      have i1 : (i : Int) < (ops.length : Int) := by omega
      obtain ⟨td, tcap, rfl, htrow⟩ := hB.tops.formN
      obtain ⟨ad, acap, rfl, harow⟩ := hB.nodes.form
      have b0 := hB.blk.cell 0
      have b1 := hB.blk.cell 1
      have zb := hB.blk.lt
      have HH : Hid (Below w.heap.size w wr ∧ Blk wr w.heap.size #[.slice none 0 0, .slice none 0 0] 42 ∧ BuildAt wr (w.heap.size + 1) (w.heap.size + 1) (.slice ad st.1.length acap) (.slice td st.2.length tcap) st) := ⟨hb, hZ, hB⟩
      have HYY := hide hY
      have HINV := hide hinv
      clear hb hZ hB hY hinv hoi
      go_wp2_with fail
      refine (PK.out _).mono ?_
      rintro e w1 ⟨rfl, rfl⟩
      go_wp2_with fail
      refine (LF.out _).mono ?_
      rintro e w2 ⟨rfl, hb2⟩
      have hkk : kindF ⟨ok, oa, obb⟩ = pickF ok 9 := rfl
      have lk := pickF_lt ok 9 (by omega)
      generalize hS : stepNode st.1 st.2 ⟨ok, oa, obb⟩ = sn
      have HSS := hide hS
      unfold stepNode at hS
      rw [hkk] at hS
      generalize pickF ok 9 = k at hS lk
      generalize leafN ⟨ok, oa, obb⟩ = lf at hS
      have hHX : Below w.heap.size w (w2.alloc (.cells (nodeC lf) 114)) ∧ Blk (w2.alloc (.cells (nodeC lf) 114)) w.heap.size #[.slice none 0 0, .slice none 0 0] 42 ∧ BuildAt (w2.alloc (.cells (nodeC lf) 114)) (w.heap.size + 1) (w.heap.size + 1) (.slice ad st.1.length acap) (.slice td st.2.length tcap) st ∧ Blk (w2.alloc (.cells (nodeC lf) 114)) w2.heap.size (nodeC lf) 114 ∧ (∀ b, (Value.slice ad st.1.length acap).ownBlock = some b → b < w2.heap.size) ∧ (∀ b, (Value.slice td st.2.length tcap).ownBlock = some b → b < w2.heap.size) ∧ w.heap.size + 1 < w2.heap.size ∧ st.2.length ≤ tcap := by
        obtain ⟨q1, q2, q3⟩ := HH.out
        have q4 := q1.trans (hb2.mono q1.size)
        have q5 := q3.below hb2
        refine ⟨q4.alloc q4.size _, (q2.below hb2).alloc _, q5.below (Below1 _ _), Blk.new _ _ _, fun b hb => ownsRow_lt q5.nodes b hb, fun b hb => ownsRow_lt q5.tops b hb, q5.blk.lt, ?_⟩
        obtain ⟨_, ad9, cap9, e9, ⟨h1, h2⟩ | ⟨g9, cur9, h1, h2, h3, _⟩⟩ := ownsRow_form q5.tops
        · rw [natsI_len] at h2; omega
        · rw [natsI_len] at h3
          injection e9 with e1 e2 e3
          omega
      have HHX := hide hHX
      have z2 := hb2.size
      have HSN := hide hS
      clear hHX hb2 HH b0 b1 k0 k1 k2 hS hkk PK LF
      generalize hW : w2.alloc (.cells (nodeC lf) 114) = wx at HHX
      have b0 : wx.cell? ⟨w.heap.size + 1, 0, none⟩ = some (.slice ad st.1.length acap) := HHX.out.2.2.1.blk.cell 0
      have b1 : wx.cell? ⟨w.heap.size + 1, 1, none⟩ = some (.slice td st.2.length tcap) := HHX.out.2.2.1.blk.cell 1
      go_upto_block 2 with fail
      go_cut [8] (fun lv wc => ∃ lf' : Nat, lv = .int .i64 (lf' : Int) ∧ lf' = sn.2 ∧ Kept (fun b => b = w2.heap.size) wx wc ∧ Blk wc w2.heap.size (nodeC sn.1) 114)
      case first =>
        have hst : st.2.length ≤ 1048576 := by have h8 := HINV.out.len; have h9 := HINV.out.all; omega
        have z2x : w2.heap.size < wx.heap.size := by rw [← hW]; simp
        by_cases hA : (k = 4 ∨ k = 5) ∧ 1 < st.2.length
        · obtain ⟨hk45, hn⟩ := hA
          have e1 : decide ((1 : Int) < (st.2.length : Int)) = true := by simp; omega
          rcases htrow with h0 | ⟨tg, rfl⟩
          · omega
          obtain ⟨n1, n2, n3⟩ := HINV.out.text (k := st.2.length - 2) (by omega)
          obtain ⟨n4, n5, n6⟩ := HINV.out.text (k := st.2.length - 1) (by omega)
          rcases harow with h0 | ⟨ag, rfl⟩
          · omega
          have t0 := HHX.out.2.2.1.tops.cellN (st.2.length - 2) (by omega)
          have t1 := HHX.out.2.2.1.tops.cellN (st.2.length - 1) (by omega)
          have cA := fun c hc => HHX.out.2.2.1.nodes.cell (st.2.getD (st.2.length - 2) 0) c n3 hc
          have cB := fun c hc => HHX.out.2.2.1.nodes.cell (st.2.getD (st.2.length - 1) 0) c n6 hc
          have hA := HSN.out
          rw [if_pos ⟨hk45, hn⟩] at hA
          obtain ⟨m, hm⟩ : ∃ m : Nat, (st.2.length : Int) - 2 = (m : Int) := ⟨st.2.length - 2, by omega⟩
          obtain ⟨m', hm'⟩ : ∃ m : Nat, (st.2.length : Int) - 1 = (m : Int) := ⟨st.2.length - 1, by omega⟩
          rw [show st.2.length - 2 = m by omega] at t0 hA n1 n2 n3 cA
          rw [show st.2.length - 1 = m' by omega] at t1 hA n4 n5 n6 cB
          have bm : m < 4000000 := by omega
          have bm' : m' < 4000000 := by omega
          have m0 : (0 : Int) ≤ (m : Int) := by omega
          have m1 : (m : Int) < (st.2.length : Int) := by omega
          have m2 : (0 : Int) ≤ (m' : Int) := by omega
          have m3 : (m' : Int) < (st.2.length : Int) := by omega
          generalize st.2.getD m 0 = ta at t0 hA n1 n2 n3 cA
          generalize st.2.getD m' 0 = tb at t1 hA n4 n5 n6 cB
          generalize st.1.getD ta nodeD = A at hA n1 n2 cA
          generalize st.1.getD tb nodeD = B at hA n4 n5 cB
          obtain ⟨Ak, Aa, Ab, Al, Ar, At, Ap⟩ := A
          obtain ⟨Bk, Ba, Bb, Bl, Br, Bt, Bp⟩ := B
          have a0 := cA 0 (by omega)
          have a1 := cA 1 (by omega)
          have a2 := cA 2 (by omega)
          have a3 := cA 3 (by omega)
          have a4 := cA 4 (by omega)
          have a5 := cA 5 (by omega)
          have a6 := cA 6 (by omega)
          simp only [nodesC, List.getElem?_cons_zero, List.getElem?_cons_succ, Nat.add_zero] at a0 a1 a2 a3 a4 a5 a6
          have q0 := cB 0 (by omega)
          have q1 := cB 1 (by omega)
          have q2 := cB 2 (by omega)
          have q3 := cB 3 (by omega)
          have q4 := cB 4 (by omega)
          have q5 := cB 5 (by omega)
          have q6 := cB 6 (by omega)
          simp only [nodesC, List.getElem?_cons_zero, List.getElem?_cons_succ, Nat.add_zero] at q0 q1 q2 q3 q4 q5 q6
          have x0 : (0 : Int) ≤ (ta : Int) := by omega
          have x1 : (ta : Int) < (st.1.length : Int) := by omega
          have x2 : (0 : Int) ≤ (tb : Int) := by omega
          have x3 : (tb : Int) < (st.1.length : Int) := by omega
          simp only at hA n1 n2 n4 n5
          have hapb : Ap + Bp < 17000000 := by omega
          have hsa : At.size ≤ 8400000 := by omega
          have hsb : Bt.size ≤ 8400000 := by omega
          have zl := HHX.out.2.2.1.blk.lt
          have zt : tg < wx.heap.size := ownsRow_lt HHX.out.2.2.1.tops tg rfl
          have za : ag < wx.heap.size := ownsRow_lt HHX.out.2.2.1.nodes ag rfl
          have HA := hide hA
          -- the two nodes' blocks
          obtain ⟨w3, hw3⟩ : ∃ w3 : World, (wx.alloc (.cells #[.int .i64 (Ak : Int), .int .i64 (Aa : Int), .int .i64 (Ab : Int), .int .i64 (Al : Int), .int .i64 (Ar : Int), .string At, .int .i64 (Ap : Int)] 114)).drew = w3 := ⟨_, rfl⟩
          obtain ⟨w4, hw4⟩ : ∃ w4 : World, (w3.alloc (.cells #[.int .i64 (Bk : Int), .int .i64 (Ba : Int), .int .i64 (Bb : Int), .int .i64 (Bl : Int), .int .i64 (Br : Int), .string Bt, .int .i64 (Bp : Int)] 114)).drew = w4 := ⟨_, rfl⟩
          have k3 : Below wx.heap.size wx w3 := by rw [← hw3]; exact ⟨rfl, rfl, rfl, by simp, (Below1 wx _).block⟩
          have k4 : Below w3.heap.size w3 w4 := by rw [← hw4]; exact ⟨rfl, rfl, rfl, by simp, (Below1 w3 _).block⟩
          have z3 : w3.heap.size = wx.heap.size + 1 := by rw [← hw3]; simp
          have z4 : w4.heap.size = w3.heap.size + 1 := by rw [← hw4]; simp
          have hbA : Blk w3 wx.heap.size (nodeC ⟨Ak, Aa, Ab, Al, Ar, At, Ap⟩) 114 := by rw [← hw3]; exact Blk.new wx _ _
          have hbB : Blk w4 w3.heap.size (nodeC ⟨Bk, Ba, Bb, Bl, Br, Bt, Bp⟩) 114 := by rw [← hw4]; exact Blk.new w3 _ _
          have k34 : Below wx.heap.size wx w4 := k3.trans (k4.mono (by omega))
          have hbx : Blk w4 w2.heap.size (nodeC lf) 114 := HHX.out.2.2.2.1.below k34
          have p1 := (k3.cell (p := ⟨w.heap.size + 1, 0, none⟩) zl).trans b0
          have p2 := (k3.cell (p := ⟨w.heap.size + 1, 1, none⟩) zl).trans b1
          have p3 := (k3.cell (p := ⟨tg, m', none⟩) zt).trans t1
          have p4 := (k3.cell (p := ⟨ag, tb * 7, none⟩) za).trans q0
          have p5 := (k3.cell (p := ⟨ag, tb * 7 + 1, none⟩) za).trans q1
          have p6 := (k3.cell (p := ⟨ag, tb * 7 + 2, none⟩) za).trans q2
          have p7 := (k3.cell (p := ⟨ag, tb * 7 + 3, none⟩) za).trans q3
          have p8 := (k3.cell (p := ⟨ag, tb * 7 + 4, none⟩) za).trans q4
          have p9 := (k3.cell (p := ⟨ag, tb * 7 + 5, none⟩) za).trans q5
          have p10 := (k3.cell (p := ⟨ag, tb * 7 + 6, none⟩) za).trans q6
          have HP3 : Hid (w3.cell? ⟨w.heap.size + 1, 0, none⟩ = some (.slice (some ⟨ag, 0, none⟩) st.1.length acap) ∧ w3.cell? ⟨w.heap.size + 1, 1, none⟩ = some (.slice (some ⟨tg, 0, none⟩) st.2.length tcap) ∧ w3.cell? ⟨tg, m', none⟩ = some (.int .i64 (tb : Int)) ∧ w3.cell? ⟨ag, tb * 7, none⟩ = some (.int .i64 (Bk : Int)) ∧ w3.cell? ⟨ag, tb * 7 + 1, none⟩ = some (.int .i64 (Ba : Int)) ∧ w3.cell? ⟨ag, tb * 7 + 2, none⟩ = some (.int .i64 (Bb : Int)) ∧ w3.cell? ⟨ag, tb * 7 + 3, none⟩ = some (.int .i64 (Bl : Int)) ∧ w3.cell? ⟨ag, tb * 7 + 4, none⟩ = some (.int .i64 (Br : Int)) ∧ w3.cell? ⟨ag, tb * 7 + 5, none⟩ = some (.string Bt) ∧ w3.cell? ⟨ag, tb * 7 + 6, none⟩ = some (.int .i64 (Bp : Int))) := ⟨p1, p2, p3, p4, p5, p6, p7, p8, p9, p10⟩
          have zl3 : w.heap.size + 1 < w3.heap.size := by omega
          have zt3 : tg < w3.heap.size := by omega
          have za3 : ag < w3.heap.size := by omega
          have hbA4 := hbA.below k4
          have HP4 : Hid (w4.cell? ⟨w.heap.size + 1, 1, none⟩ = some (.slice (some ⟨tg, 0, none⟩) st.2.length tcap) ∧ w4.cell? ⟨tg, m, none⟩ = some (.int .i64 (ta : Int)) ∧ w4.cell? ⟨tg, m', none⟩ = some (.int .i64 (tb : Int)) ∧ w4.cell? ⟨wx.heap.size, 5, none⟩ = some (.string At) ∧ w4.cell? ⟨wx.heap.size, 6, none⟩ = some (.int .i64 (Ap : Int)) ∧ w4.cell? ⟨w3.heap.size, 5, none⟩ = some (.string Bt) ∧ w4.cell? ⟨w3.heap.size, 6, none⟩ = some (.int .i64 (Bp : Int)) ∧ Blk w4 w2.heap.size (nodeC lf) 114 ∧ Below wx.heap.size wx w4) :=
            ⟨(k34.cell (p := ⟨w.heap.size + 1, 1, none⟩) zl).trans b1, (k34.cell (p := ⟨tg, m, none⟩) zt).trans t0, (k34.cell (p := ⟨tg, m', none⟩) zt).trans t1, hbA4.cell 5, hbA4.cell 6, hbB.cell 5, hbB.cell 6, hbx, k34⟩
          have u1 : ∀ W : World, (Op.stringOp .add (⟨#[40]⟩ : ByteArray) At).run Try.prog W = .ok (.string ((⟨#[40]⟩ : ByteArray) ++ At)) W := fun W => run_string_add_sum W _ _ (strLe1 At hsa)
          have u2 : ∀ W : World, (Op.stringOp .add ((⟨#[40]⟩ : ByteArray) ++ At) (⟨#[]⟩ : ByteArray)).run Try.prog W = .ok (.string ((⟨#[40]⟩ : ByteArray) ++ At ++ ⟨#[]⟩)) W := fun W => run_string_add_sum W _ _ (strLe2 At _ hsa (by decide))
          have u3 : ∀ W : World, (Op.stringOp .add ((⟨#[40]⟩ : ByteArray) ++ At ++ ⟨#[]⟩) Bt).run Try.prog W = .ok (.string ((⟨#[40]⟩ : ByteArray) ++ At ++ ⟨#[]⟩ ++ Bt)) W := fun W => run_string_add_sum W _ _ (strLe3 At Bt _ hsa hsb (by decide))
          have u4 : ∀ W : World, (Op.stringOp .add ((⟨#[40]⟩ : ByteArray) ++ At ++ ⟨#[]⟩ ++ Bt) (⟨#[41]⟩ : ByteArray)).run Try.prog W = .ok (.string ((⟨#[40]⟩ : ByteArray) ++ At ++ ⟨#[]⟩ ++ Bt ++ ⟨#[41]⟩)) W := fun W => run_string_add_sum W _ _ (strLe4 At Bt _ hsa hsb (by decide))
          have v2' : ∀ W : World, (Op.stringOp .add ((⟨#[40]⟩ : ByteArray) ++ At) (⟨#[124]⟩ : ByteArray)).run Try.prog W = .ok (.string ((⟨#[40]⟩ : ByteArray) ++ At ++ ⟨#[124]⟩)) W := fun W => run_string_add_sum W _ _ (strLe2 At _ hsa (by decide))
          have v3' : ∀ W : World, (Op.stringOp .add ((⟨#[40]⟩ : ByteArray) ++ At ++ ⟨#[124]⟩) Bt).run Try.prog W = .ok (.string ((⟨#[40]⟩ : ByteArray) ++ At ++ ⟨#[124]⟩ ++ Bt)) W := fun W => run_string_add_sum W _ _ (strLe3 At Bt _ hsa hsb (by decide))
          have v4' : ∀ W : World, (Op.stringOp .add ((⟨#[40]⟩ : ByteArray) ++ At ++ ⟨#[124]⟩ ++ Bt) (⟨#[41]⟩ : ByteArray)).run Try.prog W = .ok (.string ((⟨#[40]⟩ : ByteArray) ++ At ++ ⟨#[124]⟩ ++ Bt ++ ⟨#[41]⟩)) W := fun W => run_string_add_sum W _ _ (strLe4 At Bt _ hsa hsb (by decide))
          have im := wrapNatI m bm
          have im' := wrapNatI m' bm'
          have wm := wrapNat m bm
          have wm' := wrapNat m' bm'
          have hpp : IntKind.i64.wrap ((Ap : Int) + (Bp : Int)) = (Ap : Int) + (Bp : Int) := (Go.IntWalk.i64_left _).trans (wrapSum Ap Bp hapb)
          have hpp2 := wrapSum Ap Bp hapb
          clear bm bm' cA cB hA HSN HSS n1 n2 n3 n4 n5 n6 q0 q1 q2 q3 q4 q5 q6 t1 p1 p2 p3 p4 p5 p6 p7 p8 p9 p10 k3 k4 k34 hbA hbB hbx hbA4 hst hapb lk hi hlt holt i0 i1
          clear z3 z4
          rcases hk45 with rfl | rfl
          · go_wp2_with fail
            go_region
            try rw [hw3]
            obtain ⟨p1, p2, p3, p4, p5, p6, p7, p8, p9, p10⟩ := HP3.out
            clear a0 a1 a2 a3 a4 a5 a6 t0 b0 b1 hw3 zl zt za
            go_wp2_with fail
            go_region
            try rw [hw4]
            clear p1 p2 p3 p4 p5 p6 p7 p8 p9 p10 hw4 zl3 zt3 za3
            obtain ⟨p1, p2, p3, p4, p5, p6, p7, p8, p9⟩ := HP4.out
            clear p9 v2' v3' v4' wm wm' hpp2
            go_wp2_with fail
            refine region_tail 28 Try.mixed (by kernel_rfl) ?_
            intro OPS
            simp only [List.take_succ_cons, List.take_zero, List.drop_succ_cons, List.drop_zero]
            repeat still_step
            refine wpStill_nil ?_
            refine storeN (x := ⟨4, 0, 0, ta, tb, (⟨#[40]⟩ : ByteArray) ++ At ++ ⟨#[]⟩ ++ Bt ++ ⟨#[41]⟩, Ap + Bp⟩) rfl (.tmp 7) (.tmp 94) rfl w2.heap.size rfl rfl (Blk.drew p8) rfl ?_
            clear u1 u2 u3 u4 p1 p2 p3 p4 p5 p6 p7
            go_wp2_with fail
            go_meet
            clear im im' hpp
            obtain ⟨_, _, _, _, _, _, _, p8, p9⟩ := HP4.out
            have hA := HA.out
            simp only [show ¬ (4 = 5) by omega, if_false] at hA
            refine ⟨m, rfl, by rw [← hA], ?_, ?_⟩
            · exact Kept.setRow (ex := fun b => b = w2.heap.size) (Kept.ofBelow (ex := fun b => b = w2.heap.size) p9).drew (fun _ => rfl) _
            · rw [← hA]
              exact (Blk.drew p8).setRow _
          · go_wp2_with fail
            go_region
            try rw [hw3]
            obtain ⟨p1, p2, p3, p4, p5, p6, p7, p8, p9, p10⟩ := HP3.out
            clear a0 a1 a2 a3 a4 a5 a6 t0 b0 b1 hw3 zl zt za
            go_wp2_with fail
            go_region
            try rw [hw4]
            clear p1 p2 p3 p4 p5 p6 p7 p8 p9 p10 hw4 zl3 zt3 za3
            obtain ⟨p1, p2, p3, p4, p5, p6, p7, p8, p9⟩ := HP4.out
            clear p9 u2 u3 u4 wm wm' hpp2
            go_wp2_with fail
            refine region_tail 28 Try.mixed (by kernel_rfl) ?_
            intro OPS
            simp only [List.take_succ_cons, List.take_zero, List.drop_succ_cons, List.drop_zero]
            repeat still_step
            refine wpStill_nil ?_
            refine storeN (x := ⟨5, 0, 0, ta, tb, (⟨#[40]⟩ : ByteArray) ++ At ++ ⟨#[124]⟩ ++ Bt ++ ⟨#[41]⟩, Ap + Bp⟩) rfl (.tmp 7) (.tmp 94) rfl w2.heap.size rfl rfl (Blk.drew p8) rfl ?_
            clear u1 v2' v3' v4' p1 p2 p3 p4 p5 p6 p7
            go_wp2_with fail
            go_meet
            clear im im' hpp
            obtain ⟨_, _, _, _, _, _, _, p8, p9⟩ := HP4.out
            have hA := HA.out
            simp only [if_true] at hA
            refine ⟨m, rfl, by rw [← hA], ?_, ?_⟩
            · exact Kept.setRow (ex := fun b => b = w2.heap.size) (Kept.ofBelow (ex := fun b => b = w2.heap.size) p9).drew (fun _ => rfl) _
            · rw [← hA]
              exact (Blk.drew p8).setRow _
        by_cases hB : 6 ≤ k ∧ 0 < st.2.length
        · obtain ⟨hk6, hn⟩ := hB
          have e4 : ((k : Int) == 4) = false := by simp; omega
          have e5 : ((k : Int) == 5) = false := by simp; omega
          have e6 : decide ((6 : Int) ≤ (k : Int)) = true := by simp; omega
          have e7 : decide ((0 : Int) < (st.2.length : Int)) = true := by simp; omega
          rcases htrow with h0 | ⟨tg, rfl⟩
          · omega
          obtain ⟨n4, n5, n6⟩ := HINV.out.text (k := st.2.length - 1) (by omega)
          rcases harow with h0 | ⟨ag, rfl⟩
          · omega
          have t1 := HHX.out.2.2.1.tops.cellN (st.2.length - 1) (by omega)
          have cB := fun c hc => HHX.out.2.2.1.nodes.cell (st.2.getD (st.2.length - 1) 0) c n6 hc
          have hA2 := HSN.out
          rw [if_neg hA, if_pos ⟨hk6, hn⟩] at hA2
          clear hA
          obtain ⟨m', hm'⟩ : ∃ m : Nat, (st.2.length : Int) - 1 = (m : Int) := ⟨st.2.length - 1, by omega⟩
          rw [show st.2.length - 1 = m' by omega] at t1 hA2 n4 n5 n6 cB
          have bm' : m' < 4000000 := by omega
          have m2 : (0 : Int) ≤ (m' : Int) := by omega
          have m3 : (m' : Int) < (st.2.length : Int) := by omega
          generalize st.2.getD m' 0 = tb at t1 hA2 n4 n5 n6 cB
          generalize st.1.getD tb nodeD = B at hA2 n4 n5 cB
          obtain ⟨Bk, Ba, Bb, Bl, Br, Bt, Bp⟩ := B
          have q0 := cB 0 (by omega)
          have q1 := cB 1 (by omega)
          have q2 := cB 2 (by omega)
          have q3 := cB 3 (by omega)
          have q4 := cB 4 (by omega)
          have q5 := cB 5 (by omega)
          have q6 := cB 6 (by omega)
          simp only [nodesC, List.getElem?_cons_zero, List.getElem?_cons_succ, Nat.add_zero] at q0 q1 q2 q3 q4 q5 q6
          have x2 : (0 : Int) ≤ (tb : Int) := by omega
          have x3 : (tb : Int) < (st.1.length : Int) := by omega
          simp only at hA2 n4 n5
          have hsb : Bt.size ≤ 8400000 := by omega
          have zl := HHX.out.2.2.1.blk.lt
          have zt : tg < wx.heap.size := ownsRow_lt HHX.out.2.2.1.tops tg rfl
          have za : ag < wx.heap.size := ownsRow_lt HHX.out.2.2.1.nodes ag rfl
          have HA := hide hA2
          obtain ⟨w3, hw3⟩ : ∃ w3 : World, (wx.alloc (.cells #[.int .i64 (Bk : Int), .int .i64 (Ba : Int), .int .i64 (Bb : Int), .int .i64 (Bl : Int), .int .i64 (Br : Int), .string Bt, .int .i64 (Bp : Int)] 114)).drew = w3 := ⟨_, rfl⟩
          have k3 : Below wx.heap.size wx w3 := by rw [← hw3]; exact ⟨rfl, rfl, rfl, by simp, (Below1 wx _).block⟩
          have hbB : Blk w3 wx.heap.size (nodeC ⟨Bk, Ba, Bb, Bl, Br, Bt, Bp⟩) 114 := by rw [← hw3]; exact Blk.new wx _ _
          have hbx : Blk w3 w2.heap.size (nodeC lf) 114 := HHX.out.2.2.2.1.below k3
          have HP4 : Hid (w3.cell? ⟨w.heap.size + 1, 1, none⟩ = some (.slice (some ⟨tg, 0, none⟩) st.2.length tcap) ∧ w3.cell? ⟨tg, m', none⟩ = some (.int .i64 (tb : Int)) ∧ w3.cell? ⟨wx.heap.size, 5, none⟩ = some (.string Bt) ∧ w3.cell? ⟨wx.heap.size, 6, none⟩ = some (.int .i64 (Bp : Int)) ∧ Blk w3 w2.heap.size (nodeC lf) 114 ∧ Below wx.heap.size wx w3) :=
            ⟨(k3.cell (p := ⟨w.heap.size + 1, 1, none⟩) zl).trans b1, (k3.cell (p := ⟨tg, m', none⟩) zt).trans t1, hbB.cell 5, hbB.cell 6, hbx, k3⟩
          obtain ⟨j, hj⟩ : ∃ j : Nat, (k : Int) - 6 = (j : Int) := ⟨k - 6, by omega⟩
          obtain ⟨j1, hj1⟩ : ∃ j1 : Nat, (j : Int) + 1 = (j1 : Int) := ⟨j + 1, by omega⟩
          have g0 : (0 : Int) ≤ (j : Int) := by omega
          have g1 : (j : Int) ≤ (j1 : Int) := by omega
          have g2 : (j1 : Int) ≤ 3 := by omega
          have g3 : (0 : Int) ≤ (j1 : Int) := by omega
          have g4 : j ≤ j1 := by omega
          have g5 : j1 ≤ 3 := by omega
          have hmk : (⟨#[42, 43, 63]⟩ : ByteArray).extract j j1 = markB k := by
            have h9 : (k = 6 ∧ j = 0 ∧ j1 = 1) ∨ (k = 7 ∧ j = 1 ∧ j1 = 2) ∨ (k = 8 ∧ j = 2 ∧ j1 = 3) := by omega
            rcases h9 with ⟨rfl, rfl, rfl⟩ | ⟨rfl, rfl, rfl⟩ | ⟨rfl, rfl, rfl⟩ <;> rfl
          have HMK := hide hmk
          have hmks : (⟨#[42, 43, 63]⟩ : ByteArray).extract j j1 = markB k → ((⟨#[42, 43, 63]⟩ : ByteArray).extract j j1).size ≤ 1 := fun e => by rw [e]; unfold markB; split; decide; split <;> decide
          have hmz := hmks hmk
          have u1 : ∀ W : World, (Op.stringOp .add (⟨#[40]⟩ : ByteArray) Bt).run Try.prog W = .ok (.string ((⟨#[40]⟩ : ByteArray) ++ Bt)) W := fun W => run_string_add_sum W _ _ (strLe1 Bt hsb)
          have u2 : ∀ W : World, (Op.stringOp .add ((⟨#[40]⟩ : ByteArray) ++ Bt) ((⟨#[42, 43, 63]⟩ : ByteArray).extract j j1)).run Try.prog W = .ok (.string ((⟨#[40]⟩ : ByteArray) ++ Bt ++ (⟨#[42, 43, 63]⟩ : ByteArray).extract j j1)) W := fun W => run_string_add_sum W _ _ (strLe2 Bt _ hsb hmz)
          have u3 : ∀ W : World, (Op.stringOp .add ((⟨#[40]⟩ : ByteArray) ++ Bt ++ (⟨#[42, 43, 63]⟩ : ByteArray).extract j j1) (⟨#[41]⟩ : ByteArray)).run Try.prog W = .ok (.string ((⟨#[40]⟩ : ByteArray) ++ Bt ++ (⟨#[42, 43, 63]⟩ : ByteArray).extract j j1 ++ ⟨#[41]⟩)) W := fun W => run_string_add_sum W _ _ (by have : (⟨#[41]⟩ : ByteArray).size = 1 := rfl; have : (⟨#[40]⟩ : ByteArray).size = 1 := rfl; rw [ByteArray.size_append, ByteArray.size_append]; omega)
          have w1' : IntKind.i64.wrap ((k : Int) - 6) = (j : Int) := (Go.IntWalk.i64_left _).trans (by rw [hj]; exact wrapNat j (by omega))
          have w2' : IntKind.i64.wrap ((j : Int) + 1) = (j1 : Int) := (Go.IntWalk.i64_left _).trans (by rw [hj1]; exact wrapNat j1 (by omega))
          clear hmk hmks hmz hj hj1
          have im' := wrapNatI m' bm'
          have wm' := wrapNat m' bm'
          clear bm' cB hA2 HSN HSS n4 n5 n6 k3 hbB hbx hst hi hlt holt i0 i1
          go_wp2_with fail
          go_region
          try rw [hw3]
          obtain ⟨p1, p2, p3, p4, p5, p6⟩ := HP4.out
          clear q0 q1 q2 q3 q4 q5 q6 t1 b0 b1 hw3 zl zt za p6
          go_wp2_with fail
          refine region_tail 21 Try.mixed (by kernel_rfl) ?_
          intro OPS
          simp only [List.take_succ_cons, List.take_zero, List.drop_succ_cons, List.drop_zero]
          repeat still_step
          refine wpStill_nil ?_
          refine storeN (x := ⟨k, 0, 0, tb, 0, (⟨#[40]⟩ : ByteArray) ++ Bt ++ (⟨#[42, 43, 63]⟩ : ByteArray).extract j j1 ++ ⟨#[41]⟩, Bp⟩) rfl (.tmp 7) (.tmp 134) rfl w2.heap.size rfl rfl (Blk.drew p5) rfl ?_
          clear u1 u2 u3 w1' w2' p1 p2 p3 p4
          go_wp2_with fail
          go_meet
          clear im' wm'
          obtain ⟨_, _, _, _, p8, p9⟩ := HP4.out
          have hA := HA.out
          refine ⟨m', rfl, by rw [← hA], ?_, ?_⟩
          · exact Kept.setRow (ex := fun b => b = w2.heap.size) (Kept.ofBelow (ex := fun b => b = w2.heap.size) p9).drew (fun _ => rfl) _
          · rw [← hA, ← HMK.out]
            exact (Blk.drew p8).setRow _
        have hsn := HSN.out
        rw [if_neg hA, if_neg hB] at hsn
        have HDEF : Hid (sn = (lf, st.2.length)) := hide hsn.symm
        have hdone : ∃ lf' : Nat, Value.int .i64 (st.2.length : Int) = .int .i64 (lf' : Int) ∧ lf' = sn.2 ∧ Kept (fun b => b = w2.heap.size) wx wx ∧ Blk wx w2.heap.size (nodeC sn.1) 114 := ⟨st.2.length, rfl, by rw [hsn.symm], Kept.refl _ _, by rw [← hsn]; exact HHX.out.2.2.2.1⟩
        have HD := hide hdone
        clear hsn hdone HSN HSS
        by_cases k4 : k = 4
        · subst k4
          have e1 : decide ((1 : Int) < (st.2.length : Int)) = false := by simp; omega
          go_wp2_with fail
          go_meet
          exact HD.out
        by_cases k5 : k = 5
        · subst k5
          have e1 : decide ((1 : Int) < (st.2.length : Int)) = false := by simp; omega
          go_wp2_with fail
          go_meet
          exact HD.out
        have e4 : ((k : Int) == 4) = false := by simp; omega
        have e5 : ((k : Int) == 5) = false := by simp; omega
        by_cases k6 : 6 ≤ k
        · have e6 : decide ((6 : Int) ≤ (k : Int)) = true := by simp; omega
          have e7 : decide ((0 : Int) < (st.2.length : Int)) = false := by rw [show st.2.length = 0 by omega]; rfl
          go_wp2_with fail
          go_meet
          exact HD.out
        · have e6 : decide ((6 : Int) ≤ (k : Int)) = false := by simp; omega
          go_wp2_with fail
          go_meet
          exact HD.out
      case rest =>
        obtain ⟨lf', rfl, hlf, hkc, hBc⟩ := hcut
        obtain ⟨h1, h2, h3, h4, h5, h6, h7, h8⟩ := HHX.out
        have hlen := (stepNode_size HINV.out ⟨ok, oa, obb⟩).2.2
        have hsn : stepNode st.1 st.2 ⟨ok, oa, obb⟩ = sn := HSS.out
        rw [hsn, ← hlf] at hlen
        have zx : wx.heap.size = w2.heap.size + 1 := by rw [← hW]; simp
        have hblk : Blk wc (w.heap.size + 1) #[.slice ad st.1.length acap, .slice td st.2.length tcap] 42 := h3.blk.kept hkc (by omega)
        have hnod : NodeRow wc (.slice ad st.1.length acap) st.1 := h3.nodes.kept hkc (fun b hb e => by have := h5 b hb; omega)
        have htop : IRow wc (.slice td st.2.length tcap) (natsI st.2) := h3.tops.kept hkc (fun b hb e => by have := h6 b hb; omega)
        have hZc : Blk wc w.heap.size #[.slice none 0 0, .slice none 0 0] 42 := h2.kept hkc (by omega)
        have hbc : Below w.heap.size w wc := h1.trans ⟨hkc.os, hkc.tape, hkc.output, hkc.size, fun b hb => hkc.block b (by omega) (by omega)⟩
        have r0 : wc.cell? ⟨w.heap.size + 1, 0, none⟩ = some (.slice ad st.1.length acap) := hblk.cell 0
        have r1 : wc.cell? ⟨w.heap.size + 1, 1, none⟩ = some (.slice td st.2.length tcap) := hblk.cell 1
        have rf0 := hblk.frozen 0
        have rf1 := hblk.frozen 1
        have l0 : (0 : Int) ≤ (lf' : Int) := by omega
        have l1 : (lf' : Int) ≤ (tcap : Int) := by omega
        have zc : w2.heap.size < wc.heap.size := hBc.lt
        have htk : IRow wc (.slice td lf' tcap) (natsI (st.2.take lf')) := by
          have h9 : IRow wc (.slice td (natsI st.2).length tcap) (natsI st.2) := by rw [natsI_len]; exact htop
          have h10 := h9.take lf' (by rw [natsI_len]; exact hlen)
          rw [show natsI (st.2.take lf') = (natsI st.2).take lf' by simp [natsI, List.map_take]]
          exact h10
        have hot := h3.ot
        have hoa := h3.oa
        have hne := h3.ne
        have hto : ∀ b, (Value.slice td lf' tcap).ownBlock = some b → (Value.slice td st.2.length tcap).ownBlock = some b := fun b hb => by cases td <;> exact hb
        have htl9 : (st.2.take lf').length = lf' := by simp; omega
        obtain ⟨ii, hii, hz0, hz1, hz2⟩ := info_parts Try.infoI3
        obtain ⟨ij, hij, hy0, hy1, hy2⟩ := info_parts Try.infoNode3
        have hX1 : IRow ((wc.setCell ⟨w.heap.size + 1, 1, none⟩ (.slice td lf' tcap)).alloc (.cells #[.int .i64 (st.1.length : Int)] 3)) (.slice td lf' tcap) (natsI (st.2.take lf')) :=
          (htk.kept (Kept.setCell (ex := fun b => b = w.heap.size + 1) (p := ⟨w.heap.size + 1, 1, none⟩) (Kept.refl _ _) (fun _ => rfl) _) (fun b hb e => (hot b (hto b hb)).2 e)).below (Below1 _ _)
        have hol : ((wc.setCell ⟨w.heap.size + 1, 1, none⟩ (.slice td lf' tcap)).alloc (.cells #[.int .i64 (st.1.length : Int)] 3)).ownsRow 0 3 1 (.slice td lf' tcap) lf' ((natsI (st.2.take lf')).map (Value.int .i64)) := by
          have h9 := hX1
          unfold IRow at h9
          rw [natsI_len, htl9] at h9
          exact h9
        have HOL := hide hol
        have hlfew : lf' ≤ 1048576 := by have h8 := HINV.out.len; have h9 := HINV.out.all; omega
        have hafew : st.1.length ≤ 1048576 := by have h9 := HINV.out.all; omega
        have HR : Hid (NodeRow wc (.slice ad st.1.length acap) st.1 ∧ Blk wc (w.heap.size + 1) #[.slice ad st.1.length acap, .slice td st.2.length tcap] 42 ∧ Blk wc w2.heap.size (nodeC sn.1) 114 ∧ Blk wc w.heap.size #[.slice none 0 0, .slice none 0 0] 42 ∧ Below w.heap.size w wc ∧ (∀ b, (Value.slice ad st.1.length acap).ownBlock = some b → b < w2.heap.size ∧ w.heap.size + 1 < b ∧ b ≠ w.heap.size + 1) ∧ (∀ b, (Value.slice td lf' tcap).ownBlock = some b → b < w2.heap.size ∧ w.heap.size + 1 < b ∧ b ≠ w.heap.size + 1) ∧ (∀ b, (Value.slice ad st.1.length acap).ownBlock = some b → (Value.slice td lf' tcap).ownBlock ≠ some b) ∧ lf' = sn.2 ∧ stepNode st.1 st.2 ⟨ok, oa, obb⟩ = sn) :=
          ⟨hnod, hblk, hBc, hZc, hbc, fun b hb => ⟨h5 b hb, hoa b hb⟩, fun b hb => ⟨h6 b (hto b hb), hot b (hto b hb)⟩, fun b hb e => hne b hb (hto b e), hlf, hsn⟩
        clear h1 h2 h3 h4 h5 h6 HSN HSS b0 b1 hW hlf hsn htk hX1 hol hot hoa hne hto htl9 hnod hblk hBc hZc hbc htop
        go_wp2_with (at_builtin; (refine wpList_append_lies _ (by rfl) _ _ _ (by rfl) 0 3 ii _ 1 8 Try.underlying40 hii hz0 hz1 hz2 rfl (by omega) (.slice td lf' tcap) lf' ((natsI (st.2.take lf')).map (Value.int .i64)) (by rfl) HOL.out ⟨wc.heap.size, 0, none⟩ 1 1 [.int .i64 (st.1.length : Int)] (by rfl) (by rfl) (World.news_of_block (cs := #[.int .i64 (st.1.length : Int)]) (t := 3) (fr := (0, 0)) (by have := heap_alloc_new (wc.setCell ⟨w.heap.size + 1, 1, none⟩ (.slice td lf' tcap)) (.cells #[.int .i64 (st.1.length : Int)] 3); simpa using this)) (by simp [Value.oneCell']) (by omega) (by unfold maxLen; omega) (by omega) (by simp) (wc.heap.size + 1) (by simp) ?_))
        intro gg cap6 w6 hown6 hgrow6 hat6 hlt6
        obtain ⟨h1, h2, h3, h4, h5, h6, h7, h9, h10, h11⟩ := HR.out
        have hk6 : Kept (fun b => (Value.slice td lf' tcap).ownBlock = some b) ((wc.setCell ⟨w.heap.size + 1, 1, none⟩ (.slice td lf' tcap)).alloc (.cells #[.int .i64 (st.1.length : Int)] 3)) w6 := ⟨hgrow6.os, hgrow6.tape, hgrow6.output, hgrow6.size, fun k hk he => hgrow6.block k hk (fun e => he e.symm)⟩
        have ksc : Kept (fun b => b = w.heap.size + 1) wc (wc.setCell ⟨w.heap.size + 1, 1, none⟩ (.slice td lf' tcap)) := Kept.setCell (ex := fun b => b = w.heap.size + 1) (p := ⟨w.heap.size + 1, 1, none⟩) (Kept.refl _ _) (fun _ => rfl) _
        have b6 : Blk w6 (w.heap.size + 1) #[.slice ad st.1.length acap, .slice td lf' tcap] 42 := ((h2.set 1 (.slice td lf' tcap)).alloc _).kept hk6 (fun e => (h7 _ e).2.2 rfl)
        have x6 : Blk w6 w2.heap.size (nodeC sn.1) 114 := ((h3.kept ksc (by omega)).alloc _).kept hk6 (fun e => by have := (h7 _ e).1; omega)
        have z6 : Blk w6 w.heap.size #[.slice none 0 0, .slice none 0 0] 42 := ((h4.kept ksc (by omega)).alloc _).kept hk6 (fun e => by have := (h7 _ e).2.1; omega)
        have n6 : NodeRow w6 (.slice ad st.1.length acap) st.1 := ((h1.kept ksc (fun b hb e => (h6 b hb).2.2 e)).below (Below1 _ _)).kept hk6 (fun b hb e => h9 b hb e)
        have t6 : IRow w6 (.slice (some ⟨gg, 0, none⟩) (lf' + 1) cap6) (natsI (st.2.take lf' ++ [st.1.length])) := by
          have e9 : natsI (st.2.take lf' ++ [st.1.length]) = natsI (st.2.take lf') ++ [(st.1.length : Int)] := by simp [natsI]
          unfold IRow
          rw [e9, List.map_append, List.length_append, natsI_len, show (st.2.take lf').length = lf' by simp; omega]
          exact hown6
        have w6b : Below w.heap.size w w6 := by
          have k1 : Below w.heap.size w ((wc.setCell ⟨w.heap.size + 1, 1, none⟩ (.slice td lf' tcap)).alloc (.cells #[.int .i64 (st.1.length : Int)] 3)) := (h5.setCell (p := ⟨w.heap.size + 1, 1, none⟩) (by simp) _).alloc (by have := h5.size; simp; omega) _
          exact k1.trans ⟨hk6.os, hk6.tape, hk6.output, hk6.size, fun b hb => hk6.block b (by have := k1.size; omega) (fun e => by have := (h7 b e).2.1; omega)⟩
        have g6 : w.heap.size + 1 < gg ∧ (∀ b, (Value.slice ad st.1.length acap).ownBlock = some b → b ≠ gg) ∧ gg ≠ w2.heap.size := by
          rcases hat6 with e | e
          · exact ⟨(h7 gg e).2.1, fun b hb e2 => h9 b hb (e2 ▸ e), by have := (h7 gg e).1; omega⟩
          · refine ⟨by omega, fun b hb e2 => ?_, by omega⟩
            have := (h6 b hb).1
            omega
        have c0 : w6.cell? ⟨w.heap.size + 1, 0, none⟩ = some (.slice ad st.1.length acap) := b6.cell 0
        have c1 : w6.cell? ⟨w.heap.size + 1, 1, none⟩ = some (.slice td lf' tcap) := b6.cell 1
        have f0 := b6.frozen 0
        have f1 := b6.frozen 1
        have zw6 := x6.lt
        have ks2 : Kept (fun b => b = w.heap.size + 1) w6 (w6.setCell ⟨w.heap.size + 1, 1, none⟩ (.slice (some ⟨gg, 0, none⟩) (lf' + 1) cap6)) := Kept.setCell (ex := fun b => b = w.heap.size + 1) (p := ⟨w.heap.size + 1, 1, none⟩) (Kept.refl _ _) (fun _ => rfl) _
        have x7 : Blk (w6.setCell ⟨w.heap.size + 1, 1, none⟩ (.slice (some ⟨gg, 0, none⟩) (lf' + 1) cap6)) w2.heap.size (nodeC sn.1) 114 := x6.kept ks2 (by omega)
        have n7 : NodeRow ((w6.setCell ⟨w.heap.size + 1, 1, none⟩ (.slice (some ⟨gg, 0, none⟩) (lf' + 1) cap6)).alloc (.cells (nodeC sn.1) 114)) (.slice ad st.1.length acap) st.1 := (n6.kept ks2 (fun b hb e => (h6 b hb).2.2 e)).below (Below1 _ _)
        have X7 := hide x7
        have N7 := hide n7
        have HR6 : Hid (Blk w6 (w.heap.size + 1) #[.slice ad st.1.length acap, .slice td lf' tcap] 42 ∧ Blk w6 w.heap.size #[.slice none 0 0, .slice none 0 0] 42 ∧ IRow w6 (.slice (some ⟨gg, 0, none⟩) (lf' + 1) cap6) (natsI (st.2.take lf' ++ [st.1.length])) ∧ Below w.heap.size w w6 ∧ Kept (fun b => b = w.heap.size + 1) w6 (w6.setCell ⟨w.heap.size + 1, 1, none⟩ (.slice (some ⟨gg, 0, none⟩) (lf' + 1) cap6))) := ⟨b6, z6, t6, w6b, ks2⟩
        clear h1 h2 h3 h4 h5 h6 h7 h9 h10 h11 hk6 ksc b6 x6 z6 n6 t6 w6b ks2 x7 n7 hown6 hgrow6 hat6 HOL r0 r1 rf0 rf1
        go_wp2_with (first | refine loadN rfl (.tmp 7) rfl w2.heap.size rfl X7.out ?_ | (at_builtin; (refine wpList_append_lies _ (by rfl) _ _ _ (by rfl) 0 114 ij _ 7 64 Try.underlying39 hij hy0 hy1 hy2 rfl (by omega) (.slice ad st.1.length acap) st.1.length (nodesC st.1) (by rfl) N7.out ⟨w6.heap.size, 0, none⟩ 1 1 [.int .i64 (sn.1.kind : Int), .int .i64 (sn.1.a : Int), .int .i64 (sn.1.b : Int), .int .i64 (sn.1.l : Int), .int .i64 (sn.1.r : Int), .string sn.1.text, .int .i64 (sn.1.places : Int)] (by rfl) (by rfl) (World.news_of_block (cs := nodeC sn.1) (t := 114) (fr := (0, 0)) (by have := heap_alloc_new (w6.setCell ⟨w.heap.size + 1, 1, none⟩ (.slice (some ⟨gg, 0, none⟩) (lf' + 1) cap6)) (.cells (nodeC sn.1) 114); simpa using this)) (by simp [Value.oneCell']) (by omega) (by unfold maxLen; omega) (by omega) (by simp) (w6.heap.size + 1) (by simp) ?_)))
        intro gn cap8 w8 hown8 hgrow8 hat8 hlt8
        obtain ⟨h1, h2, h3, h4, h5, h6, h7, h9, h10, h11⟩ := HR.out
        obtain ⟨b6, z6, t6, w6b, ks2⟩ := HR6.out
        have hk8 : Kept (fun b => (Value.slice ad st.1.length acap).ownBlock = some b) ((w6.setCell ⟨w.heap.size + 1, 1, none⟩ (.slice (some ⟨gg, 0, none⟩) (lf' + 1) cap6)).alloc (.cells (nodeC sn.1) 114)) w8 := ⟨hgrow8.os, hgrow8.tape, hgrow8.output, hgrow8.size, fun k hk he => hgrow8.block k hk (fun e => he e.symm)⟩
        have b8 : Blk w8 (w.heap.size + 1) #[.slice ad st.1.length acap, .slice (some ⟨gg, 0, none⟩) (lf' + 1) cap6] 42 := ((b6.set 1 (.slice (some ⟨gg, 0, none⟩) (lf' + 1) cap6)).alloc _).kept hk8 (fun e => (h6 _ e).2.2 rfl)
        have z8 : Blk w8 w.heap.size #[.slice none 0 0, .slice none 0 0] 42 := ((z6.kept ks2 (by omega)).alloc _).kept hk8 (fun e => by have := (h6 _ e).2.1; omega)
        have t8 : IRow w8 (.slice (some ⟨gg, 0, none⟩) (lf' + 1) cap6) (natsI (st.2.take lf' ++ [st.1.length])) := ((t6.kept ks2 (fun b hb e => by cases (Option.some.inj hb : gg = b); omega)).below (Below1 _ _)).kept hk8 (fun b hb e => by cases (Option.some.inj hb : gg = b); exact g6.2.1 gg e rfl)
        have w8b : Below w.heap.size w w8 := by
          have k1 : Below w.heap.size w ((w6.setCell ⟨w.heap.size + 1, 1, none⟩ (.slice (some ⟨gg, 0, none⟩) (lf' + 1) cap6)).alloc (.cells (nodeC sn.1) 114)) := (w6b.setCell (p := ⟨w.heap.size + 1, 1, none⟩) (by simp) _).alloc (by have := w6b.size; simp; omega) _
          exact k1.trans ⟨hk8.os, hk8.tape, hk8.output, hk8.size, fun b hb => hk8.block b (by have := k1.size; omega) (fun e => by have := (h6 b e).2.1; omega)⟩
        have n8 : NodeRow w8 (.slice (some ⟨gn, 0, none⟩) (st.1.length + 1) cap8) (st.1 ++ [sn.1]) := by
          unfold NodeRow
          rw [nodesC_append, List.length_append]
          exact hown8
        have g8 : w.heap.size + 1 < gn ∧ gn ≠ gg := by
          rcases hat8 with e | e
          · exact ⟨(h6 gn e).2.1, fun e2 => g6.2.1 gn e e2⟩
          · exact ⟨by omega, by omega⟩
        have d0 : w8.cell? ⟨w.heap.size + 1, 0, none⟩ = some (.slice ad st.1.length acap) := b8.cell 0
        have df := b8.frozen 0
        have HR8 : Hid (Blk w8 (w.heap.size + 1) #[.slice ad st.1.length acap, .slice (some ⟨gg, 0, none⟩) (lf' + 1) cap6] 42 ∧ Blk w8 w.heap.size #[.slice none 0 0, .slice none 0 0] 42 ∧ IRow w8 (.slice (some ⟨gg, 0, none⟩) (lf' + 1) cap6) (natsI (st.2.take lf' ++ [st.1.length])) ∧ Below w.heap.size w w8 ∧ NodeRow w8 (.slice (some ⟨gn, 0, none⟩) (st.1.length + 1) cap8) (st.1 ++ [sn.1]) ∧ lf' = sn.2 ∧ stepNode st.1 st.2 ⟨ok, oa, obb⟩ = sn) := ⟨b8, z8, t8, w8b, n8, h10, h11⟩
        clear h1 h2 h3 h4 h5 h6 h7 h9 h10 h11 b6 z6 t6 w6b ks2 hk8 b8 z8 t8 w8b n8 hown8 hgrow8 hat8 X7 N7 HR HR6 c0 c1 f0 f1
        go_wp2_with fail
        go_roundg (ops.length - (i + 1))
        case measure => omega
        case rel =>
          obtain ⟨b8, z8, t8, w8b, n8, h10, h11⟩ := HR8.out
          have ks : Kept (fun b => b = w.heap.size + 1) w8 (w8.setCell ⟨w.heap.size + 1, 0, none⟩ (.slice (some ⟨gn, 0, none⟩) (st.1.length + 1) cap8)) := Kept.setCell (ex := fun b => b = w.heap.size + 1) (p := ⟨w.heap.size + 1, 0, none⟩) (Kept.refl _ _) (fun _ => rfl) _
          have hst : builtStep st ⟨ok, oa, obb⟩ = (st.1 ++ [sn.1], st.2.take lf' ++ [st.1.length]) := by unfold builtStep; rw [h11, h10]
          have hinv2 := HINV.out.step ⟨ok, oa, obb⟩
          rw [hst] at hinv2
          have hY9 : builtFold (ops.drop (i + 1)) (st.1 ++ [sn.1], st.2.take lf' ++ [st.1.length]) = Y := by rw [← hst]; exact HYY.out
          refine ⟨i + 1, (st.1 ++ [sn.1], st.2.take lf' ++ [st.1.length]), .slice (some ⟨gn, 0, none⟩) (st.1.length + 1) cap8, .slice (some ⟨gg, 0, none⟩) (lf' + 1) cap6, by go_num, by omega, rfl, hY9, hinv2, w8b.setCell (p := ⟨w.heap.size + 1, 0, none⟩) (by simp) _, z8.kept ks (by omega), ⟨b8.set 0 _, ?_, ?_, ?_, ?_, ?_⟩⟩
          · exact n8.kept ks (fun b hb e => by cases (Option.some.inj hb : gn = b); omega)
          · exact t8.kept ks (fun b hb e => by cases (Option.some.inj hb : gg = b); omega)
          · intro b hb; cases (Option.some.inj hb : gn = b); omega
          · intro b hb; cases (Option.some.inj hb : gg = b); omega
          · intro b hb e; cases (Option.some.inj hb : gn = b); exact g8.2 (Option.some.inj e).symm
    · have e0 : decide ((i : Int) < (ops.length : Int)) = false := by simp; omega
      obtain rfl : i = ops.length := by omega
      rw [List.drop_length] at hY
      have hyy : st = Y := hY
      subst hyy
      clear hY
      obtain ⟨td, tcap, rfl, htrow⟩ := hB.tops.formN
      obtain ⟨ad, acap, rfl, harow⟩ := hB.nodes.form
      have b0 := hB.blk.cell 0
      have b1 := hB.blk.cell 1
      have f0 := hB.blk.frozen 0
      have f1 := hB.blk.frozen 1
      have zb := hB.blk.lt
      have HH : Hid (Below w.heap.size w wr ∧ Blk wr w.heap.size #[.slice none 0 0, .slice none 0 0] 42 ∧ BuildAt wr (w.heap.size + 1) (w.heap.size + 1) (.slice ad st.1.length acap) (.slice td st.2.length tcap) st) := ⟨hb, hZ, hB⟩
      have hall := hinv.all
      clear hb hZ hB
      by_cases hn : st.2.length = 0
      · have e1 : ((st.2.length : Int) == 0) = true := by rw [hn]; rfl
        have hx := HX.out
        rw [if_pos hn] at hx
        subst hx
        obtain ⟨ii, hii, hz0, hz1, hz2⟩ := info_parts Try.infoI3
        obtain ⟨ij, hij, hy0, hy1, hy2⟩ := info_parts Try.infoNode3
        have n7 : NodeRow (wr.alloc (.cells #[.int .i64 0, .int .i64 97, .int .i64 0, .int .i64 0, .int .i64 0, .string ⟨#[97]⟩, .int .i64 1] 114)) (.slice ad st.1.length acap) st.1 := HH.out.2.2.nodes.below (Below1 _ _)
        have N7 := hide n7
        have hafew : st.1.length ≤ 1048576 := by omega
        have htfew : st.2.length ≤ 1048576 := by omega
        clear n7 HX hinv hall hn
        go_wp2_with (at_builtin; (refine wpList_append_lies _ (by rfl) _ _ _ (by rfl) 0 114 ij _ 7 64 Try.underlying39 hij hy0 hy1 hy2 rfl (by omega) (.slice ad st.1.length acap) st.1.length (nodesC st.1) (by rfl) N7.out ⟨wr.heap.size, 0, none⟩ 1 1 [.int .i64 0, .int .i64 97, .int .i64 0, .int .i64 0, .int .i64 0, .string ⟨#[97]⟩, .int .i64 1] (by rfl) (by rfl) (World.news_of_block (cs := #[.int .i64 0, .int .i64 97, .int .i64 0, .int .i64 0, .int .i64 0, .string ⟨#[97]⟩, .int .i64 1]) (t := 114) (fr := (0, 0)) (by have := heap_alloc_new wr (.cells #[.int .i64 0, .int .i64 97, .int .i64 0, .int .i64 0, .int .i64 0, .string ⟨#[97]⟩, .int .i64 1] 114); simpa using this)) (by simp [Value.oneCell']) (by omega) (by unfold maxLen; omega) (by omega) (by simp) (wr.heap.size + 1) (by simp) ?_))
        intro gn cap8 w8 hown8 hgrow8 hat8 hlt8
        obtain ⟨h1, h2, h3⟩ := HH.out
        have hk8 : Kept (fun b => (Value.slice ad st.1.length acap).ownBlock = some b) (wr.alloc (.cells #[.int .i64 0, .int .i64 97, .int .i64 0, .int .i64 0, .int .i64 0, .string ⟨#[97]⟩, .int .i64 1] 114)) w8 := ⟨hgrow8.os, hgrow8.tape, hgrow8.output, hgrow8.size, fun k hk he => hgrow8.block k hk (fun e => he e.symm)⟩
        have b8 : Blk w8 (w.heap.size + 1) #[.slice ad st.1.length acap, .slice td st.2.length tcap] 42 := (h3.blk.alloc _).kept hk8 (fun e => (h3.oa _ e).2 rfl)
        have z8 : Blk w8 w.heap.size #[.slice none 0 0, .slice none 0 0] 42 := (h2.alloc _).kept hk8 (fun e => by have := (h3.oa _ e).1; omega)
        have t8 : IRow w8 (.slice td st.2.length tcap) (natsI st.2) := (h3.tops.below (Below1 _ _)).kept hk8 (fun b hb e => h3.ne b e hb)
        have n8 : NodeRow w8 (.slice (some ⟨gn, 0, none⟩) (st.1.length + 1) cap8) (st.1 ++ [nodeA]) := by
          unfold NodeRow
          rw [nodesC_append, List.length_append]
          exact hown8
        have w8b : Below w.heap.size w w8 := by
          have k1 : Below w.heap.size w (wr.alloc (.cells #[.int .i64 0, .int .i64 97, .int .i64 0, .int .i64 0, .int .i64 0, .string ⟨#[97]⟩, .int .i64 1] 114)) := h1.alloc h1.size _
          exact k1.trans ⟨hk8.os, hk8.tape, hk8.output, hk8.size, fun b hb => hk8.block b (by have := k1.size; omega) (fun e => by have := (h3.oa b e).1; omega)⟩
        have g8 : w.heap.size + 1 < gn ∧ (∀ b, (Value.slice td st.2.length tcap).ownBlock = some b → b ≠ gn) := by
          rcases hat8 with e | e
          · exact ⟨(h3.oa gn e).1, fun b hb e2 => h3.ne gn e (e2 ▸ hb)⟩
          · refine ⟨by omega, fun b hb e2 => ?_⟩
            have := ownsRow_lt h3.tops b hb
            omega
        have hot := h3.ot
        obtain ⟨w9, hw9⟩ : ∃ w9 : World, w8.setCell ⟨w.heap.size + 1, 0, none⟩ (.slice (some ⟨gn, 0, none⟩) (st.1.length + 1) cap8) = w9 := ⟨_, rfl⟩
        have ks : Kept (fun b => b = w.heap.size + 1) w8 w9 := by rw [← hw9]; exact Kept.setCell (ex := fun b => b = w.heap.size + 1) (p := ⟨w.heap.size + 1, 0, none⟩) (Kept.refl _ _) (fun _ => rfl) _
        have b9 : Blk w9 (w.heap.size + 1) #[.slice (some ⟨gn, 0, none⟩) (st.1.length + 1) cap8, .slice td st.2.length tcap] 42 := by rw [← hw9]; exact b8.set 0 _
        have t9 : IRow w9 (.slice td st.2.length tcap) (natsI st.2) := t8.kept ks (fun b hb e => (hot b hb).2 e)
        have n9 : NodeRow w9 (.slice (some ⟨gn, 0, none⟩) (st.1.length + 1) cap8) (st.1 ++ [nodeA]) := n8.kept ks (fun b hb e => by cases (Option.some.inj hb : gn = b); omega)
        have z9 : Blk w9 w.heap.size #[.slice none 0 0, .slice none 0 0] 42 := z8.kept ks (by omega)
        have w9b : Below w.heap.size w w9 := by rw [← hw9]; exact w8b.setCell (p := ⟨w.heap.size + 1, 0, none⟩) (by simp) _
        have zw9 := b9.lt
        have HR9 : Hid (Blk w9 (w.heap.size + 1) #[.slice (some ⟨gn, 0, none⟩) (st.1.length + 1) cap8, .slice td st.2.length tcap] 42 ∧ IRow w9 (.slice td st.2.length tcap) (natsI st.2) ∧ NodeRow w9 (.slice (some ⟨gn, 0, none⟩) (st.1.length + 1) cap8) (st.1 ++ [nodeA]) ∧ Blk w9 w.heap.size #[.slice none 0 0, .slice none 0 0] 42 ∧ Below w.heap.size w w9 ∧ (∀ b, (Value.slice td st.2.length tcap).ownBlock = some b → w.heap.size + 1 < b ∧ b ≠ w.heap.size + 1) ∧ (w.heap.size + 1 < gn ∧ (∀ b, (Value.slice td st.2.length tcap).ownBlock = some b → b ≠ gn))) := ⟨b9, t9, n9, z9, w9b, hot, g8⟩
        have hw0 : w8.cell? ⟨w.heap.size + 1, 0, none⟩ = some (.slice ad st.1.length acap) := b8.cell 0
        have hf0 := b8.frozen 0
        have hol : (w9.alloc (.cells #[.int .i64 0] 3)).ownsRow 0 3 1 (.slice td st.2.length tcap) st.2.length ((natsI st.2).map (Value.int .i64)) := by
          have h9 := t9.below (Below1 w9 (.cells #[.int .i64 0] 3))
          unfold IRow at h9
          rw [natsI_len] at h9
          exact h9
        have HOL := hide hol
        have c1 := b9.cell 1
        have c0 := b9.cell 0
        have cf1 := b9.frozen 1
        clear h1 h2 h3 hk8 b8 z8 t8 n8 w8b g8 hot ks b9 t9 n9 z9 w9b hol hown8 hgrow8 hat8 N7 b0 b1 f0 f1
        go_upto_region 26 with fail
        try rw [hw9]
        clear hw0 hf0 hw9
        go_wp2_with (at_builtin; (refine wpList_append_lies _ (by rfl) _ _ _ (by rfl) 0 3 ii _ 1 8 Try.underlying40 hii hz0 hz1 hz2 rfl (by omega) (.slice td st.2.length tcap) st.2.length ((natsI st.2).map (Value.int .i64)) (by rfl) HOL.out ⟨w9.heap.size, 0, none⟩ 1 1 [.int .i64 0] (by rfl) (by rfl) (World.news_of_block (cs := #[.int .i64 0]) (t := 3) (fr := (0, 0)) (by have := heap_alloc_new w9 (.cells #[.int .i64 0] 3); simpa using this)) (by simp [Value.oneCell']) (by omega) (by unfold maxLen; omega) (by omega) (by simp) (w9.heap.size + 1) (by simp) ?_))
        intro gg cap6 w6 hown6 hgrow6 hat6 hlt6
        obtain ⟨h1, h2, h3, h4, h5, h6, h7⟩ := HR9.out
        have hk6 : Kept (fun b => (Value.slice td st.2.length tcap).ownBlock = some b) (w9.alloc (.cells #[.int .i64 0] 3)) w6 := ⟨hgrow6.os, hgrow6.tape, hgrow6.output, hgrow6.size, fun k hk he => hgrow6.block k hk (fun e => he e.symm)⟩
        have b6 : Blk w6 (w.heap.size + 1) #[.slice (some ⟨gn, 0, none⟩) (st.1.length + 1) cap8, .slice td st.2.length tcap] 42 := (h1.alloc _).kept hk6 (fun e => (h6 _ e).2 rfl)
        have z6 : Blk w6 w.heap.size #[.slice none 0 0, .slice none 0 0] 42 := (h4.alloc _).kept hk6 (fun e => by have := (h6 _ e).1; omega)
        have n6 : NodeRow w6 (.slice (some ⟨gn, 0, none⟩) (st.1.length + 1) cap8) (st.1 ++ [nodeA]) := (h3.below (Below1 _ _)).kept hk6 (fun b hb e => by cases (Option.some.inj hb : gn = b); exact h7.2 gn e rfl)
        have t6 : IRow w6 (.slice (some ⟨gg, 0, none⟩) (st.2.length + 1) cap6) (natsI (st.2 ++ [0])) := by
          have e9 : natsI (st.2 ++ [0]) = natsI st.2 ++ [0] := by simp [natsI]
          unfold IRow
          rw [e9, List.map_append, List.length_append, natsI_len]
          exact hown6
        have w6b : Below w.heap.size w w6 := by
          have k1 : Below w.heap.size w (w9.alloc (.cells #[.int .i64 0] 3)) := h5.alloc h5.size _
          exact k1.trans ⟨hk6.os, hk6.tape, hk6.output, hk6.size, fun b hb => hk6.block b (by have := k1.size; omega) (fun e => by have := (h6 b e).1; omega)⟩
        have g6 : w.heap.size + 1 < gg ∧ gn ≠ gg := by
          rcases hat6 with e | e
          · exact ⟨(h6 gg e).1, fun e2 => h7.2 gg e e2.symm⟩
          · refine ⟨by omega, fun e2 => ?_⟩
            have := ownsRow_lt h3 gn rfl
            omega
        have c0' := b6.cell 0
        have c1' := b6.cell 1
        have cf1' := b6.frozen 1
        have zz6 := b6.lt
        obtain ⟨w7, hw7⟩ : ∃ w7 : World, w6.setCell ⟨w.heap.size + 1, 1, none⟩ (.slice (some ⟨gg, 0, none⟩) (st.2.length + 1) cap6) = w7 := ⟨_, rfl⟩
        have ks : Kept (fun b => b = w.heap.size + 1) w6 w7 := by rw [← hw7]; exact Kept.setCell (ex := fun b => b = w.heap.size + 1) (p := ⟨w.heap.size + 1, 1, none⟩) (Kept.refl _ _) (fun _ => rfl) _
        have HR7 : Hid (Blk w7 (w.heap.size + 1) #[.slice (some ⟨gn, 0, none⟩) (st.1.length + 1) cap8, .slice (some ⟨gg, 0, none⟩) (st.2.length + 1) cap6] 42 ∧ IRow w7 (.slice (some ⟨gg, 0, none⟩) (st.2.length + 1) cap6) (natsI (st.2 ++ [0])) ∧ NodeRow w7 (.slice (some ⟨gn, 0, none⟩) (st.1.length + 1) cap8) (st.1 ++ [nodeA]) ∧ Blk w7 w.heap.size #[.slice none 0 0, .slice none 0 0] 42 ∧ Below w.heap.size w w7 ∧ w.heap.size + 1 < gg ∧ w.heap.size + 1 < gn) :=
          ⟨by rw [← hw7]; exact b6.set 1 _, t6.kept ks (fun b hb e => by cases (Option.some.inj hb : gg = b); omega), n6.kept ks (fun b hb e => by cases (Option.some.inj hb : gn = b); omega), z6.kept ks (by omega), by rw [← hw7]; exact w6b.setCell (p := ⟨w.heap.size + 1, 1, none⟩) (by simp) _, g6.1, h7.1⟩
        clear h1 h2 h3 h4 h5 h6 h7 hk6 b6 z6 n6 t6 w6b g6 ks hown6 hgrow6 hat6 HOL HR9 c0 c1 cf1
        go_upto_region 27 with fail
        try rw [hw7]
        clear hw7 c0' c1' cf1'
        go_wp2_with (first | refine loadRules (av := .slice (some ⟨gn, 0, none⟩) (st.1.length + 1) cap8) (tv := .slice (some ⟨gg, 0, none⟩) (st.2.length + 1) cap6) rfl (.tmp 3) rfl (w.heap.size + 1) rfl HR7.out.1 ?_ | refine storeRules (av := .slice (some ⟨gn, 0, none⟩) (st.1.length + 1) cap8) (tv := .slice (some ⟨gg, 0, none⟩) (st.2.length + 1) cap6) rfl (.tmp 2) (.tmp 171) rfl w.heap.size rfl rfl HR7.out.2.2.2.1 rfl (by simp [Value.oneCell']) ?_)
        obtain ⟨h1, h2, h3, h4, h5, h6, h7⟩ := HR7.out
        have ks : Kept (fun b => b = w.heap.size) w7 (w7.setRow w.heap.size #[.slice (some ⟨gn, 0, none⟩) (st.1.length + 1) cap8, .slice (some ⟨gg, 0, none⟩) (st.2.length + 1) cap6]) := Kept.setRow (ex := fun b => b = w.heap.size) (Kept.refl _ _) (fun _ => rfl) _
        exact bodyPost_ret (results_cell_row Try.results22 _ _ w.heap.size 42 #[.slice (some ⟨gn, 0, none⟩) (st.1.length + 1) cap8, .slice (some ⟨gg, 0, none⟩) (st.2.length + 1) cap6] (0, 0) _ rfl (h4.setRow _) Try.underlying42 rfl Try.infoRules) rfl ⟨_, _, rfl, h3.kept ks (fun b hb e => by cases (Option.some.inj hb : gn = b); omega), h2.kept ks (fun b hb e => by cases (Option.some.inj hb : gg = b); omega), Below_setRow h5 (Nat.le_refl _) _⟩
      · have e1 : ((st.2.length : Int) == 0) = false := by simp; intro h; exact hn (by rw [h]; rfl)
        have hx := HX.out
        rw [if_neg hn] at hx
        subst hx
        clear HX hall hn hinv
        go_wp2_with (first | refine loadRules rfl (.tmp 3) rfl (w.heap.size + 1) rfl HH.out.2.2.blk ?_ | refine storeRules rfl (.tmp 2) (.tmp 171) rfl w.heap.size rfl rfl HH.out.2.1 rfl (by simp [Value.oneCell']) ?_)
        obtain ⟨h1, h2, h3⟩ := HH.out
        have ks : Kept (fun b => b = w.heap.size) wr (wr.setRow w.heap.size #[.slice ad st.1.length acap, .slice td st.2.length tcap]) := Kept.setRow (ex := fun b => b = w.heap.size) (Kept.refl _ _) (fun _ => rfl) _
        exact bodyPost_ret (results_cell_row Try.results22 _ _ w.heap.size 42 #[.slice ad st.1.length acap, .slice td st.2.length tcap] (0, 0) _ rfl (h2.setRow _) Try.underlying42 rfl Try.infoRules) rfl ⟨_, _, rfl, h3.nodes.kept ks (fun b hb e => by have := (h3.oa b hb).1; omega), h3.tops.kept ks (fun b hb e => by have := (h3.ot b hb).1; omega), Below_setRow h1 (Nat.le_refl _) _⟩
end Go.Proofs.Ytcckhngbdoiikaa
