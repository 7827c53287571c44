import Derived.Test.YtcckhngbdoiikaaM48
import Derived.Test.YtcckhngbdoiikaaM39
import Derived.BigQuiet
import Derived.Deep.QuietTactic
import Derived.Deep.RegionWith
import Derived.Deep.DeepCutAuto

namespace Go.Proofs.Ytcckhngbdoiikaa
open Go.RowKit Go.Deep
set_option linter.unusedVariables false

/-- What is asked of a lexer's graph. -/
structure LexFit (kd : Nat → Nat) (g : Graph) : Prop where
  ok : LexOk kd g
  into : StepsIn kd g
  few : g.rule.length ≤ 61
  pos : 0 < g.rule.length
abbrev streamC (pb : Nat) (x : SavT) (closed : Bool) : Array Value := #[.pointer (some ⟨pb, 0, none⟩), .int .i64 (x.at_ : Int), .int .i64 (x.en : Int), .int .i64 x.rule, .int .i64 x.state, .string x.tail, .bool closed]
def StreamAt (w : World) (tb pb : Nat) (x : SavT) (closed : Bool) : Prop := Blk w tb (streamC pb x closed) 133

set_option maxRecDepth 20000 in
set_option maxHeartbeats 1600000 in
theorem gap_any (pb : Nat) (kd : Nat → Nat) (g : Graph) (w : World) (h : LexAt w pb kd g) (hf : LexFit kd g) :
    Calls Try.prog 37 #[.pointer (some ⟨pb, 0, none⟩)] w fun e w' => e = .returned (gapV (gapOf kd g)) ∧ Below w.heap.size w w' := by
  have HF := hide (fun (W : World) (hb : Below w.heap.size w W) => gapFind_any pb kd g W (h.below hb) hf.ok hf.into (by have := hf.few; omega) hf.pos)
  clear h hf
  generalize gapOf kd g = X at HF
  go_enter Try.func37, Try.ntmps37
  go_wp2_with fail
  refine (HF.out _ (Below1 _ _)).mono ?_
  rintro e w1 ⟨rfl, hb1⟩
  have HB1 : Hid (Below w.heap.size w w1 ∧ Blk w1 w.heap.size gap0 68) := ⟨(Below1 _ _).trans (hb1.mono (by simp)), (Blk.new _ _ _).below hb1⟩
  clear hb1
  go_wp2_with (first | refine storeGap (x := X) rfl (.tmp 2) (.tmp 6) rfl w.heap.size rfl rfl HB1.out.2 rfl ?_)
  exact bodyPost_ret (results_cell_row Try.results37 _ _ w.heap.size 68 (gapC X) (0, 0) _ rfl (HB1.out.2.setRow _) Try.underlying68 rfl Try.infoGap) rfl ⟨rfl, Below_setRow HB1.out.1 (Nat.le_refl _) _⟩

set_option maxRecDepth 20000 in
set_option maxHeartbeats 1600000 in
theorem open_any (pb : Nat) (kd : Nat → Nat) (g : Graph) (w : World) (h : LexAt w pb kd g) (hf : LexFit kd g) :
    Calls Try.prog 70 #[.pointer (some ⟨pb, 0, none⟩)] w fun e w' => Below w.heap.size w w' ∧
      (((gapOf kd g).bounded = false ∧ e = .returned (.tuple #[.pointer none, .int .i64 4])) ∨ ((gapOf kd g).bounded = true ∧ ∃ tb, e = .returned (.tuple #[.pointer (some ⟨tb, 0, none⟩), .int .i64 0]) ∧ StreamAt w' tb pb (startS 0) false ∧ w.heap.size ≤ tb)) := by
  have HF := hide (fun (W : World) (hb : Below w.heap.size w W) => gapFind_any pb kd g W (h.below hb) hf.ok hf.into (by have := hf.few; omega) hf.pos)
  have SA := hide (fun W => start_any 0 W)
  clear h hf
  generalize gapOf kd g = X at HF
  obtain ⟨xb, xk, x1, x2, x3, x4, x5⟩ := X
  go_enter Try.func70, Try.ntmps70
  go_wp2_with fail
  refine (HF.out _ (Below.refl _ _)).mono ?_
  rintro e w1 ⟨rfl, hb1⟩
  have HB1 := hide hb1
  clear hb1
  cases xb with
  | false =>
    go_wp2_with fail
    go_ret2
    first | exact ⟨HB1.out.alloc HB1.out.size _, .inl ⟨rfl, rfl⟩⟩ | exact ⟨HB1.out.alloc HB1.out.size _, rfl⟩
  | true =>
    go_wp2_with fail
    refine (SA.out _).mono ?_
    rintro e w2 ⟨rfl, hb2⟩
    have HB2 : Hid (Below w.heap.size w w2) := (HB1.out.alloc HB1.out.size _).trans (hb2.mono (by have := HB1.out.size; simp; omega))
    clear hb2
    go_wp2_with fail
    obtain ⟨w3, hw3⟩ : ∃ w3 : World, w2.alloc (.cells (savC (startS 0)) 84) = w3 := ⟨_, rfl⟩
    have hB3 : Blk w3 w2.heap.size (savC (startS 0)) 84 := by rw [← hw3]; exact Blk.new _ _ _
    have hb3 : Below w.heap.size w w3 := by rw [← hw3]; exact HB2.out.alloc HB2.out.size _
    change Code.wp _ _ _ _ (w2.alloc (.cells (savC (startS 0)) 84))
    rw [hw3]
    have c0 := hB3.cell 0
    have c1 := hB3.cell 1
    have c2 := hB3.cell 2
    have c3 := hB3.cell 3
    have c4 := hB3.cell 4
    have HB3 := hide hb3
    clear hw3 hB3 hb3
    go_region
    clear c0 c1 c2 c3 c4
    go_wp2_with fail
    go_ret2
    have hfin : Below w.heap.size w (w3.alloc (.cells (streamC pb (startS 0) false) 133)).drew ∧ StreamAt (w3.alloc (.cells (streamC pb (startS 0) false) 133)).drew w3.heap.size pb (startS 0) false ∧ w.heap.size ≤ w3.heap.size := ⟨Below_drew (HB3.out.alloc HB3.out.size _), Blk.drew (Blk.new _ _ _), HB3.out.size⟩
    exact ⟨hfin.1, w3.heap.size, rfl, hfin.2⟩
end Go.Proofs.Ytcckhngbdoiikaa

namespace Go.Proofs.Ytcckhngbdoiikaa
open Go.RowKit Go.Deep
set_option linter.unusedVariables false

set_option maxRecDepth 20000 in
set_option maxHeartbeats 1600000 in
theorem feedShut_any (tb pb : Nat) (x : SavT) (s : ByteArray) (w : World) (h : StreamAt w tb pb x true) :
    Calls Try.prog 43 #[.pointer (some ⟨tb, 0, none⟩), .string s] w fun e w' => e = .returned (.tuple #[.slice none 0 0, .int .i64 6]) ∧ w' = w := by
  have c6 : w.cell? ⟨tb, 6, none⟩ = some (.bool true) := h.cell 6
  clear h
  go_enter Try.func43, Try.ntmps43
  go_wp2_with fail
  go_ret2
  exact ⟨rfl, rfl⟩
set_option maxRecDepth 20000 in
set_option maxHeartbeats 1600000 in
theorem closeShut_any (tb pb : Nat) (x : SavT) (w : World) (h : StreamAt w tb pb x true) :
    Calls Try.prog 45 #[.pointer (some ⟨tb, 0, none⟩)] w fun e w' => e = .returned (.tuple #[.slice none 0 0, .int .i64 6]) ∧ w' = w := by
  have c6 : w.cell? ⟨tb, 6, none⟩ = some (.bool true) := h.cell 6
  clear h
  go_enter Try.func45, Try.ntmps45
  go_wp2_with fail
  go_ret2
  exact ⟨rfl, rfl⟩

set_option maxRecDepth 20000 in
set_option maxHeartbeats 3200000 in
theorem feed_any (tb pb : Nat) (kd : Nat → Nat) (g : Graph) (x : SavT) (s : ByteArray) (w : World) (h : StreamAt w tb pb x false) (hL : LexAt w pb kd g) (ho : LexOk kd g) (h1 : x.en + x.tail.size + s.size ≤ 4000000) (h2 : x.at_ ≤ x.en) :
    Calls Try.prog 43 #[.pointer (some ⟨tb, 0, none⟩), .string s] w fun e w' => ∃ v, e = .returned (.tuple #[v, .int .i64 0]) ∧ TokRow w' v (onF kd g x s false).1 ∧ (∀ b, v.ownBlock = some b → w.heap.size ≤ b) ∧ StreamAt w' tb pb (onF kd g x s false).2 false ∧ Kept (fun b => b = tb) w w' := by
  have HON := hide (fun (W : World) (hb : Below w.heap.size w W) => on_any pb kd g x s false W (hL.below hb) ho h1 h2)
  generalize onF kd g x s false = X at HON
  obtain ⟨toks, ya, ye, yr, ys, yt⟩ := X
  obtain ⟨xa, xe, xr, xs, xt⟩ := x
  simp only at h1 h2
  have c0 : w.cell? ⟨tb, 0, none⟩ = some (.pointer (some ⟨pb, 0, none⟩)) := h.cell 0
  have c1 : w.cell? ⟨tb, 1, none⟩ = some (.int .i64 (xa : Int)) := h.cell 1
  have c2 : w.cell? ⟨tb, 2, none⟩ = some (.int .i64 (xe : Int)) := h.cell 2
  have c3 : w.cell? ⟨tb, 3, none⟩ = some (.int .i64 xr) := h.cell 3
  have c4 : w.cell? ⟨tb, 4, none⟩ = some (.int .i64 xs) := h.cell 4
  have c5 : w.cell? ⟨tb, 5, none⟩ = some (.string xt) := h.cell 5
  have c6 : w.cell? ⟨tb, 6, none⟩ = some (.bool false) := h.cell 6
  have zt := h.lt
  have HS := hide h
  obtain ⟨f, hf⟩ : ∃ f : Nat, (xe : Int) + (xt.size : Int) = (f : Int) := ⟨xe + xt.size, by omega⟩
  have e1 : decide ((1099511627776 : Int) - (f : Int) < (s.size : Int)) = false := by simp; omega
  have hf9 : f ≤ 4000000 := by omega
  have b1 : IntKind.i64.wrap ((xe : Int) + (xt.size : Int)) = (f : Int) := (Go.IntWalk.i64_left _).trans (by rw [hf]; unfold wrap64; omega)
  clear h hL ho hf
  go_enter Try.func43, Try.ntmps43
  go_wp2_with fail
  go_quiet (fail)
  clear b1
  obtain ⟨w1, hw1⟩ : ∃ w1 : World, w.drewN nq = w1 := ⟨_, rfl⟩
  rw [hw1]
  have hb1 : Below w.heap.size w w1 := by rw [← hw1]; exact Below_drewN (Below.refl _ _) _
  have k0 := (hb1.cell (p := ⟨tb, 0, none⟩) zt).trans c0
  have k1 := (hb1.cell (p := ⟨tb, 1, none⟩) zt).trans c1
  have k2 := (hb1.cell (p := ⟨tb, 2, none⟩) zt).trans c2
  have k3 := (hb1.cell (p := ⟨tb, 3, none⟩) zt).trans c3
  have k4 := (hb1.cell (p := ⟨tb, 4, none⟩) zt).trans c4
  have k5 := (hb1.cell (p := ⟨tb, 5, none⟩) zt).trans c5
  have HS1 : Hid (StreamAt w1 tb pb ⟨xa, xe, xr, xs, xt⟩ false ∧ Below w.heap.size w w1) := ⟨Blk.below HS.out hb1, hb1⟩
  have zt1 : tb < w1.heap.size := HS1.out.1.lt
  clear hw1 hb1 c0 c1 c2 c3 c4 c5 c6 HS zt
  go_upto_region 6 with fail
  have hd1 : Below w.heap.size w w1.drew := Below_drew HS1.out.2
  have hd2 : Below w.heap.size w (w1.drew.alloc (.cells sav0 84)) := hd1.alloc hd1.size _
  have HD1 := hide hd1
  have HD2 := hide hd2
  clear hd1 hd2
  go_cut [7, 8] (fun tv bv wx => ∃ sb, bv = .pointer (some ⟨sb, 0, none⟩) ∧ Blk wx sb (savC ⟨ya, ye, yr, ys, yt⟩) 84 ∧ TokRow wx tv toks ∧ (∀ b, tv.ownBlock = some b → w.heap.size ≤ b) ∧ StreamAt wx tb pb ⟨xa, xe, xr, xs, xt⟩ false ∧ Below w.heap.size w wx ∧ w.heap.size ≤ sb)
  case first =>
    go_region_with (go_at_call 66; refine (HON.out _ (by first | exact HD1.out | exact HD2.out)).mono ?_; rintro e w3 ⟨v, rfl, hT3, hv3, hb3⟩; try (have hq : Blk w3 w1.heap.size sav0 84 := (Blk.new w1.drew sav0 84).below hb3; have q0 := hq.cell 0; have q1 := hq.cell 1; have q2 := hq.cell 2; have q3 := hq.cell 3; have q4 := hq.cell 4; have f0 := hq.frozen 0; have f1 := hq.frozen 1; have f2 := hq.frozen 2; have f3 := hq.frozen 3; have f4 := hq.frozen 4))
    all_goals
      first
      | (have hbb : Below w.heap.size w w3 := HD1.out.trans (hb3.mono HD1.out.size)
         have hst : StreamAt w3 tb pb ⟨xa, xe, xr, xs, xt⟩ false := Blk.below (Blk.drew HS1.out.1) hb3
         have hvv : ∀ b, v.ownBlock = some b → w.heap.size ≤ b := fun b hb => Nat.le_trans HS1.out.2.size (hv3 b hb)
         have HH : Hid (Below w.heap.size w w3 ∧ StreamAt w3 tb pb ⟨xa, xe, xr, xs, xt⟩ false ∧ (∀ b, v.ownBlock = some b → w.heap.size ≤ b) ∧ TokRow w3 v toks) := ⟨hbb, hst, hvv, hT3⟩
         clear hbb hst hvv hb3 hv3 hT3 k0 k1 k2 k3 k4 k5
         go_wp2_with fail
         go_meet
         exact ⟨w3.heap.size, rfl, Blk.new _ _ _, HH.out.2.2.2.below (Below1 _ _), HH.out.2.2.1, Blk.alloc HH.out.2.1 _, HH.out.1.alloc HH.out.1.size _, HH.out.1.size⟩)
      | (have hbb : Below w.heap.size w w3 := HD2.out.trans (hb3.mono HD2.out.size)
         have hst : StreamAt w3 tb pb ⟨xa, xe, xr, xs, xt⟩ false := Blk.below (Blk.alloc (Blk.drew HS1.out.1) _) hb3
         have hz : w.heap.size ≤ w1.heap.size := HS1.out.2.size
         have hvv : ∀ b, v.ownBlock = some b → w1.heap.size < b := fun b hb => Nat.lt_of_succ_le (by have := hv3 b hb; simpa using this)
         have HH : Hid (Below w.heap.size w w3 ∧ StreamAt w3 tb pb ⟨xa, xe, xr, xs, xt⟩ false ∧ (∀ b, v.ownBlock = some b → w1.heap.size < b) ∧ TokRow w3 v toks ∧ Blk w3 w1.heap.size sav0 84) := ⟨hbb, hst, hvv, hT3, hq⟩
         clear hbb hst hvv hb3 hv3 hT3 k0 k1 k2 k3 k4 k5 q0 q1 q2 q3 q4 f0 f1 f2 f3 f4 hq
         go_wp2_with fail
         go_meet
         have hkk : Kept (fun b => b = w1.heap.size) w3 (((((w3.setCell ⟨w1.heap.size, 0, none⟩ (.int .i64 (ya : Int))).setCell ⟨w1.heap.size, 1, none⟩ (.int .i64 (ye : Int))).setCell ⟨w1.heap.size, 2, none⟩ (.int .i64 yr)).setCell ⟨w1.heap.size, 3, none⟩ (.int .i64 ys)).setCell ⟨w1.heap.size, 4, none⟩ (.string yt)) := ((((Kept.setCell (ex := fun b => b = w1.heap.size) (p := ⟨w1.heap.size, 0, none⟩) (Kept.refl _ _) (fun _ => rfl) _).setCell (p := ⟨w1.heap.size, 1, none⟩) (fun _ => rfl) _).setCell (p := ⟨w1.heap.size, 2, none⟩) (fun _ => rfl) _).setCell (p := ⟨w1.heap.size, 3, none⟩) (fun _ => rfl) _).setCell (p := ⟨w1.heap.size, 4, none⟩) (fun _ => rfl) _
         exact ⟨w1.heap.size, rfl, ((((HH.out.2.2.2.2.set 0 _).set 1 _).set 2 _).set 3 _).set 4 _, HH.out.2.2.2.1.kept hkk (fun b hb e => by have := HH.out.2.2.1 b hb; omega), fun b hb => by have := HH.out.2.2.1 b hb; omega, Blk.kept HH.out.2.1 hkk (by omega), ((((HH.out.1.setCell (p := ⟨w1.heap.size, 0, none⟩) hz _).setCell (p := ⟨w1.heap.size, 1, none⟩) hz _).setCell (p := ⟨w1.heap.size, 2, none⟩) hz _).setCell (p := ⟨w1.heap.size, 3, none⟩) hz _).setCell (p := ⟨w1.heap.size, 4, none⟩) hz _, hz⟩)
  case rest =>
    obtain ⟨sb, rfl, hSB, hTok, hOw, hStr, hBel, hsb⟩ := hcut
    clear k0 k1 k2 k3 k4 k5 HON HD1 HD2 HS1
    have s0 := hSB.cell 0
    have s1 := hSB.cell 1
    have s2 := hSB.cell 2
    have s3 := hSB.cell 3
    have s4 := hSB.cell 4
    have t1 : wc.cell? ⟨tb, 1, none⟩ = some (.int .i64 (xa : Int)) := hStr.cell 1
    have t2 : wc.cell? ⟨tb, 2, none⟩ = some (.int .i64 (xe : Int)) := hStr.cell 2
    have t3 : wc.cell? ⟨tb, 3, none⟩ = some (.int .i64 xr) := hStr.cell 3
    have t4 : wc.cell? ⟨tb, 4, none⟩ = some (.int .i64 xs) := hStr.cell 4
    have t5 : wc.cell? ⟨tb, 5, none⟩ = some (.string xt) := hStr.cell 5
    have g1 := hStr.frozen 1
    have g2 := hStr.frozen 2
    have g3 := hStr.frozen 3
    have g4 := hStr.frozen 4
    have g5 := hStr.frozen 5
    have dne : tb ≠ sb := fun e => by
      subst e
      have := (hSB.one hStr).2
      revert this
      decide
    have ztc : tb < wc.heap.size := hStr.lt
    have zsc := hSB.lt
    have HC : Hid (TokRow wc u7 toks ∧ (∀ b, u7.ownBlock = some b → w.heap.size ≤ b) ∧ StreamAt wc tb pb ⟨xa, xe, xr, xs, xt⟩ false ∧ Below w.heap.size w wc) := ⟨hTok, hOw, hStr, hBel⟩
    clear hSB hTok hOw hStr hBel
    go_wp2_with fail
    go_ret2
    obtain ⟨r1, r2, r3, r4⟩ := HC.out
    have hkk : Kept (fun b => b = tb) wc (((((wc.setCell ⟨tb, 1, none⟩ (.int .i64 (ya : Int))).setCell ⟨tb, 2, none⟩ (.int .i64 (ye : Int))).setCell ⟨tb, 3, none⟩ (.int .i64 yr)).setCell ⟨tb, 4, none⟩ (.int .i64 ys)).setCell ⟨tb, 5, none⟩ (.string yt)) := ((((Kept.setCell (ex := fun b => b = tb) (p := ⟨tb, 1, none⟩) (Kept.refl _ _) (fun _ => rfl) _).setCell (p := ⟨tb, 2, none⟩) (fun _ => rfl) _).setCell (p := ⟨tb, 3, none⟩) (fun _ => rfl) _).setCell (p := ⟨tb, 4, none⟩) (fun _ => rfl) _).setCell (p := ⟨tb, 5, none⟩) (fun _ => rfl) _
    refine ⟨u7, rfl, r1.kept hkk (fun b hb e => by subst e; exact ownsRow_ne r1 r3 (by decide) hb), r2, ((((Blk.set r3 1 _).set 2 _).set 3 _).set 4 _).set 5 _, (Kept.ofBelow (ex := fun b => b = tb) r4).trans hkk (fun i _ e => e)⟩
end Go.Proofs.Ytcckhngbdoiikaa

namespace Go.Proofs.Ytcckhngbdoiikaa
open Go.RowKit Go.Deep
set_option linter.unusedVariables false

set_option maxRecDepth 20000 in
set_option maxHeartbeats 3200000 in
theorem close_any (tb pb : Nat) (kd : Nat → Nat) (g : Graph) (x : SavT) (w : World) (h : StreamAt w tb pb x false) (hL : LexAt w pb kd g) (ho : LexOk kd g) (h1 : x.en + x.tail.size + 0 ≤ 4000000) (h2 : x.at_ ≤ x.en) :
    Calls Try.prog 45 #[.pointer (some ⟨tb, 0, none⟩)] w fun e w' => ∃ v, e = .returned (.tuple #[v, .int .i64 0]) ∧ TokRow w' v (onF kd g x ⟨#[]⟩ true).1 ∧ (∀ b, v.ownBlock = some b → w.heap.size ≤ b) ∧ StreamAt w' tb pb (onF kd g x ⟨#[]⟩ true).2 true ∧ Kept (fun b => b = tb) w w' := by
  have HON := hide (fun (W : World) (hb : Below w.heap.size w W) => on_any pb kd g x ⟨#[]⟩ true W (hL.below hb) ho h1 h2)
  generalize onF kd g x ⟨#[]⟩ true = X at HON
  obtain ⟨toks, ya, ye, yr, ys, yt⟩ := X
  obtain ⟨xa, xe, xr, xs, xt⟩ := x
  simp only at h1 h2
  have c0 : w.cell? ⟨tb, 0, none⟩ = some (.pointer (some ⟨pb, 0, none⟩)) := h.cell 0
  have c1 : w.cell? ⟨tb, 1, none⟩ = some (.int .i64 (xa : Int)) := h.cell 1
  have c2 : w.cell? ⟨tb, 2, none⟩ = some (.int .i64 (xe : Int)) := h.cell 2
  have c3 : w.cell? ⟨tb, 3, none⟩ = some (.int .i64 xr) := h.cell 3
  have c4 : w.cell? ⟨tb, 4, none⟩ = some (.int .i64 xs) := h.cell 4
  have c5 : w.cell? ⟨tb, 5, none⟩ = some (.string xt) := h.cell 5
  have c6 : w.cell? ⟨tb, 6, none⟩ = some (.bool false) := h.cell 6
  have zt := h.lt
  have HS := hide h
  clear h hL ho
  go_enter Try.func45, Try.ntmps45
  have k0 := c0
  have k1 := c1
  have k2 := c2
  have k3 := c3
  have k4 := c4
  have k5 := c5
  have HS1 : Hid (StreamAt w tb pb ⟨xa, xe, xr, xs, xt⟩ false ∧ Below w.heap.size w w) := ⟨HS.out, Below.refl _ _⟩
  go_upto_region 3 with fail
  clear c0 c1 c2 c3 c4 c5 c6 HS
  have hd1 : Below w.heap.size w w.drew := Below_drew HS1.out.2
  have hd2 : Below w.heap.size w (w.drew.alloc (.cells sav0 84)) := hd1.alloc hd1.size _
  have HD1 := hide hd1
  have HD2 := hide hd2
  clear hd1 hd2
  go_cut [4, 5] (fun tv bv wx => ∃ sb, bv = .pointer (some ⟨sb, 0, none⟩) ∧ Blk wx sb (savC ⟨ya, ye, yr, ys, yt⟩) 84 ∧ TokRow wx tv toks ∧ (∀ b, tv.ownBlock = some b → w.heap.size ≤ b) ∧ StreamAt wx tb pb ⟨xa, xe, xr, xs, xt⟩ false ∧ Below w.heap.size w wx ∧ w.heap.size ≤ sb)
  case first =>
    go_region_with (go_at_call 66; refine (HON.out _ (by first | exact HD1.out | exact HD2.out)).mono ?_; rintro e w3 ⟨v, rfl, hT3, hv3, hb3⟩; try (have hq : Blk w3 w.heap.size sav0 84 := (Blk.new w.drew sav0 84).below hb3; have q0 := hq.cell 0; have q1 := hq.cell 1; have q2 := hq.cell 2; have q3 := hq.cell 3; have q4 := hq.cell 4; have f0 := hq.frozen 0; have f1 := hq.frozen 1; have f2 := hq.frozen 2; have f3 := hq.frozen 3; have f4 := hq.frozen 4))
    all_goals
      first
      | (have hbb : Below w.heap.size w w3 := HD1.out.trans (hb3.mono HD1.out.size)
         have hst : StreamAt w3 tb pb ⟨xa, xe, xr, xs, xt⟩ false := Blk.below (Blk.drew HS1.out.1) hb3
         have hvv : ∀ b, v.ownBlock = some b → w.heap.size ≤ b := fun b hb => Nat.le_trans HS1.out.2.size (hv3 b hb)
         have HH : Hid (Below w.heap.size w w3 ∧ StreamAt w3 tb pb ⟨xa, xe, xr, xs, xt⟩ false ∧ (∀ b, v.ownBlock = some b → w.heap.size ≤ b) ∧ TokRow w3 v toks) := ⟨hbb, hst, hvv, hT3⟩
         clear hbb hst hvv hb3 hv3 hT3 k0 k1 k2 k3 k4 k5
         go_wp2_with fail
         go_meet
         exact ⟨w3.heap.size, rfl, Blk.new _ _ _, HH.out.2.2.2.below (Below1 _ _), HH.out.2.2.1, Blk.alloc HH.out.2.1 _, HH.out.1.alloc HH.out.1.size _, HH.out.1.size⟩)
      | (have hbb : Below w.heap.size w w3 := HD2.out.trans (hb3.mono HD2.out.size)
         have hst : StreamAt w3 tb pb ⟨xa, xe, xr, xs, xt⟩ false := Blk.below (Blk.alloc (Blk.drew HS1.out.1) _) hb3
         have hz : w.heap.size ≤ w.heap.size := HS1.out.2.size
         have hvv : ∀ b, v.ownBlock = some b → w.heap.size < b := fun b hb => Nat.lt_of_succ_le (by have := hv3 b hb; simpa using this)
         have HH : Hid (Below w.heap.size w w3 ∧ StreamAt w3 tb pb ⟨xa, xe, xr, xs, xt⟩ false ∧ (∀ b, v.ownBlock = some b → w.heap.size < b) ∧ TokRow w3 v toks ∧ Blk w3 w.heap.size sav0 84) := ⟨hbb, hst, hvv, hT3, hq⟩
         clear hbb hst hvv hb3 hv3 hT3 k0 k1 k2 k3 k4 k5 q0 q1 q2 q3 q4 f0 f1 f2 f3 f4 hq
         go_wp2_with fail
         go_meet
         have hkk : Kept (fun b => b = w.heap.size) w3 (((((w3.setCell ⟨w.heap.size, 0, none⟩ (.int .i64 (ya : Int))).setCell ⟨w.heap.size, 1, none⟩ (.int .i64 (ye : Int))).setCell ⟨w.heap.size, 2, none⟩ (.int .i64 yr)).setCell ⟨w.heap.size, 3, none⟩ (.int .i64 ys)).setCell ⟨w.heap.size, 4, none⟩ (.string yt)) := ((((Kept.setCell (ex := fun b => b = w.heap.size) (p := ⟨w.heap.size, 0, none⟩) (Kept.refl _ _) (fun _ => rfl) _).setCell (p := ⟨w.heap.size, 1, none⟩) (fun _ => rfl) _).setCell (p := ⟨w.heap.size, 2, none⟩) (fun _ => rfl) _).setCell (p := ⟨w.heap.size, 3, none⟩) (fun _ => rfl) _).setCell (p := ⟨w.heap.size, 4, none⟩) (fun _ => rfl) _
         exact ⟨w.heap.size, rfl, ((((HH.out.2.2.2.2.set 0 _).set 1 _).set 2 _).set 3 _).set 4 _, HH.out.2.2.2.1.kept hkk (fun b hb e => by have := HH.out.2.2.1 b hb; omega), fun b hb => by have := HH.out.2.2.1 b hb; omega, Blk.kept HH.out.2.1 hkk (by omega), ((((HH.out.1.setCell (p := ⟨w.heap.size, 0, none⟩) hz _).setCell (p := ⟨w.heap.size, 1, none⟩) hz _).setCell (p := ⟨w.heap.size, 2, none⟩) hz _).setCell (p := ⟨w.heap.size, 3, none⟩) hz _).setCell (p := ⟨w.heap.size, 4, none⟩) hz _, hz⟩)
  case rest =>
    obtain ⟨sb, rfl, hSB, hTok, hOw, hStr, hBel, hsb⟩ := hcut
    clear k0 k1 k2 k3 k4 k5 HON HD1 HD2 HS1
    have s0 := hSB.cell 0
    have s1 := hSB.cell 1
    have s2 := hSB.cell 2
    have s3 := hSB.cell 3
    have s4 := hSB.cell 4
    have t1 : wc.cell? ⟨tb, 1, none⟩ = some (.int .i64 (xa : Int)) := hStr.cell 1
    have t2 : wc.cell? ⟨tb, 2, none⟩ = some (.int .i64 (xe : Int)) := hStr.cell 2
    have t3 : wc.cell? ⟨tb, 3, none⟩ = some (.int .i64 xr) := hStr.cell 3
    have t4 : wc.cell? ⟨tb, 4, none⟩ = some (.int .i64 xs) := hStr.cell 4
    have t5 : wc.cell? ⟨tb, 5, none⟩ = some (.string xt) := hStr.cell 5
    have g1 := hStr.frozen 1
    have g2 := hStr.frozen 2
    have g3 := hStr.frozen 3
    have g4 := hStr.frozen 4
    have g5 := hStr.frozen 5
    have t6 : wc.cell? ⟨tb, 6, none⟩ = some (.bool false) := hStr.cell 6
    have g6 := hStr.frozen 6
    have dne : tb ≠ sb := fun e => by
      subst e
      have := (hSB.one hStr).2
      revert this
      decide
    have ztc : tb < wc.heap.size := hStr.lt
    have zsc := hSB.lt
    have HC : Hid (TokRow wc u4 toks ∧ (∀ b, u4.ownBlock = some b → w.heap.size ≤ b) ∧ StreamAt wc tb pb ⟨xa, xe, xr, xs, xt⟩ false ∧ Below w.heap.size w wc) := ⟨hTok, hOw, hStr, hBel⟩
    clear hSB hTok hOw hStr hBel
    go_wp2_with fail
    go_ret2
    obtain ⟨r1, r2, r3, r4⟩ := HC.out
    have hkk : Kept (fun b => b = tb) wc ((((((wc.setCell ⟨tb, 1, none⟩ (.int .i64 (ya : Int))).setCell ⟨tb, 2, none⟩ (.int .i64 (ye : Int))).setCell ⟨tb, 3, none⟩ (.int .i64 yr)).setCell ⟨tb, 4, none⟩ (.int .i64 ys)).setCell ⟨tb, 5, none⟩ (.string yt)).setCell ⟨tb, 6, none⟩ (.bool true)) := (((((Kept.setCell (ex := fun b => b = tb) (p := ⟨tb, 1, none⟩) (Kept.refl _ _) (fun _ => rfl) _).setCell (p := ⟨tb, 2, none⟩) (fun _ => rfl) _).setCell (p := ⟨tb, 3, none⟩) (fun _ => rfl) _).setCell (p := ⟨tb, 4, none⟩) (fun _ => rfl) _).setCell (p := ⟨tb, 5, none⟩) (fun _ => rfl) _).setCell (p := ⟨tb, 6, none⟩) (fun _ => rfl) _
    refine ⟨u4, rfl, r1.kept hkk (fun b hb e => by subst e; exact ownsRow_ne r1 r3 (by decide) hb), r2, (((((Blk.set r3 1 _).set 2 _).set 3 _).set 4 _).set 5 _).set 6 _, (Kept.ofBelow (ex := fun b => b = tb) r4).trans hkk (fun i _ e => e)⟩
end Go.Proofs.Ytcckhngbdoiikaa

namespace Go.Proofs.Ytcckhngbdoiikaa
open Go.RowKit Go.Deep
set_option linter.unusedVariables false

set_option maxRecDepth 20000 in
set_option maxHeartbeats 1600000 in
theorem stands_any (l m : List TokT) (k : Nat) (lv mv : Value) (w : World) (h : TokRow w lv l) (hm : TokRow w mv m) (hk : k + l.length ≤ m.length) (he : (m.drop k).take l.length = l) (hml : m.length ≤ 4000000) :
    Calls Try.prog 44 #[lv, mv, .int .i64 (k : Int)] w fun e w' => e = .returned (.bool true) ∧ Below w.heap.size w w' := by
  obtain ⟨ld, lcap, rfl, hlrow⟩ := h.form
  obtain ⟨md, mcap, rfl, hmrow⟩ := hm.form
  have heq : ∀ i, (hi : i < l.length) → (hj : k + i < m.length) → l[i] = m[k + i] := fun i hi hj => by
    have h1 : l[i]? = ((m.drop k).take l.length)[i]? := by rw [he]
    rw [List.getElem?_eq_getElem hi, List.getElem?_take, if_pos hi, List.getElem?_drop, List.getElem?_eq_getElem hj] at h1
    exact Option.some.inj h1
  have HEQ := hide heq
  have HL := hide h
  have HM := hide hm
  have e0 : decide ((m.length : Int) < (k : Int) + (l.length : Int)) = false := by simp; omega
  have hne : ¬ m.length < k + l.length := by omega
  clear h hm he heq
  go_enter Try.func44, Try.ntmps44
  go_wp2_with fail
  go_loopg [7] l.length (fun G iv wr => ∃ i : Nat, iv = .int .i64 (i : Int) ∧ i ≤ l.length ∧ G = l.length - i ∧ Below w.heap.size w wr)
  case atStart => exact ⟨0, rfl, by omega, rfl, Below.refl _ _⟩
  case round =>
    obtain ⟨i, rfl, hi, rfl, hbw⟩ := hrel
    by_cases hlt : i < l.length
    · have e1 : decide ((i : Int) < (l.length : Int)) = true := by simp; omega
      rcases hlrow with h9 | ⟨lg, rfl⟩
      · omega
      rcases hmrow with h9 | ⟨mg, rfl⟩
      · omega
      have hki : k + i < m.length := by omega
      obtain ⟨g0, g1, g2⟩ := toksC_get l i hlt
      obtain ⟨f0, f1, f2⟩ := toksC_get m (k + i) hki
      rw [← HEQ.out i hlt hki] at f0 f1 f2
      have hT := HL.out.below hbw
      have hM := HM.out.below hbw
      have a0 := (ownsRow_cell hT (i * 3) (by omega)).trans g0
      have a1 := (ownsRow_cell hT (i * 3 + 1) (by omega)).trans g1
      have a2 := (ownsRow_cell hT (i * 3 + 2) (by omega)).trans g2
      have b0 := (ownsRow_cell hM ((k + i) * 3) (by omega)).trans f0
      have b1 := (ownsRow_cell hM ((k + i) * 3 + 1) (by omega)).trans f1
      have b2 := (ownsRow_cell hM ((k + i) * 3 + 2) (by omega)).trans f2
      generalize l[i] = t at a0 a1 a2 b0 b1 b2
      obtain ⟨tr, tf, tt⟩ := t
      simp only at a0 a1 a2 b0 b1 b2
      obtain ⟨j, hj⟩ : ∃ j : Nat, j = k + i := ⟨_, rfl⟩
      rw [← hj] at b0 b1 b2
      have hj2 : (k : Int) + (i : Int) = (j : Int) := by omega
      have i0 : (0 : Int) ≤ (i : Int) := by omega
      have i1 : (i : Int) < (l.length : Int) := by omega
      have j0 : (0 : Int) ≤ (j : Int) := by omega
      have j1 : (j : Int) < (m.length : Int) := by omega
      have HB := hide hbw
      have bj : IntKind.i64.wrap ((k : Int) + (i : Int)) = (j : Int) := (Go.IntWalk.i64_left _).trans (by rw [hj2]; unfold wrap64; omega)
      clear g0 g1 g2 f0 f1 f2 hT hM hbw hj
      go_wp2_with fail
      go_quiet (fail)
      clear bj hj2
      go_wp2_with fail
      go_roundg (l.length - (i + 1))
      case measure => omega
      case rel => exact ⟨i + 1, by go_num, by omega, rfl, Below_drewN HB.out _⟩
    · have e1 : decide ((i : Int) < (l.length : Int)) = false := by simp; omega
      have HB := hide hbw
      clear hbw
      go_wp2_with fail
      go_ret
      exact ⟨rfl, HB.out⟩

set_option maxRecDepth 20000 in
set_option maxHeartbeats 1600000 in
theorem opened_any (pb : Nat) (kd : Nat → Nat) (g : Graph) (w : World) (h : LexAt w pb kd g) (hf : LexFit kd g) :
    Calls Try.prog 42 #[.pointer (some ⟨pb, 0, none⟩)] w fun e w' => Below w.heap.size w w' ∧
      (((gapOf kd g).bounded = false ∧ e = .returned (.tuple #[.pointer none, .bool true])) ∨ ((gapOf kd g).bounded = true ∧ ∃ tb, e = .returned (.tuple #[.pointer (some ⟨tb, 0, none⟩), .bool true]) ∧ StreamAt w' tb pb (startS 0) false ∧ w.heap.size ≤ tb)) := by
  have HG := hide (fun (W : World) (hb : Below w.heap.size w W) => gap_any pb kd g W (h.below hb) hf)
  have HO := hide (fun (W : World) (hb : Below w.heap.size w W) => open_any pb kd g W (h.below hb) hf)
  clear h hf
  generalize gapOf kd g = X at HG HO
  obtain ⟨xb, xk, x1, x2, x3, x4, x5⟩ := X
  go_enter Try.func42, Try.ntmps42
  go_wp2_with fail
  refine (HG.out _ (Below.refl _ _)).mono ?_
  rintro e w1 ⟨rfl, hb1⟩
  obtain ⟨w2, hw2⟩ : ∃ w2 : World, w1.alloc (.cells #[.bool xb, .int .i64 (xk : Int), .string x1, .string x2, .string x3, .string x4, .string x5] 68) = w2 := ⟨_, rfl⟩
  have hb2 : Below w.heap.size w w2 := by rw [← hw2]; exact hb1.alloc hb1.size _
  have hB2 : Blk w2 w1.heap.size #[.bool xb, .int .i64 (xk : Int), .string x1, .string x2, .string x3, .string x4, .string x5] 68 := by rw [← hw2]; exact Blk.new _ _ _
  have HB2 := hide (And.intro hb2 hB2)
  clear hb1 hb2 hB2
  go_wp2_with fail
  try rw [hw2]
  clear hw2
  refine (HO.out _ HB2.out.1).mono ?_
  rintro e w3 ⟨hb3, hres⟩
  have hB3 := HB2.out.2.below hb3
  have c0 : w3.cell? ⟨w1.heap.size, 0, none⟩ = some (.bool xb) := hB3.cell 0
  have HB3 := hide (HB2.out.1.trans (hb3.mono HB2.out.1.size))
  have hz : w.heap.size ≤ w2.heap.size := HB2.out.1.size
  clear hb3 hB3 HB2
  rcases hres with ⟨rfl, rfl⟩ | ⟨rfl, tb, rfl, hS, hge⟩
  · go_wp2_with fail
    go_ret2
    exact ⟨HB3.out, rfl⟩
  · have HS := hide hS
    clear hS
    go_wp2_with fail
    go_ret2
    exact ⟨HB3.out, tb, rfl, HS.out, Nat.le_trans hz hge⟩
end Go.Proofs.Ytcckhngbdoiikaa

namespace Go.Proofs.Ytcckhngbdoiikaa
open Go.RowKit Go.Deep
set_option linter.unusedVariables false

/-- The pieces, as they came in. -/
structure PiecesAt (w : World) (v : Value) (ps : List ByteArray) : Prop where
  form : ∃ (ad : Option Addr) (cap : Nat), v = .slice ad ps.length cap ∧ (ps.length = 0 ∨ ∃ b off, ad = some ⟨b, off, none⟩ ∧ b < w.heap.size ∧ ∀ j, (h : j < ps.length) → w.cell? ⟨b, off + j, none⟩ = some (.string ps[j]))
  few : ps.length ≤ 1048576
  size : (ps.map ByteArray.size).sum ≤ 1048576
theorem PiecesAt.below {w w' : World} {v : Value} {ps : List ByteArray} (h : PiecesAt w v ps) (k : Below w.heap.size w w') : PiecesAt w' v ps := by
  obtain ⟨⟨ad, cap, rfl, hc⟩, h2, h3⟩ := h
  refine ⟨⟨ad, cap, rfl, ?_⟩, h2, h3⟩
  rcases hc with h0 | ⟨b, off, rfl, hlt, hc⟩
  · exact .inl h0
  · exact .inr ⟨b, off, rfl, by have := k.size; omega, fun j hj => (k.cell (p := ⟨b, _, none⟩) hlt).trans (hc j hj)⟩
/-- The first k of them, one behind the other. -/
def joinTo (ps : List ByteArray) : Nat → ByteArray
  | 0 => ⟨#[]⟩
  | k + 1 => joinTo ps k ++ ps.getD k ⟨#[]⟩
def joinB (ps : List ByteArray) : ByteArray := joinTo ps ps.length
theorem joinTo_size (ps : List ByteArray) : ∀ k, k ≤ ps.length → (joinTo ps k).size = ((ps.take k).map ByteArray.size).sum
  | 0, _ => rfl
  | k + 1, hk => by
    have hlt : k < ps.length := by omega
    unfold joinTo
    rw [ByteArray.size_append, joinTo_size ps k (by omega), List.take_succ_eq_append_getElem hlt, List.map_append, List.sum_append]
    simp [hlt]
theorem joinTo_le (ps : List ByteArray) (k : Nat) (hk : k ≤ ps.length) : (joinTo ps k).size ≤ (ps.map ByteArray.size).sum := by
  rw [joinTo_size ps k hk]
  have := congrArg List.sum (List.take_append_drop k (ps.map ByteArray.size))
  rw [List.sum_append, ← List.map_take] at this
  omega

set_option maxRecDepth 20000 in
set_option maxHeartbeats 1600000 in
theorem total_any (ps : List ByteArray) (v : Value) (w : World) (h : PiecesAt w v ps) :
    Calls Try.prog 41 #[v] w fun e w' => e = .returned (.string (joinB ps)) ∧ Below w.heap.size w w' := by
  obtain ⟨⟨pd, pcap, rfl, hcell⟩, hfew, hsize⟩ := h
  have HC := hide hcell
  clear hcell
  go_enter Try.func41, Try.ntmps41
  go_wp2_with fail
  go_loopg [3, 4] ps.length (fun G sv iv wr => ∃ i : Nat, sv = .string (joinTo ps i) ∧ iv = .int .i64 (i : Int) ∧ i ≤ ps.length ∧ G = ps.length - i ∧ Below w.heap.size w wr)
  case atStart => exact ⟨0, rfl, rfl, by omega, rfl, Below.refl _ _⟩
  case round =>
    obtain ⟨i, rfl, rfl, hi, rfl, hbw⟩ := hrel
    by_cases hlt : i < ps.length
    · have e0 : decide ((i : Int) < (ps.length : Int)) = true := by simp; omega
      rcases HC.out with h9 | ⟨pb, off, rfl, hpl, hc⟩
      · omega
      have c0 := (hbw.cell (p := ⟨pb, off + i, none⟩) hpl).trans (hc i hlt)
      have hs1 := joinTo_le ps i hi
      have hs2 := joinTo_le ps (i + 1) (by omega)
      have hnx : joinTo ps (i + 1) = joinTo ps i ++ ps[i] := by show joinTo ps i ++ ps.getD i ⟨#[]⟩ = _; simp [hlt]
      rw [hnx, ByteArray.size_append] at hs2
      have HNX := hide hnx
      have HB := hide hbw
      generalize ps[i] = p at c0 hs2 HNX
      generalize joinTo ps i = t at hs1 hs2 HNX
      have u1 : ∀ W : World, (Op.stringOp .add t p).run Try.prog W = .ok (.string (t ++ p)) W := fun W => run_string_add_sum W _ _ (by omega)
      have i0 : (0 : Int) ≤ (i : Int) := by omega
      have i1 : (i : Int) < (ps.length : Int) := by omega
      clear hnx hbw hc
      go_wp2_with fail
      go_roundg (ps.length - (i + 1))
      case measure => omega
      case rel => exact ⟨i + 1, by rw [HNX.out], by go_num, by omega, rfl, HB.out⟩
    · have e0 : decide ((i : Int) < (ps.length : Int)) = false := by simp; omega
      obtain rfl : i = ps.length := by omega
      have HB := hide hbw
      clear hbw
      go_wp2_with fail
      go_ret
      exact ⟨rfl, HB.out⟩
end Go.Proofs.Ytcckhngbdoiikaa
