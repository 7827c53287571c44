import Derived.Test.YtcckhngbdoiikaaM33
import Derived.Test.YtcckhngbdoiikaaM27
import Derived.Test.YtcckhngbdoiikaaM31
import Derived.Deep.RegionHeld3
import Derived.IntWalk
import Derived.Test.YtcckhngbdoiikaaM34
import Derived.Test.YtcckhngbdoiikaaM32

namespace Go.Proofs.Ytcckhngbdoiikaa
open Go.RowKit Go.Deep
set_option linter.unusedVariables false

theorem bytesN_get (s : ByteArray) (p : Nat) (h : p < s.size) (h9 : p < (bytesN s).length) : (bytesN s)[p] = s[p].toNat := by
  have e : (bytesN s)[p]? = some s[p].toNat := by
    show (s.data.toList.map UInt8.toNat)[p]? = _
    rw [List.getElem?_map, Array.getElem?_toList, Array.getElem?_eq_getElem h]
    rfl
  rw [List.getElem?_eq_getElem h9] at e
  exact Option.some.inj e
/-- All that stood in W but in block x stands in w'. -/
def OldBut (W : World) (x : Nat) (w' : World) : Prop := ∀ b o, b < W.heap.size → b ≠ x → w'.cell? ⟨b, o, none⟩ = W.cell? ⟨b, o, none⟩
theorem OldBut.drew (W : World) (x : Nat) : OldBut W x W.drew := fun b o _ _ => rfl
theorem OldBut.st {W : World} {x : Nat} {w' : World} (h : OldBut W x w') (c : Nat) (v : Value) : OldBut W x (w'.setCell ⟨x, c, none⟩ v) := fun b o hp hne => (World.cell?_setCell_far w' ⟨x, c, none⟩ ⟨b, o, none⟩ v (fun e => hne e.symm)).trans (h b o hp hne)

set_option maxRecDepth 20000 in
set_option maxHeartbeats 800000 in
theorem find_leaf (c : MemoC) (n : Nat) (hn : n < c.all.length) (x : NodeT) (hx : c.all.getD n nodeD = x) (hk4 : x.kind < 4) (htr : c.tr n = .leaf x.kind x.a x.b)  (A : Nat → Prop) (w : World) (p : Nat) (hA : ∀ b, A b → b < w.heap.size) (hm : Memo c A w) (hp : p ≤ c.s.size) (hs : c.s.size ≤ 50000) :
    Calls Try.prog 91 #[.pointer (some ⟨c.wb, 0, none⟩), .int .i64 (n : Int), .int .i64 (p : Int)] w (RowOut c A w (rowT (bytesN c.s) (c.tr n) p)) := by
  obtain ⟨ad, acap, hav, harow⟩ := hm.nodes.form
  rcases harow with h0 | ⟨ag, rfl⟩
  · omega
  have hnd : NodeRow w (.slice (some ⟨ag, 0, none⟩) c.all.length acap) c.all := by have := hm.nodes; rw [hav] at this; exact this
  have s0 : w.cell? ⟨c.wb, 0, none⟩ = some (.slice (some ⟨ag, 0, none⟩) c.all.length acap) := by rw [← hav]; exact hm.blk.cell 0
  have s2 : w.cell? ⟨c.wb, 2, none⟩ = some (.string c.s) := hm.blk.cell 2
  have cA := fun k hk => hnd.cell n k hn hk
  rw [hx] at cA
  obtain ⟨xk, xa, xb, xl, xr, xt, xp⟩ := x
  simp only at hk4 htr
  have a0 := cA 0 (by omega)
  have a1 := cA 1 (by omega)
  have a2 := cA 2 (by omega)
  have a3 := cA 3 (by omega)
  have a4 := cA 4 (by omega)
  have a5 := cA 5 (by omega)
  have a6 := cA 6 (by omega)
  simp only [nodesC, List.getElem?_cons_zero, List.getElem?_cons_succ, Nat.add_zero] at a0 a1 a2 a3 a4 a5 a6
  have n0 : (0 : Int) ≤ (n : Int) := by omega
  have n1 : (n : Int) < (c.all.length : Int) := by omega
  have hm1 : Memo c A (w.alloc (.cells (nodeC ⟨xk, xa, xb, xl, xr, xt, xp⟩) 114)) := hm.below (Below1 _ _)
  have hA1 : ∀ b, A b → b < (w.alloc (.cells (nodeC ⟨xk, xa, xb, xl, xr, xt, xp⟩) 114)).heap.size := fun b hb => by have := hA b hb; simp; omega
  have HM1 := hide hm1
  have HA1 := hide hA1
  have HK1 : Hid (Kept c.M w (w.alloc (.cells (nodeC ⟨xk, xa, xb, xl, xr, xt, xp⟩) 114))) := hide ((Kept.refl _ _).alloc _)
  have HB1 := hide (Blk.new w (nodeC ⟨xk, xa, xb, xl, xr, xt, xp⟩) 114)
  have HAA := hide hA
  have hN2 : c.N ≤ 50001 := by unfold MemoC.N; omega
  have hN1 : (c.s.size : Int) + 1 = (c.N : Int) := by unfold MemoC.N; omega
  have hmk := makeBools c.N (by omega)
  have zwb : c.wb < w.heap.size := hm.blk.lt
  have hm2 : Memo c (fun b => A b ∨ b = w.heap.size + 1) ((w.alloc (.cells (nodeC ⟨xk, xa, xb, xl, xr, xt, xp⟩) 114)).alloc (.cells (boolsA (List.replicate c.N false)) 4)) := by
    have h9 := hm1.fresh.below (Below1 _ (.cells (boolsA (List.replicate c.N false)) 4))
    simpa using h9
  have hA2 : ∀ b, (A b ∨ b = w.heap.size + 1) → b < ((w.alloc (.cells (nodeC ⟨xk, xa, xb, xl, xr, xt, xp⟩) 114)).alloc (.cells (boolsA (List.replicate c.N false)) 4)).heap.size := fun b hb => by
    rcases hb with e | e
    · have := hA b e; simp; omega
    · simp; omega
  have HM2 := hide hm2
  have HA2 := hide hA2
  have HK2 : Hid (Kept c.M w ((w.alloc (.cells (nodeC ⟨xk, xa, xb, xl, xr, xt, xp⟩) 114)).alloc (.cells (boolsA (List.replicate c.N false)) 4))) := hide (((Kept.refl _ _).alloc _).alloc _)
  have HB2 := hide (Blk.at1 w (.cells (nodeC ⟨xk, xa, xb, xl, xr, xt, xp⟩) 114) (boolsA (List.replicate c.N false)) 4)
  have HB3 := hide ((Blk.new w (nodeC ⟨xk, xa, xb, xl, xr, xt, xp⟩) 114).alloc (.cells (boolsA (List.replicate c.N false)) 4))
  have HT := hide htr
  have HFACT : Hid (Memo c (fun b => A b ∨ b = w.heap.size + 1) ((w.alloc (.cells (nodeC ⟨xk, xa, xb, xl, xr, xt, xp⟩) 114)).alloc (.cells (boolsA (List.replicate c.N false)) 4)) ∧ Blk ((w.alloc (.cells (nodeC ⟨xk, xa, xb, xl, xr, xt, xp⟩) 114)).alloc (.cells (boolsA (List.replicate c.N false)) 4)) w.heap.size (nodeC ⟨xk, xa, xb, xl, xr, xt, xp⟩) 114 ∧ Blk ((w.alloc (.cells (nodeC ⟨xk, xa, xb, xl, xr, xt, xp⟩) 114)).alloc (.cells (boolsA (List.replicate c.N false)) 4)) (w.heap.size + 1) (boolsA (List.replicate c.N false)) 4 ∧ Kept c.M w ((w.alloc (.cells (nodeC ⟨xk, xa, xb, xl, xr, xt, xp⟩) 114)).alloc (.cells (boolsA (List.replicate c.N false)) 4)) ∧ True) := ⟨hm2, HB3.out, HB2.out, HK2.out, trivial⟩
  clear htr hm2 hA2 HB3 HB2 HK2 HM2 HA2
  clear cA hm hm1 hA1 hnd hA hx hav
  have k4 : ((xk : Int) == 4) = false := by simp; omega
  have k5 : ((xk : Int) == 5) = false := by simp; omega
  have k6 : ((xk : Int) == 6) = false := by simp; omega
  have k7 : ((xk : Int) == 7) = false := by simp; omega
  have k8 : ((xk : Int) == 8) = false := by simp; omega
  by_cases hpl : p < c.s.size
  · have e0 : decide ((p : Int) < (c.s.size : Int)) = true := by simp; omega
    go_enter Try.func91, Try.ntmps91
    obtain ⟨wx, hwx⟩ : ∃ wx : World, wx = ((w.alloc (.cells (nodeC ⟨xk, xa, xb, xl, xr, xt, xp⟩) 114)).alloc (.cells (boolsA (List.replicate c.N false)) 4)) := ⟨_, rfl⟩
    have HF := HFACT.out
    rw [← hwx] at HF
    obtain ⟨f1, f2, f3, f4, f5⟩ := HF
    have y2 : wx.cell? ⟨c.wb, 2, none⟩ = some (.string c.s) := f1.blk.cell 2
    have x0 : wx.cell? ⟨w.heap.size, 0, none⟩ = some (.int .i64 (xk : Int)) := f2.cell 0
    have x1 : wx.cell? ⟨w.heap.size, 1, none⟩ = some (.int .i64 (xa : Int)) := f2.cell 1
    have x2 : wx.cell? ⟨w.heap.size, 2, none⟩ = some (.int .i64 (xb : Int)) := f2.cell 2
    have x3 : wx.cell? ⟨w.heap.size, 3, none⟩ = some (.int .i64 (xl : Int)) := f2.cell 3
    have x4 : wx.cell? ⟨w.heap.size, 4, none⟩ = some (.int .i64 (xr : Int)) := f2.cell 4
    have x5 : wx.cell? ⟨w.heap.size, 5, none⟩ = some (.string xt) := f2.cell 5
    have x6 : wx.cell? ⟨w.heap.size, 6, none⟩ = some (.int .i64 (xp : Int)) := f2.cell 6
    have hpN : p + 1 < c.N := by unfold MemoC.N; omega
    have o1 : wx.cell? ⟨w.heap.size + 1, p + 1, none⟩ = some (.bool false) := by rw [boolsA_cellD f3 (p + 1) (by simp; exact hpN)]; simp [hpN]
    have o2 : wx.frozen? ⟨w.heap.size + 1, p + 1, none⟩ = false := f3.frozen (p + 1)
    have zx : w.heap.size + 1 < wx.heap.size := f3.lt
    have hbyte := c.s[p].toNat_lt
    have hwb : wrap64 ((c.s[p].toNat : Nat) : Int) = ((c.s[p].toNat : Nat) : Int) := wrap64_small _ (by omega) (by omega)
    have hwi : IntKind.i64.wrap ((c.s[p].toNat : Nat) : Int) = ((c.s[p].toNat : Nat) : Int) := (Go.IntWalk.i64_left _).trans hwb
    have hval : ∀ h9 : p < (bytesN c.s).length, (bytesN c.s)[p] = c.s[p].toNat := fun h9 => bytesN_get c.s p hpl h9
    have p0 : (0 : Int) ≤ (p : Int) := by omega
    have p1 : (p : Int) < (c.s.size : Int) := by omega
    have p2 : (0 : Int) ≤ (p : Int) + 1 := by omega
    have p3 : (p : Int) + 1 < (c.N : Int) := by omega
    have hw3 : IntKind.i64.wrap ((p : Int) + 1) = (p : Int) + 1 := (Go.IntWalk.i64_left _).trans (by unfold wrap64; omega)
    have hne1 : c.wb ≠ w.heap.size + 1 := by omega
    have HS : Hid (∀ w', OldBut wx (w.heap.size + 1) w' → (w'.cell? ⟨c.wb, 2, none⟩ = some (.string c.s) ∧ w'.cell? ⟨w.heap.size, 0, none⟩ = some (.int .i64 (xk : Int)) ∧ w'.cell? ⟨w.heap.size, 1, none⟩ = some (.int .i64 (xa : Int)) ∧ w'.cell? ⟨w.heap.size, 2, none⟩ = some (.int .i64 (xb : Int)) ∧ w'.cell? ⟨w.heap.size, 3, none⟩ = some (.int .i64 (xl : Int)) ∧ w'.cell? ⟨w.heap.size, 4, none⟩ = some (.int .i64 (xr : Int)) ∧ w'.cell? ⟨w.heap.size, 5, none⟩ = some (.string xt) ∧ w'.cell? ⟨w.heap.size, 6, none⟩ = some (.int .i64 (xp : Int)))) :=
      hide (fun w' ho => ⟨(ho _ _ (by omega) hne1).trans y2, (ho _ _ (by omega) (by omega)).trans x0, (ho _ _ (by omega) (by omega)).trans x1, (ho _ _ (by omega) (by omega)).trans x2, (ho _ _ (by omega) (by omega)).trans x3, (ho _ _ (by omega) (by omega)).trans x4, (ho _ _ (by omega) (by omega)).trans x5, (ho _ _ (by omega) (by omega)).trans x6⟩)
    have HF : Hid (Memo c (fun b => A b ∨ b = w.heap.size + 1) wx ∧ Blk wx (w.heap.size + 1) (boolsA (List.replicate c.N false)) 4 ∧ Kept c.M w wx) := ⟨f1, f3, f4⟩
    have HV := hide hval
    have hwx' := hwx.symm
    clear f1 f2 f3 f4 f5 hval HFACT hwx
    go_wp2_with fail
    clear hwx' s0 s2 a0 a1 a2 a3 a4 a5 a6 hmk n0 n1 k4 k5 k6 k7 k8 e0
    have HAM : Hid (∀ W, Calls Try.prog 121 #[.agg #[.int .i64 (xk : Int), .int .i64 (xa : Int), .int .i64 (xb : Int), .int .i64 (xl : Int), .int .i64 (xr : Int), .string xt, .int .i64 (xp : Int)], .int .i64 ((c.s[p].toNat : Nat) : Int)] W fun e w' => e = .returned (.bool (leafA xk xa xb c.s[p].toNat)) ∧ Below W.heap.size W w') := hide (fun W => allows_any ⟨xk, xa, xb, xl, xr, xt, xp⟩ c.s[p].toNat W)
    clear hk4
    have haft : ∀ w3, Below wx.drew.heap.size wx.drew w3 → (w3.cell? ⟨c.wb, 2, none⟩ = some (.string c.s) ∧ w3.cell? ⟨w.heap.size, 0, none⟩ = some (.int .i64 (xk : Int)) ∧ w3.cell? ⟨w.heap.size, 1, none⟩ = some (.int .i64 (xa : Int)) ∧ w3.cell? ⟨w.heap.size, 2, none⟩ = some (.int .i64 (xb : Int)) ∧ w3.cell? ⟨w.heap.size, 3, none⟩ = some (.int .i64 (xl : Int)) ∧ w3.cell? ⟨w.heap.size, 4, none⟩ = some (.int .i64 (xr : Int)) ∧ w3.cell? ⟨w.heap.size, 5, none⟩ = some (.string xt) ∧ w3.cell? ⟨w.heap.size, 6, none⟩ = some (.int .i64 (xp : Int))) ∧ OldBut wx (w.heap.size + 1) w3 ∧ w3.cell? ⟨w.heap.size + 1, p + 1, none⟩ = some (.bool false) ∧ w3.frozen? ⟨w.heap.size + 1, p + 1, none⟩ = false := fun w3 hb3 => by
      have hob : OldBut wx (w.heap.size + 1) w3 := fun b o hb _ => hb3.cell (p := ⟨b, o, none⟩) hb
      exact ⟨HS.out _ hob, hob, (hb3.cell (p := ⟨w.heap.size + 1, p + 1, none⟩) zx).trans o1, (hb3.frozen (p := ⟨w.heap.size + 1, p + 1, none⟩) zx).trans o2⟩
    have HAFT := hide haft
    clear haft
    have HOS0 := HS.out _ (OldBut.drew wx (w.heap.size + 1))
    go_region_held3 (fun w' => w'.cell? ⟨c.wb, 2, none⟩ = some (.string c.s) ∧ w'.cell? ⟨w.heap.size, 0, none⟩ = some (.int .i64 (xk : Int)) ∧ w'.cell? ⟨w.heap.size, 1, none⟩ = some (.int .i64 (xa : Int)) ∧ w'.cell? ⟨w.heap.size, 2, none⟩ = some (.int .i64 (xb : Int)) ∧ w'.cell? ⟨w.heap.size, 3, none⟩ = some (.int .i64 (xl : Int)) ∧ w'.cell? ⟨w.heap.size, 4, none⟩ = some (.int .i64 (xr : Int)) ∧ w'.cell? ⟨w.heap.size, 5, none⟩ = some (.string xt) ∧ w'.cell? ⟨w.heap.size, 6, none⟩ = some (.int .i64 (xp : Int)))
      (first | with_reducible exact HOS0 | with_reducible exact HOS | with_reducible exact HS.out _ (OldBut.st HOB _ _))
      (first | (go_at_call 121; with_reducible refine (HAM.out _).mono ?_; rintro e w3 ⟨rfl, hb3⟩; obtain ⟨HOS, HOB, o1', o2'⟩ := HAFT.out w3 hb3))
    go_wp2_with fail
    go_ret
    obtain ⟨f1, f3, f4⟩ := HF.out
    have hb4 : Below wx.heap.size wx w3 := ⟨hb3.os, hb3.tape, hb3.output, hb3.size, hb3.block⟩
    have hB3 := f3.below hb4
    have hrow : (List.replicate c.N false).set (p + 1) (leafA xk xa xb c.s[p].toNat) = rowT (bytesN c.s) (c.tr n) p := rowW_ext (by simp [bytesN_len]; rfl) fun q hq => by
      rw [getD_setB _ _ _ _ (by simp; exact hpN), HT.out, ends_leaf]
      rw [bytesN_len] at hq
      split
      · rename_i e
        constructor
        · intro h; exact ⟨by rw [bytesN_len]; exact hpl, e, by rw [HV.out (by rw [bytesN_len]; exact hpl)]; exact h⟩
        · rintro ⟨h1, h2, h3⟩; rw [HV.out h1] at h3; exact h3
      · rename_i e
        constructor
        · intro h; simp [MemoC.ltN.2 hq] at h
        · rintro ⟨h1, h2, h3⟩; exact absurd h2 e
    refine ⟨w.heap.size + 1, rfl, fun e => by have := HAA.out _ e; omega, ?_, ((f1.below hb4).keptA (Kept.setCell (ex := fun x => x = w.heap.size + 1) (p := ⟨w.heap.size + 1, p + 1, none⟩) (Kept.refl _ _) (fun _ => rfl) _) (.inr rfl) hB3).weak (fun b e => .inl e), ?_⟩
    · have h6 := BRow.ofBlk (l := (List.replicate c.N false).set (p + 1) (leafA xk xa xb c.s[p].toNat)) (by rw [← boolsA_set]; exact hB3.set (p + 1) _) (by simp; omega)
      rw [hrow, rowT_len] at h6
      exact h6
    · exact (f4.trans (Kept.ofBelow (ex := fun _ => False) hb4) (fun i _ e => False.elim e)).setCell (p := ⟨w.heap.size + 1, p + 1, none⟩) (fun e => by simp at e; omega) _
  · have e0 : decide ((p : Int) < (c.s.size : Int)) = false := by simp; omega
    go_enter Try.func91, Try.ntmps91
    go_wp2_with fail
    go_ret
    obtain ⟨f1, f2, f3, f4, _⟩ := HFACT.out
    have hrow : List.replicate c.N false = rowT (bytesN c.s) (c.tr n) p := rowW_ext (by simp [bytesN_len]; rfl) fun q hq => by
      rw [HT.out, ends_leaf]
      rw [bytesN_len] at hq
      constructor
      · intro h; simp [MemoC.ltN.2 hq] at h
      · rintro ⟨h1, h2, h3⟩; rw [bytesN_len] at h1; omega
    refine ⟨w.heap.size + 1, rfl, fun e => by have := HAA.out _ e; omega, ?_, f1.weak (fun b e => .inl e), f4⟩
    have h6 := BRow.ofBlk f3 (by simp; omega)
    have e6 : (List.replicate c.N false).length = c.N := by simp
    rw [e6] at h6
    rw [← hrow]
    exact h6

/-- What a node has to do with its tree. -/
def NodeFits (c : MemoC) (n : Nat) : Prop := ∃ x, c.all.getD n nodeD = x ∧ ((x.kind = 4 ∧ x.l < n ∧ x.r < n ∧ c.tr n = .row (c.tr x.l) (c.tr x.r)) ∨ (x.kind = 5 ∧ x.l < n ∧ x.r < n ∧ c.tr n = .or (c.tr x.l) (c.tr x.r)) ∨ (x.kind = 6 ∧ x.l < n ∧ c.tr n = .star (c.tr x.l)) ∨ (x.kind = 7 ∧ x.l < n ∧ c.tr n = .plus (c.tr x.l)) ∨ (x.kind = 8 ∧ x.l < n ∧ c.tr n = .maybe (c.tr x.l)) ∨ (x.kind < 4 ∧ c.tr n = .leaf x.kind x.a x.b))
theorem overs (c : MemoC) (hs : c.s.size ≤ 50000) (hf : ∀ n, n < c.all.length → NodeFits c n) (n : Nat) (hn : n < c.all.length) : OverC c n := by
  induction n using Nat.strongRecOn with
  | ind n ih =>
    refine over_any c n hn ?_
    obtain ⟨x, hx, h⟩ := hf n hn
    intro A w p hA hm hp
    rcases h with ⟨h1, h2, h3, h4⟩ | ⟨h1, h2, h3, h4⟩ | ⟨h1, h2, h4⟩ | ⟨h1, h2, h4⟩ | ⟨h1, h2, h4⟩ | ⟨h1, h4⟩
    · exact find_row c n hn x hx h1 h4 (ih _ h2 (by omega)) (ih _ h3 (by omega)) A w p hA hm hp hs
    · exact find_or c n hn x hx h1 h4 (ih _ h2 (by omega)) (ih _ h3 (by omega)) A w p hA hm hp hs
    · exact find_star c n hn x hx h1 h4 (ih _ h2 (by omega)) A w p hA hm hp hs
    · exact find_plus c n hn x hx h1 h4 (ih _ h2 (by omega)) A w p hA hm hp hs
    · exact find_maybe c n hn x hx h1 h4 (ih _ h2 (by omega)) A w p hA hm hp hs
    · exact find_leaf c n hn x hx h1 h4 A w p hA hm hp hs
end Go.Proofs.Ytcckhngbdoiikaa

namespace Go.Proofs.Ytcckhngbdoiikaa
set_option linter.unusedVariables false

def treeD : Tree := .leaf 0 0 0
def stepTree (trs : List Tree) (tops : List Nat) (o : OpT) : Tree :=
  if (kindF o = 4 ∨ kindF o = 5) ∧ 1 < tops.length then
    (if kindF o = 4 then .row (trs.getD (tops.getD (tops.length - 2) 0) treeD) (trs.getD (tops.getD (tops.length - 1) 0) treeD) else .or (trs.getD (tops.getD (tops.length - 2) 0) treeD) (trs.getD (tops.getD (tops.length - 1) 0) treeD))
  else if 6 ≤ kindF o ∧ 0 < tops.length then
    (if kindF o = 6 then .star (trs.getD (tops.getD (tops.length - 1) 0) treeD) else if kindF o = 7 then .plus (trs.getD (tops.getD (tops.length - 1) 0) treeD) else .maybe (trs.getD (tops.getD (tops.length - 1) 0) treeD))
  else leafTree o
/-- One node and its tree. -/
structure NFit (all : List NodeT) (trs : List Tree) (n : Nat) : Prop where
  text : (all.getD n nodeD).text = bytesOf (trs.getD n treeD).spell
  places : (all.getD n nodeD).places = (trs.getD n treeD).places
  ok : (trs.getD n treeD).ok
  form : let x := all.getD n nodeD; (x.kind = 4 ∧ x.l < n ∧ x.r < n ∧ trs.getD n treeD = .row (trs.getD x.l treeD) (trs.getD x.r treeD)) ∨ (x.kind = 5 ∧ x.l < n ∧ x.r < n ∧ trs.getD n treeD = .or (trs.getD x.l treeD) (trs.getD x.r treeD)) ∨ (x.kind = 6 ∧ x.l < n ∧ trs.getD n treeD = .star (trs.getD x.l treeD)) ∨ (x.kind = 7 ∧ x.l < n ∧ trs.getD n treeD = .plus (trs.getD x.l treeD)) ∨ (x.kind = 8 ∧ x.l < n ∧ trs.getD n treeD = .maybe (trs.getD x.l treeD)) ∨ (x.kind < 4 ∧ trs.getD n treeD = .leaf x.kind x.a x.b)
theorem getD_appT {l : List Tree} {x : Tree} {k : Nat} (h : k < l.length) : (l ++ [x]).getD k treeD = l.getD k treeD := by
  rw [List.getD_eq_getElem?_getD, List.getElem?_append_left h, ← List.getD_eq_getElem?_getD]
theorem NFit.push {all : List NodeT} {trs : List Tree} {n : Nat} (h : NFit all trs n) (ha : n < all.length) (ht : n < trs.length) (x : NodeT) (t : Tree) : NFit (all ++ [x]) (trs ++ [t]) n := by
  obtain ⟨h1, h2, h3, h4⟩ := h
  refine ⟨?_, ?_, ?_, ?_⟩
  · rw [getD_app ha, getD_appT ht]; exact h1
  · rw [getD_app ha, getD_appT ht]; exact h2
  · rw [getD_appT ht]; exact h3
  · simp only at h4 ⊢
    rw [getD_app ha, getD_appT ht]
    rcases h4 with ⟨a, b, c, d⟩ | ⟨a, b, c, d⟩ | ⟨a, b, d⟩ | ⟨a, b, d⟩ | ⟨a, b, d⟩ | ⟨a, d⟩
    · exact .inl ⟨a, b, c, by rw [getD_appT (by omega), getD_appT (by omega)]; exact d⟩
    · exact .inr (.inl ⟨a, b, c, by rw [getD_appT (by omega), getD_appT (by omega)]; exact d⟩)
    · exact .inr (.inr (.inl ⟨a, b, by rw [getD_appT (by omega)]; exact d⟩))
    · exact .inr (.inr (.inr (.inl ⟨a, b, by rw [getD_appT (by omega)]; exact d⟩)))
    · exact .inr (.inr (.inr (.inr (.inl ⟨a, b, by rw [getD_appT (by omega)]; exact d⟩))))
    · exact .inr (.inr (.inr (.inr (.inr ⟨a, d⟩))))
theorem leafN_fit (o : OpT) : (leafN o).text = bytesOf (leafTree o).spell ∧ (leafN o).places = (leafTree o).places ∧ (leafTree o).ok ∧ (leafN o).kind < 4 ∧ leafTree o = .leaf (leafN o).kind (leafN o).a (leafN o).b := by
  have la := pickF_lt o.a 256 (by omega)
  have lb := pickF_lt o.b 256 (by omega)
  unfold leafN leafTree
  split
  · refine ⟨rfl, rfl, ⟨by omega, by omega, fun h => by omega⟩, by simp, rfl⟩
  · split
    · refine ⟨rfl, rfl, ⟨by unfold loF; omega, by unfold hiF; omega, fun _ => by unfold loF hiF; omega⟩, by simp, rfl⟩
    · split
      · refine ⟨rfl, rfl, ⟨by unfold loF; omega, by unfold hiF; omega, fun _ => by unfold loF hiF; omega⟩, by simp, rfl⟩
      · refine ⟨rfl, rfl, ⟨by omega, by omega, fun h => by omega⟩, by simp, rfl⟩
theorem lit (l : List Nat) : (⟨(l.map UInt8.ofNat).toArray⟩ : ByteArray) = bytesOf l := rfl
theorem kindF_lt (o : OpT) : kindF o < 9 := pickF_lt o.kind 9 (by omega)

theorem NFit.last {all : List NodeT} {trs : List Tree} (hl : trs.length = all.length) (x : NodeT) (t : Tree) (h1 : x.text = bytesOf t.spell) (h2 : x.places = t.places) (h3 : t.ok)
    (h4 : (x.kind = 4 ∧ x.l < all.length ∧ x.r < all.length ∧ t = .row (trs.getD x.l treeD) (trs.getD x.r treeD)) ∨ (x.kind = 5 ∧ x.l < all.length ∧ x.r < all.length ∧ t = .or (trs.getD x.l treeD) (trs.getD x.r treeD)) ∨ (x.kind = 6 ∧ x.l < all.length ∧ t = .star (trs.getD x.l treeD)) ∨ (x.kind = 7 ∧ x.l < all.length ∧ t = .plus (trs.getD x.l treeD)) ∨ (x.kind = 8 ∧ x.l < all.length ∧ t = .maybe (trs.getD x.l treeD)) ∨ (x.kind < 4 ∧ t = .leaf x.kind x.a x.b)) :
    NFit (all ++ [x]) (trs ++ [t]) all.length := by
  have e1 : (all ++ [x]).getD all.length nodeD = x := by simp
  have e2 : (trs ++ [t]).getD all.length treeD = t := by rw [← hl]; simp
  refine ⟨by rw [e1, e2]; exact h1, by rw [e1, e2]; exact h2, by rw [e2]; exact h3, ?_⟩
  simp only
  rw [e1, e2]
  rcases h4 with ⟨a, b, c, d⟩ | ⟨a, b, c, d⟩ | ⟨a, b, d⟩ | ⟨a, b, d⟩ | ⟨a, b, d⟩ | ⟨a, d⟩
  · exact .inl ⟨a, b, c, by rw [getD_appT (by omega), getD_appT (by omega)]; exact d⟩
  · exact .inr (.inl ⟨a, b, c, by rw [getD_appT (by omega), getD_appT (by omega)]; exact d⟩)
  · exact .inr (.inr (.inl ⟨a, b, by rw [getD_appT (by omega)]; exact d⟩))
  · exact .inr (.inr (.inr (.inl ⟨a, b, by rw [getD_appT (by omega)]; exact d⟩)))
  · exact .inr (.inr (.inr (.inr (.inl ⟨a, b, by rw [getD_appT (by omega)]; exact d⟩))))
  · exact .inr (.inr (.inr (.inr (.inr ⟨a, d⟩))))
/-- The node that a step makes fits the tree that it makes. -/
theorem stepNode_fit {i : Nat} {st : List NodeT × List Nat} {trs : List Tree} (h : BInv i st) (hl : trs.length = st.1.length) (hf : ∀ n, n < st.1.length → NFit st.1 trs n) (o : OpT) :
    NFit (st.1 ++ [(stepNode st.1 st.2 o).1]) (trs ++ [stepTree trs st.2 o]) st.1.length := by
  have hk := kindF_lt o
  have htp : ∀ k, k < st.2.length → st.2.getD k 0 < st.1.length := fun k hk => h.tops _ (by simp [hk])
  have g40 : (⟨#[40]⟩ : ByteArray) = bytesOf [40] := rfl
  have g41 : (⟨#[41]⟩ : ByteArray) = bytesOf [41] := rfl
  have g0 : (⟨#[]⟩ : ByteArray) = bytesOf [] := rfl
  have g124 : (⟨#[124]⟩ : ByteArray) = bytesOf [124] := rfl
  have g42 : (⟨#[42]⟩ : ByteArray) = bytesOf [42] := rfl
  have g43 : (⟨#[43]⟩ : ByteArray) = bytesOf [43] := rfl
  have g63 : (⟨#[63]⟩ : ByteArray) = bytesOf [63] := rfl
  unfold stepNode stepTree
  split
  · rename_i hA
    have t1 := htp (st.2.length - 2) (by omega)
    have t2 := htp (st.2.length - 1) (by omega)
    have f1 := hf _ t1
    have f2 := hf _ t2
    simp only
    generalize st.2.getD (st.2.length - 2) 0 = a at *
    generalize st.2.getD (st.2.length - 1) 0 = b at *
    rcases hA.1 with k | k
    · rw [k]
      simp only [if_true, show ¬ (4 = 5) by omega, if_false]
      refine NFit.last hl _ _ ?_ ?_ ⟨f1.ok, f2.ok⟩ (.inl ⟨rfl, t1, t2, rfl⟩)
      · simp only [f1.text, f2.text, g40, g41, g0, bytesOf_append, Tree.spell, List.append_nil]
      · simp only [Tree.places, f1.places, f2.places]
    · rw [k]
      simp only [if_true, show ¬ (5 = 4) by omega, if_false]
      refine NFit.last hl _ _ ?_ ?_ ⟨f1.ok, f2.ok⟩ (.inr (.inl ⟨rfl, t1, t2, rfl⟩))
      · simp only [f1.text, f2.text, g40, g41, g124, bytesOf_append, Tree.spell]
      · simp only [Tree.places, f1.places, f2.places]
  · split
    · rename_i hB
      have t2 := htp (st.2.length - 1) (by omega)
      have f2 := hf _ t2
      simp only
      generalize st.2.getD (st.2.length - 1) 0 = b at *
      obtain k | k | k : kindF o = 6 ∨ kindF o = 7 ∨ kindF o = 8 := by omega
      · rw [k]
        simp only [if_true, markB]
        refine NFit.last hl _ _ ?_ ?_ f2.ok (.inr (.inr (.inl ⟨rfl, t2, rfl⟩)))
        · simp only [f2.text, g40, g41, g42, bytesOf_append, Tree.spell]
        · simp only [Tree.places, f2.places]
      · rw [k]
        simp only [if_true, markB, show ¬ (7 = 6) by omega, if_false]
        refine NFit.last hl _ _ ?_ ?_ f2.ok (.inr (.inr (.inr (.inl ⟨rfl, t2, rfl⟩))))
        · simp only [f2.text, g40, g41, g43, bytesOf_append, Tree.spell]
        · simp only [Tree.places, f2.places]
      · rw [k]
        simp only [markB, show ¬ (8 = 6) by omega, show ¬ (8 = 7) by omega, if_false]
        refine NFit.last hl _ _ ?_ ?_ f2.ok (.inr (.inr (.inr (.inr (.inl ⟨rfl, t2, rfl⟩)))))
        · simp only [f2.text, g40, g41, g63, bytesOf_append, Tree.spell]
        · simp only [Tree.places, f2.places]
    · obtain ⟨l1, l2, l3, l4, l5⟩ := leafN_fit o
      exact NFit.last hl _ _ l1 l2 l3 (.inr (.inr (.inr (.inr (.inr ⟨l4, l5⟩)))))

def treesFold : List OpT → List Tree → List NodeT × List Nat → List Tree
  | [], trs, _ => trs
  | o :: r, trs, st => treesFold r (trs ++ [stepTree trs st.2 o]) (builtStep st o)
theorem fold_fit : ∀ (ops : List OpT) (i : Nat) (trs : List Tree) (st : List NodeT × List Nat), BInv i st → trs.length = st.1.length → (∀ n, n < st.1.length → NFit st.1 trs n) →
    BInv (i + ops.length) (builtFold ops st) ∧ (treesFold ops trs st).length = (builtFold ops st).1.length ∧ ∀ n, n < (builtFold ops st).1.length → NFit (builtFold ops st).1 (treesFold ops trs st) n
  | [], i, trs, st, h1, h2, h3 => ⟨h1, h2, h3⟩
  | o :: r, i, trs, st, h1, h2, h3 => by
    have hn := stepNode_fit h1 h2 h3 o
    have h := fold_fit r (i + 1) (trs ++ [stepTree trs st.2 o]) (builtStep st o) (h1.step o) (by simp [builtStep, h2]) (fun n hlt => by
      have hlt' : n < st.1.length + 1 := by simpa [builtStep] using hlt
      by_cases e : n < st.1.length
      · exact (h3 n e).push e (by omega) _ _
      · have : n = st.1.length := by omega
        subst this
        exact hn)
    have e1 : i + (o :: r).length = i + 1 + r.length := by simp; omega
    rw [e1]
    exact h
end Go.Proofs.Ytcckhngbdoiikaa

namespace Go.Proofs.Ytcckhngbdoiikaa
set_option linter.unusedVariables false

theorem joinT_snoc (x : List Nat) : ∀ l : List (List Nat), joinT (l ++ [x]) = if l = [] then x else joinT l ++ [10] ++ x
  | [] => rfl
  | [a] => rfl
  | a :: b :: r => by
    have ih := joinT_snoc x (b :: r)
    rw [if_neg (by simp)] at ih
    show a ++ [10] ++ joinT ((b :: r) ++ [x]) = _
    rw [ih, if_neg (by simp)]
    show _ = (a ++ [10] ++ joinT (b :: r)) ++ [10] ++ x
    simp
theorem placesAll_snoc (x : Tree) : ∀ l : List Tree, placesAll (l ++ [x]) = placesAll l + x.places
  | [] => by simp [placesAll]
  | a :: l => by simp [placesAll, placesAll_snoc x l]; omega
/-- The trees on the pile. -/
def topTrees (trs : List Tree) (tops : List Nat) : List Tree := tops.map (fun t => trs.getD t treeD)
theorem spellK_trees {all : List NodeT} {trs : List Tree} {tops : List Nat} (hf : ∀ n, n < all.length → NFit all trs n) (ht : ∀ k, k < tops.length → tops.getD k 0 < all.length) :
    ∀ k, k ≤ tops.length → spellK all tops k = (bytesOf (joinT (((topTrees trs tops).take k).map Tree.spell)), placesAll ((topTrees trs tops).take k))
  | 0, _ => rfl
  | k + 1, hk => by
    have ih := spellK_trees hf ht k (by omega)
    have f := hf _ (ht k (by omega))
    have e : (topTrees trs tops).take (k + 1) = (topTrees trs tops).take k ++ [trs.getD (tops.getD k 0) treeD] := by
      have hlt : k < (topTrees trs tops).length := by simp [topTrees]; omega
      rw [List.take_succ_eq_append_getElem hlt]
      simp [topTrees, show k < tops.length by omega]
    unfold spellK
    rw [ih, e, placesAll_snoc, List.map_append, List.map_cons, List.map_nil, joinT_snoc, f.text, f.places]
    have g10 : (⟨#[10]⟩ : ByteArray) = bytesOf [10] := rfl
    by_cases h0 : 0 < k
    · have hne : ((topTrees trs tops).take k).map Tree.spell ≠ [] := by
        intro e9
        have h9 : (((topTrees trs tops).take k).map Tree.spell).length = k := by simp [topTrees]; omega
        rw [e9] at h9
        simp at h9
        omega
      rw [if_pos h0, if_neg hne]
      simp only [g10, bytesOf_append]
    · have : k = 0 := by omega
      subst this
      rfl
theorem byteT_lt {b : Nat} (h : b < 256) : ∀ x ∈ byteT b, x < 256 := by
  unfold byteT
  intro x hx
  split at hx
  · simp at hx; omega
  · split at hx
    · simp at hx; omega
    · simp at hx; omega
theorem spell_lt : ∀ t : Tree, t.ok → ∀ x ∈ t.spell, x < 256
  | .leaf k a b, h, x, hx => by
    obtain ⟨h1, h2, _⟩ := h
    unfold Tree.spell leafT at hx
    have ba := byteT_lt h1
    have bb := byteT_lt h2
    split at hx
    · simp at hx; omega
    · split at hx
      · simp at hx
        rcases hx with e | e | e | e | e
        · omega
        · exact ba x e
        · omega
        · exact bb x e
        · omega
      · split at hx
        · simp at hx
          rcases hx with e | e | e | e | e | e
          · omega
          · omega
          · exact ba x e
          · omega
          · exact bb x e
          · omega
        · exact ba x hx
  | .row l r, h, x, hx => by
    simp [Tree.spell] at hx
    rcases hx with e | e | e | e
    · omega
    · exact spell_lt l h.1 x e
    · exact spell_lt r h.2 x e
    · omega
  | .or l r, h, x, hx => by
    simp [Tree.spell] at hx
    rcases hx with e | e | e | e | e
    · omega
    · exact spell_lt l h.1 x e
    · omega
    · exact spell_lt r h.2 x e
    · omega
  | .star l, h, x, hx => by
    simp [Tree.spell] at hx
    rcases hx with e | e | e | e
    · omega
    · exact spell_lt l h x e
    · omega
    · omega
  | .plus l, h, x, hx => by
    simp [Tree.spell] at hx
    rcases hx with e | e | e | e
    · omega
    · exact spell_lt l h x e
    · omega
    · omega
  | .maybe l, h, x, hx => by
    simp [Tree.spell] at hx
    rcases hx with e | e | e | e
    · omega
    · exact spell_lt l h x e
    · omega
    · omega
theorem join_lt : ∀ ts : List Tree, (∀ t ∈ ts, t.ok) → ∀ x ∈ joinT (ts.map Tree.spell), x < 256
  | [], _, x, hx => by simp [joinT] at hx
  | [t], h, x, hx => spell_lt t (h t (by simp)) x hx
  | t :: u :: r, h, x, hx => by
    have hx' : x ∈ t.spell ++ [10] ++ joinT ((u :: r).map Tree.spell) := hx
    simp only [List.mem_append, List.mem_singleton] at hx'
    rcases hx' with (e | e) | e
    · exact spell_lt t (h t (by simp)) x e
    · omega
    · exact join_lt (u :: r) (fun t ht => h t (by simp at ht ⊢; right; exact ht)) x e
theorem bytesOf_lies (L : List Nat) (h : ∀ x ∈ L, x < 256) : Lies (bytesOf L) 0 L := fun i hi => by
  rw [Nat.zero_add]
  have hlt : i < (bytesOf L).size := by rw [bytesOf_size]; exact hi
  unfold peekI
  rw [dif_pos hlt]
  have hx := h L[i] (List.getElem_mem hi)
  have e9 : (bytesOf L).data[i]? = some (UInt8.ofNat L[i]) := by simp [bytesOf, hi]
  have e : (bytesOf L)[i] = UInt8.ofNat L[i] := by
    have h9 : (bytesOf L).data[i]? = some (bytesOf L)[i] := by rw [Array.getElem?_eq_getElem (show i < (bytesOf L).data.size from hlt)]; rfl
    rw [h9] at e9
    exact Option.some.inj e9
  rw [e]
  simp
  omega
/-- The rule text of trees that is not too long: all of it is read, as these trees. -/
theorem read_trees (ts : List Tree) (hts : ts ≠ []) (hk : ∀ t ∈ ts, t.ok) : allF (bytesOf (joinT (ts.map Tree.spell))) = (true, (bytesOf (joinT (ts.map Tree.spell))).size, glushAll ts RulesT.new) :=
  all_spell ts hts hk (bytesOf_lies _ (join_lt ts hk)) (by rw [bytesOf_size])
theorem new_trees (ts : List Tree) (hts : ts ≠ []) (hk : ∀ t ∈ ts, t.ok) :
    (newF (bytesOf (joinT (ts.map Tree.spell))) = .bad 1 0 ∧ 120 < (bytesOf (joinT (ts.map Tree.spell))).size) ∨
    (newF (bytesOf (joinT (ts.map Tree.spell))) = .bad 3 0 ∧ (bytesOf (joinT (ts.map Tree.spell))).size ≤ 120 ∧ 5 < placesAll ts) ∨
    ((bytesOf (joinT (ts.map Tree.spell))).size ≤ 120 ∧ ∃ kd g, newF (bytesOf (joinT (ts.map Tree.spell))) = .lexer kd g ∧ buildF (glushAll ts RulesT.new) = some (kd, g) ∧ placesAll ts ≤ 128) := by
  have hr := read_trees ts hts hk
  have hgd := allF_good (bytesOf (joinT (ts.map Tree.spell)))
  rw [hr] at hgd
  generalize bytesOf (joinT (ts.map Tree.spell)) = s at hr hgd
  have hpl := glushAll_len ts RulesT.new
  have h0 : RulesT.new.follow.length = 0 := rfl
  unfold newF
  by_cases hz : 120 < s.size
  · exact .inl ⟨by rw [if_pos hz], hz⟩
  · right
    rw [if_neg hz, hr]
    simp only [Bool.true_eq_false, if_false]
    cases hb : buildF (glushAll ts RulesT.new) with
    | none =>
      refine .inl ⟨rfl, by omega, ?_⟩
      refine Classical.byContradiction fun h5 => ?_
      exact build_few (by omega) hb
    | some x =>
      obtain ⟨kd, g⟩ := x
      exact .inr ⟨by omega, kd, g, rfl, rfl, by have := hgd.2.1; simp only at this; omega⟩
/-- Its lexer: along a text it stands in a state of the text's rule. -/
theorem lexer_tok {ts : List Tree} {kd : Nat → Nat} {g : Graph} (h : buildF (glushAll ts RulesT.new) = some (kd, g)) (hp : placesAll ts ≤ 128) (w : List Nat) (hw : w ≠ []) (hx : ∀ x ∈ w, x < 256) : TokIs ts w (accK g (runK g 0 (w.map kd))) := by
  rw [build_acc h w hx]
  exact rule_tok (rules_inv ts hp) w hw
end Go.Proofs.Ytcckhngbdoiikaa
