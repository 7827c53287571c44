import Derived.Test.YtcckhngbdoiikaaN55
import Derived.Lib.AppendStr
import Derived.Deep.AppendLies
import Derived.Deep.RegionWith
import Derived.BigRegion

namespace Go.Proofs.Ytcckhngbdoiikaa
open Go.RowKit Go.Deep
set_option linter.unusedVariables false

theorem Try.infoU8 : (Try.prog.info? 5).map (fun i => (i.zero, i.size, i.bytes)) = some (some (.int .u8 0), 1, 1) := by kernel_rfl
set_option maxRecDepth 20000 in
set_option maxHeartbeats 3200000 in
theorem own_any (s : ByteArray) (w : World) (hs : s.size ≤ 4000000) :
    Calls Try.prog 90 #[.string s] w fun e w' => e = .returned (.string s) ∧ Below w.heap.size w w' := by
  obtain ⟨ii, hii, hz0, hz1, hz2⟩ := info_parts Try.infoU8
  have hol : (w.alloc (.cells #[] 5)).ownsRow w.heap.size 5 1 (.slice (some ⟨w.heap.size, 0, none⟩) 0 0) 0 [] := ⟨by rfl, .inr ⟨w.heap.size, 0, #[], rfl, Nat.le_refl _, heap_alloc_new _ _, Nat.le_refl _, by unfold maxLen; omega, rfl, rfl⟩⟩
  have HOL := hide hol
  clear hol
  go_enter Try.func90, Try.ntmps90
  go_wp2_with (at_builtin; (refine Go.Lib.wpList_append_own_string _ (by rfl) _ _ _ _ (by rfl) w.heap.size 5 ii Try.underlying183 Try.underlying9 hii hz0 hz1 hz2 (.slice (some ⟨w.heap.size, 0, none⟩) 0 0) 0 [] (by rfl) HOL.out s (by rfl) (by unfold maxLen; omega) (by omega) (by simp) ?_))
  intro v' w6 hown hgr hne
  obtain ⟨hx0, ⟨rfl, h0⟩ | ⟨gg, cap, cur, rfl, h2, h3, h4, h5, h6, h7⟩⟩ := hown
  · exact absurd rfl hne
  have hcv : (convert 183 9 (.slice (some ⟨gg, 0, none⟩) s.size cap)).run Try.prog w6 = .ok (.string s) w6 := by
    have h8 := run_convert_bytes_back (P := Try.prog) w6 183 9 5 ⟨gg, 0, none⟩ cap s.data.toList Try.underlying183 Try.underlying5 Try.underlying9 (fun j hj => by
      have h9 : w6.cell? ⟨gg, j, none⟩ = cur[j]? := Blk.cell (show Blk w6 gg cur 5 from h3) j
      have h10 : cur.toList[j]? = (Go.Lib.strCells s)[j]? := by
        have hjs : j < s.size := by simpa using hj
        have h11 := h7
        simp only [Nat.mul_one] at h11
        rw [← h11, List.getElem?_take, if_pos hjs]
      rw [Addr.add_lit, Nat.zero_add, h9, ← Array.getElem?_toList, h10]
      have h12 : s.data.toList[j]? = some s.data.toList[j] := List.getElem?_eq_getElem hj
      rw [Go.Lib.strCells, List.getElem?_map, h12]
      rfl)
    have e1 : s.data.toList.length = s.size := by rw [Array.length_toList]; rfl
    rw [e1] at h8
    exact h8
  have hb : Below w.heap.size w w6 := (Below1 w _).trans ⟨hgr.os, hgr.tape, hgr.output, hgr.size, fun b hb => hgr.block b (by simp; omega) (fun e => by cases (Option.some.inj e : b = w.heap.size); omega)⟩
  have HB := hide hb
  clear hb hgr hne hx0 h2 h3 h4 h5 h6 h7 HOL
  go_wp2_with fail
  go_ret
  exact ⟨rfl, HB.out⟩
end Go.Proofs.Ytcckhngbdoiikaa

namespace Go.Proofs.Ytcckhngbdoiikaa
open Go.RowKit Go.Deep
set_option linter.unusedVariables false
theorem start_any (p : Nat) (w : World) : Calls Try.prog 65 #[.int .i64 (p : Int)] w fun e w' => e = .returned (savV (startS p)) ∧ Below w.heap.size w w' := by
  go_enter Try.func65, Try.ntmps65
  go_wp2_with (first | refine storeSav (x := startS p) rfl (.tmp 2) (.tmp 5) rfl w.heap.size rfl rfl (Blk.new _ _ _) rfl ?_)
  exact bodyPost_ret (results_cell_row Try.results65 _ _ w.heap.size 84 (savC (startS p)) (0, 0) _ rfl ((Blk.new w sav0 84).setRow _) Try.underlying84 rfl Try.infoSav) rfl ⟨rfl, Below_setRow (Below1 _ _) (Nat.le_refl _) _⟩
end Go.Proofs.Ytcckhngbdoiikaa

namespace Go.Proofs.Ytcckhngbdoiikaa
open Go.RowKit Go.Deep
set_option linter.unusedVariables false

theorem results_tmp_cell {P : Program} {fn : Func} {p q : Tmp} {ty : TypeId} (h : fn.results = #[.tmp q, .cell p ty]) (tmps : Array Value) (w : World) (g : Nat) (t : TypeId) (cs : Array Value) (fr : Nat × Nat) (d : TypeDesc)
    (hp : tmps.getD p undef = .pointer (some ⟨g, 0, none⟩)) (hg : w.heap[g]? = some (.cells cs t fr))
    (hu : P.underlying ty = some d) (hd : (match d with | .struct _ | .array _ _ => true | _ => false) = true) (hi : (P.info? ty).map (·.size) = some cs.size) :
    (results fn tmps).run P w = .ok (.tuple #[tmps.getD q undef, .agg cs]) w := by
  have hp' : tmps[p]?.getD undef = .pointer (some ⟨g, 0, none⟩) := by simpa using hp
  simp [results, h, hp', asAddr, run_loadVar_row w g t ty cs fr d hg hu hd hi]
theorem emptyStr (s : ByteArray) : (s = ⟨#[]⟩) ↔ s.size = 0 := by
  constructor
  · rintro rfl; rfl
  · intro h
    apply ByteArray.ext
    apply Array.eq_empty_of_size_eq_zero
    exact h
theorem loop_ne (s : ByteArray) : ∀ (n i : Nat) (r : List UInt8), s.size - i = n → r ≠ [] → ByteArray.toList.loop s i r ≠ []
  | 0, i, r, h, hr => by
    unfold ByteArray.toList.loop
    rw [if_neg (by omega)]
    simpa using hr
  | n + 1, i, r, h, hr => by
    unfold ByteArray.toList.loop
    rw [if_pos (by omega)]
    exact loop_ne s n (i + 1) _ (by omega) (by simp)
theorem notEmpty (s : ByteArray) (h : s.size ≠ 0) : s.toList.isEmpty = false := by
  have h2 : s.toList ≠ [] := by
    unfold ByteArray.toList
    unfold ByteArray.toList.loop
    rw [if_pos (by omega)]
    exact loop_ne s _ 1 _ rfl (by simp)
  cases hh : s.toList with
  | nil => exact absurd hh h2
  | cons a b => rfl
/-- How the walk stands: the stand, the result's cell, the tokens. -/
structure OnAt (w0 w : World) (y : SavT) (v : Value) (l : List TokT) : Prop where
  below : Below w0.heap.size w0 w
  stand : Blk w w0.heap.size (savC y) 84
  res : Blk w (w0.heap.size + 1) sav0 84
  toks : TokRow w v l
  own : ∀ b, v.ownBlock = some b → w0.heap.size + 1 < b
theorem OnAt.more {w0 w w' : World} {y : SavT} {v : Value} {l : List TokT} (h : OnAt w0 w y v l) (hb : Below w.heap.size w w') : OnAt w0 w' y v l :=
  ⟨h.below.trans (hb.mono h.below.size), h.stand.below hb, h.res.below hb, h.toks.below hb, h.own⟩

theorem storeOn {z y : SavT} {v : Value} {l : List TokT} {ops : Array Oper} {rest : List Oper} {o : Oper} {a : Act} {w w0 : World} {Q : Exit → Act → World → Prop} (hgd : o.guard = none) (p q : Operand) (ho : o.op = .store 84 p q)
    (hx : a.eval p = .pointer (some ⟨w0.heap.size, 0, none⟩)) (hy : a.eval q = savV z) (hA : OnAt w0 w y v l)
    (h : ∀ w', OnAt w0 w' z v l → wpList Try.prog ops Q rest (a.put o.dst undef) w') : wpList Try.prog ops Q (o :: rest) a w := by
  refine storeSav hgd p q ho w0.heap.size hx hy hA.stand rfl (h _ ⟨Below_setRow hA.below (Nat.le_refl _) _, hA.stand.setRow _, hA.res.setRowOther (by omega) _, ?_, hA.own⟩)
  exact hA.toks.kept (ex := fun b => b = w0.heap.size) (Kept.setRow (ex := fun b => b = w0.heap.size) (Kept.refl _ _) (fun _ => rfl) _) (fun b hb e => by have := hA.own b hb; omega)
theorem OnAt.put {w0 w : World} {y : SavT} {v : Value} {l : List TokT} (hA : OnAt w0 w y v l) (c : Nat) (x : Value) {z : SavT} (hz : (savC y).setIfInBounds c x = savC z) : OnAt w0 (w.setCell ⟨w0.heap.size, c, none⟩ x) z v l := by
  refine ⟨hA.below.setCell (p := ⟨w0.heap.size, c, none⟩) (Nat.le_refl _) _, by rw [← hz]; exact hA.stand.set c x, hA.res.setOther (p := ⟨w0.heap.size, c, none⟩) (by simp) _, ?_, hA.own⟩
  exact hA.toks.kept (ex := fun b => b = w0.heap.size) (Kept.setCell (ex := fun b => b = w0.heap.size) (p := ⟨w0.heap.size, c, none⟩) (Kept.refl _ _) (fun _ => rfl) _) (fun b hb e => by have := hA.own b hb; omega)

set_option maxRecDepth 20000 in
set_option maxHeartbeats 6400000 in
theorem on_any (pb : Nat) (kd : Nat → Nat) (g : Graph) (x : SavT) (s : ByteArray) (ends : Bool) (w : World) (h : LexAt w pb kd g) (ho : LexOk kd g) (h1 : x.en + x.tail.size + s.size ≤ 4000000) (h2 : x.at_ ≤ x.en) :
    Calls Try.prog 66 #[.pointer (some ⟨pb, 0, none⟩), savV x, .string s, .bool ends] w fun e w' => ∃ v, e = .returned (.tuple #[v, savV (onF kd g x s ends).2]) ∧ TokRow w' v (onF kd g x s ends).1 ∧ (∀ b, v.ownBlock = some b → w.heap.size ≤ b) ∧ Below w.heap.size w w' := by
  obtain ⟨xa, xe, xr, xs, xt⟩ := x
  simp only at h1 h2
  have hst := fun (W : World) (hb : Below w.heap.size w W) (y : SavT) => stretch_any pb kd g y W (h.below hb) ho
  have HST := hide hst
  generalize hX : onF kd g ⟨xa, xe, xr, xs, xt⟩ s ends = X
  unfold onF at hX
  simp only at hX
  obtain ⟨T, hT⟩ : ∃ T : Nat, T = xe + (xt ++ s).size := ⟨_, rfl⟩
  have hTs : T ≤ 4000000 := by rw [hT, ByteArray.size_append]; omega
  have HX := hide hX
  have HT := hide hT
  clear h ho hst hX hT
  have u1 : ∀ W : World, (Op.stringOp .add xt s).run Try.prog W = .ok (.string (xt ++ s)) W := fun W => run_string_add_sum W _ _ (by omega)
  go_enter Try.func66, Try.ntmps66
  go_wp2_with fail
  clear u1
  go_loopg [10] (xe - xa + (xt ++ s).size + 1) (fun G tv wr => ∃ (y : SavT) (l : List TokT), y.at_ ≤ y.en ∧ y.en + y.tail.size = T ∧ T < G + y.at_ ∧ l.length ≤ y.at_ ∧ onLoop kd g ends G y l = X ∧ OnAt w wr y tv l)
  case atStart =>
    refine ⟨⟨xa, xe, xr, xs, xt ++ s⟩, [], h2, HT.out.symm, ?_, by simp, HX.out, ⟨?_, ?_, ?_, ?_, ?_⟩⟩
    · have := HT.out; show T < xe - xa + (xt ++ s).size + 1 + xa; omega
    · exact ((Below2 _ _ _).alloc (by simp; omega) _)
    · exact ((Blk.new _ _ _).alloc _).alloc _
    · exact (Blk.at1 _ _ _ _).alloc _
    · exact ownsRow_mk (g := w.heap.size + 1 + 1) (cur := #[]) (by rfl) (by have h9 := Blk.new ((w.alloc (.cells (savC ⟨xa, xe, xr, xs, xt ++ s⟩) 84)).alloc (.cells sav0 84)) #[] 66; simpa using h9) (Nat.le_refl _) (by unfold maxLen; omega) rfl (by rfl)
    · intro b e
      cases (Option.some.inj e : w.heap.size + 1 + 1 = b)
      omega
  case round =>
    obtain ⟨y, l, hy1, hy2, hG, hl, hX, hA⟩ := hrel
    clear HX HT
    obtain ⟨td, tcap, rfl, htrow⟩ := hA.toks.form
    obtain ⟨ya, ye, yr, ys, yt⟩ := y
    simp only at hy1 hy2 hG hl
    have c0 := hA.stand.cell 0
    have c1 := hA.stand.cell 1
    have c4 := hA.stand.cell 4
    by_cases hc : ya < ye ∨ yt.size ≠ 0
    · have hA' : OnAt w wr ⟨ya, ye, yr, ys, yt⟩ (.slice td l.length tcap) l := hA
      have HA := hide hA
      have HS1 := hide (HST.out wr hA.below ⟨ya, ye, yr, ys, yt⟩ (by show ye ≤ _; omega) (by show yt.size ≤ _; omega))
      have up := stretchF_up kd g ⟨ya, ye, yr, ys, yt⟩
      cases gk with
      | zero => omega
      | succ gk =>
      unfold onLoop at hX
      rw [if_pos hc] at hX
      generalize stretchF kd g ⟨ya, ye, yr, ys, yt⟩ = r at HS1 up hX
      obtain ⟨⟨za, ze, zr, zs, zt⟩, op⟩ := r
      obtain ⟨up1, up2, up3, up4⟩ := up
      simp only at up1 up2 up3
      subst up1
      have HX := hide hX
      have HUP := hide up4
      clear hX hA hA' HST up4
      have hway : (za < ye ∧ decide ((za : Int) < (ye : Int)) = true) ∨ (¬ za < ye ∧ decide ((za : Int) < (ye : Int)) = false ∧ yt.toList.isEmpty = false) := by
        by_cases e : za < ye
        · exact .inl ⟨e, by simp; omega⟩
        · exact .inr ⟨e, by simp; omega, notEmpty yt (by omega)⟩
      have HC := hide hc
      clear hc
      go_upto_region 3 with fail
      go_cut [29] (fun cv wx => cv = .bool true ∧ wx = wr)
      case first =>
        rcases hway with ⟨hn, e1⟩ | ⟨hn, e1, e2⟩
        all_goals
          go_wp2_with fail
          go_meet
          exact ⟨rfl, rfl⟩
      case rest =>
        obtain ⟨rfl, rfl⟩ := hcut
        clear hway
        go_wp2_with (first | refine loadSav rfl (.tmp 5) rfl w.heap.size rfl HA.out.stand ?_)
        refine HS1.out.mono ?_
        rintro e w1 ⟨rfl, hb1⟩
        have HA1 := hide (HA.out.more hb1)
        clear c0 c1 c4 hb1
        go_wp2_with (first | refine loadSav (x := ⟨za, ze, zr, zs, zt⟩) rfl (.tmp 11) rfl w1.heap.size rfl (Blk.new _ _ _) ?_ | refine storeOn (z := ⟨za, ze, zr, zs, zt⟩) rfl (.tmp 5) (.tmp 36) rfl rfl rfl (HA1.out.more (Below1 _ _)) ?_)
        intro w2 hA2
        have HA2 := hide hA2
        clear HA1
        have c0 := hA2.stand.cell 0
        have c1 := hA2.stand.cell 1
        have c2 := hA2.stand.cell 2
        have c4 := hA2.stand.cell 4
        have f1 := hA2.stand.frozen 1
        have f4 := hA2.stand.frozen 4
        clear hA2
        by_cases hbr : op = true ∧ ends = false
        · obtain ⟨rfl, rfl⟩ := hbr
          have hx := HX.out
          rw [if_pos ⟨rfl, rfl⟩] at hx
          subst hx
          clear HX
          have OW := hide (fun W => own_any zt W (by omega))
          go_wp2_with fail
          refine (OW.out _).mono ?_
          rintro e w3 ⟨rfl, hb3⟩
          have HA3 := hide (HA2.out.more hb3)
          clear c0 c1 c2 c4 f1 f4 hb3 HA2
          have c4 := HA3.out.stand.cell 4
          have f4 := HA3.out.stand.frozen 4
          go_wp2_with fail
          obtain ⟨w4, hw4⟩ : ∃ w4 : World, w3.setCell ⟨w.heap.size, 4, none⟩ (.string zt) = w4 := ⟨_, rfl⟩
          have hA4 : OnAt w w4 ⟨za, ze, zr, zs, zt⟩ (.slice td l.length tcap) l := by rw [← hw4]; exact HA3.out.put 4 _ rfl
          rw [hw4]
          have HA4 := hide hA4
          clear hw4
          have c0 := hA4.stand.cell 0
          have c1 := hA4.stand.cell 1
          have c2 := hA4.stand.cell 2
          have c3 := hA4.stand.cell 3
          have c4 := hA4.stand.cell 4
          have q0 := hA4.res.cell 0
          have q1 := hA4.res.cell 1
          have q2 := hA4.res.cell 2
          have q3 := hA4.res.cell 3
          have q4 := hA4.res.cell 4
          have f0 := hA4.res.frozen 0
          have f1 := hA4.res.frozen 1
          have f2 := hA4.res.frozen 2
          have f3 := hA4.res.frozen 3
          have f4 := hA4.res.frozen 4
          have d9 : w.heap.size ≠ w.heap.size + 1 := by omega
          clear hA4
          go_region
          clear c0 c1 c2 c3 c4 q0 q1 q2 q3 q4 f0 f1 f2 f3 f4 d9
          go_wp2_with fail
          have hk : Kept (fun b => b = w.heap.size + 1) w4 (((((w4.setCell ⟨w.heap.size + 1, 0, none⟩ (.int .i64 (za : Int))).setCell ⟨w.heap.size + 1, 1, none⟩ (.int .i64 (ze : Int))).setCell ⟨w.heap.size + 1, 2, none⟩ (.int .i64 zr)).setCell ⟨w.heap.size + 1, 3, none⟩ (.int .i64 zs)).setCell ⟨w.heap.size + 1, 4, none⟩ (.string zt)).drew := (((((Kept.setCell (ex := fun b => b = w.heap.size + 1) (p := ⟨w.heap.size + 1, 0, none⟩) (Kept.refl _ _) (fun _ => rfl) _).setCell (p := ⟨w.heap.size + 1, 1, none⟩) (fun _ => rfl) _).setCell (p := ⟨w.heap.size + 1, 2, none⟩) (fun _ => rfl) _).setCell (p := ⟨w.heap.size + 1, 3, none⟩) (fun _ => rfl) _).setCell (p := ⟨w.heap.size + 1, 4, none⟩) (fun _ => rfl) _).drew
          refine bodyPost_ret (results_tmp_cell Try.results66 _ _ (w.heap.size + 1) 84 (savC ⟨za, ze, zr, zs, zt⟩) (0, 0) _ rfl (Blk.drew (((((HA4.out.res.set 0 _).set 1 _).set 2 _).set 3 _).set 4 _)) Try.underlying84 rfl Try.infoSav) rfl ⟨_, rfl, HA4.out.toks.kept hk (fun b hb e => by have := HA4.out.own b hb; omega), fun b hb => by have := HA4.out.own b hb; omega, Below_drew (((((HA4.out.below.setCell (p := ⟨w.heap.size + 1, 0, none⟩) (by simp) _).setCell (p := ⟨w.heap.size + 1, 1, none⟩) (by simp) _).setCell (p := ⟨w.heap.size + 1, 2, none⟩) (by simp) _).setCell (p := ⟨w.heap.size + 1, 3, none⟩) (by simp) _).setCell (p := ⟨w.heap.size + 1, 4, none⟩) (by simp) _)⟩
        · have hopc : op = false ∨ (op = true ∧ ends = true) := by cases op <;> cases ends <;> simp_all
          have hx := HX.out
          rw [if_neg hbr] at hx
          have HX3 := hide hx
          clear HX hx hbr
          go_upto_region 6 with fail
          go_cut [41] (fun cv wx => cv = .bool false ∧ wx = w2)
          case first =>
            rcases hopc with rfl | ⟨rfl, rfl⟩
            all_goals
              go_wp2_with fail
              go_meet
              exact ⟨rfl, rfl⟩
          case rest =>
            obtain ⟨rfl, rfl⟩ := hcut
            clear hopc
            have hlone : za < (lone ⟨za, ze, zr, zs, zt⟩).en ∧ (lone ⟨za, ze, zr, zs, zt⟩).en + (lone ⟨za, ze, zr, zs, zt⟩).tail.size = T ∧ (lone ⟨za, ze, zr, zs, zt⟩).at_ = za ∧ (ze = za → 1 ≤ zt.size) := by
              have hsz : (zt.extract 1 zt.size).size = zt.size - 1 := extract_size' zt 1
              by_cases e : ze = za
              · have h9 : 1 ≤ zt.size := by
                  have h10 := HUP.out (show ze = ye by omega)
                  injection h10 with _ _ _ _ h11
                  rcases HC.out with h12 | h12
                  · omega
                  · rw [h11]; omega
                have hL : lone ⟨za, ze, zr, zs, zt⟩ = ⟨za, ze + 1, zr, zs, zt.extract 1 zt.size⟩ := by unfold lone; rw [if_pos e]
                rw [hL]
                exact ⟨by show za < ze + 1; omega, by show ze + 1 + (zt.extract 1 zt.size).size = T; omega, rfl, fun _ => h9⟩
              · have hL : lone ⟨za, ze, zr, zs, zt⟩ = ⟨za, ze, zr, zs, zt⟩ := by unfold lone; rw [if_neg e]
                rw [hL]
                exact ⟨by show za < ze; omega, by show ze + zt.size = T; omega, rfl, fun h => absurd h e⟩
            have HLO := hide hlone
            have h1z := hlone.2.2.2
            clear hlone
            go_upto_if 46 with fail
            go_cut [] (fun wx => OnAt w wx (lone ⟨za, ze, zr, zs, zt⟩) (.slice td l.length tcap) l)
            case first =>
              by_cases hze : ze = za
              · have HZE := hide hze
                have e5 : ((ze : Int) == (za : Int)) = true := by simp; omega
                have hz1 := h1z hze
                have g1 : (1 : Int) ≤ (zt.size : Int) := by omega
                have hL : lone ⟨za, ze, zr, zs, zt⟩ = ⟨za, ze + 1, zr, zs, zt.extract 1 zt.size⟩ := by unfold lone; rw [if_pos hze]
                have HL9 := hide hL
                clear hL hze
                go_wp2_with fail
                go_meet
                rw [HL9.out]
                refine OnAt.put (y := ⟨za, ze + 1, zr, zs, zt⟩) (OnAt.put HA2.out 1 _ ?_) 4 _ rfl
                rfl
              · have e5 : ((ze : Int) == (za : Int)) = false := by simp; omega
                have hL : lone ⟨za, ze, zr, zs, zt⟩ = ⟨za, ze, zr, zs, zt⟩ := by unfold lone; rw [if_neg hze]
                have HL9 := hide hL
                clear hL
                go_wp2_with fail
                go_meet
                rw [HL9.out]
                exact HA2.out
            case rest =>
              clear c0 c1 c2 c4 f1 f4 HA2 h1z
              generalize lone ⟨za, ze, zr, zs, zt⟩ = z' at hcut HX3 HLO
              obtain ⟨la, le, lr, ls, lt⟩ := z'
              obtain ⟨lo1, lo2, lo3, _⟩ := HLO.out
              simp only at lo1 lo2 lo3
              subst lo3
              have hA2 := hcut
              have HA2 := hide hA2
              have c0 := hA2.stand.cell 0
              have c1 := hA2.stand.cell 1
              have c2 := hA2.stand.cell 2
              have c4 := hA2.stand.cell 4
              have z1 := hA2.below.size
              have zst := hA2.stand.lt
              have hlt1 : ∀ b, (Value.slice td l.length tcap).ownBlock = some b → b < wc.heap.size := ownsRow_lt hA2.toks
              have HLT := hide hlt1
              obtain ⟨ii, hii, hz0, hz1, hz2⟩ := info_parts Try.infoTok3
              have hol : TokRow (wc.alloc (.cells (tokC ⟨lr, la, le⟩) 66)) (.slice td l.length tcap) l := hA2.toks.below (Below1 _ _)
              have HOL := hide hol
              have hll : l.length ≤ 4000000 := by omega
              have SA := hide (fun W => start_any le W)
              clear hol hlt1 hcut hA2
              go_wp2_with (at_builtin; (refine wpList_append_lies _ (by rfl) _ _ _ (by rfl) 0 66 ii _ 3 24 Try.underlying55 hii hz0 hz1 hz2 rfl (by omega) (.slice td l.length tcap) l.length (toksC l) (by rfl) HOL.out ⟨wc.heap.size, 0, none⟩ 1 1 [.int .i64 lr, .int .i64 (la : Int), .int .i64 (le : Int)] (by rfl) (by rfl) (World.news_of_block (cs := tokC ⟨lr, la, le⟩) (t := 66) (fr := (0, 0)) (by have := heap_alloc_new wc (.cells (tokC ⟨lr, la, le⟩) 66); simpa using this)) (by simp [Value.oneCell']) (by omega) (by unfold maxLen; omega) (by omega) (by simp) (wc.heap.size + 1) (by simp) ?_))
              intro gg cap6 w6 hown6 hgrow6 hat6 hlt6
              have hA6 : OnAt w w6 ⟨la, le, lr, ls, lt⟩ (.slice (some ⟨gg, 0, none⟩) (l.length + 1) cap6) (l ++ [⟨lr, la, le⟩]) := by
                have hA2 := HA2.out
                have hk1 : Kept (fun b => (Value.slice td l.length tcap).ownBlock = some b) (wc.alloc (.cells (tokC ⟨lr, la, le⟩) 66)) w6 := ⟨hgrow6.os, hgrow6.tape, hgrow6.output, hgrow6.size, fun k hk he => hgrow6.block k hk (fun e => he e.symm)⟩
                refine ⟨?_, (hA2.stand.alloc _).kept hk1 (fun e => by have := hA2.own _ e; omega), (hA2.res.alloc _).kept hk1 (fun e => by have := hA2.own _ e; omega), ?_, ?_⟩
                · have h2 : Below w.heap.size w (wc.alloc (.cells (tokC ⟨lr, la, le⟩) 66)) := hA2.below.alloc (by omega) _
                  exact h2.trans ⟨hk1.os, hk1.tape, hk1.output, hk1.size, fun b hb => hk1.block b (by simp; omega) (fun e => by have := hA2.own b e; omega)⟩
                · unfold TokRow
                  rw [toksC_append, List.length_append]
                  exact hown6
                · intro b e
                  cases (Option.some.inj e : gg = b)
                  rcases hat6 with e | e
                  · exact hA2.own gg e
                  · omega
              have HA6 := hide hA6
              clear hown6 hgrow6 hat6 hlt6 HOL HA2 c0 c1 c2 c4 hA6
              have c1 := HA6.out.stand.cell 1
              have c4 := HA6.out.stand.cell 4
              go_wp2_with fail
              refine (SA.out _).mono ?_
              rintro e w7 ⟨rfl, hb7⟩
              have HA7 := hide (HA6.out.more hb7)
              clear c1 c4 hb7 HA6
              go_wp2_with (first | refine storeOn (z := startS le) rfl (.tmp 5) (.tmp 69) rfl rfl rfl HA7.out ?_)
              intro w8 hA8
              have HA8 := hide hA8
              have c4 := hA8.stand.cell 4
              have f4 := hA8.stand.frozen 4
              clear hA8 HA7
              go_wp2_with fail
              go_roundg gk
              case measure => omega
              case rel =>
                refine ⟨⟨le, le, -1, 0, lt⟩, l ++ [⟨lr, la, le⟩], Nat.le_refl _, lo2, by show T < gk + le; omega, by simp; omega, HX3.out, ?_⟩
                have := HA8.out.put 4 (.string lt) (z := ⟨le, le, -1, 0, lt⟩) rfl
                simpa using this
    · have hn : ¬ ya < ye := fun e => hc (.inl e)
      have e1 : decide ((ya : Int) < (ye : Int)) = false := by simp; omega
      have hyt : yt = ⟨#[]⟩ := (emptyStr yt).2 (by omega)
      subst hyt
      have hx : (l, (⟨ya, ye, yr, ys, ⟨#[]⟩⟩ : SavT)) = X := by
        cases gk with
        | zero => exact hX
        | succ gk => unfold onLoop at hX; rw [if_neg hc] at hX; exact hX
      subst hx
      clear hX hc
      have HA := hide hA
      have OW := hide (fun W => own_any ⟨#[]⟩ W (by decide))
      clear hA
      go_wp2_with fail
      refine (OW.out _).mono ?_
      rintro e w1 ⟨rfl, hb1⟩
      have HA1 := hide (HA.out.more hb1)
      clear c0 c1 c4 hb1
      have c4 := HA1.out.stand.cell 4
      have f4 := HA1.out.stand.frozen 4
      go_wp2_with fail
      obtain ⟨w4, hw4⟩ : ∃ w4 : World, w1.setCell ⟨w.heap.size, 4, none⟩ (.string ⟨#[]⟩) = w4 := ⟨_, rfl⟩
      have hA4 : OnAt w w4 ⟨ya, ye, yr, ys, ⟨#[]⟩⟩ (.slice td l.length tcap) l := by rw [← hw4]; exact HA1.out.put 4 _ rfl
      rw [hw4]
      have HA4 := hide hA4
      clear hw4
      have c0 := hA4.stand.cell 0
      have c1 := hA4.stand.cell 1
      have c2 := hA4.stand.cell 2
      have c3 := hA4.stand.cell 3
      have c4 := hA4.stand.cell 4
      have q0 := hA4.res.cell 0
      have q1 := hA4.res.cell 1
      have q2 := hA4.res.cell 2
      have q3 := hA4.res.cell 3
      have q4 := hA4.res.cell 4
      have f0 := hA4.res.frozen 0
      have f1 := hA4.res.frozen 1
      have f2 := hA4.res.frozen 2
      have f3 := hA4.res.frozen 3
      have f4 := hA4.res.frozen 4
      have d9 : w.heap.size ≠ w.heap.size + 1 := by omega
      clear hA4
      go_region
      clear c0 c1 c2 c3 c4 q0 q1 q2 q3 q4 f0 f1 f2 f3 f4 d9
      go_wp2_with fail
      have hk : Kept (fun b => b = w.heap.size + 1) w4 (((((w4.setCell ⟨w.heap.size + 1, 0, none⟩ (.int .i64 (ya : Int))).setCell ⟨w.heap.size + 1, 1, none⟩ (.int .i64 (ye : Int))).setCell ⟨w.heap.size + 1, 2, none⟩ (.int .i64 yr)).setCell ⟨w.heap.size + 1, 3, none⟩ (.int .i64 ys)).setCell ⟨w.heap.size + 1, 4, none⟩ (.string ⟨#[]⟩)).drew := (((((Kept.setCell (ex := fun b => b = w.heap.size + 1) (p := ⟨w.heap.size + 1, 0, none⟩) (Kept.refl _ _) (fun _ => rfl) _).setCell (p := ⟨w.heap.size + 1, 1, none⟩) (fun _ => rfl) _).setCell (p := ⟨w.heap.size + 1, 2, none⟩) (fun _ => rfl) _).setCell (p := ⟨w.heap.size + 1, 3, none⟩) (fun _ => rfl) _).setCell (p := ⟨w.heap.size + 1, 4, none⟩) (fun _ => rfl) _).drew
      refine bodyPost_ret (results_tmp_cell Try.results66 _ _ (w.heap.size + 1) 84 (savC ⟨ya, ye, yr, ys, ⟨#[]⟩⟩) (0, 0) _ rfl (Blk.drew (((((HA4.out.res.set 0 _).set 1 _).set 2 _).set 3 _).set 4 _)) Try.underlying84 rfl Try.infoSav) rfl ⟨_, rfl, HA4.out.toks.kept hk (fun b hb e => by have := HA4.out.own b hb; omega), fun b hb => by have := HA4.out.own b hb; omega, Below_drew (((((HA4.out.below.setCell (p := ⟨w.heap.size + 1, 0, none⟩) (by simp) _).setCell (p := ⟨w.heap.size + 1, 1, none⟩) (by simp) _).setCell (p := ⟨w.heap.size + 1, 2, none⟩) (by simp) _).setCell (p := ⟨w.heap.size + 1, 3, none⟩) (by simp) _).setCell (p := ⟨w.heap.size + 1, 4, none⟩) (by simp) _)⟩
end Go.Proofs.Ytcckhngbdoiikaa

namespace Go.Proofs.Ytcckhngbdoiikaa
open Go.RowKit Go.Deep
set_option linter.unusedVariables false

set_option maxRecDepth 20000 in
set_option maxHeartbeats 1600000 in
theorem split_any (pb : Nat) (kd : Nat → Nat) (g : Graph) (s : ByteArray) (w : World) (h : LexAt w pb kd g) (ho : LexOk kd g) (hs : s.size ≤ maxLen) :
    Calls Try.prog 32 #[.pointer (some ⟨pb, 0, none⟩), .string s] w fun e w' => Below w.heap.size w w' ∧
      ((4096 < s.size ∧ e = .returned (.tuple #[.slice none 0 0, .int .i64 5])) ∨ (s.size ≤ 4096 ∧ ∃ v, e = .returned (.tuple #[v, .int .i64 0]) ∧ TokRow w' v (cutF kd g s) ∧ ∀ b, v.ownBlock = some b → w.heap.size ≤ b)) := by
  by_cases hz : 4096 < s.size
  · have e1 : decide ((4096 : Int) < (s.size : Int)) = true := by simp; omega
    clear h ho
    go_enter Try.func32, Try.ntmps32
    go_wp2_with fail
    go_ret2
    exact ⟨Below.refl _ _, .inl ⟨hz, rfl⟩⟩
  · have e1 : decide ((4096 : Int) < (s.size : Int)) = false := by simp; omega
    have HC := hide (fun (W : World) (hb : Below w.heap.size w W) => on_any pb kd g (startS 0) s true W (h.below hb) ho (by show 0 + 0 + s.size ≤ 4000000; omega) (Nat.le_refl _))
    have SA := hide (fun W => start_any 0 W)
    clear h ho hs
    go_enter Try.func32, Try.ntmps32
    go_wp2_with fail
    refine (SA.out _).mono ?_
    rintro e w1 ⟨rfl, hb1⟩
    have HB1 := hide hb1
    clear hb1
    go_wp2_with fail
    obtain ⟨w2, hw2⟩ : ∃ w2 : World, w1.alloc (.cells (savC (startS 0)) 84) = w2 := ⟨_, rfl⟩
    have hb2 : Below w.heap.size w w2 := by rw [← hw2]; exact HB1.out.alloc HB1.out.size _
    have hB2 : Blk w2 w1.heap.size (savC (startS 0)) 84 := by rw [← hw2]; exact Blk.new _ _ _
    change Code.wp _ _ _ _ (w1.alloc (.cells (savC (startS 0)) 84))
    rw [hw2]
    have c0 := hB2.cell 0
    have c1 := hB2.cell 1
    have c2 := hB2.cell 2
    have c3 := hB2.cell 3
    have c4 := hB2.cell 4
    have zz := hB2.lt
    have hd1 : Below w.heap.size w w2.drew := Below_drew hb2
    have hd2 : Below w.heap.size w (w2.drew.alloc (.cells sav0 84)) := hd1.alloc hd1.size _
    have HD1 := hide hd1
    have HD2 := hide hd2
    clear hd1 hd2 hw2 hb2 hB2
    go_region_with (go_at_call 66; refine (HC.out _ (by first | exact HD1.out | exact HD2.out)).mono ?_; rintro e w3 ⟨v, rfl, hT3, hv3, hb3⟩; try (have hq : Blk w3 w2.heap.size sav0 84 := (Blk.new w2.drew sav0 84).below hb3; have q0 := hq.cell 0; have q1 := hq.cell 1; have q2 := hq.cell 2; have q3 := hq.cell 3; have q4 := hq.cell 4; have f0 := hq.frozen 0; have f1 := hq.frozen 1; have f2 := hq.frozen 2; have f3 := hq.frozen 3; have f4 := hq.frozen 4))
    · have hT : TokRow w3 v (cutF kd g s) := by rw [← onF_cut]; exact hT3
      have hz3 : w.heap.size ≤ w2.heap.size := HD1.out.size
      have hbb : Below w.heap.size w w3 := HD1.out.trans (hb3.mono HD1.out.size)
      have HH : Hid (TokRow w3 v (cutF kd g s) ∧ (∀ b, v.ownBlock = some b → w.heap.size ≤ b) ∧ Below w.heap.size w w3) := ⟨hT, fun b hb => Nat.le_trans hz3 (hv3 b hb), hbb⟩
      clear hT hT3 hv3 hb3 hbb c0 c1 c2 c3 c4 HC HD1 HD2
      go_wp2_with fail
      go_ret2
      exact ⟨HH.out.2.2.alloc HH.out.2.2.size _, .inr ⟨by omega, v, rfl, HH.out.1.below (Below1 _ _), HH.out.2.1⟩⟩
    · have hT : TokRow w3 v (cutF kd g s) := by rw [← onF_cut]; exact hT3
      have hz3 : w.heap.size ≤ w2.heap.size := HD1.out.size
      have hbb : Below w.heap.size w w3 := HD2.out.trans (hb3.mono HD2.out.size)
      have hv4 : ∀ b, v.ownBlock = some b → w2.heap.size < b := fun b hb => Nat.lt_of_succ_le (by have := hv3 b hb; simpa using this)
      have HH : Hid (TokRow w3 v (cutF kd g s) ∧ (∀ b, v.ownBlock = some b → w2.heap.size < b) ∧ Below w.heap.size w w3) := ⟨hT, hv4, hbb⟩
      clear hT hT3 hv3 hb3 hbb c0 c1 c2 c3 c4 HC HD1 HD2 hv4 q0 q1 q2 q3 q4 f0 f1 f2 f3 f4 hq
      generalize (onF kd g (startS 0) s true).2 = sv
      go_wp2_with fail
      go_ret2
      refine ⟨((((HH.out.2.2.setCell (p := ⟨w2.heap.size, 0, none⟩) hz3 _).setCell (p := ⟨w2.heap.size, 1, none⟩) hz3 _).setCell (p := ⟨w2.heap.size, 2, none⟩) hz3 _).setCell (p := ⟨w2.heap.size, 3, none⟩) hz3 _).setCell (p := ⟨w2.heap.size, 4, none⟩) hz3 _, .inr ⟨by omega, v, rfl, ?_, fun b hb => by have := HH.out.2.1 b hb; omega⟩⟩
      exact HH.out.1.kept (ex := fun b => b = w2.heap.size) (((((Kept.setCell (ex := fun b => b = w2.heap.size) (p := ⟨w2.heap.size, 0, none⟩) (Kept.refl _ _) (fun _ => rfl) _).setCell (p := ⟨w2.heap.size, 1, none⟩) (fun _ => rfl) _).setCell (p := ⟨w2.heap.size, 2, none⟩) (fun _ => rfl) _).setCell (p := ⟨w2.heap.size, 3, none⟩) (fun _ => rfl) _).setCell (p := ⟨w2.heap.size, 4, none⟩) (fun _ => rfl) _) (fun b hb e => by have := HH.out.2.1 b hb; omega)
    · have hT : TokRow w3 v (cutF kd g s) := by rw [← onF_cut]; exact hT3
      have hz3 : w.heap.size ≤ w2.heap.size := HD1.out.size
      have hbb : Below w.heap.size w w3 := HD2.out.trans (hb3.mono HD2.out.size)
      have hv4 : ∀ b, v.ownBlock = some b → w2.heap.size < b := fun b hb => Nat.lt_of_succ_le (by have := hv3 b hb; simpa using this)
      have HH : Hid (TokRow w3 v (cutF kd g s) ∧ (∀ b, v.ownBlock = some b → w2.heap.size < b) ∧ Below w.heap.size w w3) := ⟨hT, hv4, hbb⟩
      clear hT hT3 hv3 hb3 hbb c0 c1 c2 c3 c4 HC HD1 HD2 hv4 q0 q1 q2 q3 q4 f0 f1 f2 f3 f4 hq
      generalize (onF kd g (startS 0) s true).2 = sv
      go_wp2_with fail
      go_ret2
      refine ⟨((((HH.out.2.2.setCell (p := ⟨w2.heap.size, 0, none⟩) hz3 _).setCell (p := ⟨w2.heap.size, 1, none⟩) hz3 _).setCell (p := ⟨w2.heap.size, 2, none⟩) hz3 _).setCell (p := ⟨w2.heap.size, 3, none⟩) hz3 _).setCell (p := ⟨w2.heap.size, 4, none⟩) hz3 _, .inr ⟨by omega, v, rfl, ?_, fun b hb => by have := HH.out.2.1 b hb; omega⟩⟩
      exact HH.out.1.kept (ex := fun b => b = w2.heap.size) (((((Kept.setCell (ex := fun b => b = w2.heap.size) (p := ⟨w2.heap.size, 0, none⟩) (Kept.refl _ _) (fun _ => rfl) _).setCell (p := ⟨w2.heap.size, 1, none⟩) (fun _ => rfl) _).setCell (p := ⟨w2.heap.size, 2, none⟩) (fun _ => rfl) _).setCell (p := ⟨w2.heap.size, 3, none⟩) (fun _ => rfl) _).setCell (p := ⟨w2.heap.size, 4, none⟩) (fun _ => rfl) _) (fun b hb e => by have := HH.out.2.1 b hb; omega)
end Go.Proofs.Ytcckhngbdoiikaa
