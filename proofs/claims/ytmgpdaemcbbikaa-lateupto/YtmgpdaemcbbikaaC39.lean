import Derived.Test.YtmgpdaemcbbikaaC38

namespace Go.Proofs.Ytmgpdaemcbbikaa
open Go.RowKit Go.Deep
set_option linter.unusedVariables false

/-- Down through the layers: where it goes, and the bytes along it. -/
def walkD (x : WebT) (LL : List (List Bool)) : Nat → Nat → List Nat → ByteArray → List Nat × ByteArray
  | 0, _, vis, t => (vis, t)
  | d + 1, at_, vis, t => match intoF (x.steps.getD at_ []) (LL.getD d []) with
    | none => (vis, t)
    | some s => walkD x LL d s.q (vis ++ [s.q]) (t ++ bytesOf [s.b])
def walkW (x : WebT) (LL : List (List Bool)) (start : Nat) : List Nat × ByteArray := walkD x LL LL.length start [start] ⟨#[]⟩
theorem intoF_in {x : WebT} (ho : WebOk x) {k : Nat} {l : List Bool} {s : StepT} (h : intoF (x.steps.getD k []) l = some s) : s.q < x.token.length ∧ s.b < 256 := by
  have h1 := List.mem_of_find?_eq_some h
  by_cases hk : k < x.steps.length
  · have hm : x.steps.getD k [] ∈ x.steps := by rw [List.getD_eq_getElem?_getD, List.getElem?_eq_getElem hk]; exact List.getElem_mem hk
    exact ho.into _ hm s h1
  · rw [List.getD_eq_getElem?_getD, List.getElem?_eq_none (by omega)] at h1
    simp at h1
theorem bytes1_size (b : Nat) : (bytesOf [b]).size = 1 := by rw [bytesOf_size]; rfl

set_option maxRecDepth 20000 in
set_option maxHeartbeats 3200000 in
theorem walkW_any (wb : Nat) (x : WebT) (start : Nat) (lv : Value) (LL : List (List Bool)) (w : World) (h : WebAt w wb x) (ho : WebOk x) (hL : BoolRows w lv LL) (hLn : ∀ l ∈ LL, l.length = x.token.length) (hm : LL.length ≤ 100001) (hs : start < x.token.length) :
    Calls Try.prog 115 #[.pointer (some ⟨wb, 0, none⟩), .int .i64 (start : Int), lv] w fun e w' => ∃ v, e = .returned (.tuple #[v, .string (walkW x LL start).2]) ∧ IRow w' v (natsI (walkW x LL start).1) ∧ Below w.heap.size w w' := by
  have HLEN := hide ho.len
  have HINF := hide (fun (k : Nat) (l : List Bool) (s : StepT) (h9 : intoF (x.steps.getD k []) l = some s) => intoF_in ho h9)
  have HIN := hide (fun (W : World) (hb : Below w.heap.size w W) (k : Nat) (mv : Value) (marked : List Bool) => into_any wb x k mv marked W (h.below hb) ho)
  obtain ⟨ld, lcap, rfl, hlrow⟩ := hL.formL rfl
  have HL := hide hL
  have HLN := hide hLn
  generalize hX : walkW x LL start = X
  unfold walkW at hX
  have HX := hide hX
  clear h ho hL hLn hX
  go_enter Try.func115, Try.ntmps115
  go_wp2_with fail
  go_loopg [8, 9, 10, 11] LL.length (fun G vv tv av dv wr => ∃ (d at_ : Nat) (z : Int) (vis : List Nat) (t : ByteArray), dv = .int .i64 z ∧ z = (d : Int) - 1 ∧ av = .int .i64 (at_ : Int) ∧ at_ < x.token.length ∧ tv = .string t ∧ d ≤ LL.length ∧ G = d ∧ t.size + d ≤ LL.length ∧ vis.length + d ≤ LL.length + 1 ∧ walkD x LL d at_ vis t = X ∧ Below w.heap.size w wr ∧ IRow wr vv (natsI vis) ∧ (∀ b, vv.ownBlock = some b → w.heap.size ≤ b))
  case atStart =>
    refine ⟨LL.length, start, _, [start], ⟨#[]⟩, rfl, rfl, rfl, hs, rfl, Nat.le_refl _, rfl, by show 0 + _ ≤ _; omega, by simp; omega, HX.out, Below1 _ _, ?_, ?_⟩
    · exact ownsRow_mk (cur := #[.int .i64 (start : Int)]) (by rfl) (Blk.new _ _ _) (Nat.le_refl _) (by unfold maxLen; omega) rfl (by rfl)
    · intro b e
      cases (Option.some.inj e : w.heap.size = b)
      exact Nat.le_refl _
  case round =>
    obtain ⟨d, at_, z, vis, t, rfl, hz, rfl, hat, rfl, hd, hG, hts, hvl, hX, hbw, hV, hO⟩ := hrel
    clear HX
    obtain ⟨vd, vcap, rfl, hvrow⟩ := hV.formN
    by_cases h0 : 0 < d
    · obtain ⟨d', rfl⟩ : ∃ d', d = d' + 1 := ⟨d - 1, by omega⟩
      obtain rfl : z = (d' : Int) := by omega
      have e0 : decide ((0 : Int) ≤ (d' : Int)) = true := by simp
      rcases hlrow with h9 | ⟨lg, rfl⟩
      · omega
      unfold walkD at hX
      obtain ⟨pv, p0, hP⟩ := RowsOf.cell (HL.out.below hbw) d' (by omega)
      have hPl : (LL.getD d' []).length = x.token.length := HLN.out _ (by rw [List.getD_eq_getElem?_getD, List.getElem?_eq_getElem (by omega)]; exact List.getElem_mem _)
      obtain ⟨pd, pcap, rfl, _⟩ := hP.form
      have q0 : (0 : Int) ≤ (d' : Int) := by omega
      have q1 : (d' : Int) < (LL.length : Int) := by omega
      have hfi := fun s => HINF.out at_ (LL.getD d' []) s
      generalize LL.getD d' [] = row at hP hPl p0 hX hfi
      have HIN1 := hide (HIN.out wr hbw at_ (.slice pd row.length pcap) row (by rw [HLEN.out]; exact hat) hP hPl)
      generalize intoF (x.steps.getD at_ []) row = F at HIN1 hX hfi
      have HX := hide hX
      have HH : Hid (Below w.heap.size w wr ∧ IRow wr (.slice vd vis.length vcap) (natsI vis) ∧ (∀ b, (Value.slice vd vis.length vcap).ownBlock = some b → w.heap.size ≤ b)) := ⟨hbw, hV, hO⟩
      clear hP hPl hX hbw hV hO hz
      go_wp2_with fail
      refine HIN1.out.mono ?_
      rintro e w1 ⟨rfl, hb1⟩
      have HH1 : Hid (Below w.heap.size w w1 ∧ IRow w1 (.slice vd vis.length vcap) (natsI vis) ∧ (∀ b, (Value.slice vd vis.length vcap).ownBlock = some b → w.heap.size ≤ b)) := ⟨HH.out.1.trans (hb1.mono HH.out.1.size), HH.out.2.1.below hb1, HH.out.2.2⟩
      clear HH HIN1 hb1 p0
      cases F with
      | none =>
        have v0 := intoV_none
        have hx : (vis, t) = X := HX.out
        subst hx
        clear hfi
        go_wp2_with fail
        go_ret2
        obtain ⟨r1, r2, r3⟩ := HH1.out
        exact ⟨_, rfl, r2.below (Below1 _ _), r1.alloc r1.size _⟩
      | some st =>
        obtain ⟨sb, sq⟩ := st
        have v0 := intoV_some sb sq
        obtain ⟨hq1, hq2⟩ := hfi ⟨sb, sq⟩ rfl
        simp only at hq1 hq2
        have u1 : ∀ W : World, (Op.stringOp .add t (bytesOf [sb])).run Try.prog W = .ok (.string (t ++ bytesOf [sb])) W := fun W => run_string_add_sum W _ _ (by rw [bytes1_size]; omega)
        obtain ⟨ii, hii, hz0, hz1, hz2⟩ := info_parts Try.infoI3
        obtain ⟨w2, hw2⟩ : ∃ w2 : World, w1.alloc (.cells #[.string (bytesOf [sb]), .int .i64 (sq : Int)] 195) = w2 := ⟨_, rfl⟩
        have hS2 : Blk w2 w1.heap.size #[.string (bytesOf [sb]), .int .i64 (sq : Int)] 195 := by rw [← hw2]; exact Blk.new _ _ _
        have HH2 : Hid (Below w.heap.size w w2 ∧ IRow w2 (.slice vd vis.length vcap) (natsI vis) ∧ (∀ b, (Value.slice vd vis.length vcap).ownBlock = some b → w.heap.size ≤ b) ∧ Blk w2 w1.heap.size #[.string (bytesOf [sb]), .int .i64 (sq : Int)] 195) := by
          obtain ⟨r1, r2, r3⟩ := HH1.out
          exact ⟨by rw [← hw2]; exact r1.alloc r1.size _, by rw [← hw2]; exact r2.below (Below1 _ _), r3, hS2⟩
        have hol : (w2.alloc (.cells #[.int .i64 (sq : Int)] 3)).ownsRow 0 3 1 (.slice vd vis.length vcap) vis.length ((natsI vis).map (Value.int .i64)) := by
          have h9 := HH2.out.2.1.below (Below1 w2 (.cells #[.int .i64 (sq : Int)] 3))
          unfold IRow at h9
          rw [natsI_len] at h9
          exact h9
        have HOL := hide hol
        have c1 := hS2.cell 1
        have zS := hS2.lt
        clear hol hfi hS2 HH1
        go_upto_region 9 with fail
        try rw [hw2]
        clear hw2
        go_wp2_with (at_builtin; (refine wpList_append_lies _ (by rfl) _ _ _ (by rfl) 0 3 ii _ 1 8 Try.underlying40 hii hz0 hz1 hz2 rfl (by omega) (.slice vd vis.length vcap) vis.length ((natsI vis).map (Value.int .i64)) (by rfl) HOL.out ⟨w2.heap.size, 0, none⟩ 1 1 [.int .i64 (sq : Int)] (by rfl) (by rfl) (World.news_of_block (cs := #[.int .i64 (sq : Int)]) (t := 3) (fr := (0, 0)) (by have := heap_alloc_new w2 (.cells #[.int .i64 (sq : Int)] 3); simpa using this)) (by simp [Value.oneCell']) (by omega) (by unfold maxLen; omega) (by omega) (by simp) (w2.heap.size + 1) (by simp) ?_))
        intro gg cap6 w6 hown6 hgrow6 hat6 hlt6
        have hk6 : Kept (fun y => (Value.slice vd vis.length vcap).ownBlock = some y) (w2.alloc (.cells #[.int .i64 (sq : Int)] 3)) w6 := ⟨hgrow6.os, hgrow6.tape, hgrow6.output, hgrow6.size, fun k hk he => hgrow6.block k hk (fun e => he e.symm)⟩
        obtain ⟨r1, r2, r3, r4⟩ := HH2.out
        have hS6 : Blk w6 w1.heap.size #[.string (bytesOf [sb]), .int .i64 (sq : Int)] 195 := (r4.alloc _).kept hk6 (fun e => ownsRow_ne HOL.out (r4.alloc _) (by decide) e)
        have HH6 : Hid (Below w.heap.size w w6 ∧ IRow w6 (.slice (some ⟨gg, 0, none⟩) (vis.length + 1) cap6) (natsI (vis ++ [sq])) ∧ w.heap.size ≤ gg) := by
          refine ⟨?_, ?_, ?_⟩
          · have k1 : Below w.heap.size w (w2.alloc (.cells #[.int .i64 (sq : Int)] 3)) := r1.alloc r1.size _
            exact k1.trans ⟨hk6.os, hk6.tape, hk6.output, hk6.size, fun y hy => hk6.block y (by have := k1.size; omega) (fun e => by have := r3 y e; omega)⟩
          · have e9 : natsI (vis ++ [sq]) = natsI vis ++ [(sq : Int)] := by simp [natsI]
            unfold IRow
            rw [e9, List.map_append, List.length_append, natsI_len]
            exact hown6
          · rcases hat6 with e | e
            · exact r3 gg e
            · have := r1.size; omega
        have c0 := hS6.cell 0
        have zS6 := hS6.lt
        clear hk6 hown6 hgrow6 hat6 hlt6 HOL r1 r2 r3 r4 hS6 HH2 c1
        go_wp2_with fail
        go_roundg d'
        case measure => omega
        case rel =>
          refine ⟨d', sq, _, vis ++ [sq], t ++ bytesOf [sb], rfl, rfl, rfl, hq1, rfl, by omega, rfl, by rw [ByteArray.size_append, bytes1_size]; omega, by simp; omega, HX.out, HH6.out.1, ?_, fun b e => ?_⟩
          · have := HH6.out.2.1
            simpa using this
          · cases (Option.some.inj e : gg = b)
            exact HH6.out.2.2
    · obtain rfl : d = 0 := by omega
      obtain rfl : z = -1 := by omega
      have hx : (vis, t) = X := hX
      subst hx
      have HH : Hid (Below w.heap.size w wr ∧ IRow wr (.slice vd vis.length vcap) (natsI vis)) := ⟨hbw, hV⟩
      clear hX hbw hV hO hz
      go_wp2_with fail
      go_ret2
      exact ⟨_, rfl, HH.out.2, HH.out.1⟩
end Go.Proofs.Ytmgpdaemcbbikaa

namespace Go.Proofs.Ytmgpdaemcbbikaa
open Go.RowKit Go.Deep
set_option linter.unusedVariables false

/-- Where the state at a place was before. -/
def wasAt (vis : List Nat) (s : Nat) : Option Nat := (List.range s).find? (fun f => vis.getD f 0 == vis.getD s 0)
/-- Where a state was and where it comes again; 0 and 0, if none does. -/
def repeatF (vis : List Nat) : Nat × Nat := match (List.range vis.length).find? (fun s => (wasAt vis s).isSome) with
  | none => (0, 0)
  | some s => ((wasAt vis s).getD 0, s)
theorem wasAt_lt {vis : List Nat} {s f : Nat} (h : wasAt vis s = some f) : f < s := by
  have := List.mem_of_find?_eq_some h
  simpa using this
theorem repeatF_le (vis : List Nat) (h : 0 < vis.length) : (repeatF vis).1 ≤ (repeatF vis).2 ∧ (repeatF vis).2 < vis.length := by
  unfold repeatF
  split
  · exact ⟨Nat.le_refl _, h⟩
  · rename_i s hs
    have h1 := List.mem_of_find?_eq_some hs
    have h2 : s < vis.length := by simpa using h1
    refine ⟨?_, h2⟩
    cases hw : wasAt vis s with
    | none => simp
    | some f => have := wasAt_lt hw; simp; omega

set_option maxRecDepth 20000 in
set_option maxHeartbeats 1600000 in
theorem repeat_any (vis : List Nat) (v : Value) (w : World) (h : IRow w v (natsI vis)) (hl : vis.length ≤ 200000) :
    Calls Try.prog 116 #[v] w fun e w' => e = .returned (.tuple #[.int .i64 ((repeatF vis).1 : Int), .int .i64 ((repeatF vis).2 : Int)]) ∧ Below w.heap.size w w' := by
  obtain ⟨vd, vcap, rfl, hvrow⟩ := h.formN
  have HV := hide h
  clear h
  go_enter Try.func116, Try.ntmps116
  go_wp2_with fail
  go_loopg [10] vis.length (fun G sv wr => ∃ s : Nat, sv = .int .i64 (s : Int) ∧ s ≤ vis.length ∧ G = vis.length - s ∧ wr = w ∧ ∀ j, j < s → wasAt vis j = none)
  case atStart => exact ⟨0, rfl, by omega, rfl, rfl, fun j hj => by omega⟩
  case round =>
    obtain ⟨s, rfl, hs, rfl, rfl, hno⟩ := hrel
    have HNO := hide hno
    clear hno
    by_cases hlt : s < vis.length
    · have e0 : decide ((s : Int) < (vis.length : Int)) = true := by simp; omega
      rcases hvrow with h9 | ⟨vg, rfl⟩
      · omega
      have c0 := HV.out.cellN s hlt
      have s0 : (0 : Int) ≤ (s : Int) := by omega
      have s1 : (s : Int) < (vis.length : Int) := by omega
      have hcap : vis.length ≤ vcap := by
        obtain ⟨_, ad9, cap9, e9, ⟨h1, h2⟩ | ⟨g9, cur9, h1, h2, h3, _⟩⟩ := ownsRow_form HV.out
        · rw [natsI_len] at h2; omega
        · rw [natsI_len] at h3
          injection e9 with e1 e2 e3
          omega
      have s2 : (s : Int) ≤ (vcap : Int) := by omega
      obtain ⟨vs, hvs⟩ : ∃ vs, vis.getD s 0 = vs := ⟨_, rfl⟩
      rw [hvs] at c0
      have HVS := hide hvs
      clear hcap hvs
      go_wp2_with fail
      go_loopg [19] s (fun G fv wi => ∃ f : Nat, fv = .int .i64 (f : Int) ∧ f ≤ s ∧ G = s - f ∧ wi = wr ∧ ∀ j, j < f → vis.getD j 0 ≠ vis.getD s 0)
      case atStart => exact ⟨0, rfl, by omega, rfl, rfl, fun j hj => by omega⟩
      case round =>
        obtain ⟨f, rfl, hf, rfl, rfl, hnf⟩ := hrel
        have HNF := hide hnf
        clear hnf
        by_cases hfl : f < s
        · have e1 : decide ((f : Int) < (s : Int)) = true := by simp; omega
          have c1 := HV.out.cellN f (by omega)
          have f0 : (0 : Int) ≤ (f : Int) := by omega
          have f1 : (f : Int) < (s : Int) := by omega
          obtain ⟨vf, hvf⟩ : ∃ vf, vis.getD f 0 = vf := ⟨_, rfl⟩
          rw [hvf] at c1
          have HVF := hide hvf
          clear hvf
          by_cases heq : vf = vs
          · have e2 : ((vf : Int) == (vs : Int)) = true := by rw [heq]; simp
            have hwas : wasAt vis s = some f := by
              unfold wasAt
              rw [List.find?_range_eq_some]
              exact ⟨by rw [HVF.out, HVS.out, heq]; simp, by simpa using hfl, fun j hj => by simpa using HNF.out j hj⟩
            have hrep : repeatF vis = (f, s) := by
              have h9 : (List.range vis.length).find? (fun s => (wasAt vis s).isSome) = some s := by
                rw [List.find?_range_eq_some]
                exact ⟨by rw [hwas]; rfl, by simpa using hlt, fun j hj => by rw [HNO.out j hj]; rfl⟩
              unfold repeatF
              rw [h9]
              simp [hwas]
            have HREP := hide hrep
            clear hwas hrep
            subst heq
            go_wp2_with fail
            go_ret2
            exact ⟨by rw [HREP.out]; rfl, Below.refl _ _⟩
          · have e2 : ((vf : Int) == (vs : Int)) = false := by
              rw [beq_eq_false_iff_ne]
              intro e
              exact heq (by omega)
            have HEQ := hide heq
            go_wp2_with fail
            go_roundg (s - (f + 1))
            case measure => omega
            case rel =>
              refine ⟨f + 1, by go_num, by omega, rfl, rfl, fun j hj => ?_⟩
              by_cases e : j < f
              · exact HNF.out j e
              · rw [show j = f by omega, HVF.out, HVS.out]; exact HEQ.out
        · have e1 : decide ((f : Int) < (s : Int)) = false := by simp; omega
          obtain rfl : f = s := by omega
          go_wp2_with fail
          go_roundg (vis.length - (f + 1))
          case measure => omega
          case rel =>
            refine ⟨f + 1, by go_num, by omega, rfl, rfl, fun j hj => ?_⟩
            by_cases e : j < f
            · exact HNO.out j e
            · rw [show j = f by omega]
              unfold wasAt
              rw [List.find?_range_eq_none]
              intro i hi
              simpa using HNF.out i hi
    · have e0 : decide ((s : Int) < (vis.length : Int)) = false := by simp; omega
      obtain rfl : s = vis.length := by omega
      have hrep : repeatF vis = (0, 0) := by
        have h9 : (List.range vis.length).find? (fun s => (wasAt vis s).isSome) = none := by
          rw [List.find?_range_eq_none]
          intro i hi
          rw [HNO.out i hi]; rfl
        unfold repeatF
        rw [h9]
      have HREP := hide hrep
      clear hrep
      go_wp2_with fail
      go_ret2
      exact ⟨by rw [HREP.out]; rfl, Below.refl _ _⟩
end Go.Proofs.Ytmgpdaemcbbikaa
