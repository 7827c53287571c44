import Derived.Test.YtcckhngbdoiikaaM34
import Derived.Test.YtcckhngbdoiikaaM26
import Derived.Test.YtcckhngbdoiikaaM30

namespace Go.Proofs.Ytcckhngbdoiikaa
open Go.RowKit Go.Deep
set_option linter.unusedVariables false

/-- A step: its byte, and where it leads. -/
structure StepT where
  b : Nat
  q : Nat
  deriving DecidableEq, Inhabited
def stepD : StepT := ⟨0, 0⟩
def stepsC : List StepT → List Value
  | [] => []
  | x :: r => .string (bytesOf [x.b]) :: .int .i64 (x.q : Int) :: stepsC r
theorem stepsC_length : ∀ l : List StepT, (stepsC l).length = l.length * 2
  | [] => rfl
  | s :: r => by simp [stepsC, stepsC_length r]; omega
theorem stepsC_append : ∀ l m : List StepT, stepsC (l ++ m) = stepsC l ++ stepsC m
  | [], m => rfl
  | s :: r, m => by simp [stepsC, stepsC_append r m]
theorem stepsC_get : ∀ (l : List StepT) (k : Nat) (h : k < l.length), (stepsC l)[k * 2]? = some (.string (bytesOf [l[k].b])) ∧ (stepsC l)[k * 2 + 1]? = some (.int .i64 (l[k].q : Int))
  | s :: r, 0, _ => ⟨rfl, rfl⟩
  | s :: r, k + 1, h => by
    rw [show (k + 1) * 2 = k * 2 + 1 + 1 by omega]
    simp only [stepsC, List.getElem?_cons_succ, List.getElem_cons_succ]
    exact stepsC_get r k (by simpa using h)
def StepRow (w : World) (v : Value) (l : List StepT) : Prop := w.ownsRow 0 204 2 v l.length (stepsC l)
theorem StepRow.kept {w w' : World} {v : Value} {l : List StepT} {ex : Nat → Prop} (h : StepRow w v l) (k : Kept ex w w') (he : ∀ b, v.ownBlock = some b → ¬ ex b) : StepRow w' v l := ownsRow_kept h k he
theorem StepRow.below {w w' : World} {v : Value} {l : List StepT} (h : StepRow w v l) (k : Below w.heap.size w w') : StepRow w' v l := h.kept (ex := fun _ => False) (Kept.ofBelow k) (fun _ _ e => e)
theorem StepRow.form {w : World} {v : Value} {l : List StepT} (h : StepRow w v l) : ∃ (ad : Option Addr) (cap : Nat), v = .slice ad l.length cap ∧ (l.length = 0 ∨ ∃ g, ad = some ⟨g, 0, none⟩) := by
  obtain ⟨_, ad, cap, rfl, ⟨_, h⟩ | ⟨g, _, rfl, _⟩⟩ := ownsRow_form h
  · exact ⟨ad, cap, rfl, .inl h⟩
  · exact ⟨_, cap, rfl, .inr ⟨g, rfl⟩⟩
theorem StepRow.cell {w : World} {l : List StepT} {g cap : Nat} (h : StepRow w (.slice (some ⟨g, 0, none⟩) l.length cap) l) (k : Nat) (hk : k < l.length) : w.cell? ⟨g, k * 2, none⟩ = some (.string (bytesOf [l[k].b])) ∧ w.cell? ⟨g, k * 2 + 1, none⟩ = some (.int .i64 (l[k].q : Int)) := by
  obtain ⟨h1, h2⟩ := stepsC_get l k hk
  exact ⟨(ownsRow_cell h (k * 2) (by omega)).trans h1, (ownsRow_cell h (k * 2 + 1) (by omega)).trans h2⟩
/-- A list of rows. -/
def RowsOf (w : World) (ty : TypeId) (P : World → Value → Nat → Prop) (v : Value) (n : Nat) : Prop := ∃ vs : List Value, w.ownsRow 0 ty 1 v n vs ∧ vs.length = n ∧ ∀ i x, vs[i]? = some x → P w x i
theorem RowsOf.form {w : World} {ty : TypeId} {P : World → Value → Nat → Prop} {v : Value} {n : Nat} (h : RowsOf w ty P v n) : ∃ (ad : Option Addr) (cap : Nat), v = .slice ad n cap ∧ (n = 0 ∨ ∃ g, ad = some ⟨g, 0, none⟩) := by
  obtain ⟨vs, h, _⟩ := h
  obtain ⟨_, ad, cap, rfl, ⟨_, h⟩ | ⟨g, _, rfl, _⟩⟩ := ownsRow_form h
  · exact ⟨ad, cap, rfl, .inl h⟩
  · exact ⟨_, cap, rfl, .inr ⟨g, rfl⟩⟩
theorem RowsOf.cell {w : World} {ty : TypeId} {P : World → Value → Nat → Prop} {g cap n : Nat} (h : RowsOf w ty P (.slice (some ⟨g, 0, none⟩) n cap) n) (i : Nat) (hi : i < n) : ∃ x, w.cell? ⟨g, i, none⟩ = some x ∧ P w x i := by
  obtain ⟨vs, h1, h2, h3⟩ := h
  have h4 : vs[i]? = some vs[i] := List.getElem?_eq_getElem (by omega)
  exact ⟨vs[i], by rw [ownsRow_cell h1 i (by omega)]; exact h4, h3 i _ h4⟩
theorem RowsOf.kept {w w' : World} {ty : TypeId} {P : World → Value → Nat → Prop} {v : Value} {n : Nat} {ex : Nat → Prop} (h : RowsOf w ty P v n) (k : Kept ex w w') (he : ∀ b, v.ownBlock = some b → ¬ ex b) (hP : ∀ x i, P w x i → P w' x i) : RowsOf w' ty P v n := by
  obtain ⟨vs, h1, h2, h3⟩ := h
  exact ⟨vs, ownsRow_kept h1 k he, h2, fun i x hx => hP x i (h3 i x hx)⟩
theorem RowsOf.below {w w' : World} {ty : TypeId} {P : World → Value → Nat → Prop} {v : Value} {n : Nat} (h : RowsOf w ty P v n) (k : Below w.heap.size w w') (hP : ∀ x i, P w x i → P w' x i) : RowsOf w' ty P v n :=
  h.kept (ex := fun _ => False) (Kept.ofBelow k) (fun _ _ e => e) hP
def StepRows (w : World) (v : Value) (ll : List (List StepT)) : Prop := RowsOf w 201 (fun w x i => StepRow w x (ll.getD i [])) v ll.length
def BoolRows (w : World) (v : Value) (ll : List (List Bool)) : Prop := RowsOf w 119 (fun w x i => BRow w x (ll.getD i [])) v ll.length
theorem StepRows.below {w w' : World} {v : Value} {ll : List (List StepT)} (h : StepRows w v ll) (k : Below w.heap.size w w') : StepRows w' v ll := RowsOf.below h k (fun x i hx => StepRow.below hx k)
theorem BoolRows.below {w w' : World} {v : Value} {ll : List (List Bool)} (h : BoolRows w v ll) (k : Below w.heap.size w w') : BoolRows w' v ll := RowsOf.below h k (fun x i hx => BRow.below hx k)
/-- The web: of each state whether it is a token's, and its steps. -/
structure WebT where
  token : List Bool
  steps : List (List StepT)
structure WebAt (w : World) (wb : Nat) (x : WebT) : Prop where
  ex : ∃ tv sv, Blk w wb #[tv, sv] 169 ∧ BRow w tv x.token ∧ StepRows w sv x.steps
theorem WebAt.below {w w' : World} {wb : Nat} {x : WebT} (h : WebAt w wb x) (k : Below w.heap.size w w') : WebAt w' wb x := by
  obtain ⟨tv, sv, h1, h2, h3⟩ := h.ex
  exact ⟨tv, sv, h1.below k, h2.below k, h3.below k⟩
/-- What holds of a web: as many rows of steps as states; each step leads to a state; not too many. -/
structure WebOk (x : WebT) : Prop where
  len : x.steps.length = x.token.length
  into : ∀ l ∈ x.steps, ∀ s ∈ l, s.q < x.token.length ∧ s.b < 256
  few : ∀ l ∈ x.steps, l.length ≤ 256
  states : x.token.length ≤ 100000
/-- The first step into a marked state. -/
def intoF (l : List StepT) (marked : List Bool) : Option StepT := l.find? (fun s => marked.getD s.q false)
end Go.Proofs.Ytcckhngbdoiikaa

namespace Go.Proofs.Ytcckhngbdoiikaa
open Go.RowKit Go.Deep
set_option linter.unusedVariables false

def stepV (s : StepT) : Value := .agg #[.string (bytesOf [s.b]), .int .i64 (s.q : Int)]
def noStepV : Value := .agg #[.string ⟨#[]⟩, .int .i64 0]
def intoV : Option StepT → Value
  | none => .tuple #[noStepV, .bool false]
  | some s => .tuple #[stepV s, .bool true]
theorem Try.infoStep : (Try.prog.info? 204).map (·.size) = some 2 := by kernel_rfl
theorem storeStep {s : StepT} {ops : Array Oper} {rest : List Oper} {o : Oper} {a : Act} {w : World} {Q : Exit → Act → World → Prop} (hgd : o.guard = none) (p q : Operand) (ho : o.op = .store 204 p q)
    (g : Nat) (hx : a.eval p = .pointer (some ⟨g, 0, none⟩)) (hy : a.eval q = stepV s) {old : Array Value} (hb : Blk w g old 204) (hold : old.size = 2)
    (h : wpList Try.prog ops Q rest (a.put o.dst undef) (w.setRow g #[.string (bytesOf [s.b]), .int .i64 (s.q : Int)])) : wpList Try.prog ops Q (o :: rest) a w :=
  wpList_store_row hgd 204 p q ho g _ hx hy 204 _ hb Try.infoStep hold (by simp [Value.oneCell']) h
theorem storeNoStep {ops : Array Oper} {rest : List Oper} {o : Oper} {a : Act} {w : World} {Q : Exit → Act → World → Prop} (hgd : o.guard = none) (p q : Operand) (ho : o.op = .store 204 p q)
    (g : Nat) (hx : a.eval p = .pointer (some ⟨g, 0, none⟩)) (hy : a.eval q = noStepV) {old : Array Value} (hb : Blk w g old 204) (hold : old.size = 2)
    (h : wpList Try.prog ops Q rest (a.put o.dst undef) (w.setRow g #[.string ⟨#[]⟩, .int .i64 0])) : wpList Try.prog ops Q (o :: rest) a w :=
  wpList_store_row hgd 204 p q ho g _ hx hy 204 _ hb Try.infoStep hold (by simp [Value.oneCell']) h
set_option maxRecDepth 20000 in
set_option maxHeartbeats 1600000 in
theorem into_any (wb : Nat) (x : WebT) (k : Nat) (mv : Value) (marked : List Bool) (w : World) (h : WebAt w wb x) (ho : WebOk x) (hk : k < x.steps.length) (hm : BRow w mv marked) (hml : marked.length = x.token.length) :
    Calls Try.prog 123 #[.pointer (some ⟨wb, 0, none⟩), .int .i64 (k : Int), mv] w fun e w' => e = .returned (intoV (intoF (x.steps.getD k []) marked)) ∧ Below w.heap.size w w' := by
  obtain ⟨tv, sv, hb, ht, hs⟩ := h.ex
  obtain ⟨sd, scap, rfl, hsrow⟩ := hs.form
  rcases hsrow with h0 | ⟨sg, rfl⟩
  · omega
  obtain ⟨rv, c1, hr⟩ := hs.cell k hk
  have c0 : w.cell? ⟨wb, 1, none⟩ = some (.slice (some ⟨sg, 0, none⟩) x.steps.length scap) := hb.cell 1
  obtain ⟨rd, rcap, rfl, hrow⟩ := hr.form
  obtain ⟨md, mcap, rfl, hmrow⟩ := hm.form
  have hmem : x.steps.getD k [] ∈ x.steps := by rw [List.getD_eq_getElem?_getD, List.getElem?_eq_getElem hk]; exact List.getElem_mem hk
  have hin := ho.into _ hmem
  have hfw := ho.few _ hmem
  have hst := ho.states
  generalize x.steps.getD k [] = row at hr hin hfw c1 hrow
  have k0 : (0 : Int) ≤ (k : Int) := by omega
  have k1 : (k : Int) < (x.steps.length : Int) := by omega
  have zb := hb.lt
  have zs : sg < w.heap.size := by obtain ⟨vs, h9, _⟩ := hs; exact ownsRow_lt h9 sg rfl
  generalize hF : intoF row marked = F
  unfold intoF at hF
  have HF := hide hF
  have HR := hide hr
  have HM := hide hm
  have HIN := hide hin
  have HML := hide hml
  clear hb ht hs h ho hmem hF hr hm hin hml
  go_enter Try.func123, Try.ntmps123
  go_wp2_with fail
  go_loopg [18] row.length (fun G iv wr => ∃ i : Nat, iv = .int .i64 (i : Int) ∧ i ≤ row.length ∧ G = row.length - i ∧ (row.drop i).find? (fun s => marked.getD s.q false) = F ∧ Below w.heap.size w wr ∧ Blk wr w.heap.size #[.string ⟨#[]⟩, .int .i64 0] 204)
  case atStart => exact ⟨0, rfl, by omega, rfl, HF.out, Below1 _ _, Blk.new _ _ _⟩
  case round =>
    obtain ⟨i, rfl, hi, rfl, hf, hbw, hres⟩ := hrel
    clear HF
    by_cases hlt : i < row.length
    · have e0 : decide ((i : Int) < (row.length : Int)) = true := by simp; omega
      rcases hrow with h0 | ⟨rg, rfl⟩
      · omega
      obtain ⟨d0, d1⟩ := (HR.out.below hbw).cell i hlt
      obtain ⟨hq, hbb⟩ := HIN.out row[i] (List.getElem_mem hlt)
      rw [List.drop_eq_getElem_cons hlt, List.find?_cons] at hf
      generalize row[i] = st at d0 d1 hq hbb hf
      obtain ⟨sb, sq⟩ := st
      simp only at d0 d1 hq hbb hf
      rcases hmrow with h0 | ⟨mg, rfl⟩
      · have := HML.out; omega
      have m0 := (HM.out.below hbw).cellD sq (by rw [HML.out]; exact hq)
      have i0 : (0 : Int) ≤ (i : Int) := by omega
      have i1 : (i : Int) < (row.length : Int) := by omega
      have q0 : (0 : Int) ≤ (sq : Int) := by omega
      have q1 : (sq : Int) < (marked.length : Int) := by have := HML.out; omega
      have zr : rg < wr.heap.size := ownsRow_lt (HR.out.below hbw) rg rfl
      have zm : mg < wr.heap.size := ownsRow_lt (HM.out.below hbw) mg rfl
      have zres := hres.lt
      have HH : Hid (Below w.heap.size w wr ∧ Blk wr w.heap.size #[.string ⟨#[]⟩, .int .i64 0] 204) := ⟨hbw, hres⟩
      clear hbw hres
      cases hmk : marked.getD sq false with
      | true =>
        rw [hmk] at m0 hf
        have hfe : F = some ⟨sb, sq⟩ := hf.symm
        subst hfe
        clear hf hmk
        go_wp2_with (first | refine storeStep (s := ⟨sb, sq⟩) rfl (.tmp 6) (.tmp 27) rfl w.heap.size rfl rfl (HH.out.2.alloc _) rfl ?_)
        exact bodyPost_ret (results_cell_tmp Try.results123 _ _ w.heap.size 204 #[.string (bytesOf [sb]), .int .i64 (sq : Int)] (0, 0) _ rfl ((HH.out.2.alloc _).setRow _) Try.underlying204 rfl Try.infoStep) rfl ⟨rfl, Below_setRow (HH.out.1.alloc HH.out.1.size _) (Nat.le_refl _) _⟩
      | false =>
        rw [hmk] at m0 hf
        have HF := hide hf
        clear hf hmk
        go_wp2_with fail
        go_roundg (row.length - (i + 1))
        case measure => omega
        case rel => exact ⟨i + 1, by go_num, by omega, rfl, HF.out, HH.out.1.alloc HH.out.1.size _, HH.out.2.alloc _⟩
    · have e0 : decide ((i : Int) < (row.length : Int)) = false := by simp; omega
      rw [List.drop_of_length_le (by omega)] at hf
      have hfe : F = none := hf.symm
      subst hfe
      have HH : Hid (Below w.heap.size w wr ∧ Blk wr w.heap.size #[.string ⟨#[]⟩, .int .i64 0] 204) := ⟨hbw, hres⟩
      clear hf hbw hres
      go_wp2_with (first | refine storeNoStep rfl (.tmp 6) (.tmp 29) rfl w.heap.size rfl rfl HH.out.2 rfl ?_)
      exact bodyPost_ret (results_cell_tmp Try.results123 _ _ w.heap.size 204 #[.string ⟨#[]⟩, .int .i64 0] (0, 0) _ rfl (HH.out.2.setRow _) Try.underlying204 rfl Try.infoStep) rfl ⟨rfl, Below_setRow HH.out.1 (Nat.le_refl _) _⟩
end Go.Proofs.Ytcckhngbdoiikaa

namespace Go.Proofs.Ytcckhngbdoiikaa
open Go.RowKit Go.Deep
set_option linter.unusedVariables false

/-- The steps from a state, byte by byte. -/
def stepsLoop (kd : Nat → Nat) (g : Graph) (s : Nat) : Nat → Nat → List Bool → List StepT → List StepT
  | 0, _, _, acc => acc
  | n + 1, b, seen, acc =>
    if b < 256 then
      (if nextF kd g (s : Int) (b : Int) = -1 ∨ seen.getD (nextF kd g (s : Int) (b : Int)).toNat false = true then stepsLoop kd g s n (b + 1) seen acc
       else stepsLoop kd g s n (b + 1) (seen.set (nextF kd g (s : Int) (b : Int)).toNat true) (acc ++ [⟨b, (nextF kd g (s : Int) (b : Int)).toNat⟩]))
    else acc
def stepsF (kd : Nat → Nat) (g : Graph) (s : Nat) : List StepT := stepsLoop kd g s 257 0 (List.replicate g.rule.length false) []
theorem Try.infoStep3 : (Try.prog.info? 204).map (fun i => (i.zero, i.size, i.bytes)) = some (some (.agg #[.string ⟨#[]⟩, .int .i64 0]), 2, 24) := by kernel_rfl
/-- Every step leads to a state. -/
def StepsIn (kd : Nat → Nat) (g : Graph) : Prop := ∀ s b, nextF kd g s b = -1 ∨ (0 ≤ nextF kd g s b ∧ nextF kd g s b < (g.rule.length : Int))

set_option maxRecDepth 20000 in
set_option maxHeartbeats 1600000 in
theorem tableCount_any (pb : Nat) (kd : Nat → Nat) (g : Graph) (w : World) (h : LexAt w pb kd g) :
    Calls Try.prog 72 #[.pointer (some ⟨pb, 0, none⟩)] w fun e w' => e = .returned (.int .i64 (g.rule.length : Int)) ∧ w' = w := by
  obtain ⟨ruv, nxv, h1, h2⟩ := h
  have c0 : w.cell? ⟨pb, 256, none⟩ = some ruv := by rw [h1.cell]; exact tableC_256 _ _ _
  have c1 : w.cell? ⟨pb, 257, none⟩ = some nxv := by rw [h1.cell]; exact tableC_257 _ _ _
  obtain ⟨ad, cap, rfl, _⟩ := h2.rule.form
  clear h1 h2
  go_enter Try.func72, Try.ntmps72
  go_wp2_with fail
  go_ret
  exact ⟨rfl, rfl⟩

set_option maxRecDepth 20000 in
set_option maxHeartbeats 3200000 in
theorem steps_any (pb : Nat) (kd : Nat → Nat) (g : Graph) (s : Nat) (w : World) (h : LexAt w pb kd g) (ho : LexOk kd g) (hi : StepsIn kd g) (hl : g.rule.length ≤ 50000) :
    Calls Try.prog 122 #[.pointer (some ⟨pb, 0, none⟩), .int .i64 (s : Int)] w fun e w' => ∃ v, e = .returned v ∧ StepRow w' v (stepsF kd g s) ∧ (∀ b, v.ownBlock = some b → w.heap.size ≤ b) ∧ Below w.heap.size w w' := by
  have HN := hide (fun (W : World) (hb : Below w.heap.size w W) (b : Int) => tableNext_any pb kd g (s : Int) b W (h.below hb) ho)
  have HCO := hide (fun (W : World) (hb : Below w.heap.size w W) => tableCount_any pb kd g W (h.below hb))
  have HI := hide hi
  generalize hX : stepsF kd g s = X
  unfold stepsF at hX
  have HX := hide hX
  have hmk := makeBools g.rule.length (by omega)
  clear h ho hX hi
  go_enter Try.func122, Try.ntmps122
  go_wp2_with fail
  refine (HCO.out _ (Below1 _ _)).mono ?_
  rintro e w1 ⟨rfl, rfl⟩
  go_wp2_with fail
  go_loopg [5, 7] 257 (fun G sv bv wr => ∃ (b : Nat) (seen : List Bool) (acc : List StepT), bv = .int .i64 (b : Int) ∧ b ≤ 256 ∧ G = 257 - b ∧ seen.length = g.rule.length ∧ acc.length ≤ b ∧ stepsLoop kd g s G b seen acc = X ∧ Below w.heap.size w wr ∧ Blk wr (w.heap.size + 1) (boolsA seen) 4 ∧ StepRow wr sv acc ∧ (∀ b, sv.ownBlock = some b → w.heap.size ≤ b ∧ b ≠ w.heap.size + 1))
  case atStart =>
    refine ⟨0, List.replicate g.rule.length false, [], rfl, by omega, rfl, by simp, by simp, HX.out, Below2 _ _ _, Blk.at1 _ _ _ _, ?_, ?_⟩
    · exact ownsRow_mk (cur := #[]) (by rfl) ((Blk.new w #[] 204).alloc _) (Nat.le_refl _) (by unfold maxLen; omega) rfl (by rfl)
    · intro b e
      cases (Option.some.inj e : w.heap.size = b)
      omega
  case round =>
    obtain ⟨b, seen, acc, rfl, hb, rfl, hsl, hal, hX, hbw, hS, hA, hO⟩ := hrel
    clear HX
    obtain ⟨ad, acap, rfl, harow⟩ := hA.form
    by_cases hlt : b < 256
    · have e0 : decide ((b : Int) < 256) = true := by simp; omega
      rw [show 257 - b = (257 - (b + 1)) + 1 by omega] at hX
      unfold stepsLoop at hX
      rw [if_pos hlt] at hX
      have HH : Hid (Below w.heap.size w wr ∧ Blk wr (w.heap.size + 1) (boolsA seen) 4 ∧ StepRow wr (.slice ad acc.length acap) acc ∧ (∀ b, (Value.slice ad acc.length acap).ownBlock = some b → w.heap.size ≤ b ∧ b ≠ w.heap.size + 1)) := ⟨hbw, hS, hA, hO⟩
      have HSL := hide hsl
      clear hbw hS hA hO hsl
      go_wp2_with fail
      refine (HN.out wr HH.out.1 (b : Int)).mono ?_
      rintro e w1 ⟨rfl, hb1⟩
      have hin := HI.out (s : Int) (b : Int)
      generalize nextF kd g (s : Int) (b : Int) = q at hX hin
      have HH1 : Hid (Below w.heap.size w w1 ∧ Blk w1 (w.heap.size + 1) (boolsA seen) 4 ∧ StepRow w1 (.slice ad acc.length acap) acc ∧ (∀ b, (Value.slice ad acc.length acap).ownBlock = some b → w.heap.size ≤ b ∧ b ≠ w.heap.size + 1)) :=
        ⟨HH.out.1.trans (hb1.mono HH.out.1.size), HH.out.2.1.below hb1, HH.out.2.2.1.below hb1, HH.out.2.2.2⟩
      clear hb1 HH
      by_cases hq : q = -1
      · rw [if_pos (.inl hq)] at hX
        have e1 : (q != -1) = false := by simp [hq]
        have HX := hide hX
        clear hX hin hq
        go_wp2_with fail
        go_roundg (257 - (b + 1))
        case measure => omega
        case rel => exact ⟨b + 1, seen, acc, by go_num, by omega, rfl, HSL.out, by omega, HX.out, HH1.out.1, HH1.out.2.1, HH1.out.2.2.1, HH1.out.2.2.2⟩
      · have e1 : (q != -1) = true := by simp [hq]
        obtain ⟨j, rfl⟩ : ∃ j : Nat, q = (j : Int) := ⟨q.toNat, by omega⟩
        have hj : j < g.rule.length := by omega
        have c0 := boolsA_cellD HH1.out.2.1 j (by rw [HSL.out]; exact hj)
        have f0 := HH1.out.2.1.frozen j
        have j0 : (0 : Int) ≤ (j : Int) := by omega
        have j1 : (j : Int) < (g.rule.length : Int) := by omega
        have zs := HH1.out.2.1.lt
        rw [Int.toNat_natCast] at hX
        clear hin
        cases hsn : seen.getD j false with
        | true =>
          rw [hsn] at c0 hX
          rw [if_pos (.inr rfl)] at hX
          have HX := hide hX
          clear hX hsn hq
          go_wp2_with fail
          go_roundg (257 - (b + 1))
          case measure => omega
          case rel => exact ⟨b + 1, seen, acc, by go_num, by omega, rfl, HSL.out, by omega, HX.out, HH1.out.1, HH1.out.2.1, HH1.out.2.2.1, HH1.out.2.2.2⟩
        | false =>
          rw [hsn] at c0 hX
          rw [if_neg (by simp [hq])] at hX
          have HX := hide hX
          clear hX hsn hq
          obtain ⟨w2, hw2⟩ : ∃ w2 : World, w1.setCell ⟨w.heap.size + 1, j, none⟩ (.bool true) = w2 := ⟨_, rfl⟩
          have hk2 : Kept (fun x => x = w.heap.size + 1) w1 w2 := by rw [← hw2]; exact Kept.setCell (ex := fun x => x = w.heap.size + 1) (p := ⟨w.heap.size + 1, j, none⟩) (Kept.refl _ _) (fun _ => rfl) _
          have HH2 : Hid (Below w.heap.size w w2 ∧ Blk w2 (w.heap.size + 1) (boolsA (seen.set j true)) 4 ∧ StepRow w2 (.slice ad acc.length acap) acc ∧ (∀ b, (Value.slice ad acc.length acap).ownBlock = some b → w.heap.size ≤ b ∧ b ≠ w.heap.size + 1)) := by
            refine ⟨?_, ?_, HH1.out.2.2.1.kept hk2 (fun b hb e => (HH1.out.2.2.2 b hb).2 e), HH1.out.2.2.2⟩
            · rw [← hw2]; exact HH1.out.1.setCell (p := ⟨w.heap.size + 1, j, none⟩) (by simp) _
            · rw [← hw2, ← boolsA_set]; exact HH1.out.2.1.set j _
          have hcv := conv1 b (by omega) w2
          obtain ⟨ii, hii, hz0, hz1, hz2⟩ := info_parts Try.infoStep3
          have hol : StepRow ((w2.alloc (.cells #[.int .u8 (b : Int)] 5)).alloc (.cells #[.string (bytesOf [b]), .int .i64 (j : Int)] 204)) (.slice ad acc.length acap) acc := HH2.out.2.2.1.below (Below2 _ _ _)
          have HOL := hide hol
          have zz := HH2.out.1.size
          have zz2 := HH2.out.2.1.lt
          have hu8 : IntKind.u8.wrap (b : Int) = (b : Int) := by simp [IntKind.wrap, IntKind.bits, IntKind.signed]; omega
          clear hol hk2
          go_upto_region 9 with fail
          try rw [hw2]
          clear hw2 HH1 c0 f0 zs
          go_wp2_with (at_builtin; (refine wpList_append_lies _ (by rfl) _ _ _ (by rfl) 0 204 ii _ 2 24 Try.underlying201 hii hz0 hz1 hz2 rfl (by omega) (.slice ad acc.length acap) acc.length (stepsC acc) (by rfl) HOL.out ⟨w2.heap.size + 1, 0, none⟩ 1 1 [.string (bytesOf [b]), .int .i64 (j : Int)] (by rfl) (by rfl) (World.news_of_block (cs := #[.string (bytesOf [b]), .int .i64 (j : Int)]) (t := 204) (fr := (0, 0)) (by have := heap_alloc_new (w2.alloc (.cells #[.int .u8 (b : Int)] 5)) (.cells #[.string (bytesOf [b]), .int .i64 (j : Int)] 204); simpa using this)) (by simp [Value.oneCell']) (by omega) (by unfold maxLen; omega) (by omega) (by simp) (w2.heap.size + 1 + 1) (by simp) ?_))
          intro gg cap6 w6 hown6 hgrow6 hat6 hlt6
          have hk6 : Kept (fun x => (Value.slice ad acc.length acap).ownBlock = some x) ((w2.alloc (.cells #[.int .u8 (b : Int)] 5)).alloc (.cells #[.string (bytesOf [b]), .int .i64 (j : Int)] 204)) w6 := ⟨hgrow6.os, hgrow6.tape, hgrow6.output, hgrow6.size, fun k hk he => hgrow6.block k hk (fun e => he e.symm)⟩
          have HH6 : Hid (Below w.heap.size w w6 ∧ Blk w6 (w.heap.size + 1) (boolsA (seen.set j true)) 4 ∧ StepRow w6 (.slice (some ⟨gg, 0, none⟩) (acc.length + 1) cap6) (acc ++ [⟨b, j⟩]) ∧ (w.heap.size ≤ gg ∧ gg ≠ w.heap.size + 1)) := by
            obtain ⟨h1, h2, h3, h4⟩ := HH2.out
            refine ⟨?_, ((h2.alloc _).alloc _).kept hk6 (fun e => (h4 _ e).2 rfl), ?_, ?_⟩
            · have k1 : Below w.heap.size w ((w2.alloc (.cells #[.int .u8 (b : Int)] 5)).alloc (.cells #[.string (bytesOf [b]), .int .i64 (j : Int)] 204)) := (h1.alloc h1.size _).alloc (by simp; omega) _
              exact k1.trans ⟨hk6.os, hk6.tape, hk6.output, hk6.size, fun x hx => hk6.block x (by simp; omega) (fun e => by have := (h4 x e).1; omega)⟩
            · unfold StepRow
              rw [stepsC_append, List.length_append]
              exact hown6
            · rcases hat6 with e | e
              · exact h4 gg e
              · omega
          clear hk6 hown6 hgrow6 hat6 hlt6 HOL HH2 hcv hu8
          go_wp2_with fail
          go_roundg (257 - (b + 1))
          case measure => omega
          case rel =>
            refine ⟨b + 1, seen.set j true, acc ++ [⟨b, j⟩], by go_num, by omega, rfl, by simp [HSL.out], by simp; omega, HX.out, HH6.out.1, HH6.out.2.1, ?_, ?_⟩
            · have := HH6.out.2.2.1
              simpa using this
            · intro x e
              cases (Option.some.inj e : gg = x)
              exact HH6.out.2.2.2
    · have e0 : decide ((b : Int) < 256) = false := by simp; omega
      have hx : acc = X := by
        rw [show 257 - b = 0 + 1 by omega] at hX
        unfold stepsLoop at hX
        rw [if_neg hlt] at hX
        exact hX
      subst hx
      have HH : Hid (StepRow wr (.slice ad acc.length acap) acc ∧ (∀ b, (Value.slice ad acc.length acap).ownBlock = some b → w.heap.size ≤ b ∧ b ≠ w.heap.size + 1) ∧ Below w.heap.size w wr) := ⟨hA, hO, hbw⟩
      clear hA hO hbw hX hS
      go_wp2_with fail
      go_ret
      exact ⟨_, rfl, HH.out.1, fun b hb => (HH.out.2.1 b hb).1, HH.out.2.2⟩
end Go.Proofs.Ytcckhngbdoiikaa
