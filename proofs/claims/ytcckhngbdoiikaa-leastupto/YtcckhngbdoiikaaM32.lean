import Derived.Test.YtcckhngbdoiikaaM30
import Derived.Test.YtcckhngbdoiikaaM10
import Derived.Test.YtcckhngbdoiikaaM25
import Derived.Test.YtcckhngbdoiikaaM29
import Derived.Test.YtcckhngbdoiikaaM20
import Derived.Test.YtcckhngbdoiikaaM31

namespace Go.Proofs.Ytcckhngbdoiikaa
open Go.RowKit Go.Deep
set_option linter.unusedVariables false

theorem brow_blk {w : World} {b n cap : Nat} {l : List Bool} (h : BRow w (.slice (some ⟨b, 0, none⟩) n cap) l) : ∃ cs, Blk w b cs 4 := by
  obtain ⟨_, ad, cap', e, ⟨h1, _⟩ | ⟨g, cur, h1, h2, _⟩⟩ := ownsRow_form h
  · injection e with e1; rw [h1] at e1; cases e1
  · injection e with e1; rw [h1] at e1; cases e1; exact ⟨cur, h2⟩
theorem brow_keptI {w w' : World} {b n cap : Nat} {l : List Bool} {v : Value} {m : List Int} (h : BRow w (.slice (some ⟨b, 0, none⟩) n cap) l) (k : Kept (fun x => v.ownBlock = some x) w w') (hr : IRow w v m) : BRow w' (.slice (some ⟨b, 0, none⟩) n cap) l := by
  obtain ⟨cs, h1⟩ := brow_blk h
  exact h.kept k (fun b' hb' e => by cases (Option.some.inj hb' : b = b'); exact ownsRow_ne hr h1 (by decide) e)
/-- Writes into a row of numbers leave it as it is. -/
theorem Memo.keptI {c : MemoC} {A : Nat → Prop} {w w' : World} {v : Value} {m : List Int} (h : Memo c A w) (k : Kept (fun x => v.ownBlock = some x) w w') (hr : IRow w v m) : Memo c A w' := by
  refine ⟨h.blk.kept k (fun e => ownsRow_ne hr h.blk (by decide) e), h.nodes.kept k (fun b hb' e => ?_), ?_, fun n hn => ?_, h.inj⟩
  · obtain ⟨_, ad, cap', e', ⟨h1, _⟩ | ⟨g, cur, h1, h2, _⟩⟩ := ownsRow_form h.nodes
    · rw [e', h1] at hb'; simp [Value.ownBlock] at hb'
    · rw [e', h1] at hb'; cases (Option.some.inj hb' : g = b); exact ownsRow_ne hr h2 (by decide) e
  · obtain ⟨cs, h1, h2⟩ := h.known
    exact ⟨cs, h1.kept k (fun e => ownsRow_ne hr h1 (by decide) e), h2⟩
  · obtain ⟨cs, h1, h2, h3⟩ := h.rows n hn
    refine ⟨cs, h1.kept k (fun e => ownsRow_ne hr h1 (by decide) e), h2, fun p hp => ?_⟩
    rcases h3 p hp with e | ⟨b, e1, e2, e3⟩
    · exact .inl e
    · exact .inr ⟨b, e1, e2, brow_keptI e3 k hr⟩
/-- What was found lies in no block that is still to come. -/
theorem Memo.fresh {c : MemoC} {A : Nat → Prop} {w : World} (h : Memo c A w) : Memo c (fun b => A b ∨ b = w.heap.size) w := by
  refine ⟨h.blk, h.nodes, h.known, fun n hn => ?_, h.inj⟩
  obtain ⟨cs, h1, h2, h3⟩ := h.rows n hn
  refine ⟨cs, h1, h2, fun p hp => ?_⟩
  rcases h3 p hp with e | ⟨b, e1, e2, e3⟩
  · exact .inl e
  · refine .inr ⟨b, e1, fun e => ?_, e3⟩
    rcases e with e | e
    · exact e2 e
    · have := ownsRow_lt e3 b rfl; omega
/-- Where 'often' stands. -/
structure OftP (c : MemoC) (n p : Nat) (l : List Bool) (nx : List Nat) : Prop where
  len : l.length = c.N
  mem : ∀ q, q ≤ c.s.size → (l.getD q false = true ↔ q ∈ nx)
  star : ∀ q ∈ nx, EndsW (bytesN c.s) (Star (c.tr n).Word) p q
  has : p ∈ nx
  nodup : nx.Nodup
theorem OftP.few {c : MemoC} {n p : Nat} {l : List Bool} {nx : List Nat} (h : OftP c n p l nx) : nx.length ≤ c.N :=
  nodup_len c.N nx h.nodup (fun x hx => by have := (h.star x hx).2.1; rw [bytesN_len] at this; exact MemoC.ltN.2 this)
theorem OftP.push {c : MemoC} {n p : Nat} {l : List Bool} {nx : List Nat} (h : OftP c n p l nx) {m q : Nat} (hm : m ∈ nx) (he : EndsW (bytesN c.s) (c.tr n).Word m q) (hq : l.getD q false = false) : OftP c n p (l.set q true) (nx ++ [q]) := by
  have hqs : q ≤ c.s.size := by have := he.2.1; rw [bytesN_len] at this; exact this
  have hql : q < l.length := by rw [h.len]; exact MemoC.ltN.2 hqs
  have hnq : q ∉ nx := fun e => by rw [(h.mem q hqs).2 e] at hq; cases hq
  refine ⟨by simp [h.len], fun r hr => ?_, fun r hr => ?_, by simp [h.has], ?_⟩
  · rw [getD_setB _ _ _ _ hql]
    split
    · rename_i e; simp [e]
    · rename_i e; rw [h.mem r hr]; simp [e]
  · simp at hr
    rcases hr with e | e
    · exact h.star r e
    · rw [e]; exact ends_star_snoc (h.star m hm) he
  · rw [List.nodup_append]
    exact ⟨h.nodup, by simp, fun a ha b hb => by simp at hb; subst hb; exact fun e => hnq (e ▸ ha)⟩
theorem OftP.done {c : MemoC} {n p : Nat} {l : List Bool} {nx : List Nat} (h : OftP c n p l nx) (hc : ∀ m ∈ nx, ∀ r, EndsW (bytesN c.s) (c.tr n).Word m r → r ∈ nx) : l = rowW (bytesN c.s) (Star (c.tr n).Word) p :=
  rowW_ext (by rw [h.len, bytesN_len]; rfl) fun q hq => by
    rw [bytesN_len] at hq
    rw [h.mem q hq]
    exact ⟨fun e => h.star q e, fun e => ends_star_least (C := fun x => x ∈ nx) (fun m r hm hr => hc m hm r hr) e h.has⟩
theorem natsI_push (nx : List Nat) (q : Nat) : natsI (nx ++ [q]) = natsI nx ++ [(q : Int)] := by simp [natsI]
theorem Try.infoI3' : (Try.prog.info? 3).map (fun i => (i.zero, i.size, i.bytes)) = some (some (.int .i64 0), 1, 8) := by kernel_rfl

set_option maxRecDepth 20000 in
set_option maxHeartbeats 3200000 in
theorem often_any (c : MemoC) (n : Nat) (HO : OverC c n) (A : Nat → Prop) (w : World) (p : Nat) (hA : ∀ b, A b → b < w.heap.size) (hm : Memo c A w) (hp : p ≤ c.s.size) (hs : c.s.size ≤ 50000) :
    Calls Try.prog 120 #[.pointer (some ⟨c.wb, 0, none⟩), .int .i64 (n : Int), .int .i64 (p : Int)] w (RowOut c A w (rowW (bytesN c.s) (Star (c.tr n).Word) p)) := by
  have hN2 : c.N ≤ 50001 := by unfold MemoC.N; omega
  have hN1 : (c.s.size : Int) + 1 = (c.N : Int) := by unfold MemoC.N; omega
  have hpN : p < c.N := MemoC.ltN.2 hp
  have hmk := makeBools c.N (by omega)
  have s2 : w.cell? ⟨c.wb, 2, none⟩ = some (.string c.s) := hm.blk.cell 2
  have HM := hide hm
  have HOV := hide HO
  have HAA := hide hA
  have p0 : (0 : Int) ≤ (p : Int) := by omega
  have p1 : (p : Int) < (c.N : Int) := by omega
  have cz : (w.alloc (.cells (boolsA (List.replicate c.N false)) 4)).cell? ⟨w.heap.size, p, none⟩ = some (.bool false) := by
    rw [boolsA_cellD (Blk.new w _ _) p (by simp; exact hpN)]; simp [hpN]
  have fz : (w.alloc (.cells (boolsA (List.replicate c.N false)) 4)).frozen? ⟨w.heap.size, p, none⟩ = false := (Blk.new w _ _).frozen p
  clear hm HO hA
  go_enter Try.func120, Try.ntmps120
  go_wp2_with fail
  go_loopg [8, 9] (c.N + 1) (fun G xv iv wr => ∃ (i : Nat) (l : List Bool) (nx : List Nat), iv = .int .i64 (i : Int) ∧ i ≤ nx.length ∧ G = c.N + 1 - i ∧ OftP c n p l nx ∧ (∀ j, j < i → ∀ r, EndsW (bytesN c.s) (c.tr n).Word (nx.getD j 0) r → r ∈ nx) ∧
    IRow wr xv (natsI nx) ∧ (∀ b, xv.ownBlock = some b → w.heap.size < b) ∧ Memo c (fun b => A b ∨ b = w.heap.size) wr ∧ Kept c.M w wr ∧ Blk wr w.heap.size (boolsA l) 4)
  case atStart =>
    refine ⟨0, (List.replicate c.N false).set p true, [p], rfl, by simp, rfl, ⟨by simp, fun q hq => ?_, fun q hq => ?_, by simp, by simp⟩, fun j hj => by omega, ?_, ?_, HM.out.fresh.below (Below2 _ _ _), ((Kept.refl _ _).alloc _).alloc _, ?_⟩
    · rw [getD_setB _ _ _ _ (by simp; exact hpN)]
      split
      · rename_i e; simp [e]
      · rename_i e; simp [e, MemoC.ltN.2 hq]
    · simp at hq; subst hq
      exact ends_star_self (by rw [bytesN_len]; exact hp)
    · exact ownsRow_mk (cur := #[.int .i64 (p : Int)]) (by rfl) (Blk.at1 _ _ _ _) (Nat.le_refl _) (by unfold maxLen; omega) rfl (by rfl)
    · intro b e; cases (Option.some.inj e : w.heap.size + 1 = b); omega
    · rw [← boolsA_set]; exact (Blk.new _ _ _).alloc _
  case round =>
    obtain ⟨i, l, nx, rfl, hi, rfl, hP, hcl, hX, hXo, hmm, hk, hI⟩ := hrel
    obtain ⟨xd, xcap, rfl, hxrow⟩ := hX.formN
    have zI := hI.lt
    have hfew := hP.few
    by_cases hlt : i < nx.length
    · have e0 : decide ((i : Int) < (nx.length : Int)) = true := by simp; omega
      rcases hxrow with h0 | ⟨xg, rfl⟩
      · omega
      have cx := hX.cellN i hlt
      have hmem : nx.getD i 0 ∈ nx := by rw [List.getD_eq_getElem?_getD, List.getElem?_eq_getElem hlt]; exact List.getElem_mem hlt
      have hst := hP.star _ hmem
      have hmi : nx.getD i 0 ≤ c.s.size := by have := hst.2.1; rw [bytesN_len] at this; exact this
      generalize hmd : nx.getD i 0 = m at cx hmem hmi hst
      have i0 : (0 : Int) ≤ (i : Int) := by omega
      have i1 : (i : Int) < (nx.length : Int) := by omega
      have HH : Hid (OftP c n p l nx ∧ (∀ j, j < i → ∀ r, EndsW (bytesN c.s) (c.tr n).Word (nx.getD j 0) r → r ∈ nx) ∧ IRow wr (.slice (some ⟨xg, 0, none⟩) nx.length xcap) (natsI nx) ∧ (∀ b, (Value.slice (some ⟨xg, 0, none⟩) nx.length xcap).ownBlock = some b → w.heap.size < b) ∧
        Memo c (fun b => A b ∨ b = w.heap.size) wr ∧ Kept c.M w wr ∧ Blk wr w.heap.size (boolsA l) 4 ∧ nx.getD i 0 = m ∧ m ∈ nx) := ⟨hP, hcl, hX, hXo, hmm, hk, hI, hmd, hmem⟩
      clear hP hcl hX hXo hmm hk hI hmd hmem hst cz fz s2
      go_wp2_with fail
      refine (HOV.out (fun b => A b ∨ b = w.heap.size) wr m (fun b hb => by rcases hb with e | e; have := HAA.out b e; omega; omega) HH.out.2.2.2.2.1 hmi).mono ?_
      rintro e w1 ⟨b, rfl, hnb, hBR, hm1, hk1⟩
      obtain ⟨q1, q2, q3, q4, q5, q6, q7, q8, q9⟩ := HH.out
      have hI1 : Blk w1 w.heap.size (boolsA l) 4 := q7.kept hk1 (q5.not q7 (by decide))
      have hX1 : IRow w1 (.slice (some ⟨xg, 0, none⟩) nx.length xcap) (natsI nx) := q3.kept hk1 (fun b' hb' e => by obtain ⟨cs, h1⟩ := q5.type e; exact ownsRow_ne q3 h1 (by decide) hb')
      have hbg : b ≠ w.heap.size := fun e => hnb (.inr e)
      have HH1 : Hid (OftP c n p l nx ∧ (∀ j, j < i → ∀ r, EndsW (bytesN c.s) (c.tr n).Word (nx.getD j 0) r → r ∈ nx) ∧ IRow w1 (.slice (some ⟨xg, 0, none⟩) nx.length xcap) (natsI nx) ∧ (∀ b, (Value.slice (some ⟨xg, 0, none⟩) nx.length xcap).ownBlock = some b → w.heap.size < b) ∧
        Memo c (fun b => A b ∨ b = w.heap.size) w1 ∧ Kept c.M w w1 ∧ Blk w1 w.heap.size (boolsA l) 4 ∧ nx.getD i 0 = m ∧ m ∈ nx ∧ BRow w1 (.slice (some ⟨b, 0, none⟩) c.N c.N) (rowT (bytesN c.s) (c.tr n) m)) := ⟨q1, q2, hX1, q4, hm1, q6.trans hk1 (fun i _ e => e), hI1, q8, q9, hBR⟩
      have zw1 : w.heap.size < w1.heap.size := hI1.lt
      clear q1 q2 q3 q4 q5 q6 q7 q8 q9 hI1 hX1 hm1 hk1 hBR hnb HH cx
      obtain ⟨wo, rfl⟩ : ∃ wo : World, wo = w1 := ⟨_, rfl⟩
      go_wp2_with fail
      go_loopg [8, 11] c.N (fun G xv qv wi => ∃ (q : Nat) (l' : List Bool) (nx' : List Nat), qv = .int .i64 (q : Int) ∧ q ≤ c.N ∧ G = c.N - q ∧ OftP c n p l' nx' ∧ nx <+: nx' ∧ (∀ r, r < q → EndsW (bytesN c.s) (c.tr n).Word m r → r ∈ nx') ∧
        IRow wi xv (natsI nx') ∧ (∀ b, xv.ownBlock = some b → w.heap.size < b) ∧ Memo c (fun b => A b ∨ b = w.heap.size) wi ∧ Kept c.M w wi ∧ Blk wi w.heap.size (boolsA l') 4 ∧ BRow wi (.slice (some ⟨b, 0, none⟩) c.N c.N) (rowT (bytesN c.s) (c.tr n) m))
      case atStart =>
        obtain ⟨q1, q2, q3, q4, q5, q6, q7, q8, q9, q10⟩ := HH1.out
        exact ⟨0, l, nx, rfl, by omega, rfl, q1, List.prefix_refl _, fun r hr => by omega, q3, q4, q5, q6, q7, q10⟩
      case round =>
        obtain ⟨q, l', nx', rfl, hq, rfl, hP, hpre, hcl, hX, hXo, hmm, hk, hI, hE⟩ := hrel
        obtain ⟨yd, ycap, rfl, hyrow⟩ := hX.formN
        have zI := hI.lt
        have hfew := hP.few
        by_cases hlq : q < c.N
        · have e1 : decide ((q : Int) < (c.N : Int)) = true := by simp; omega
          have cO := boolsA_cellD hI q (by rw [hP.len]; exact hlq)
          have fO := hI.frozen q
          have cE := hE.cellD q (by rw [rowT_len]; exact hlq)
          have hEE : (rowT (bytesN c.s) (c.tr n) m).getD q false = true ↔ EndsW (bytesN c.s) (c.tr n).Word m q := rowW_getD
          generalize (rowT (bytesN c.s) (c.tr n) m).getD q false = ei at cE hEE
          generalize hoi : l'.getD q false = oi at cO
          have j0 : (0 : Int) ≤ (q : Int) := by omega
          have j1 : (q : Int) < (c.N : Int) := by omega
          have HI : Hid (OftP c n p l' nx' ∧ nx <+: nx' ∧ (∀ r, r < q → EndsW (bytesN c.s) (c.tr n).Word m r → r ∈ nx') ∧ IRow wr (.slice yd nx'.length ycap) (natsI nx') ∧ (∀ b, (Value.slice yd nx'.length ycap).ownBlock = some b → w.heap.size < b) ∧ Memo c (fun b => A b ∨ b = w.heap.size) wr ∧ Kept c.M w wr ∧ Blk wr w.heap.size (boolsA l') 4 ∧
            BRow wr (.slice (some ⟨b, 0, none⟩) c.N c.N) (rowT (bytesN c.s) (c.tr n) m) ∧ (ei = true ↔ EndsW (bytesN c.s) (c.tr n).Word m q) ∧ l'.getD q false = oi) := ⟨hP, hpre, hcl, hX, hXo, hmm, hk, hI, hE, hEE, hoi⟩
          clear hP hpre hcl hX hXo hmm hk hI hE hEE hoi
          cases ei with
          | false =>
            go_wp2_with fail
            go_roundg (c.N - (q + 1))
            case measure => omega
            case rel =>
              obtain ⟨r1, r2, r3, r4, r5, r6, r7, r8, r9, r10, r11⟩ := HI.out
              refine ⟨q + 1, l', nx', by go_num, by omega, rfl, r1, r2, fun r hr he => ?_, r4, r5, r6, r7, r8, r9⟩
              by_cases e : r = q
              · rw [e] at he; have := r10.2 he; cases this
              · exact r3 r (by omega) he
          | true =>
            cases oi with
            | true =>
              go_wp2_with fail
              go_roundg (c.N - (q + 1))
              case measure => omega
              case rel =>
                obtain ⟨r1, r2, r3, r4, r5, r6, r7, r8, r9, r10, r11⟩ := HI.out
                refine ⟨q + 1, l', nx', by go_num, by omega, rfl, r1, r2, fun r hr he => ?_, r4, r5, r6, r7, r8, r9⟩
                by_cases e : r = q
                · rw [e]; exact (r1.mem q (MemoC.ltN.1 hlq)).1 r11
                · exact r3 r (by omega) he
            | false =>
              obtain ⟨ii, hii, hz0, hz1, hz2⟩ := info_parts Try.infoI3'
              have hset : Kept (fun x => x = w.heap.size) wr (wr.setCell ⟨w.heap.size, q, none⟩ (.bool true)) := Kept.setCell (ex := fun x => x = w.heap.size) (p := ⟨w.heap.size, q, none⟩) (Kept.refl _ _) (fun _ => rfl) _
              have hX2 : IRow ((wr.setCell ⟨w.heap.size, q, none⟩ (.bool true)).alloc (.cells #[.int .i64 (q : Int)] 3)) (.slice yd nx'.length ycap) (natsI nx') :=
                (HI.out.2.2.2.1.kept hset (fun b hb e => by have := HI.out.2.2.2.2.1 b hb; omega)).below (Below1 _ _)
              have hol : ((wr.setCell ⟨w.heap.size, q, none⟩ (.bool true)).alloc (.cells #[.int .i64 (q : Int)] 3)).ownsRow 0 3 1 (.slice yd nx'.length ycap) nx'.length ((natsI nx').map (Value.int .i64)) := by
                have h8 := hX2
                unfold IRow at h8
                rw [natsI_len] at h8
                exact h8
              have HX2 := hide hX2
              have HOL := hide hol
              have HSET := hide hset
              have hql : nx'.length < c.N + 1 := by omega
              clear hol hX2 hset
              go_wp2_with (at_builtin; (refine wpList_append_lies _ (by rfl) _ _ _ (by rfl) 0 3 ii _ 1 8 Try.underlying40 hii hz0 hz1 hz2 rfl (by omega) (.slice yd nx'.length ycap) nx'.length ((natsI nx').map (Value.int .i64)) (by rfl) HOL.out ⟨wr.heap.size, 0, none⟩ 1 1 [.int .i64 (q : Int)] (by rfl) (by rfl) (World.news_of_block (cs := #[.int .i64 (q : Int)]) (t := 3) (fr := (0, 0)) (by have := heap_alloc_new (wr.setCell ⟨w.heap.size, q, none⟩ (.bool true)) (.cells #[.int .i64 (q : Int)] 3); simpa using this)) (by simp [Value.oneCell']) (by omega) (by unfold maxLen; omega) (by omega) (by simp) (wr.heap.size + 1) (by simp) ?_))
              intro gg cap6 w6 hown6 hgrow6 hat6 hlt6
              have hk1 : Kept (fun b => (Value.slice yd nx'.length ycap).ownBlock = some b) ((wr.setCell ⟨w.heap.size, q, none⟩ (.bool true)).alloc (.cells #[.int .i64 (q : Int)] 3)) w6 := ⟨hgrow6.os, hgrow6.tape, hgrow6.output, hgrow6.size, fun k hk he => hgrow6.block k hk (fun e => he e.symm)⟩
              obtain ⟨r1, r2, r3, r4, r5, r6, r7, r8, r9, r10, r11⟩ := HI.out
              have t1 : Memo c (fun b => A b ∨ b = w.heap.size) w6 := ((r6.keptA HSET.out (.inr rfl) r8).below (Below1 _ _)).keptI hk1 HX2.out
              have t2 : Blk w6 w.heap.size (boolsA (l'.set q true)) 4 := by
                rw [← boolsA_set]
                exact ((r8.set q _).alloc _).kept hk1 (fun e => by have := r5 _ e; omega)
              have t3 : BRow w6 (.slice (some ⟨b, 0, none⟩) c.N c.N) (rowT (bytesN c.s) (c.tr n) m) :=
                brow_keptI ((r9.kept HSET.out (fun b' hb' e => by cases (Option.some.inj hb' : b = b'); exact hbg e)).below (Below1 _ _)) hk1 HX2.out
              have t4 : Kept c.M w w6 := ((r7.setCell (p := ⟨w.heap.size, q, none⟩) (fun e => by simp at e) _).alloc _).trans hk1 (fun j hj e => by have := r5 j e; omega)
              have t5 : IRow w6 (.slice (some ⟨gg, 0, none⟩) (nx'.length + 1) cap6) (natsI (nx' ++ [q])) := by
                unfold IRow
                rw [natsI_push, List.map_append, List.length_append, natsI_len]
                exact hown6
              have t6 : w.heap.size < gg := by
                rcases hat6 with e | e
                · exact r5 gg e
                · omega
              have t7 := r1.push (r2.subset HH1.out.2.2.2.2.2.2.2.2.1) (r10.1 (by simp)) r11
              have HHX : Hid (Memo c (fun b => A b ∨ b = w.heap.size) w6 ∧ Blk w6 w.heap.size (boolsA (l'.set q true)) 4 ∧ BRow w6 (.slice (some ⟨b, 0, none⟩) c.N c.N) (rowT (bytesN c.s) (c.tr n) m) ∧ Kept c.M w w6 ∧ IRow w6 (.slice (some ⟨gg, 0, none⟩) (nx'.length + 1) cap6) (natsI (nx' ++ [q])) ∧ OftP c n p (l'.set q true) (nx' ++ [q])) := ⟨t1, t2, t3, t4, t5, t7⟩
              clear t1 t2 t3 t4 t5 t7 r1 r2 r3 r4 r5 r6 r7 r8 r9 r10 r11 hk1 hown6 hgrow6 hat6 HX2 HOL HSET cO fO cE
              go_wp2_with fail
              go_roundg (c.N - (q + 1))
              case measure => omega
              case rel =>
                obtain ⟨t1, t2, t3, t4, t5, t7⟩ := HHX.out
                obtain ⟨r1, r2, r3, r4, r5, r6, r7, r8, r9, r10, r11⟩ := HI.out
                refine ⟨q + 1, l'.set q true, nx' ++ [q], by go_num, by omega, rfl, t7, r2.trans (List.prefix_append _ _), fun r hr he => ?_, ?_, ?_, t1, t4, t2, t3⟩
                · by_cases e : r = q
                  · simp [e]
                  · have := r3 r (by omega) he; simp [this]
                · simpa using t5
                · intro b' e; cases (Option.some.inj e : gg = b'); exact t6
        · have e1 : decide ((q : Int) < (c.N : Int)) = false := by simp; omega
          obtain rfl : q = c.N := by omega
          have HI : Hid (OftP c n p l' nx' ∧ nx <+: nx' ∧ (∀ r, r < c.N → EndsW (bytesN c.s) (c.tr n).Word m r → r ∈ nx') ∧ IRow wr (.slice yd nx'.length ycap) (natsI nx') ∧ (∀ b, (Value.slice yd nx'.length ycap).ownBlock = some b → w.heap.size < b) ∧ Memo c (fun b => A b ∨ b = w.heap.size) wr ∧ Kept c.M w wr ∧ Blk wr w.heap.size (boolsA l') 4) := ⟨hP, hpre, hcl, hX, hXo, hmm, hk, hI⟩
          clear hP hpre hcl hX hXo hmm hk hI hE
          go_wp2_with fail
          go_roundg (c.N + 1 - (i + 1))
          case measure => omega
          case rel =>
            obtain ⟨r1, r2, r3, r4, r5, r6, r7, r8⟩ := HI.out
            have hle := r2.length_le
            refine ⟨i + 1, l', nx', by go_num, by omega, rfl, r1, fun j hj r he => ?_, r4, r5, r6, r7, r8⟩
            have hg : nx'.getD j 0 = nx.getD j 0 := by obtain ⟨t, rfl⟩ := r2; rw [List.getD_eq_getElem?_getD, List.getElem?_append_left (by omega), ← List.getD_eq_getElem?_getD]
            rw [hg] at he
            by_cases e : j = i
            · rw [e, HH1.out.2.2.2.2.2.2.2.1] at he
              refine r3 r ?_ he
              have := he.2.1
              rw [bytesN_len] at this
              exact MemoC.ltN.2 this
            · exact r2.subset (HH1.out.2.1 j (by omega) r he)
    · have e0 : decide ((i : Int) < (nx.length : Int)) = false := by simp; omega
      obtain rfl : i = nx.length := by omega
      have HH : Hid (OftP c n p l nx ∧ (∀ j, j < nx.length → ∀ r, EndsW (bytesN c.s) (c.tr n).Word (nx.getD j 0) r → r ∈ nx) ∧ Memo c (fun b => A b ∨ b = w.heap.size) wr ∧ Kept c.M w wr ∧ Blk wr w.heap.size (boolsA l) 4) := ⟨hP, hcl, hmm, hk, hI⟩
      clear hP hcl hX hXo hmm hk hI cz fz s2
      go_wp2_with fail
      go_ret
      obtain ⟨r1, r2, r3, r4, r5⟩ := HH.out
      have hrow := r1.done (fun m hm r he => by
        obtain ⟨j, hj, hje⟩ := List.getElem_of_mem hm
        refine r2 j hj r ?_
        rw [List.getD_eq_getElem?_getD, List.getElem?_eq_getElem hj]
        simpa [hje] using he)
      refine ⟨w.heap.size, rfl, fun e => by have := HAA.out _ e; omega, ?_, r3.weak (fun b e => .inl e), r4⟩
      have h6 := BRow.ofBlk r5 (by rw [r1.len]; omega)
      rw [r1.len] at h6
      rw [← hrow]
      exact h6
end Go.Proofs.Ytcckhngbdoiikaa

namespace Go.Proofs.Ytcckhngbdoiikaa
open Go.RowKit Go.Deep
set_option linter.unusedVariables false

set_option maxRecDepth 20000 in
set_option maxHeartbeats 1600000 in
theorem find_row (c : MemoC) (n : Nat) (hn : n < c.all.length) (x : NodeT) (hx : c.all.getD n nodeD = x) (hkd : x.kind = 4) (htr : c.tr n = .row (c.tr x.l) (c.tr x.r)) (h1 : OverC c x.l) (h2 : OverC c x.r) (A : Nat → Prop) (w : World) (p : Nat) (hA : ∀ b, A b → b < w.heap.size) (hm : Memo c A w) (hp : p ≤ c.s.size) (hs : c.s.size ≤ 50000) :
    Calls Try.prog 91 #[.pointer (some ⟨c.wb, 0, none⟩), .int .i64 (n : Int), .int .i64 (p : Int)] w (RowOut c A w (rowT (bytesN c.s) (c.tr n) p)) := by
  obtain ⟨ad, acap, hav, harow⟩ := hm.nodes.form
  rcases harow with h0 | ⟨ag, rfl⟩
  · omega
  have hnd : NodeRow w (.slice (some ⟨ag, 0, none⟩) c.all.length acap) c.all := by have := hm.nodes; rw [hav] at this; exact this
  have s0 : w.cell? ⟨c.wb, 0, none⟩ = some (.slice (some ⟨ag, 0, none⟩) c.all.length acap) := by rw [← hav]; exact hm.blk.cell 0
  have s2 : w.cell? ⟨c.wb, 2, none⟩ = some (.string c.s) := hm.blk.cell 2
  have cA := fun k hk => hnd.cell n k hn hk
  rw [hx] at cA
  obtain ⟨xk, xa, xb, xl, xr, xt, xp⟩ := x
  simp only at hkd htr h1 h2
  subst hkd
  have a0 := cA 0 (by omega)
  have a1 := cA 1 (by omega)
  have a2 := cA 2 (by omega)
  have a3 := cA 3 (by omega)
  have a4 := cA 4 (by omega)
  have a5 := cA 5 (by omega)
  have a6 := cA 6 (by omega)
  simp only [nodesC, List.getElem?_cons_zero, List.getElem?_cons_succ, Nat.add_zero] at a0 a1 a2 a3 a4 a5 a6
  have n0 : (0 : Int) ≤ (n : Int) := by omega
  have n1 : (n : Int) < (c.all.length : Int) := by omega
  have hm1 : Memo c A (w.alloc (.cells (nodeC ⟨4, xa, xb, xl, xr, xt, xp⟩) 114)) := hm.below (Below1 _ _)
  have hA1 : ∀ b, A b → b < (w.alloc (.cells (nodeC ⟨4, xa, xb, xl, xr, xt, xp⟩) 114)).heap.size := fun b hb => by have := hA b hb; simp; omega
  have HM1 := hide hm1
  have HA1 := hide hA1
  have HK1 : Hid (Kept c.M w (w.alloc (.cells (nodeC ⟨4, xa, xb, xl, xr, xt, xp⟩) 114))) := hide ((Kept.refl _ _).alloc _)
  have HB1 := hide (Blk.new w (nodeC ⟨4, xa, xb, xl, xr, xt, xp⟩) 114)
  have HAA := hide hA
  have HT := hide htr
  have HO1 := hide (h1 A _ p hA1 hm1 hp)
  have HO2 := hide h2
  clear htr h1 h2
  clear cA hm hm1 hA1 hnd hA hx hav
  go_enter Try.func91, Try.ntmps91
  go_wp2_with fail
  refine HO1.out.mono ?_
  rintro e w1 ⟨b1, rfl, hnb1, hBR1, hmm1, hk1⟩
  have hX1 : Blk w1 w.heap.size (nodeC ⟨4, xa, xb, xl, xr, xt, xp⟩) 114 := HB1.out.kept hk1 (HM1.out.not HB1.out (by decide))
  have c4 : w1.cell? ⟨w.heap.size, 4, none⟩ = some (.int .i64 (xr : Int)) := hX1.cell 4
  have hz := hk1.size
  have HAL := hide (wall_any c xr HO2.out A w1 b1 c.N (rowT (bytesN c.s) (c.tr xl) p) (fun b hb => by have := HA1.out b hb; omega) hmm1 hBR1 (rowT_len _ _ _) hs)
  have HK2 := hide (HK1.out.trans hk1 (fun i _ e => e))
  clear hBR1 hmm1 hk1 hX1 hnb1
  go_wp2_with fail
  refine HAL.out.mono ?_
  rintro e w2 ⟨l, hll, hspec, b2, rfl, hnb2, hBR2, hmm2, hk2⟩
  have hl : l = rowT (bytesN c.s) (c.tr n) p := by
    rw [HT.out]
    refine rowW_ext (by rw [hll, bytesN_len]; rfl) fun q hq => ?_
    rw [bytesN_len] at hq
    rw [hspec q hq]
    have := @ends_row (bytesN c.s) (c.tr xl).Word (c.tr xr).Word p q
    constructor
    · rintro ⟨m, e1, e2⟩; exact this.2 ⟨m, rowW_getD.1 e1, e2⟩
    · intro e
      obtain ⟨m, e1, e2⟩ := this.1 e
      exact ⟨m, rowW_getD.2 e1, e2⟩
  rw [hl] at hBR2
  have HH : Hid (RowOut c A w (rowT (bytesN c.s) (c.tr n) p) (.returned (.slice (some ⟨b2, 0, none⟩) c.N c.N)) w2) := ⟨b2, rfl, hnb2, hBR2, hmm2, HK2.out.trans hk2 (fun i _ e => e)⟩
  clear hBR2 hmm2 hk2 hspec hll hl hnb2
  go_wp2_with fail
  go_ret
  exact HH.out

set_option maxRecDepth 20000 in
set_option maxHeartbeats 1600000 in
theorem find_star (c : MemoC) (n : Nat) (hn : n < c.all.length) (x : NodeT) (hx : c.all.getD n nodeD = x) (hkd : x.kind = 6) (htr : c.tr n = .star (c.tr x.l)) (h1 : OverC c x.l) (A : Nat → Prop) (w : World) (p : Nat) (hA : ∀ b, A b → b < w.heap.size) (hm : Memo c A w) (hp : p ≤ c.s.size) (hs : c.s.size ≤ 50000) :
    Calls Try.prog 91 #[.pointer (some ⟨c.wb, 0, none⟩), .int .i64 (n : Int), .int .i64 (p : Int)] w (RowOut c A w (rowT (bytesN c.s) (c.tr n) p)) := by
  obtain ⟨ad, acap, hav, harow⟩ := hm.nodes.form
  rcases harow with h0 | ⟨ag, rfl⟩
  · omega
  have hnd : NodeRow w (.slice (some ⟨ag, 0, none⟩) c.all.length acap) c.all := by have := hm.nodes; rw [hav] at this; exact this
  have s0 : w.cell? ⟨c.wb, 0, none⟩ = some (.slice (some ⟨ag, 0, none⟩) c.all.length acap) := by rw [← hav]; exact hm.blk.cell 0
  have s2 : w.cell? ⟨c.wb, 2, none⟩ = some (.string c.s) := hm.blk.cell 2
  have cA := fun k hk => hnd.cell n k hn hk
  rw [hx] at cA
  obtain ⟨xk, xa, xb, xl, xr, xt, xp⟩ := x
  simp only at hkd htr h1
  subst hkd
  have a0 := cA 0 (by omega)
  have a1 := cA 1 (by omega)
  have a2 := cA 2 (by omega)
  have a3 := cA 3 (by omega)
  have a4 := cA 4 (by omega)
  have a5 := cA 5 (by omega)
  have a6 := cA 6 (by omega)
  simp only [nodesC, List.getElem?_cons_zero, List.getElem?_cons_succ, Nat.add_zero] at a0 a1 a2 a3 a4 a5 a6
  have n0 : (0 : Int) ≤ (n : Int) := by omega
  have n1 : (n : Int) < (c.all.length : Int) := by omega
  have hm1 : Memo c A (w.alloc (.cells (nodeC ⟨6, xa, xb, xl, xr, xt, xp⟩) 114)) := hm.below (Below1 _ _)
  have hA1 : ∀ b, A b → b < (w.alloc (.cells (nodeC ⟨6, xa, xb, xl, xr, xt, xp⟩) 114)).heap.size := fun b hb => by have := hA b hb; simp; omega
  have HM1 := hide hm1
  have HA1 := hide hA1
  have HK1 : Hid (Kept c.M w (w.alloc (.cells (nodeC ⟨6, xa, xb, xl, xr, xt, xp⟩) 114))) := hide ((Kept.refl _ _).alloc _)
  have HB1 := hide (Blk.new w (nodeC ⟨6, xa, xb, xl, xr, xt, xp⟩) 114)
  have HAA := hide hA
  have HT := hide htr
  have HO1 := hide (often_any c xl h1 A _ p hA1 hm1 hp hs)
  clear htr h1
  clear cA hm hm1 hA1 hnd hA hx hav
  go_enter Try.func91, Try.ntmps91
  go_wp2_with fail
  refine HO1.out.mono ?_
  rintro e w1 ⟨b1, rfl, hnb1, hBR1, hmm1, hk1⟩
  have hl : rowW (bytesN c.s) (Star (c.tr xl).Word) p = rowT (bytesN c.s) (c.tr n) p := by rw [HT.out]; rfl
  rw [hl] at hBR1
  have HH : Hid (RowOut c A w (rowT (bytesN c.s) (c.tr n) p) (.returned (.slice (some ⟨b1, 0, none⟩) c.N c.N)) w1) := ⟨b1, rfl, hnb1, hBR1, hmm1, HK1.out.trans hk1 (fun i _ e => e)⟩
  clear hBR1 hmm1 hk1 hl hnb1
  go_wp2_with fail
  go_ret
  exact HH.out

set_option maxRecDepth 20000 in
set_option maxHeartbeats 1600000 in
theorem find_plus (c : MemoC) (n : Nat) (hn : n < c.all.length) (x : NodeT) (hx : c.all.getD n nodeD = x) (hkd : x.kind = 7) (htr : c.tr n = .plus (c.tr x.l)) (h1 : OverC c x.l) (A : Nat → Prop) (w : World) (p : Nat) (hA : ∀ b, A b → b < w.heap.size) (hm : Memo c A w) (hp : p ≤ c.s.size) (hs : c.s.size ≤ 50000) :
    Calls Try.prog 91 #[.pointer (some ⟨c.wb, 0, none⟩), .int .i64 (n : Int), .int .i64 (p : Int)] w (RowOut c A w (rowT (bytesN c.s) (c.tr n) p)) := by
  obtain ⟨ad, acap, hav, harow⟩ := hm.nodes.form
  rcases harow with h0 | ⟨ag, rfl⟩
  · omega
  have hnd : NodeRow w (.slice (some ⟨ag, 0, none⟩) c.all.length acap) c.all := by have := hm.nodes; rw [hav] at this; exact this
  have s0 : w.cell? ⟨c.wb, 0, none⟩ = some (.slice (some ⟨ag, 0, none⟩) c.all.length acap) := by rw [← hav]; exact hm.blk.cell 0
  have s2 : w.cell? ⟨c.wb, 2, none⟩ = some (.string c.s) := hm.blk.cell 2
  have cA := fun k hk => hnd.cell n k hn hk
  rw [hx] at cA
  obtain ⟨xk, xa, xb, xl, xr, xt, xp⟩ := x
  simp only at hkd htr h1
  subst hkd
  have a0 := cA 0 (by omega)
  have a1 := cA 1 (by omega)
  have a2 := cA 2 (by omega)
  have a3 := cA 3 (by omega)
  have a4 := cA 4 (by omega)
  have a5 := cA 5 (by omega)
  have a6 := cA 6 (by omega)
  simp only [nodesC, List.getElem?_cons_zero, List.getElem?_cons_succ, Nat.add_zero] at a0 a1 a2 a3 a4 a5 a6
  have n0 : (0 : Int) ≤ (n : Int) := by omega
  have n1 : (n : Int) < (c.all.length : Int) := by omega
  have hm1 : Memo c A (w.alloc (.cells (nodeC ⟨7, xa, xb, xl, xr, xt, xp⟩) 114)) := hm.below (Below1 _ _)
  have hA1 : ∀ b, A b → b < (w.alloc (.cells (nodeC ⟨7, xa, xb, xl, xr, xt, xp⟩) 114)).heap.size := fun b hb => by have := hA b hb; simp; omega
  have HM1 := hide hm1
  have HA1 := hide hA1
  have HK1 : Hid (Kept c.M w (w.alloc (.cells (nodeC ⟨7, xa, xb, xl, xr, xt, xp⟩) 114))) := hide ((Kept.refl _ _).alloc _)
  have HB1 := hide (Blk.new w (nodeC ⟨7, xa, xb, xl, xr, xt, xp⟩) 114)
  have HAA := hide hA
  have HT := hide htr
  have HO1 := hide (often_any c xl h1 A _ p hA1 hm1 hp hs)
  have HO2 := hide h1
  clear htr h1
  clear cA hm hm1 hA1 hnd hA hx hav
  go_enter Try.func91, Try.ntmps91
  go_wp2_with fail
  refine HO1.out.mono ?_
  rintro e w1 ⟨b1, rfl, hnb1, hBR1, hmm1, hk1⟩
  have hX1 : Blk w1 w.heap.size (nodeC ⟨7, xa, xb, xl, xr, xt, xp⟩) 114 := HB1.out.kept hk1 (HM1.out.not HB1.out (by decide))
  have c3 : w1.cell? ⟨w.heap.size, 3, none⟩ = some (.int .i64 (xl : Int)) := hX1.cell 3
  have hz := hk1.size
  have HAL := hide (wall_any c xl HO2.out A w1 b1 c.N (rowW (bytesN c.s) (Star (c.tr xl).Word) p) (fun b hb => by have := HA1.out b hb; omega) hmm1 hBR1 (by rw [rowW_len, bytesN_len]; rfl) hs)
  have HK2 := hide (HK1.out.trans hk1 (fun i _ e => e))
  clear hBR1 hmm1 hk1 hX1 hnb1
  go_wp2_with fail
  refine HAL.out.mono ?_
  rintro e w2 ⟨l, hll, hspec, b2, rfl, hnb2, hBR2, hmm2, hk2⟩
  have hl : l = rowT (bytesN c.s) (c.tr n) p := by
    rw [HT.out]
    refine rowW_ext (by rw [hll, bytesN_len]; rfl) fun q hq => ?_
    rw [bytesN_len] at hq
    rw [hspec q hq]
    have := @ends_row (bytesN c.s) (Star (c.tr xl).Word) (c.tr xl).Word p q
    constructor
    · rintro ⟨m, e1, e2⟩; exact this.2 ⟨m, rowW_getD.1 e1, e2⟩
    · intro e
      obtain ⟨m, e1, e2⟩ := this.1 e
      exact ⟨m, rowW_getD.2 e1, e2⟩
  rw [hl] at hBR2
  have HH : Hid (RowOut c A w (rowT (bytesN c.s) (c.tr n) p) (.returned (.slice (some ⟨b2, 0, none⟩) c.N c.N)) w2) := ⟨b2, rfl, hnb2, hBR2, hmm2, HK2.out.trans hk2 (fun i _ e => e)⟩
  clear hBR2 hmm2 hk2 hspec hll hl hnb2
  go_wp2_with fail
  go_ret
  exact HH.out
end Go.Proofs.Ytcckhngbdoiikaa

namespace Go.Proofs.Ytcckhngbdoiikaa
open Go.RowKit Go.Deep
set_option linter.unusedVariables false

set_option maxHeartbeats 1600000 in
/-- The lexer of some rules, where the reading goes as it must. -/
theorem given_any (all : List NodeT) (tops : List Nat) (av tv : Value) (w : World) (ha : NodeRow w av all) (ht : IRow w tv (natsI tops)) (hs : SpellOk all tops)
    (hg : (newF (spellK all tops tops.length).1 = .bad 1 0 ∧ 120 < (spellK all tops tops.length).1.size) ∨ (newF (spellK all tops tops.length).1 = .bad 3 0 ∧ (spellK all tops tops.length).1.size ≤ 120 ∧ 5 < (spellK all tops tops.length).2) ∨ ((spellK all tops tops.length).1.size ≤ 120 ∧ ∃ kd g, newF (spellK all tops tops.length).1 = .lexer kd g)) :
    Calls Try.prog 23 #[.agg #[av, tv]] w fun e w' => Below w.heap.size w w' ∧
      ((∃ kd g pb, newF (spellK all tops tops.length).1 = .lexer kd g ∧ e = .returned (.tuple #[.pointer (some ⟨pb, 0, none⟩), .bool true]) ∧ LexAt w' pb kd g) ∨ e = .returned (.tuple #[.pointer none, .bool true])) := by
  have HSP := hide (spelling_any all tops av tv (w.alloc (.cells #[av, tv] 42)) (ha.below (Below1 _ _)) (ht.below (Below1 _ _)) hs)
  have h1 := (hs.size tops.length (Nat.le_refl _)).1
  have h2 := (hs.size tops.length (Nat.le_refl _)).2
  obtain ⟨ad, acap, rfl, _⟩ := ha.form
  obtain ⟨td, tcap, rfl, _⟩ := ht.formN
  generalize spellK all tops tops.length = r at HSP hg h1 h2 ⊢
  obtain ⟨t, n⟩ := r
  simp only at hg h1 h2
  have HNE := hide (fun W => new_any t (by unfold maxLen; omega) W)
  clear ha ht hs
  rcases hg with ⟨hx, hz⟩ | ⟨hx, hz, hn⟩ | ⟨hz, kd, g, hx⟩
  · have e1 : decide ((120 : Int) < (t.size : Int)) = true := by simp; omega
    have HX := hide hx
    clear hx
    go_enter Try.func23, Try.ntmps23
    go_wp2_with fail
    refine HSP.out.mono ?_
    rintro e w1 ⟨rfl, hb1⟩
    have HB1 := hide hb1
    clear hb1
    go_wp2_with fail
    refine (HNE.out _).mono ?_
    rw [HX.out]
    rintro e w2 ⟨hb2, rfl⟩
    have hb : Below w.heap.size w w2 := (Below1 w _).trans ((HB1.out.mono (by simp)).trans (hb2.mono (by have := HB1.out.size; simp at this; omega)))
    have HB := hide hb
    clear hb hb2
    go_wp2_with fail
    go_ret2
    exact ⟨HB.out, .inr rfl⟩
  · have e1 : decide ((120 : Int) < (t.size : Int)) = false := by simp; omega
    have e2 : decide ((5 : Int) < (n : Int)) = true := by simp; omega
    have HX := hide hx
    clear hx
    go_enter Try.func23, Try.ntmps23
    go_wp2_with fail
    refine HSP.out.mono ?_
    rintro e w1 ⟨rfl, hb1⟩
    have HB1 := hide hb1
    clear hb1
    go_wp2_with fail
    refine (HNE.out _).mono ?_
    rw [HX.out]
    rintro e w2 ⟨hb2, rfl⟩
    have hb : Below w.heap.size w w2 := (Below1 w _).trans ((HB1.out.mono (by simp)).trans (hb2.mono (by have := HB1.out.size; simp at this; omega)))
    have HB := hide hb
    clear hb hb2
    go_wp2_with fail
    go_ret2
    exact ⟨HB.out, .inr rfl⟩
  · have e1 : decide ((120 : Int) < (t.size : Int)) = false := by simp; omega
    have HX := hide hx
    go_enter Try.func23, Try.ntmps23
    go_wp2_with fail
    refine HSP.out.mono ?_
    rintro e w1 ⟨rfl, hb1⟩
    have HB1 := hide hb1
    clear hb1
    go_wp2_with fail
    refine (HNE.out _).mono ?_
    rw [HX.out]
    rintro e w2 ⟨hb2, pb, rfl, hL⟩
    have hb : Below w.heap.size w w2 := (Below1 w _).trans ((HB1.out.mono (by simp)).trans (hb2.mono (by have := HB1.out.size; simp at this; omega)))
    have HB := hide hb
    have HL := hide hL
    clear hb hb2 hL hx
    go_wp2_with fail
    go_ret2
    exact ⟨HB.out, .inl ⟨kd, g, pb, HX.out, rfl, HL.out⟩⟩
end Go.Proofs.Ytcckhngbdoiikaa
