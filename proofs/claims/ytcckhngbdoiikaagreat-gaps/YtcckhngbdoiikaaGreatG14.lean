import Derived.Test.YtcckhngbdoiikaaGreatG13
import Derived.Deep.QuietTactic
import Derived.BigQuiet
import Derived.Deep.AppendLies

namespace Go.Proofs.YtcckhngbdoiikaaGreat
open Go.RowKit Go.Deep
set_option linter.unusedVariables false
structure GOk (g:Graph) (K:Nat):Prop where
 len:g.next.length = g.rule.length
 row:∀ i,i < g.next.length→(g.next.getD i []).length = K∧RowOk g.rule.length (g.next.getD i [])
theorem rowsSame_drop (cls:List Int) (ra rb:List Int) (k:Nat) (h1:k < ra.length) (h2:k < rb.length) :
  rowsSame cls (ra.drop k) (rb.drop k) = (stepSame cls ra[k] rb[k] && rowsSame cls (ra.drop (k + 1)) (rb.drop (k + 1))):=by
 have e1:ra.drop k = ra[k] :: ra.drop (k + 1):=List.drop_eq_getElem_cons h1
 have e2:rb.drop k = rb[k] :: rb.drop (k + 1):=List.drop_eq_getElem_cons h2
 rw [e1,e2]
 rfl
theorem Below_drewN {B:Nat} {a w:World} (h:Below B a w) (n:Nat):Below B a (w.drewN n):=⟨h.os,h.tape,h.output,h.size,h.block⟩
set_option maxHeartbeats 3200000 in
theorem together_any (rv nv cv : Value) (g : Graph) (K : Nat) (cls : List Int) (a b : Nat) (w : World) (hg : GraphAt w rv nv g) (ho : GOk g K) (hc : IRow w cv cls) (hcl : cls.length = g.rule.length) (ha : a < g.rule.length) (hb : b < g.rule.length) (hn : g.rule.length ≤ 1000) (hK : K ≤ 1000) :
    Calls Tryz.prog 124 #[.agg #[rv, nv], cv, .int .i64 (a : Int), .int .i64 (b : Int)] w fun e w' => e = .returned (.bool (togetherF g cls a b)) ∧ Below w.heap.size w w' := by
  obtain ⟨vs, hN, hvl, hvs⟩ := hg.next
  have hlen := ho.len
  obtain ⟨cd, ccap, rfl, hcrow⟩ := hc.form
  obtain ⟨rd, rcap, rfl, hrrow⟩ := hg.rule.form
  obtain ⟨nd, ncap, rfl, hnrow⟩ := hN.form
  rcases hcrow with h0 | ⟨cg, rfl⟩
  · omega
  rcases hrrow with h0 | ⟨rg, rfl⟩
  · omega
  rcases hnrow with h0 | ⟨ng, rfl⟩
  · omega
  have cla := hc.cell a (by omega)
  have clb := hc.cell b (by omega)
  have rla := hg.rule.cell a ha
  have rlb := hg.rule.cell b hb
  have nla := hN.cell a (by omega)
  have nlb := hN.cell b (by omega)
  have hIa := hvs a vs[a] (List.getElem?_eq_getElem _)
  have hIb := hvs b vs[b] (List.getElem?_eq_getElem _)
  generalize vs[a] = va at nla hIa
  generalize vs[b] = vb at nlb hIb
  have hra := ho.row a (by omega)
  have hrb := ho.row b (by omega)
  generalize hgna : g.next.getD a [] = ra at hIa hra
  generalize hgnb : g.next.getD b [] = rb at hIb hrb
  obtain ⟨ad, acap, rfl, harow⟩ := hIa.form
  obtain ⟨bd, bcap, rfl, hbrow⟩ := hIb.form
  obtain ⟨hral, hraok⟩ := hra
  obtain ⟨hrbl, hrbok⟩ := hrb
  have zc := ownsRow_lt hc cg rfl
  have zr := ownsRow_lt hg.rule rg rfl
  have zn := ownsRow_lt hN ng rfl
  have a0 : (0 : Int) ≤ (a : Int) := by omega
  have a1 : (a : Int) < (cls.length : Int) := by omega
  have a2 : (a : Int) < (g.rule.length : Int) := by omega
  have a3 : (a : Int) < (vs.length : Int) := by omega
  have b0 : (0 : Int) ≤ (b : Int) := by omega
  have b1 : (b : Int) < (cls.length : Int) := by omega
  have b2 : (b : Int) < (g.rule.length : Int) := by omega
  have b3 : (b : Int) < (vs.length : Int) := by omega
  generalize hF : togetherF g cls a b = F
  unfold togetherF at hF
  have g1 : cls.getD a 0 = cls[a]'(by omega) := by simp [show a < cls.length by omega]
  have g2 : cls.getD b 0 = cls[b]'(by omega) := by simp [show b < cls.length by omega]
  have g3 : g.rule.getD a 0 = g.rule[a] := by simp [ha]
  have g4 : g.rule.getD b 0 = g.rule[b] := by simp [hb]
  rw [g1, g2, g3, g4, hgna, hgnb] at hF
  clear g1 g2 g3 g4 hgna hgnb hvs hN hg ho
  generalize cls[a]'(by omega) = ca at cla hF
  generalize cls[b]'(by omega) = cb at clb hF
  generalize g.rule[a] = ua at rla hF
  generalize g.rule[b] = ub at rlb hF
  have hab : ra.length = rb.length := by omega
  have hraK : ra.length ≤ 1000 := by omega
  have HAB := hide hab
  have HRA := hide hraok
  have HRB := hide hrbok
  have HCL := hide hcl
  have HC := hide hc
  have HIA := hide hIa
  have HIB := hide hIb
  clear hab hlen hvl hcl hral hrbl hraok hrbok hc hIa hIb
  by_cases hne : ca = cb
  · subst hne
    have e1 : (ca != ca) = false := by simp
    by_cases hne2 : ua = ub
    · subst hne2
      have e2 : (ua != ua) = false := by simp
      rw [if_neg (by simp)] at hF
      have HF := hide hF
      clear hF
      go_enter Tryz.func124, Tryz.ntmps124
      go_wp2_with fail
      go_quiet (fail)
      go_wp2_with fail
      go_loopg [45] ra.length (fun G i wr => ∃ k m : Nat, k ≤ ra.length ∧ G = ra.length - k ∧ i = .int .i64 (k : Int) ∧ wr = (w.alloc (.cells #[.slice (some ⟨rg, 0, none⟩) g.rule.length rcap, .slice (some ⟨ng, 0, none⟩) vs.length ncap] 63)).drewN m ∧ rowsSame cls (ra.drop k) (rb.drop k) = F)
      case atStart => exact ⟨0, _, by omega, rfl, rfl, rfl, by simpa using HF.out⟩
      case round =>
        obtain ⟨k, m, hk, rfl, rfl, rfl, hfr⟩ := hrel
        clear HF
        by_cases hlt : k < ra.length
        · have e0 : decide ((k : Int) < (ra.length : Int)) = true := by simp; omega
          have hltb : k < rb.length := by have := HAB.out; omega
          rcases harow with h0 | ⟨ag, rfl⟩
          · omega
          rcases hbrow with h0 | ⟨bg, rfl⟩
          · omega
          have r0 := HIA.out.cell k hlt
          have r1 := HIB.out.cell k hltb
          have za := ownsRow_lt HIA.out ag rfl
          have zb := ownsRow_lt HIB.out bg rfl
          have i0 : (0 : Int) ≤ (k : Int) := by omega
          have i1 : (k : Int) < (ra.length : Int) := by omega
          have i2 : (k : Int) < (rb.length : Int) := by omega
          rw [rowsSame_drop cls ra rb k hlt hltb] at hfr
          have hx := HRA.out ra[k] (List.getElem_mem hlt)
          have hy := HRB.out rb[k] (List.getElem_mem hltb)
          generalize ra[k] = x at r0 hfr hx
          generalize rb[k] = y at r1 hfr hy
          by_cases hx1 : x = -1
          · subst hx1
            by_cases hy1 : y = -1
            · subst hy1
              have HFR := hide hfr
              clear hfr hx hy
              go_wp2_with fail
              go_roundg (ra.length - (k + 1))
              case measure => omega
              case rel => exact ⟨k + 1, m, by omega, rfl, by go_num, rfl, by simpa [stepSame] using HFR.out⟩
            · have e3 : ((-1 : Int) != y) = true := by simp; omega
              have hfe : F = false := by rw [← hfr]; have : stepSame cls (-1) y = false := by simp [stepSame]; omega
                                         rw [this]; rfl
              subst hfe
              clear hfr hx hy hy1
              go_wp2_with fail
              go_ret
              exact ⟨rfl, Below_drewN (Below1 w _) _⟩
          · have e3 : (x == -1) = false := by simp [hx1]
            by_cases hy1 : y = -1
            · subst hy1
              have e4 : (x != -1) = true := by simp [hx1]
              have hfe : F = false := by rw [← hfr]; have : stepSame cls x (-1) = false := by simp [stepSame, hx1]
                                         rw [this]; rfl
              subst hfe
              clear hfr hx hy hx1
              go_wp2_with fail
              go_ret
              exact ⟨rfl, Below_drewN (Below1 w _) _⟩
            · have e4 : (y == -1) = false := by simp [hy1]
              have hcl := HCL.out
              obtain ⟨x, rfl⟩ : ∃ j : Nat, x = (j : Int) := ⟨x.toNat, by omega⟩
              obtain ⟨y, rfl⟩ : ∃ j : Nat, y = (j : Int) := ⟨y.toNat, by omega⟩
              have hxl : x < cls.length := by omega
              have hyl : y < cls.length := by omega
              have cx := HC.out.cell x hxl
              have cy := HC.out.cell y hyl
              have x0 : (0 : Int) ≤ (x : Int) := by omega
              have x1 : (x : Int) < (cls.length : Int) := by omega
              have y0 : (0 : Int) ≤ (y : Int) := by omega
              have y1 : (y : Int) < (cls.length : Int) := by omega
              have hst : stepSame cls x y = (cls[x] == cls[y]) := by simp [stepSame, hxl, hyl, hx1, hy1]
              rw [hst] at hfr
              generalize cls[x] = px at cx hfr
              generalize cls[y] = py at cy hfr
              clear hcl hx hy hx1 hy1 hst
              by_cases hp : px = py
              · subst hp
                have e5 : (px != px) = false := by simp
                have HFR := hide hfr
                clear hfr
                go_wp2_with fail
                go_quiet (fail)
                go_wp2_with fail
                go_roundg (ra.length - (k + 1))
                case measure => omega
                case rel => exact ⟨k + 1, m + nq, by omega, rfl, by go_num, by simp, by simpa using HFR.out⟩
              · have e5 : (px != py) = true := by simp [hp]
                have hfe : F = false := by rw [← hfr]; simp [hp]
                subst hfe
                clear hfr hp
                go_wp2_with fail
                go_quiet (fail)
                go_wp2_with fail
                go_ret
                exact ⟨rfl, by rw [World.drewN_drewN]; exact Below_drewN (Below1 w _) _⟩
        · have e0 : decide ((k : Int) < (ra.length : Int)) = false := by simp; omega
          rw [List.drop_of_length_le (by omega)] at hfr
          have hfe : F = true := by rw [← hfr]; rfl
          subst hfe
          clear hfr
          go_wp2_with fail
          go_ret
          exact ⟨rfl, Below_drewN (Below1 w _) _⟩
    · have e2 : (ua != ub) = true := by simp [hne2]
      rw [if_pos (.inr hne2)] at hF
      subst hF
      go_enter Tryz.func124, Tryz.ntmps124
      go_wp2_with fail
      go_quiet (fail)
      go_wp2_with fail
      go_ret
      exact ⟨rfl, Below_drewN (Below1 w _) _⟩
  · have e1 : (ca != cb) = true := by simp [hne]
    rw [if_pos (.inl hne)] at hF
    subst hF
    go_enter Tryz.func124, Tryz.ntmps124
    go_wp2_with fail
    go_quiet (fail)
    go_wp2_with fail
    go_ret
    exact ⟨rfl, Below_drewN (Below1 w _) _⟩
def intsA (l:List Int):Array Value:=(l.map (Value.int .i64)).toArray
def boolsA (l:List Bool):Array Value:=(l.map Value.bool).toArray
theorem intsA_set (l:List Int) (i:Nat) (x:Int):(intsA l).setIfInBounds i (.int .i64 x) = intsA (l.set i x):=by simp [intsA,List.map_set]
theorem boolsA_set (l:List Bool) (i:Nat) (x:Bool):(boolsA l).setIfInBounds i (.bool x) = boolsA (l.set i x):=by simp [boolsA,List.map_set]
theorem intsA_made (n:Nat):madeCells #[.int .i64 0] n = intsA (List.replicate n 0):=by
 apply Array.toList_inj.1
 rw [toList_madeCells_one]
 simp [intsA]
theorem boolsA_made (n:Nat):madeCells #[.bool false] n = boolsA (List.replicate n false):=by
 apply Array.toList_inj.1
 rw [toList_madeCells_one]
 simp [boolsA]
theorem IRow.ofBlk {w:World} {b:Nat} {l:List Int} (h:Blk w b (intsA l) 3) (hl:l.length ≤ 100000):IRow w (.slice (some ⟨b,0,none⟩) l.length l.length) l :=
 ownsRow_mk (by simp) h (Nat.le_refl _) (by unfold maxLen; omega) (by simp [intsA]) (by simp [intsA,List.take_of_length_le])
theorem BRow.ofBlk {w:World} {b:Nat} {l:List Bool} (h:Blk w b (boolsA l) 4) (hl:l.length ≤ 100000):BRow w (.slice (some ⟨b,0,none⟩) l.length l.length) l :=
 ownsRow_mk (by simp) h (Nat.le_refl _) (by unfold maxLen; omega) (by simp [boolsA]) (by simp [boolsA,List.take_of_length_le])
theorem intsA_cell {w:World} {b:Nat} {l:List Int} (h:Blk w b (intsA l) 3) (i:Nat) (hi:i < l.length):w.cell? ⟨b,i,none⟩ = some (.int .i64 l[i]):=by
 rw [h.cell]; simp [intsA,hi]
theorem boolsA_cell {w:World} {b:Nat} {l:List Bool} (h:Blk w b (boolsA l) 4) (i:Nat) (hi:i < l.length):w.cell? ⟨b,i,none⟩ = some (.bool l[i]):=by
 rw [h.cell]; simp [boolsA,hi]
theorem Tryz.infoI3:(Tryz.prog.info? 3).map (fun i=>(i.zero,i.size,i.bytes)) = some (some (.int .i64 0),1,8):=by kernel_rfl
theorem Tryz.infoB3:(Tryz.prog.info? 4).map (fun i=>(i.zero,i.size,i.bytes)) = some (some (.bool false),1,1):=by kernel_rfl
theorem Tryz.infoN3:(Tryz.prog.info? 60).map (fun i=>(i.zero,i.size,i.bytes)) = some (some (.slice none 0 0),1,24):=by kernel_rfl
theorem makeInts (n:Nat) (hn:n ≤ 100000) (w:World):(Instr.makeSlice 60 (.int .i64 (n:Int)) (.int .i64 (n:Int))).run Tryz.prog w = .ok (.slice (some ⟨w.heap.size,0,none⟩) n n) (w.alloc (.cells (intsA (List.replicate n 0)) 3)):=by
 rw [run_make_row' (P:=Tryz.prog) 60 3 (.int .i64 0) 8 Tryz.underlying60 Tryz.infoI3 rfl .i64 .i64 n (by omega) (by omega) w,intsA_made]
theorem makeBools (n:Nat) (hn:n ≤ 100000) (w:World):(Instr.makeSlice 130 (.int .i64 (n:Int)) (.int .i64 (n:Int))).run Tryz.prog w = .ok (.slice (some ⟨w.heap.size,0,none⟩) n n) (w.alloc (.cells (boolsA (List.replicate n false)) 4)):=by
 rw [run_make_row' (P:=Tryz.prog) 130 4 (.bool false) 1 Tryz.underlying130 Tryz.infoB3 rfl .i64 .i64 n (by omega) (by omega) w,boolsA_made]
theorem mateF_lt (g:Graph) (cls:List Int) (n:Nat):∀ (f k e:Nat),mateF g cls n f k = some e→e < n
 | 0,k,e,h=>by simp [mateF] at h
 |f + 1,k,e,h=>by
  unfold mateF at h
  split at h
  ·split at h
   ·cases h; assumption
   ·exact mateF_lt g cls n f (k + 1) e h
  ·cases h
theorem refineAt_len (g:Graph) (cls:List Int):∀ n,(refineAt g cls n).1.length = n
 | 0=>rfl
 |n + 1=>by unfold refineAt; split <;> simp [refineAt_len g cls n]
theorem refineAt_bd (g:Graph) (cls:List Int):∀ n,(∀ x ∈ (refineAt g cls n).1,0 ≤ x∧x < ((refineAt g cls n).2:Int))∧(refineAt g cls n).2 ≤ n
 | 0=>by simp [refineAt]
 |n + 1=>by
  have ih:=refineAt_bd g cls n
  have hl:=refineAt_len g cls n
  unfold refineAt
  split
  ·rename_i e he
   have hlt:=mateF_lt g cls n _ _ e he
   refine ⟨fun x hx=>?_,by simp; omega⟩
   simp at hx
   rcases hx with hx | hx
   ·exact ih.1 x hx
   ·subst hx
    have:(refineAt g cls n).1[e]?.getD 0 ∈ (refineAt g cls n).1:=by
     rw [List.getElem?_eq_getElem (by omega)]; simp
    exact ih.1 _ this
  ·refine ⟨fun x hx=>?_,by simp; omega⟩
   simp at hx ⊢
   rcases hx with hx | hx
   ·have:=ih.1 x hx; omega
   ·omega
structure Rows2 (w:World) (O:Nat→Prop) (nv:Value) (rows:List (List Int)):Prop where
 ex:∃ vs:List Value,NRow w nv vs∧vs.length = rows.length∧(∀ i v,vs[i]? = some v→IRow w v (rows.getD i [])∧∀ b,v.ownBlock = some b→O b∧nv.ownBlock ≠ some b)
 ob:∀ b,nv.ownBlock = some b→O b
 olt:∀ k,O k→k < w.heap.size
theorem Rows2.kept {w w':World} {O ex:Nat→Prop} {nv:Value} {rows:List (List Int)} (h:Rows2 w O nv rows) (k:Kept ex w w') (he:∀ b,O b→¬ ex b):Rows2 w' O nv rows:=by
 obtain ⟨vs,h1,h2,h3⟩:=h.ex
 exact ⟨⟨vs,h1.kept k (fun b hb=>he b (h.ob b hb)),h2,fun i v hv=>⟨(h3 i v hv).1.kept k (fun b hb=>he b ((h3 i v hv).2 b hb).1),(h3 i v hv).2⟩⟩,h.ob,fun b hb=>Nat.lt_of_lt_of_le (h.olt b hb) k.size⟩
theorem Rows2.below {w w':World} {O:Nat→Prop} {nv:Value} {rows:List (List Int)} (h:Rows2 w O nv rows) (k:Below w.heap.size w w'):Rows2 w' O nv rows:=h.kept (ex:=fun _=>False) (Kept.ofBelow k) (fun _ _ e=>e)
theorem Rows2.setCell {w:World} {O:Nat→Prop} {nv:Value} {rows:List (List Int)} (h:Rows2 w O nv rows) {a:Addr} (ha:¬ O a.block) (v:Value):Rows2 (w.setCell a v) O nv rows :=
 h.kept (ex:=fun k=>k = a.block) (Kept.setCell (ex:=fun k=>k = a.block) (Kept.refl _ _) (fun _=>rfl) _) (fun b hb e=>ha (e ▸ hb))
theorem Rows2.alloc {w:World} {O:Nat→Prop} {nv:Value} {rows:List (List Int)} (h:Rows2 w O nv rows) (o:Obj):Rows2 (w.alloc o) O nv rows:=h.below (Below1 _ _)
theorem Rows2.drew {w:World} {O:Nat→Prop} {nv:Value} {rows:List (List Int)} (h:Rows2 w O nv rows):Rows2 w.drew O nv rows:=h.kept (ex:=fun _=>False) (Kept.refl _ _).drew (fun _ _ e=>e)
theorem Rows2.nil (w:World):Rows2 w (fun _=>False) (.slice none 0 0) [] :=
 ⟨⟨[],World.ownsRow_nil _ _ _ _,rfl,fun i v h=>by simp at h⟩,fun b h=>by simp [Value.ownBlock] at h,fun k h=>h.elim⟩
theorem Rows2.push {w w':World} {O:Nat→Prop} {nv:Value} {rows:List (List Int)} {vs:List Value} (h:Rows2 w O nv rows) (hN:NRow w nv vs) (hvl:vs.length = rows.length)
  (hvs:∀ i v,vs[i]? = some v→IRow w v (rows.getD i [])∧∀ b,v.ownBlock = some b→O b∧nv.ownBlock ≠ some b) {b g cap n:Nat} {row:List Int}
  (hr:IRow w (.slice (some ⟨b,0,none⟩) n n) row) (hb:¬ O b) (hown:w'.ownsRow 0 60 1 (.slice (some ⟨g,0,none⟩) (vs.length + 1) cap) (vs.length + 1) (vs ++ [.slice (some ⟨b,0,none⟩) n n]))
  (hg:w.grownBy w' nv.ownBlock) (hat:nv.ownBlock = some g∨g = w.heap.size) (hlt:g < w'.heap.size) :
  Rows2 w' (fun k=>O k∨k = g∨k = b) (.slice (some ⟨g,0,none⟩) (vs.length + 1) cap) (rows ++ [row])∧Kept O w w':=by
 have hk:Kept O w w':=⟨hg.os,hg.tape,hg.output,hg.size,fun k hk he=>hg.block k hk (fun e=>he (h.ob k e.symm))⟩
 have hbl:b < w.heap.size:=ownsRow_lt hr b rfl
 have hnb:nv.ownBlock ≠ some b:=fun e=>hb (h.ob b e)
 have hgb:g ≠ b:=by
  intro e
  subst e
  rcases hat with e | e
  ·exact hb (h.ob _ e)
  ·omega
 refine ⟨⟨⟨vs ++ [.slice (some ⟨b,0,none⟩) n n],?_,by simp [hvl],?_⟩,?_,?_⟩,hk⟩
 ·show World.ownsRow _ 0 60 1 _ (vs ++ [_]).length _
  rw [List.length_append]
  exact hown
 ·intro i v hv
  by_cases hi:i < vs.length
  ·rw [List.getElem?_append_left hi] at hv
   obtain ⟨q1,q2⟩:=hvs i v hv
   have e1:(rows ++ [row]).getD i [] = rows.getD i []:=by simp [List.getElem?_append_left (show i < rows.length by omega)]
   rw [e1]
   refine ⟨World.ownsRow.kept q1 hg (by
    cases e:v.ownBlock with
    |none=>exact .inl rfl
    |some k=>exact .inr (fun e'=>(q2 k e).2 e'.symm)),fun k hk'=>⟨.inl (q2 k hk').1,fun e=>?_⟩⟩
   cases (Option.some.inj e:g = k)
   rcases hat with e' | e'
   ·exact (q2 _ hk').2 e'
   ·have:=h.olt _ (q2 _ hk').1; omega
  ·have hi':i = vs.length:=by
    have:=(List.getElem?_eq_some_iff.1 hv).1
    simp at this; omega
   subst hi'
   rw [List.getElem?_append_right (Nat.le_refl _),Nat.sub_self] at hv
   cases hv
   have e1:(rows ++ [row]).getD vs.length [] = row:=by simp [hvl]
   rw [e1]
   refine ⟨World.ownsRow.kept hr hg (.inr (fun e=>hnb e.symm)),fun k hk'=>?_⟩
   cases (Option.some.inj hk':b = k)
   exact ⟨.inr (.inr rfl),fun e=>hgb (Option.some.inj e)⟩
 ·intro k e
  cases (Option.some.inj e:g = k)
  exact .inr (.inl rfl)
 ·intro k e
  rcases e with e | e | e
  ·exact Nat.lt_of_lt_of_le (h.olt k e) hg.size
  ·omega
  ·have:=hg.size; omega
theorem Rows2.graph {w:World} {O:Nat→Prop} {rv nv:Value} {g:Graph} (h:Rows2 w O nv g.next) (hr:IRow w rv g.rule):GraphAt w rv nv g:=by
 obtain ⟨vs,h1,h2,h3⟩:=h.ex
 exact ⟨hr,vs,h1,h2,fun i v hv=>(h3 i v hv).1⟩
theorem Tryz.infoG:(Tryz.prog.info? 63).map (·.size) = some 2:=by kernel_rfl
theorem resultsGraph {fn:Func} {p:Tmp} (h:fn.results = #[.cell p 63]) {c:Array Value} (tmps:Array Value) {w:World} {g:Nat} (hc:c.size = 2)
  (hp:tmps.getD p undef = .pointer (some ⟨g,0,none⟩)) (hg:Blk w g c 63):(results fn tmps).run Tryz.prog w = .ok (.agg c) w :=
 results_cell_row h tmps w g 63 _ (0,0) _ hp hg Tryz.underlying63 rfl (by rw [hc]; exact Tryz.infoG)
def neg1 (l:List Int):Nat:=(l.filter (fun x=>x == -1)).length
theorem neg1_set:∀ (l:List Int) (k:Nat) (x:Int),k < l.length→l.getD k 0 = -1→x ≠ -1→neg1 (l.set k x) + 1 = neg1 l
 |b :: r,0,x,_,h,hx=>by
  simp at h; subst h
  simp [neg1,hx]
 |b :: r,k + 1,x,hk,h,hx=>by
  have ih:=neg1_set r k x (by simpa using hk) (by simpa using h) hx
  unfold neg1 at ih ⊢
  by_cases e:b = -1 <;> simp [e] at ih ⊢ <;> omega
def visitStep (cls:List Int) (st:List Int × List Int) (to:Int):List Int × List Int :=
 if to != -1 && st.2.getD (cls.getD to.toNat 0).toNat 0 == -1 then (st.1 ++ [to],st.2.set (cls.getD to.toNat 0).toNat (st.1.length:Int)) else st
theorem visitRow_foldl (cls:List Int):∀ (row:List Int) (st:List Int × List Int),visitRow cls row st = row.foldl (visitStep cls) st
 | [],st=>rfl
 |to :: r,st=>by simp only [visitRow,List.foldl_cons]; exact visitRow_foldl cls r _
theorem visitRow_take (cls row:List Int) (k:Nat) (h:k < row.length) (st:List Int × List Int):visitRow cls (row.take (k + 1)) st = visitStep cls (visitRow cls (row.take k) st) row[k]:=by
 rw [visitRow_foldl,visitRow_foldl,List.take_succ_eq_append_getElem h,List.foldl_append]; rfl
theorem visitRow_len (cls:List Int):∀ (row:List Int) (st:List Int × List Int),st.1.length ≤ (visitRow cls row st).1.length
 | [],st=>Nat.le_refl _
 |to :: r,st=>by
  have ih:=visitRow_len cls r (visitStep cls st to)
  have h1:st.1.length ≤ (visitStep cls st to).1.length:=by unfold visitStep; split <;> simp
  show st.1.length ≤ (visitRow cls r (visitStep cls st to)).1.length
  omega
structure VOk (N:Nat) (st:List Int × List Int):Prop where
 sum:st.1.length + neg1 st.2 = N
 len:st.2.length = N
 ok:∀ x ∈ st.1,0 ≤ x∧x < (N:Int)
theorem visitStep_ok {N:Nat} {cls:List Int} (hcl:cls.length = N) (hc:∀ x ∈ cls,0 ≤ x∧x < (N:Int)) {st:List Int × List Int} (h:VOk N st) {to:Int} (ht:to = -1∨(0 ≤ to∧to < (N:Int))):VOk N (visitStep cls st to):=by
 unfold visitStep
 split
 ·rename_i hcd
  simp at hcd
  obtain ⟨h1,h2⟩:=hcd
  have ht':0 ≤ to∧to < (N:Int):=by rcases ht with e | e; exact absurd e h1; exact e
  have hmem:cls.getD to.toNat 0 ∈ cls:=by simp [show to.toNat < cls.length by omega]
  have hx:=hc _ hmem
  have hset:=neg1_set st.2 (cls.getD to.toNat 0).toNat (st.1.length:Int) (by rw [h.len]; omega) (by simpa using h2) (by omega)
  refine ⟨?_,by simp [h.len],?_⟩
  ·have:=h.sum
   simp only [List.length_append,List.length_cons,List.length_nil]
   omega
  ·intro x hx'
   simp at hx'
   rcases hx' with e | e
   ·exact h.ok x e
   ·subst e; exact ht'
 ·exact h
theorem visitRow_ok {N:Nat} {cls:List Int} (hcl:cls.length = N) (hc:∀ x ∈ cls,0 ≤ x∧x < (N:Int)):∀ (row:List Int) (st:List Int × List Int),VOk N st→RowOk N row→VOk N (visitRow cls row st)
 | [],st,h,_=>h
 |to :: r,st,h,hr=>by
  show VOk N (visitRow cls r (visitStep cls st to))
  exact visitRow_ok hcl hc r _ (visitStep_ok hcl hc h (hr to (by simp))) (fun x hx=>hr x (by simp [hx]))
theorem intI_push {w w':World} {v:Value} {l:List Int} {x:Int} {g cap:Nat} (hown:w'.ownsRow 0 3 1 (.slice (some ⟨g,0,none⟩) (l.length + 1) cap) (l.length + 1) (l.map (Value.int .i64) ++ [.int .i64 x])) :
  IRow w' (.slice (some ⟨g,0,none⟩) (l.length + 1) cap) (l ++ [x]):=by
 unfold IRow
 rw [List.length_append,List.map_append]
 exact hown
set_option maxHeartbeats 3200000 in
theorem visit_any (rv nv cv:Value) (g:Graph) (K:Nat) (cls:List Int) (w:World) (hg:GraphAt w rv nv g) (ho:GOk g K) (hc:IRow w cv cls) (hcl:cls.length = g.rule.length) (hcb:∀ x ∈ cls,0 ≤ x∧x < (g.rule.length:Int)) (hpos:0 < g.rule.length) (hn:g.rule.length ≤ 1000) (hK:K ≤ 1000) :
  Calls Tryz.prog 90 #[.agg #[rv,nv],cv] w fun e w'=>∃ fv mv,e = .returned (.tuple #[fv,mv])∧IRow w' fv (visitF g cls).1∧IRow w' mv (visitF g cls).2∧VOk g.rule.length (visitF g cls)∧Below w.heap.size w w':=by
 obtain ⟨vs,hN,hvl,hvs⟩:=hg.next
 have hrule:=hg.rule
 obtain ⟨rd,rcap,rfl,hrrow⟩:=hg.rule.form
 obtain ⟨nd,ncap,rfl,hnrow⟩:=hN.form
 obtain ⟨cd,ccap,rfl,hcrow⟩:=hc.form
 rcases hcrow with h0 | ⟨cg,rfl⟩
 ·omega
 have hlen:=ho.len
 rcases hnrow with h0 | ⟨ng,rfl⟩
 ·omega
 have cl0:=hc.cell 0 (by omega)
 have hc0:=hcb cls[0] (List.getElem_mem _)
 have hg00:cls.getD 0 0 = cls[0]'(by omega):=by simp [show 0 < cls.length by omega]
 generalize hF:visitF g cls = F
 unfold visitF at hF
 rw [hg00] at hF
 have zc:=ownsRow_lt hc cg rfl
 obtain ⟨c0,hc0e⟩:∃ j:Nat,cls[0]'(by omega) = (j:Int):=⟨(cls[0]'(by omega)).toNat,by omega⟩
 rw [hc0e] at cl0 hF hc0
 have hc0l:c0 < cls.length:=by omega
 have HVS:=hide hvs
 have HN:=hide hN
 have HO:=hide ho
 have HC:=hide hc
 have HCB:=hide hcb
 have HCL:=hide hcl
 have HVL:=hide hvl
 have HLEN:=hide hlen
 have hcl1:cls.length ≤ 1000:=by omega
 have hp1:0 < cls.length:=by omega
 have HF:=hide hF
 rw [← hcl]
 clear hvs hN hrule ho hg hlen hvl hc hcb hcl hF hc0 hc0e hg00 hpos
 have hmk:=makeInts cls.length (by omega)
 go_enter Tryz.func90,Tryz.ntmps90
 go_wp2_with fail
 go_loopg [17] cls.length (fun G i wr=>∃ n:Nat,n ≤ cls.length∧G = cls.length - n∧i = .int .i64 (n:Int)∧Below w.heap.size w wr∧wr.heap.size = w.heap.size + 2 ∧
  Blk wr w.heap.size #[.slice rd cls.length rcap,.slice (some ⟨ng,0,none⟩) vs.length ncap] 63∧Blk wr (w.heap.size + 1) (intsA (List.replicate n (-1) ++ List.replicate (cls.length - n) 0)) 3)
 case atStart =>
  refine ⟨0,by omega,rfl,rfl,Below2 _ _ _,by simp,(Blk.new w _ _).alloc _,?_⟩
  rw [List.replicate_zero,List.nil_append,Nat.sub_zero]
  exact Blk.at1 w _ _ _
 case round =>
  obtain ⟨n,hnl,rfl,rfl,hb,hsz,hG,hI⟩:=hrel
  by_cases hlt:n < cls.length
  ·have e0:decide ((n:Int) < (cls.length:Int)) = true:=by simp; omega
   have hll:(List.replicate n (-1:Int) ++ List.replicate (cls.length - n) 0).length = cls.length:=by simp; omega
   have m0:=intsA_cell hI n (by omega)
   generalize (List.replicate n (-1:Int) ++ List.replicate (cls.length - n) 0)[n]'(by omega) = old at m0
   have mf0:=hI.frozen n
   have i0:(0:Int) ≤ (n:Int):=by omega
   have i1:(n:Int) < (cls.length:Int):=by omega
   have HH:Hid (Below w.heap.size w wr∧wr.heap.size = w.heap.size + 2∧Blk wr w.heap.size #[.slice rd cls.length rcap,.slice (some ⟨ng,0,none⟩) vs.length ncap] 63∧Blk wr (w.heap.size + 1) (intsA (List.replicate n (-1) ++ List.replicate (cls.length - n) 0)) 3):=⟨hb,hsz,hG,hI⟩
   clear hb hsz hG hI hll HF
   go_wp2_with fail
   go_roundg (cls.length - (n + 1))
   case measure=>omega
   case rel =>
    obtain ⟨q1,q2,q3,q4⟩:=HH.out
    refine ⟨n + 1,by omega,rfl,by go_num,q1.setCell (by simp) _,by simp [q2],q3.setOther (by simp) _,?_⟩
    have q5:=q4.set n (.int .i64 (-1))
    rw [intsA_set] at q5
    have e1:(List.replicate n (-1:Int) ++ List.replicate (cls.length - n) 0).set n (-1) = List.replicate (n + 1) (-1) ++ List.replicate (cls.length - (n + 1)) 0:=by
     rw [List.set_append_right _ _ (by simp),List.length_replicate,Nat.sub_self,show cls.length - n = (cls.length - (n + 1)) + 1 by omega,List.replicate_succ,List.set_cons_zero,List.replicate_succ',List.append_assoc]
     rfl
    rw [e1] at q5
    exact q5
  ·have e0:decide ((n:Int) < (cls.length:Int)) = false:=by simp; omega
   obtain rfl:n = cls.length:=by omega
   rw [Nat.sub_self,List.replicate_zero,List.append_nil] at hI
   have cl1:wr.cell? ⟨cg,0,none⟩ = some (.int .i64 (c0:Int)):=by rw [hb.cell (p:=⟨cg,0,none⟩) zc]; exact cl0
   have m0:=intsA_cell hI c0 (by simpa using hc0l)
   simp only [List.getElem_replicate] at m0
   have mf0:=hI.frozen c0
   have i0:(0:Int) ≤ (c0:Int):=by omega
   have i1:(c0:Int) < (cls.length:Int):=by omega
   have HH0:Hid (Below w.heap.size w wr∧Blk wr w.heap.size #[.slice rd cls.length rcap,.slice (some ⟨ng,0,none⟩) vs.length ncap] 63∧Blk wr (w.heap.size + 1) (intsA (List.replicate cls.length (-1))) 3∧wr.heap.size = w.heap.size + 2):=⟨hb,hG,hI,hsz⟩
   clear hb hG hI hnl hlt hsz
   obtain ⟨wo,rfl⟩:∃ wo:World,wo = wr:=⟨_,rfl⟩
   go_wp2_with fail
   go_loopg [8,9] (cls.length + 1) (fun G c i wr=>∃ (k:Nat) (st:List Int × List Int) (fg fcap:Nat),c = .slice (some ⟨fg,0,none⟩) st.1.length fcap∧i = .int .i64 (k:Int)∧k ≤ st.1.length∧cls.length + 1 ≤ G + k∧VOk cls.length st∧visitLoop g cls G k st = F ∧
    IRow wr (.slice (some ⟨fg,0,none⟩) st.1.length fcap) st.1∧w.heap.size + 1 < fg∧Below w.heap.size w wr∧Blk wr w.heap.size #[.slice rd cls.length rcap,.slice (some ⟨ng,0,none⟩) vs.length ncap] 63∧Blk wr (w.heap.size + 1) (intsA st.2) 3)
   case atStart =>
    obtain ⟨q1,q2,q3,q4⟩:=HH0.out
    have q5:=q3.set c0 (.int .i64 0)
    rw [intsA_set] at q5
    refine ⟨0,([0],(List.replicate cls.length (-1:Int)).set c0 0),wo.heap.size,1,rfl,rfl,by simp,by omega,?_,by simpa using HF.out,?_,by omega,(q1.setCell (by simp) _).alloc (by simp; omega) _,(q2.setOther (by simp) _).alloc _,q5.alloc _⟩
    ·have hs:=neg1_set (List.replicate cls.length (-1:Int)) c0 0 (by simpa using hc0l) (by simp [hc0l]) (by decide)
     have hr:neg1 (List.replicate cls.length (-1:Int)) = cls.length:=by simp [neg1]
     refine ⟨by simp only [List.length_cons,List.length_nil]; omega,by simp,fun x hx=>?_⟩
     simp at hx
     subst hx
     omega
    ·have:=IRow.ofBlk (l:=[0]) (Blk.new (wo.setCell ⟨w.heap.size + 1,c0,none⟩ (.int .i64 0)) #[.int .i64 0] 3) (by simp)
     simpa using this
   case round =>
    obtain ⟨k,st,fg,fcap,rfl,rfl,hk,hfu,hv,hFl,hI,hfg,hb,hG,hM⟩:=hrel
    clear HH0 HF cl0 cl1 m0 mf0
    have hsum:=hv.sum
    by_cases hlt:k < st.1.length
    ·have e1:decide ((k:Int) < (st.1.length:Int)) = true:=by simp; omega
     have hgk:gk = (gk - 1) + 1:=by omega
     rw [hgk] at hFl
     unfold visitLoop at hFl
     rw [if_pos hlt] at hFl
     have hgd:st.1.getD k 0 = st.1[k]:=by simp [hlt]
     rw [hgd] at hFl
     have hx:=hv.ok st.1[k] (List.getElem_mem hlt)
     have f0:=hI.cell k hlt
     generalize st.1[k] = x at hFl hx f0
     obtain ⟨x,rfl⟩:∃ j:Nat,x = (j:Int):=⟨x.toNat,by omega⟩
     rw [Int.toNat_natCast] at hFl
     have hvl:=HVL.out
     have hlen:=HLEN.out
     have hcl:=HCL.out
     have hxl:x < vs.length:=by omega
     have n0:=(HN.out.below hb).cell x hxl
     have hrow:=HVS.out x vs[x] (List.getElem?_eq_getElem _)
     have hok:=HO.out.row x (by omega)
     generalize vs[x] = vx at n0 hrow
     generalize g.next.getD x [] = row at hrow hok hFl
     obtain ⟨ed,ecap,rfl,herow⟩:=hrow.form
     have g1:wr.cell? ⟨w.heap.size,1,none⟩ = some (.slice (some ⟨ng,0,none⟩) vs.length ncap):=hG.cell 1
     have i2:(0:Int) ≤ (k:Int):=by omega
     have i3:(k:Int) < (st.1.length:Int):=by omega
     have i4:(0:Int) ≤ (x:Int):=by omega
     have i5:(x:Int) < (vs.length:Int):=by omega
     have hrl:row.length ≤ 1000:=by omega
     have hstl:st.1.length ≤ cls.length:=by omega
     obtain ⟨hokl,hokr⟩:=hok
     rw [← hcl] at hokr
     have hvr:=visitRow_ok rfl (by rw [hcl]; exact HCB.out) row st hv hokr
     have HVR:=hide hvr
     have HFL:=hide hFl
     have HOK:=hide hokr
     have HROW:=hide hrow
     have HV:=hide hv
     have HH:Hid (IRow wr (.slice (some ⟨fg,0,none⟩) st.1.length fcap) st.1∧Below w.heap.size w wr∧Blk wr w.heap.size #[.slice rd cls.length rcap,.slice (some ⟨ng,0,none⟩) vs.length ncap] 63∧Blk wr (w.heap.size + 1) (intsA st.2) 3):=⟨hI,hb,hG,hM⟩
     clear hgk hgd hx hvl hlen hcl hokl hokr hrow hFl hI hb hG hM hv hsum hvr
     obtain ⟨w3,rfl⟩:∃ wo:World,wo = wr:=⟨_,rfl⟩
     go_wp2_with fail
     go_quiet (fail)
     go_wp2_with fail
     go_loopg [8,45] row.length (fun G c i wr=>∃ (j fg fcap:Nat),j ≤ row.length∧G = row.length - j∧i = .int .i64 (j:Int)∧c = .slice (some ⟨fg,0,none⟩) (visitRow cls (row.take j) st).1.length fcap ∧
      IRow wr (.slice (some ⟨fg,0,none⟩) (visitRow cls (row.take j) st).1.length fcap) (visitRow cls (row.take j) st).1∧w.heap.size + 1 < fg∧Below w.heap.size w wr∧Blk wr w.heap.size #[.slice rd cls.length rcap,.slice (some ⟨ng,0,none⟩) vs.length ncap] 63∧Blk wr (w.heap.size + 1) (intsA (visitRow cls (row.take j) st).2) 3)
     case atStart =>
      obtain ⟨q1,q2,q3,q4⟩:=HH.out
      refine ⟨0,fg,fcap,by omega,rfl,rfl,rfl,?_,hfg,Below_drewN q2 _,q3.drewN _,q4.drewN _⟩
      exact q1.below (Below_drewN (Below.refl _ _) _)
     case round =>
      obtain ⟨j,fg2,fcap2,hj,rfl,rfl,rfl,hI,hfg2,hb,hG,hM⟩:=hrel
      have hcl:=HCL.out
      have hvj:=visitRow_ok (N:=cls.length) rfl (by rw [hcl]; exact HCB.out) (row.take j) st HV.out (fun y hy=>HOK.out y (List.mem_of_mem_take hy))
      clear HH hcl n0 f0 g1
      by_cases hlj:j < row.length
      ·have e2:decide ((j:Int) < (row.length:Int)) = true:=by simp; omega
       have hstep:=visitRow_take cls row j hlj st
       rcases herow with h0 | ⟨eg,rfl⟩
       ·omega
       have r0:=(HROW.out.below hb).cell j hlj
       have hto:=HOK.out row[j] (List.getElem_mem hlj)
       generalize row[j] = to at r0 hto hstep
       generalize visitRow cls (row.take j) st = sj at hI hM hvj hstep
       have hsum:=hvj.sum
       have hslen:=hvj.len
       have hsl:sj.1.length ≤ 1000:=by omega
       have j0:(0:Int) ≤ (j:Int):=by omega
       have j1:(j:Int) < (row.length:Int):=by omega
       by_cases hn1:to = -1
       ·subst hn1
        have hs2:visitStep cls sj (-1) = sj:=by simp [visitStep]
        rw [hs2] at hstep
        have HST:=hide hstep
        have HHI:Hid (IRow wr (.slice (some ⟨fg2,0,none⟩) sj.1.length fcap2) sj.1∧Below w.heap.size w wr∧Blk wr w.heap.size #[.slice rd cls.length rcap,.slice (some ⟨ng,0,none⟩) vs.length ncap] 63∧Blk wr (w.heap.size + 1) (intsA sj.2) 3):=⟨hI,hb,hG,hM⟩
        clear hs2 hstep hI hb hG hM hto hsum hslen hvj
        go_wp2_with fail
        go_roundg (row.length - (j + 1))
        case measure=>omega
        case rel =>
         obtain ⟨q1,q2,q3,q4⟩:=HHI.out
         exact ⟨j + 1,fg2,fcap2,by omega,rfl,by go_num,by rw [HST.out],by rw [HST.out]; exact q1,hfg2,q2,q3,by rw [HST.out]; exact q4⟩
       ·have e3:(to != -1) = true:=by simp [hn1]
        obtain ⟨t,rfl⟩:∃ i:Nat,to = (i:Int):=⟨to.toNat,by omega⟩
        have htl:t < cls.length:=by omega
        have ct:=(HC.out.below hb).cell t htl
        have hcb:=HCB.out cls[t] (List.getElem_mem htl)
        have hcl:=HCL.out
        have hgt:cls.getD t 0 = cls[t]:=by simp [htl]
        unfold visitStep at hstep
        rw [Int.toNat_natCast,hgt] at hstep
        generalize cls[t] = ci at ct hcb hstep
        obtain ⟨ci,rfl⟩:∃ i:Nat,ci = (i:Int):=⟨ci.toNat,by omega⟩
        rw [Int.toNat_natCast] at hstep
        have hcil:ci < sj.2.length:=by omega
        have mc:=intsA_cell hM ci hcil
        have hgm:sj.2.getD ci 0 = sj.2[ci]:=by simp [hcil]
        rw [hgm] at hstep
        generalize hold:sj.2[ci] = old at mc hstep
        have mf:=hM.frozen ci
        have t0:(0:Int) ≤ (t:Int):=by omega
        have t1:(t:Int) < (cls.length:Int):=by omega
        have ci0:(0:Int) ≤ (ci:Int):=by omega
        have ci1:(ci:Int) < (cls.length:Int):=by omega
        have zM:=hM.lt
        by_cases hold1:old = -1
        ·subst hold1
         rw [if_pos (by simp [hn1])] at hstep
         have HST:=hide hstep
         obtain ⟨ii,hi,hz0,hz1,hz2⟩:=info_parts Tryz.infoI3
         have hI':IRow (wr.setCell ⟨w.heap.size + 1,ci,none⟩ (.int .i64 (sj.1.length:Int))) (.slice (some ⟨fg2,0,none⟩) sj.1.length fcap2) sj.1:=ownsRow_setOther hI (by simp [Value.ownBlock]; omega) _
         have hM':=hM.set ci (.int .i64 (sj.1.length:Int))
         rw [intsA_set] at hM'
         have hG':=hG.setOther (p:=⟨w.heap.size + 1,ci,none⟩) (by simp) (.int .i64 (sj.1.length:Int))
         have hb':=hb.setCell (p:=⟨w.heap.size + 1,ci,none⟩) (by simp) (.int .i64 (sj.1.length:Int))
         have hol:=hI'.below (Below1 _ (.cells #[.int .i64 (t:Int)] 3))
         have HOL:=hide hol
         have HHI:Hid (Below w.heap.size w (wr.setCell ⟨w.heap.size + 1,ci,none⟩ (.int .i64 (sj.1.length:Int)))∧Blk (wr.setCell ⟨w.heap.size + 1,ci,none⟩ (.int .i64 (sj.1.length:Int))) w.heap.size #[.slice rd cls.length rcap,.slice (some ⟨ng,0,none⟩) vs.length ncap] 63∧Blk (wr.setCell ⟨w.heap.size + 1,ci,none⟩ (.int .i64 (sj.1.length:Int))) (w.heap.size + 1) (intsA (sj.2.set ci (sj.1.length:Int))) 3):=⟨hb',hG',hM'⟩
         clear hstep hI hb hG hM hto hsum hslen hvj hI' hM' hG' hb' hol hgm hold hgt hcb hcl hn1
         go_wp2_with (at_builtin; (refine wpList_append_lies _ (by rfl) _ _ _ (by rfl) 0 3 ii _ 1 8 Tryz.underlying60 hi hz0 hz1 hz2 rfl (by omega) (.slice (some ⟨fg2,0,none⟩) sj.1.length fcap2) sj.1.length (sj.1.map (Value.int .i64)) (by rfl) HOL.out ⟨wr.heap.size,0,none⟩ 1 1 [.int .i64 (t:Int)] (by rfl) (by rfl) (World.news_of_block (cs:=#[.int .i64 (t:Int)]) (t:=3) (fr:=(0,0)) (by have:=heap_alloc_new (wr.setCell ⟨w.heap.size + 1,ci,none⟩ (.int .i64 (sj.1.length:Int))) (.cells #[.int .i64 (t:Int)] 3); simpa using this)) (by simp [Value.oneCell']) (by omega) (by unfold maxLen; omega) (by omega) (by simp) (wr.heap.size + 1) (by simp) ?_))
         intro gg cap2 w6 hown6 hgrow6 hat6 hlt6
         obtain ⟨q1,q2,q3⟩:=HHI.out
         have hkk:Kept (fun k=>k = fg2) ((wr.setCell ⟨w.heap.size + 1,ci,none⟩ (.int .i64 (sj.1.length:Int))).alloc (.cells #[.int .i64 (t:Int)] 3)) w6:=⟨hgrow6.os,hgrow6.tape,hgrow6.output,hgrow6.size,fun k hk he=>hgrow6.block k hk (fun e=>he (Option.some.inj e))⟩
         have q2':=(q2.alloc (.cells #[.int .i64 (t:Int)] 3)).kept hkk (by omega)
         have q3':=(q3.alloc (.cells #[.int .i64 (t:Int)] 3)).kept hkk (by omega)
         have q1':Below w.heap.size w w6:=(q1.alloc (by simp; omega) _).trans ⟨hkk.os,hkk.tape,hkk.output,hkk.size,fun k hk=>hkk.block k (by simp; omega) (by omega)⟩
         have hgg:w.heap.size + 1 < gg:=by
          rcases hat6 with e | e
          ·cases (Option.some.inj e:fg2 = gg); exact hfg2
          ·omega
         have HHX:Hid (IRow w6 (.slice (some ⟨gg,0,none⟩) (sj.1.length + 1) cap2) (sj.1 ++ [(t:Int)])∧Below w.heap.size w w6∧Blk w6 w.heap.size #[.slice rd cls.length rcap,.slice (some ⟨ng,0,none⟩) vs.length ncap] 63∧Blk w6 (w.heap.size + 1) (intsA (sj.2.set ci (sj.1.length:Int))) 3):=⟨intI_push (w:=w6) (v:=.slice none 0 0) hown6,q1',q2',q3'⟩
         clear hown6 hgrow6 hat6 hkk q1 q2 q3 q1' q2' q3' HHI HOL mc mf
         go_wp2_with fail
         go_roundg (row.length - (j + 1))
         case measure=>omega
         case rel =>
          obtain ⟨q1,q2,q3,q4⟩:=HHX.out
          refine ⟨j + 1,gg,cap2,by omega,rfl,by go_num,?_,?_,hgg,q2,q3,?_⟩
          ·rw [HST.out]; simp
          ·rw [HST.out]; simpa using q1
          ·rw [HST.out]; exact q4
        ·have e4:(old == -1) = false:=by simp [hold1]
         rw [if_neg (by simp [hold1])] at hstep
         have HST:=hide hstep
         have HHI:Hid (IRow wr (.slice (some ⟨fg2,0,none⟩) sj.1.length fcap2) sj.1∧Below w.heap.size w wr∧Blk wr w.heap.size #[.slice rd cls.length rcap,.slice (some ⟨ng,0,none⟩) vs.length ncap] 63∧Blk wr (w.heap.size + 1) (intsA sj.2) 3):=⟨hI,hb,hG,hM⟩
         clear hstep hI hb hG hM hto hsum hslen hvj hgm hold hold1 hgt hcb hcl hn1
         go_wp2_with fail
         go_roundg (row.length - (j + 1))
         case measure=>omega
         case rel =>
          obtain ⟨q1,q2,q3,q4⟩:=HHI.out
          exact ⟨j + 1,fg2,fcap2,by omega,rfl,by go_num,by rw [HST.out],by rw [HST.out]; exact q1,hfg2,q2,q3,by rw [HST.out]; exact q4⟩
      ·have e2:decide ((j:Int) < (row.length:Int)) = false:=by simp; omega
       rw [List.take_of_length_le (by omega)] at hI hM ⊢
       have hvs2:=HVR.out.sum
       have HHI:Hid (IRow wr (.slice (some ⟨fg2,0,none⟩) (visitRow cls row st).1.length fcap2) (visitRow cls row st).1∧Below w.heap.size w wr∧Blk wr w.heap.size #[.slice rd cls.length rcap,.slice (some ⟨ng,0,none⟩) vs.length ncap] 63∧Blk wr (w.heap.size + 1) (intsA (visitRow cls row st).2) 3):=⟨hI,hb,hG,hM⟩
       have HSUM:=hide hvs2
       clear hI hb hG hM hvj hvs2
       go_wp2_with fail
       go_roundg (gk - 1)
       case measure=>omega
       case rel =>
        obtain ⟨q1,q2,q3,q4⟩:=HHI.out
        have hsub:=HSUM.out
        refine ⟨k + 1,visitRow cls row st,fg2,fcap2,rfl,by go_num,?_,by omega,HVR.out,HFL.out,q1,hfg2,q2,q3,q4⟩
        have:=visitRow_len cls row st
        omega
    ·have e1:decide ((k:Int) < (st.1.length:Int)) = false:=by simp; omega
     have hFe:F = st:=by
      rw [show gk = (gk - 1) + 1 by omega] at hFl
      unfold visitLoop at hFl
      rw [if_neg hlt] at hFl
      exact hFl.symm
     subst hFe
     have hvlen:=hv.len
     have HHI:Hid (IRow wr (.slice (some ⟨fg,0,none⟩) F.1.length fcap) F.1∧Below w.heap.size w wr∧Blk wr (w.heap.size + 1) (intsA F.2) 3∧VOk cls.length F):=⟨hI,hb,hM,hv⟩
     clear hI hb hM hv hG hFl hvlen hsum
     go_wp2_with fail
     go_ret2
     obtain ⟨q1,q2,q3,q4⟩:=HHI.out
     have q5:=IRow.ofBlk q3 (by rw [q4.len]; omega)
     rw [q4.len] at q5
     exact ⟨_,_,rfl,q1,q5,q4,q2⟩
end Go.Proofs.YtcckhngbdoiikaaGreat
