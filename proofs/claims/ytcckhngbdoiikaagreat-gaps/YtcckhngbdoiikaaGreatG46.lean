import Derived.Test.YtcckhngbdoiikaaGreatG45
import Derived.StillTailTactics

namespace Go.Proofs.YtcckhngbdoiikaaGreat
open Go.RowKit Go.Deep
set_option linter.unusedVariables false
theorem regionTail {P:Program} {id:Nat} {Q:Exit→Act→World→Prop} {a:Act} {w:World} {l:List Oper} (n:Nat) (hm:P.follows .mixedOrders = true) (hB:Region.lexTailB .any l.toArray n = true)
  (h:∀ OPS:Array Oper,wpStill P OPS { w with drawn:=w.drawn + 1 } (fun a'=>wpList P OPS Q (l.drop n) a' { w with drawn:=w.drawn + 1 }) (l.take n) a):(Code.region id l.toArray true).wp P Q a w :=
 wp_region_still_tail n hm hB (h _)
theorem Tryz.mixedG:Tryz.prog.follows .mixedOrders = true:=by kernel_rfl
structure GapT where
 bounded:Bool
 k:Nat
 fr:ByteArray
 tt:ByteArray
 lead:ByteArray
 lp:ByteArray
 tail:ByteArray
abbrev gapC (x:GapT):Array Value:=#[.bool x.bounded,.int .i64 (x.k:Int),.string x.fr,.string x.tt,.string x.lead,.string x.lp,.string x.tail]
abbrev gapV (x:GapT):Value:=.agg #[.bool x.bounded,.int .i64 (x.k:Int),.string x.fr,.string x.tt,.string x.lead,.string x.lp,.string x.tail]
abbrev gap0:Array Value:=#[.bool false,.int .i64 0,.string ⟨#[]⟩,.string ⟨#[]⟩,.string ⟨#[]⟩,.string ⟨#[]⟩,.string ⟨#[]⟩]
def boundedF (x:WebT) (LL:List (List Bool)):GapT :=
 ⟨true,(farD x LL LL.length).2,(approachF x (farD x LL LL.length).1).1,(approachF x (farD x LL LL.length).1).1 ++ (walkW x (LL.take (farD x LL LL.length).2) (farD x LL LL.length).1).2,noStr,noStr,noStr⟩
def endlessF (x:WebT) (LL:List (List Bool)) (s:Nat):GapT :=
 ⟨false,0,(approachF x ((walkW x LL s).1.getD (repeatF (walkW x LL s).1).1 0)).1,noStr,(approachF x ((walkW x LL s).1.getD (repeatF (walkW x LL s).1).1 0)).2,
  (walkW x LL s).2.extract (repeatF (walkW x LL s).1).1 (repeatF (walkW x LL s).1).2,(walkW x LL s).2.extract (repeatF (walkW x LL s).1).2 (walkW x LL s).2.size⟩
theorem Tryz.infoGap:(Tryz.prog.info? 42).map (·.size) = some 7:=by kernel_rfl
theorem storeGap {x:GapT} {ops:Array Oper} {rest:List Oper} {o:Oper} {a:Act} {w:World} {Q:Exit→Act→World→Prop} (hgd:o.guard = none) (p q:Operand) (ho:o.op = .store 42 p q)
  (g:Nat) (hx:a.eval p = .pointer (some ⟨g,0,none⟩)) (hy:a.eval q = gapV x) {old:Array Value} (hb:Blk w g old 42) (hold:old.size = 7)
  (h:wpList Tryz.prog ops Q rest (a.put o.dst undef) (w.setRow g (gapC x))):wpList Tryz.prog ops Q (o :: rest) a w :=
 wpList_store_row hgd 42 p q ho g _ hx hy 42 _ hb Tryz.infoGap hold (by simp [Value.oneCell']) h
theorem Below_drewF' {n:Nat} {w w':World} (h:Below n w w'):Below n w w'.drew:=⟨h.os,h.tape,h.output,h.size,h.block⟩
theorem farD_le (x:WebT) (LL:List (List Bool)):∀ d,(farD x LL d).2 ≤ d∧(0 < x.token.length→(farD x LL d).1 < x.token.length)
 | 0=>⟨Nat.le_refl _,fun h=>h⟩
 |d + 1=>by
  unfold farD
  split
  ·rename_i s hs
   have:=List.mem_of_find?_eq_some hs
   exact ⟨Nat.le_refl _,fun _=>by simpa using this⟩
  ·have:=farD_le x LL d
   exact ⟨by omega,this.2⟩
theorem approach_sz {x:WebT} (ho:WebOk x):∀ k,k ≤ x.steps.length→ApprOk x.token.length (256 * k) (apprTo x k)
 | 0,_=>by
  refine ⟨by simp [apprTo,appr0],by simp [apprTo,appr0],by simp [apprTo,appr0],fun i=>?_⟩
  have h9:∀ j,(List.replicate x.token.length noStr).getD j noStr = noStr:=fun j=>by
   rw [List.getD_eq_getElem?_getD,List.getElem?_replicate]
   split <;> rfl
  show ((List.replicate x.token.length noStr).getD i noStr).size + ((List.replicate x.token.length noStr).getD i noStr).size ≤ 0
  rw [h9]
  exact Nat.le_refl _
 |k + 1,hk=>by
  have h8:=apprFold_ok x k (x.steps.getD k []) _ _ _ (approach_sz ho k (by omega))
  have hm:x.steps.getD k [] ∈ x.steps:=by rw [List.getD_eq_getElem?_getD,List.getElem?_eq_getElem (by omega)]; exact List.getElem_mem _
  have hf:=ho.few _ hm
  exact ⟨h8.tl,h8.rl,h8.fl,fun i=>Nat.le_trans (h8.sz i) (by omega)⟩
theorem approachF_sz {x:WebT} (ho:WebOk x) (i:Nat):(approachF x i).1.size ≤ 30000000∧(approachF x i).2.size ≤ 30000000:=by
 have h:=(approach_sz ho x.steps.length (Nat.le_refl _)).sz i
 have h2:=ho.states
 have h3:=ho.len
 unfold approachF
 simp only
 omega
theorem walkD_sz {x:WebT} (ho:WebOk x) (LL:List (List Bool)):∀ (d at_:Nat) (vis:List Nat) (t:ByteArray),vis.length = t.size + 1→(∀ v ∈ vis,v < x.token.length) →
  (walkD x LL d at_ vis t).1.length = (walkD x LL d at_ vis t).2.size + 1∧(walkD x LL d at_ vis t).2.size ≤ t.size + d∧∀ v ∈ (walkD x LL d at_ vis t).1,v < x.token.length
 | 0,at_,vis,t,h,hv=>⟨h,Nat.le_refl _,hv⟩
 |d + 1,at_,vis,t,h,hv=>by
  unfold walkD
  split
  ·exact ⟨h,by show t.size ≤ t.size + (d + 1); omega,hv⟩
  ·rename_i s hs
   have hq:=(intoF_in ho hs).1
   have h9:=walkD_sz ho LL d s.q (vis ++ [s.q]) (t ++ bytesOf [s.b]) (by rw [List.length_append,ByteArray.size_append,bytes1_size]; simp; omega) (fun v hv'=>by simp at hv'; rcases hv' with e | e; exact hv v e; rw [e]; exact hq)
   refine ⟨h9.1,?_,h9.2.2⟩
   have:=h9.2.1
   rw [ByteArray.size_append,bytes1_size] at this
   omega
theorem walkW_sz {x:WebT} (ho:WebOk x) (LL:List (List Bool)) (s:Nat) (hs:s < x.token.length):(walkW x LL s).1.length = (walkW x LL s).2.size + 1∧(walkW x LL s).2.size ≤ LL.length∧∀ v ∈ (walkW x LL s).1,v < x.token.length:=by
 have h:=walkD_sz ho LL LL.length s [s] ⟨#[]⟩ rfl (fun v hv=>by simp at hv; rw [hv]; exact hs)
 refine ⟨h.1,?_,h.2.2⟩
 have:=h.2.1
 have e:(⟨#[]⟩:ByteArray).size = 0:=rfl
 unfold walkW
 omega
theorem BoolRows.take {w:World} {g cap:Nat} {LL:List (List Bool)} (h:BoolRows w (.slice (some ⟨g,0,none⟩) LL.length cap) LL) (k:Nat) (hk:k ≤ LL.length):BoolRows w (.slice (some ⟨g,0,none⟩) k cap) (LL.take k):=by
 obtain ⟨vs,h1,h2,h3⟩:=RowsOf.take h k hk
 have e:(LL.take k).length = k:=by simp; omega
 unfold BoolRows
 rw [e]
 refine ⟨vs,h1,h2,fun i x hx=>?_⟩
 have h4:=h3 i x hx
 have hi:i < k:=by
  rcases Nat.lt_or_ge i k with h5 | h5
  ·exact h5
  ·rw [List.getElem?_eq_none (by omega)] at hx; cases hx
 have e9:(LL.take k).getD i [] = LL.getD i []:=by rw [List.getD_eq_getElem?_getD,List.getElem?_take,if_pos hi,← List.getD_eq_getElem?_getD]
 show BRow w x ((LL.take k).getD i [])
 rw [e9]
 exact h4
set_option maxRecDepth 20000 in
set_option maxHeartbeats 3200000 in
theorem bounded_any (wb:Nat) (x:WebT) (lv:Value) (LL:List (List Bool)) (w:World) (h:WebAt w wb x) (ho:WebOk x) (hL:BoolRows w lv LL) (hLn:∀ l ∈ LL,l.length = x.token.length) (hm:LL.length ≤ 100001) (hpos:0 < x.token.length) (hne:0 < LL.length) :
  Calls Tryz.prog 61 #[.pointer (some ⟨wb,0,none⟩),lv] w fun e w'=>e = .returned (gapV (boundedF x LL))∧Below w.heap.size w w':=by
 obtain ⟨ld,lcap,rfl,hlrow⟩:=hL.formL rfl
 rcases hlrow with h9 | ⟨lg,rfl⟩
 ·omega
 obtain ⟨hf1,hf2⟩:=farD_le x LL LL.length
 have hf3:=hf2 hpos
 have HFA:=hide (fun (W:World) (hb:Below w.heap.size w W)=>farthest_any wb x _ LL W (h.below hb) ho (hL.below hb) hLn hm)
 generalize hFF:farD x LL LL.length = FF at HFA hf1 hf3
 obtain ⟨fs,fd⟩:=FF
 simp only at hf1 hf3
 have HAP:=hide (fun (W:World) (hb:Below w.heap.size w W)=>approach_any wb x fs W (h.below hb) ho hf3)
 have HWA:=hide (fun (W:World) (hb:Below w.heap.size w W)=>walkW_any wb x fs _ (LL.take fd) W (h.below hb) ho ((hL.below hb).take fd hf1) (fun l hl=>hLn l (List.mem_of_mem_take hl)) (by simp; omega) hf3)
 have hsz:=approachF_sz ho fs
 have hwz:=walkW_sz ho (LL.take fd) fs hf3
 have hX:boundedF x LL = ⟨true,fd,(approachF x fs).1,(approachF x fs).1 ++ (walkW x (LL.take fd) fs).2,noStr,noStr,noStr⟩:=by unfold boundedF; rw [hFF]
 rw [hX]
 have hcap:LL.length ≤ lcap:=by
  obtain ⟨vs,g1,_⟩:=hL
  obtain ⟨_,ad9,cap9,e9,⟨h1,h2⟩ | ⟨g9,cur9,h1,h2,h3,_⟩⟩:=ownsRow_form g1
  ·omega
  ·injection e9 with e1 e2 e3
   omega
 have f0:(0:Int) ≤ (fd:Int):=by omega
 have f1:(fd:Int) ≤ (lcap:Int):=by omega
 generalize approachF x fs = AP at HAP hsz
 generalize walkW x (LL.take fd) fs = WW at HWA hwz
 obtain ⟨at_,ar⟩:=AP
 obtain ⟨wv,wt⟩:=WW
 simp only at hsz hwz
 have hwt:wt.size ≤ 100001:=by have:=hwz.2.1; simp at this; omega
 have u1:∀ W:World,(Op.stringOp .add at_ wt).run Tryz.prog W = .ok (.string (at_ ++ wt)) W:=fun W=>run_string_add_sum W _ _ (by omega)
 clear h ho hL hLn hFF hX hwz hf2 hcap
 go_enter Tryz.func61,Tryz.ntmps61
 go_wp2_with fail
 refine (HFA.out _ (Below1 _ _)).mono ?_
 rintro e w1 ⟨rfl,hb1⟩
 have HB1:Hid (Below w.heap.size w w1∧Blk w1 w.heap.size gap0 42):=⟨(Below1 _ _).trans (hb1.mono (by simp)),(Blk.new _ _ _).below hb1⟩
 clear hb1
 go_wp2_with fail
 refine (HAP.out _ HB1.out.1).mono ?_
 rintro e w2 ⟨rfl,hb2⟩
 have HB2:Hid (Below w.heap.size w w2∧Blk w2 w.heap.size gap0 42):=⟨HB1.out.1.trans (hb2.mono HB1.out.1.size),HB1.out.2.below hb2⟩
 clear hb2 HB1
 go_wp2_with fail
 refine (HWA.out _ HB2.out.1).mono ?_
 rintro e w3 ⟨vv,rfl,hV,hb3⟩
 have HB3:Hid (Below w.heap.size w w3∧Blk w3 w.heap.size gap0 42):=⟨HB2.out.1.trans (hb3.mono HB2.out.1.size),HB2.out.2.below hb3⟩
 clear hb3 HB2 hV
 go_wp2_with (first | refine storeGap (x:=⟨true,fd,at_,at_ ++ wt,noStr,noStr,noStr⟩) rfl (.tmp 4) (.tmp 37) rfl w.heap.size rfl rfl HB3.out.2 rfl ?_)
 exact bodyPost_ret (results_cell_row Tryz.results61 _ _ w.heap.size 42 (gapC ⟨true,fd,at_,at_ ++ wt,noStr,noStr,noStr⟩) (0,0) _ rfl (HB3.out.2.setRow _) Tryz.underlying42 rfl Tryz.infoGap) rfl ⟨rfl,Below_setRow HB3.out.1 (Nat.le_refl _) _⟩
set_option maxRecDepth 20000 in
set_option maxHeartbeats 3200000 in
theorem endless_any (wb:Nat) (x:WebT) (s:Nat) (lv:Value) (LL:List (List Bool)) (w:World) (h:WebAt w wb x) (ho:WebOk x) (hL:BoolRows w lv LL) (hLn:∀ l ∈ LL,l.length = x.token.length) (hm:LL.length ≤ 100001) (hs:s < x.token.length) :
  Calls Tryz.prog 60 #[.pointer (some ⟨wb,0,none⟩),.int .i64 (s:Int),lv] w fun e w'=>e = .returned (gapV (endlessF x LL s))∧Below w.heap.size w w':=by
 have HWA:=hide (fun (W:World) (hb:Below w.heap.size w W)=>walkW_any wb x s lv LL W (h.below hb) ho (hL.below hb) hLn hm hs)
 obtain ⟨ld,lcap,rfl,hlrow⟩:=hL.formL rfl
 obtain ⟨z1,z2,z3⟩:=walkW_sz ho LL s hs
 have hX:endlessF x LL s = ⟨false,0,(approachF x ((walkW x LL s).1.getD (repeatF (walkW x LL s).1).1 0)).1,noStr,(approachF x ((walkW x LL s).1.getD (repeatF (walkW x LL s).1).1 0)).2,
  (walkW x LL s).2.extract (repeatF (walkW x LL s).1).1 (repeatF (walkW x LL s).1).2,(walkW x LL s).2.extract (repeatF (walkW x LL s).1).2 (walkW x LL s).2.size⟩:=rfl
 rw [hX]
 clear hX
 generalize walkW x LL s = WW at HWA z1 z2 z3
 obtain ⟨vis,t⟩:=WW
 simp only at z1 z2 z3
 obtain ⟨r1,r2⟩:=repeatF_le vis (by omega)
 have HRE:=hide (fun (v:Value) (W:World) (hv:IRow W v (natsI vis))=>repeat_any vis v W hv (by omega))
 simp only
 generalize repeatF vis = RR at HRE r1 r2
 obtain ⟨f,q⟩:=RR
 simp only at r1 r2
 have hvf:vis.getD f 0 < x.token.length:=z3 _ (by rw [List.getD_eq_getElem?_getD,List.getElem?_eq_getElem (by omega)]; exact List.getElem_mem _)
 have HAP:=hide (fun (W:World) (hb:Below w.heap.size w W)=>approach_any wb x (vis.getD f 0) W (h.below hb) ho hvf)
 simp only
 generalize hvg:vis.getD f 0 = vf at HAP
 generalize approachF x vf = AP at HAP
 obtain ⟨at_,ar⟩:=AP
 simp only
 have HVG:=hide hvg
 have g0:(0:Int) ≤ (f:Int):=by omega
 have g1:(f:Int) < (vis.length:Int):=by omega
 have g2:(f:Int) ≤ (q:Int):=by omega
 have g3:(q:Int) ≤ (t.size:Int):=by omega
 have g4:(0:Int) ≤ (q:Int):=by omega
 have g5:f ≤ q:=r1
 have g6:q ≤ t.size:=by omega
 have hvl:vis.length ≤ 100002:=by omega
 have HZ:=hide z1
 clear h ho hL hLn hvg z1 z3 hvf
 go_enter Tryz.func60,Tryz.ntmps60
 go_wp2_with fail
 refine (HWA.out _ (Below1 _ _)).mono ?_
 rintro e w1 ⟨vv,rfl,hV,hb1⟩
 have HB1:Hid (Below w.heap.size w w1∧Blk w1 w.heap.size gap0 42∧IRow w1 vv (natsI vis)):=⟨(Below1 _ _).trans (hb1.mono (by simp)),(Blk.new _ _ _).below hb1,hV⟩
 clear hb1 hV
 go_wp2_with fail
 refine (HRE.out vv w1 HB1.out.2.2).mono ?_
 rintro e w2 ⟨rfl,hb2⟩
 have HB2:Hid (Below w.heap.size w w2∧Blk w2 w.heap.size gap0 42∧IRow w2 vv (natsI vis)):=⟨HB1.out.1.trans (hb2.mono HB1.out.1.size),HB1.out.2.1.below hb2,HB1.out.2.2.below hb2⟩
 clear hb2 HB1
 obtain ⟨vd,vcap,rfl,hvrow⟩:=HB2.out.2.2.formN
 rcases hvrow with h9 | ⟨vg,rfl⟩
 ·omega
 have c0:=HB2.out.2.2.cellN f (by omega)
 rw [HVG.out] at c0
 go_wp2_with fail
 refine (HAP.out _ HB2.out.1).mono ?_
 rintro e w3 ⟨rfl,hb3⟩
 have HB3:Hid (Below w.heap.size w w3∧Blk w3 w.heap.size gap0 42):=⟨HB2.out.1.trans (hb3.mono HB2.out.1.size),HB2.out.2.1.below hb3⟩
 clear hb3 HB2 c0
 go_wp2_with fail
 refine regionTail 10 Tryz.mixedG (by kernel_rfl) ?_
 intro OPS
 simp only [List.take_succ_cons,List.take_zero,List.drop_succ_cons,List.drop_zero]
 repeat still_step
 refine wpStill_nil ?_
 refine storeGap (x:=⟨false,0,at_,noStr,ar,t.extract f q,t.extract q t.size⟩) rfl (.tmp 6) (.tmp 43) rfl w.heap.size rfl rfl (Blk.drew HB3.out.2) rfl ?_
 go_wp2_with fail
 exact bodyPost_ret (results_cell_row Tryz.results60 _ _ w.heap.size 42 (gapC ⟨false,0,at_,noStr,ar,t.extract f q,t.extract q t.size⟩) (0,0) _ rfl ((Blk.drew HB3.out.2).setRow _) Tryz.underlying42 rfl Tryz.infoGap) rfl ⟨rfl,Below_setRow (Below_drewF' HB3.out.1) (Nat.le_refl _) _⟩
theorem weave_ok (kd:Nat→Nat) (g:Graph) (hi:StepsIn kd g) (hl:g.rule.length ≤ 50000):WebOk (weaveF kd g):=by
 have hs:∀ (s n b:Nat) (seen:List Bool) (acc:List StepT),b ≤ 256→acc.length ≤ b→(∀ t ∈ acc,t.q < g.rule.length∧t.b < 256)→(stepsLoop kd g s n b seen acc).length ≤ 256∧∀ t ∈ stepsLoop kd g s n b seen acc,t.q < g.rule.length∧t.b < 256:=by
  intro s n
  induction n with
  |zero=>intro b seen acc h1 h2 h3; exact ⟨by show acc.length ≤ 256; omega,h3⟩
  |succ n ih =>
   intro b seen acc h1 h2 h3
   unfold stepsLoop
   by_cases hb:b < 256
   ·rw [if_pos hb]
    by_cases hc:nextF kd g (s:Int) (b:Int) = -1∨seen.getD (nextF kd g (s:Int) (b:Int)).toNat false = true
    ·rw [if_pos hc]
     exact ih (b + 1) seen acc (by omega) (by omega) h3
    ·rw [if_neg hc]
     refine ih (b + 1) _ _ (by omega) (by simp; omega) (fun t ht=>?_)
     simp only [List.mem_append,List.mem_singleton] at ht
     rcases ht with e | e
     ·exact h3 t e
     ·rcases hi (s:Int) (b:Int) with e2 | e2
      ·exact absurd (.inl e2) hc
      ·rw [e]; exact ⟨by show (nextF kd g (s:Int) (b:Int)).toNat < _; omega,hb⟩
   ·rw [if_neg hb]
    exact ⟨by omega,h3⟩
 have hs2:∀ l ∈ (weaveF kd g).steps,l.length ≤ 256∧∀ t ∈ l,t.q < g.rule.length∧t.b < 256:=by
  intro l hl9
  simp only [weaveF,stepsTo,List.mem_map] at hl9
  obtain ⟨s,_,rfl⟩:=hl9
  exact hs s 257 0 _ [] (by omega) (by simp) (fun t ht=>by simp at ht)
 refine ⟨by simp [weaveF,stepsTo_len,tokenF_len],fun l h1 t h2=>?_,fun l h1=>(hs2 l h1).1,by simp [weaveF,tokenF_len]; omega⟩
 have:=(hs2 l h1).2 t h2
 simpa [weaveF,tokenF_len] using this
theorem layersF_take (x:WebT) (n:Nat):(layersF x (n + 1)).take n = layersF x n:=by
 rw [layersF_succ,List.take_append_of_le_length (by rw [layersF_len]; exact Nat.le_refl _),List.take_of_length_le (by rw [layersF_len]; exact Nat.le_refl _)]
theorem layersF_each (x:WebT) (n:Nat):∀ l ∈ layersF x n,l.length = x.token.length:=by
 intro l hl
 simp only [layersF,List.mem_map] at hl
 obtain ⟨d,_,rfl⟩:=hl
 exact layerAt_len x d
def gapOf (kd:Nat→Nat) (g:Graph):GapT :=
 match (List.range g.rule.length).find? (fun s=>(layerAt (weaveF kd g) g.rule.length).getD s false) with
 |some s=>endlessF (weaveF kd g) (layersF (weaveF kd g) g.rule.length) s
 |none=>boundedF (weaveF kd g) (layersF (weaveF kd g) g.rule.length)
set_option maxRecDepth 20000 in
set_option maxHeartbeats 3200000 in
theorem gapFind_any (pb:Nat) (kd:Nat→Nat) (g:Graph) (w:World) (h:LexAt w pb kd g) (ho:LexOk kd g) (hi:StepsIn kd g) (hl:g.rule.length ≤ 50000) (hpos:0 < g.rule.length) :
  Calls Tryz.prog 31 #[.pointer (some ⟨pb,0,none⟩)] w fun e w'=>e = .returned (gapV (gapOf kd g))∧Below w.heap.size w w':=by
 have hW:=weave_ok kd g hi hl
 have HWE:=hide (fun (W:World) (hb:Below w.heap.size w W)=>weave_any pb kd g W (h.below hb) ho hi hl)
 have htl:(weaveF kd g).token.length = g.rule.length:=by simp [weaveF,tokenF_len]
 have hX:gapOf kd g = match (List.range g.rule.length).find? (fun s=>(layerAt (weaveF kd g) g.rule.length).getD s false) with
  |some s=>endlessF (weaveF kd g) (layersF (weaveF kd g) g.rule.length) s
  |none=>boundedF (weaveF kd g) (layersF (weaveF kd g) g.rule.length):=rfl
 generalize gapOf kd g = X at hX
 generalize weaveF kd g = x at HWE hW htl hX
 have HX:=hide hX
 have HW:=hide hW
 have HTL:=hide htl
 clear h ho hi hX hW htl
 go_enter Tryz.func31,Tryz.ntmps31
 go_wp2_with fail
 refine (HWE.out _ (Below1 _ _)).mono ?_
 rintro e w1 ⟨wb,rfl,hWA,hb1⟩
 obtain ⟨tv,sv,hB,hT,hS⟩:=hWA.ex
 obtain ⟨td,tcap,rfl,_⟩:=hT.form
 have c0:w1.cell? ⟨wb,0,none⟩ = some (.slice td x.token.length tcap):=hB.cell 0
 have hx9:=HTL.out
 have HLA:=hide (layers_any wb x x.token.length w1 hWA HW.out (by omega))
 have HB1:Hid (Below w.heap.size w w1∧Blk w1 w.heap.size gap0 42∧WebAt w1 wb x):=⟨(Below1 _ _).trans (hb1.mono (by simp)),(Blk.new _ _ _).below hb1,hWA⟩
 have hxl:x.token.length ≤ 50000:=by omega
 have hxp:0 < x.token.length:=by omega
 clear hB hT hS hWA hb1 hx9
 go_wp2_with fail
 refine HLA.out.mono ?_
 rintro e w2 ⟨lv,rfl,hL,hO,hb2⟩
 obtain ⟨ld,lcap,rfl,hlrow⟩:=hL.formL (layersF_len x (x.token.length + 1))
 rcases hlrow with h9 | ⟨lg,rfl⟩
 ·omega
 have HB2:Hid (Below w.heap.size w w2∧Blk w2 w.heap.size gap0 42∧WebAt w2 wb x∧BoolRows w2 (.slice (some ⟨lg,0,none⟩) (x.token.length + 1) lcap) (layersF x (x.token.length + 1))):=⟨HB1.out.1.trans (hb2.mono HB1.out.1.size),HB1.out.2.1.below hb2,HB1.out.2.2.below hb2,hL⟩
 have hL':BoolRows w2 (.slice (some ⟨lg,0,none⟩) (layersF x (x.token.length + 1)).length lcap) (layersF x (x.token.length + 1)):=by rw [layersF_len]; exact hL
 obtain ⟨rv,r0,hR⟩:=RowsOf.cell hL' x.token.length (by rw [layersF_len]; omega)
 have hR2:BRow w2 rv (layerAt x x.token.length):=by have h9:=hR; simp only [layersF_get x (x.token.length + 1) x.token.length (by omega)] at h9; exact h9
 obtain ⟨rd,rcap,rfl,hrrow⟩:=hR2.form
 rw [layerAt_len] at hR2 r0 hrrow
 have hLt:=hL'.take x.token.length (by rw [layersF_len]; omega)
 rw [layersF_take] at hLt
 have HLT:=hide hLt
 have HR:=hide hR2
 have hcap:x.token.length + 1 ≤ lcap:=by
  obtain ⟨vs,g1,_⟩:=hL
  obtain ⟨_,ad9,cap9,e9,⟨h1,h2⟩ | ⟨g9,cur9,h1,h2,h3,_⟩⟩:=ownsRow_form g1
  ·rw [layersF_len] at h2; omega
  ·rw [layersF_len] at h3
   injection e9 with e1 e2 e3
   omega
 have m0:(0:Int) ≤ (x.token.length:Int):=by omega
 have m1:(x.token.length:Int) < ((x.token.length + 1:Nat):Int):=by omega
 have m2:(x.token.length:Int) ≤ (lcap:Int):=by omega
 clear hL hO hb2 hL' hR hR2 hLt hcap HB1 HLA c0
 go_wp2_with fail
 go_loopg [23] x.token.length (fun G iv wr=>∃ i:Nat,iv = .int .i64 (i:Int)∧i ≤ x.token.length∧G = x.token.length - i∧wr = w2∧∀ j,j < i→(layerAt x x.token.length).getD j false = false)
 case atStart=>exact ⟨0,rfl,by omega,rfl,rfl,fun j hj=>by omega⟩
 case round =>
  obtain ⟨i,rfl,hi,rfl,rfl,hno⟩:=hrel
  by_cases hlt:i < x.token.length
  ·have e0:decide ((i:Int) < (x.token.length:Int)) = true:=by simp; omega
   rcases hrrow with h9 | ⟨rg,rfl⟩
   ·omega
   have b0:=HR.out.cellD i (by rw [layerAt_len]; exact hlt)
   have i0:(0:Int) ≤ (i:Int):=by omega
   have i1:(i:Int) < (x.token.length:Int):=by omega
   have HNO:=hide hno
   clear hno
   cases hbi:(layerAt x x.token.length).getD i false with
   |true =>
    rw [hbi] at b0
    have hX:X = endlessF x (layersF x x.token.length) i:=by
     have h9:(List.range g.rule.length).find? (fun s=>(layerAt x g.rule.length).getD s false) = some i:=by
      rw [← HTL.out,List.find?_range_eq_some]
      exact ⟨hbi,by simpa using hlt,fun j hj=>by rw [HNO.out j hj]; rfl⟩
     have h8:=HX.out
     rw [h9] at h8
     rw [HTL.out]
     exact h8
    have HEN:=hide (endless_any wb x i _ (layersF x x.token.length) wr HB2.out.2.2.1 HW.out HLT.out (layersF_each x _) (by rw [layersF_len]; omega) hlt)
    rw [← hX] at HEN
    clear hX hbi
    go_wp2_with fail
    refine HEN.out.mono ?_
    rintro e w3 ⟨rfl,hb3⟩
    have HB3:Hid (Below w.heap.size w w3∧Blk w3 w.heap.size gap0 42):=⟨HB2.out.1.trans (hb3.mono HB2.out.1.size),HB2.out.2.1.below hb3⟩
    clear hb3
    go_wp2_with (first | refine storeGap (x:=X) rfl (.tmp 2) (.tmp 34) rfl w.heap.size rfl rfl HB3.out.2 rfl ?_)
    exact bodyPost_ret (results_cell_row Tryz.results31 _ _ w.heap.size 42 (gapC X) (0,0) _ rfl (HB3.out.2.setRow _) Tryz.underlying42 rfl Tryz.infoGap) rfl ⟨rfl,Below_setRow HB3.out.1 (Nat.le_refl _) _⟩
   |false =>
    rw [hbi] at b0
    have HBI:=hide hbi
    clear hbi
    go_wp2_with fail
    go_roundg (x.token.length - (i + 1))
    case measure=>omega
    case rel =>
     refine ⟨i + 1,by go_num,by omega,rfl,rfl,fun j hj=>?_⟩
     by_cases e:j < i
     ·exact HNO.out j e
     ·rw [show j = i by omega]; exact HBI.out
  ·have e0:decide ((i:Int) < (x.token.length:Int)) = false:=by simp; omega
   obtain rfl:i = x.token.length:=by omega
   have hX:X = boundedF x (layersF x x.token.length):=by
    have h9:(List.range g.rule.length).find? (fun s=>(layerAt x g.rule.length).getD s false) = none:=by
     rw [← HTL.out,List.find?_range_eq_none]
     intro j hj
     rw [hno j hj]; rfl
    have h8:=HX.out
    rw [h9] at h8
    rw [HTL.out]
    exact h8
   have HEN:=hide (bounded_any wb x _ (layersF x x.token.length) wr HB2.out.2.2.1 HW.out HLT.out (layersF_each x _) (by rw [layersF_len]; omega) hxp (by rw [layersF_len]; exact hxp))
   rw [← hX] at HEN
   clear hX hno
   go_wp2_with fail
   refine HEN.out.mono ?_
   rintro e w3 ⟨rfl,hb3⟩
   have HB3:Hid (Below w.heap.size w w3∧Blk w3 w.heap.size gap0 42):=⟨HB2.out.1.trans (hb3.mono HB2.out.1.size),HB2.out.2.1.below hb3⟩
   clear hb3
   go_wp2_with (first | refine storeGap (x:=X) rfl (.tmp 2) (.tmp 40) rfl w.heap.size rfl rfl HB3.out.2 rfl ?_)
   exact bodyPost_ret (results_cell_row Tryz.results31 _ _ w.heap.size 42 (gapC X) (0,0) _ rfl (HB3.out.2.setRow _) Tryz.underlying42 rfl Tryz.infoGap) rfl ⟨rfl,Below_setRow HB3.out.1 (Nat.le_refl _) _⟩
end Go.Proofs.YtcckhngbdoiikaaGreat
