import Derived.Test.YtcckhngbdoiikaaGreatG25
import Derived.Test.YtcckhngbdoiikaaGreatG34
import Derived.BigQuiet
import Derived.Deep.QuietTactic
import Derived.Test.YtcckhngbdoiikaaGreatG41
import Derived.Test.YtcckhngbdoiikaaGreatG14
import Derived.Test.YtcckhngbdoiikaaGreatG06
import Derived.Test.YtcckhngbdoiikaaGreatG23
import Derived.Deep.DeepCutAuto

namespace Go.Proofs.YtcckhngbdoiikaaGreat
open Go.RowKit Go.Deep
set_option linter.unusedVariables false
structure StepT where
 b:Nat
 q:Nat
 deriving DecidableEq,Inhabited
def stepsC:List StepT→List Value
 | []=>[]
 |x :: r=>.string (bytesOf [x.b]) :: .int .i64 (x.q:Int) :: stepsC r
theorem stepsC_append:∀ l m:List StepT,stepsC (l ++ m) = stepsC l ++ stepsC m
 | [],m=>rfl
 |s :: r,m=>by simp [stepsC,stepsC_append r m]
theorem stepsC_get:∀ (l:List StepT) (k:Nat) (h:k < l.length),(stepsC l)[k * 2]? = some (.string (bytesOf [l[k].b]))∧(stepsC l)[k * 2 + 1]? = some (.int .i64 (l[k].q:Int))
 |s :: r,0,_=>⟨rfl,rfl⟩
 |s :: r,k + 1,h=>by
  rw [show (k + 1) * 2 = k * 2 + 1 + 1 by omega]
  simp only [stepsC,List.getElem?_cons_succ,List.getElem_cons_succ]
  exact stepsC_get r k (by simpa using h)
def StepRow (w:World) (v:Value) (l:List StepT):Prop:=w.ownsRow 0 186 2 v l.length (stepsC l)
theorem StepRow.kept {w w':World} {v:Value} {l:List StepT} {ex:Nat→Prop} (h:StepRow w v l) (k:Kept ex w w') (he:∀ b,v.ownBlock = some b→¬ ex b):StepRow w' v l:=ownsRow_kept h k he
theorem StepRow.below {w w':World} {v:Value} {l:List StepT} (h:StepRow w v l) (k:Below w.heap.size w w'):StepRow w' v l:=h.kept (ex:=fun _=>False) (Kept.ofBelow k) (fun _ _ e=>e)
theorem StepRow.form {w:World} {v:Value} {l:List StepT} (h:StepRow w v l):∃ (ad:Option Addr) (cap:Nat),v = .slice ad l.length cap∧(l.length = 0∨∃ g,ad = some ⟨g,0,none⟩):=by
 obtain ⟨_,ad,cap,rfl,⟨_,h⟩ | ⟨g,_,rfl,_⟩⟩:=ownsRow_form h
 ·exact ⟨ad,cap,rfl,.inl h⟩
 ·exact ⟨_,cap,rfl,.inr ⟨g,rfl⟩⟩
theorem StepRow.cell {w:World} {l:List StepT} {g cap:Nat} (h:StepRow w (.slice (some ⟨g,0,none⟩) l.length cap) l) (k:Nat) (hk:k < l.length):w.cell? ⟨g,k * 2,none⟩ = some (.string (bytesOf [l[k].b]))∧w.cell? ⟨g,k * 2 + 1,none⟩ = some (.int .i64 (l[k].q:Int)):=by
 obtain ⟨h1,h2⟩:=stepsC_get l k hk
 exact ⟨(ownsRow_cell h (k * 2) (by omega)).trans h1,(ownsRow_cell h (k * 2 + 1) (by omega)).trans h2⟩
def RowsOf (w:World) (ty:TypeId) (P:World→Value→Nat→Prop) (v:Value) (n:Nat):Prop:=∃ vs:List Value,w.ownsRow 0 ty 1 v n vs∧vs.length = n∧∀ i x,vs[i]? = some x→P w x i
theorem RowsOf.form {w:World} {ty:TypeId} {P:World→Value→Nat→Prop} {v:Value} {n:Nat} (h:RowsOf w ty P v n):∃ (ad:Option Addr) (cap:Nat),v = .slice ad n cap∧(n = 0∨∃ g,ad = some ⟨g,0,none⟩):=by
 obtain ⟨vs,h,_⟩:=h
 obtain ⟨_,ad,cap,rfl,⟨_,h⟩ | ⟨g,_,rfl,_⟩⟩:=ownsRow_form h
 ·exact ⟨ad,cap,rfl,.inl h⟩
 ·exact ⟨_,cap,rfl,.inr ⟨g,rfl⟩⟩
theorem RowsOf.cell {w:World} {ty:TypeId} {P:World→Value→Nat→Prop} {g cap n:Nat} (h:RowsOf w ty P (.slice (some ⟨g,0,none⟩) n cap) n) (i:Nat) (hi:i < n):∃ x,w.cell? ⟨g,i,none⟩ = some x∧P w x i:=by
 obtain ⟨vs,h1,h2,h3⟩:=h
 have h4:vs[i]? = some vs[i]:=List.getElem?_eq_getElem (by omega)
 exact ⟨vs[i],by rw [ownsRow_cell h1 i (by omega)]; exact h4,h3 i _ h4⟩
theorem RowsOf.kept {w w':World} {ty:TypeId} {P:World→Value→Nat→Prop} {v:Value} {n:Nat} {ex:Nat→Prop} (h:RowsOf w ty P v n) (k:Kept ex w w') (he:∀ b,v.ownBlock = some b→¬ ex b) (hP:∀ x i,P w x i→P w' x i):RowsOf w' ty P v n:=by
 obtain ⟨vs,h1,h2,h3⟩:=h
 exact ⟨vs,ownsRow_kept h1 k he,h2,fun i x hx=>hP x i (h3 i x hx)⟩
theorem RowsOf.below {w w':World} {ty:TypeId} {P:World→Value→Nat→Prop} {v:Value} {n:Nat} (h:RowsOf w ty P v n) (k:Below w.heap.size w w') (hP:∀ x i,P w x i→P w' x i):RowsOf w' ty P v n :=
 h.kept (ex:=fun _=>False) (Kept.ofBelow k) (fun _ _ e=>e) hP
def StepRows (w:World) (v:Value) (ll:List (List StepT)):Prop:=RowsOf w 183 (fun w x i=>StepRow w x (ll.getD i [])) v ll.length
def BoolRows (w:World) (v:Value) (ll:List (List Bool)):Prop:=RowsOf w 130 (fun w x i=>BRow w x (ll.getD i [])) v ll.length
theorem StepRows.below {w w':World} {v:Value} {ll:List (List StepT)} (h:StepRows w v ll) (k:Below w.heap.size w w'):StepRows w' v ll:=RowsOf.below h k (fun x i hx=>StepRow.below hx k)
theorem BoolRows.below {w w':World} {v:Value} {ll:List (List Bool)} (h:BoolRows w v ll) (k:Below w.heap.size w w'):BoolRows w' v ll:=RowsOf.below h k (fun x i hx=>BRow.below hx k)
structure WebT where
 token:List Bool
 steps:List (List StepT)
structure WebAt (w:World) (wb:Nat) (x:WebT):Prop where
 ex:∃ tv sv,Blk w wb #[tv,sv] 145∧BRow w tv x.token∧StepRows w sv x.steps
theorem WebAt.below {w w':World} {wb:Nat} {x:WebT} (h:WebAt w wb x) (k:Below w.heap.size w w'):WebAt w' wb x:=by
 obtain ⟨tv,sv,h1,h2,h3⟩:=h.ex
 exact ⟨tv,sv,h1.below k,h2.below k,h3.below k⟩
structure WebOk (x:WebT):Prop where
 len:x.steps.length = x.token.length
 into:∀ l ∈ x.steps,∀ s ∈ l,s.q < x.token.length∧s.b < 256
 few:∀ l ∈ x.steps,l.length ≤ 256
 states:x.token.length ≤ 100000
def intoF (l:List StepT) (marked:List Bool):Option StepT:=l.find? (fun s=>marked.getD s.q false)
def stepV (s:StepT):Value:=.agg #[.string (bytesOf [s.b]),.int .i64 (s.q:Int)]
def noStepV:Value:=.agg #[.string ⟨#[]⟩,.int .i64 0]
def intoV:Option StepT→Value
 |none=>.tuple #[noStepV,.bool false]
 |some s=>.tuple #[stepV s,.bool true]
theorem Tryz.infoStep:(Tryz.prog.info? 186).map (·.size) = some 2:=by kernel_rfl
theorem storeStep {s:StepT} {ops:Array Oper} {rest:List Oper} {o:Oper} {a:Act} {w:World} {Q:Exit→Act→World→Prop} (hgd:o.guard = none) (p q:Operand) (ho:o.op = .store 186 p q)
  (g:Nat) (hx:a.eval p = .pointer (some ⟨g,0,none⟩)) (hy:a.eval q = stepV s) {old:Array Value} (hb:Blk w g old 186) (hold:old.size = 2)
  (h:wpList Tryz.prog ops Q rest (a.put o.dst undef) (w.setRow g #[.string (bytesOf [s.b]),.int .i64 (s.q:Int)])):wpList Tryz.prog ops Q (o :: rest) a w :=
 wpList_store_row hgd 186 p q ho g _ hx hy 186 _ hb Tryz.infoStep hold (by simp [Value.oneCell']) h
theorem storeNoStep {ops:Array Oper} {rest:List Oper} {o:Oper} {a:Act} {w:World} {Q:Exit→Act→World→Prop} (hgd:o.guard = none) (p q:Operand) (ho:o.op = .store 186 p q)
  (g:Nat) (hx:a.eval p = .pointer (some ⟨g,0,none⟩)) (hy:a.eval q = noStepV) {old:Array Value} (hb:Blk w g old 186) (hold:old.size = 2)
  (h:wpList Tryz.prog ops Q rest (a.put o.dst undef) (w.setRow g #[.string ⟨#[]⟩,.int .i64 0])):wpList Tryz.prog ops Q (o :: rest) a w :=
 wpList_store_row hgd 186 p q ho g _ hx hy 186 _ hb Tryz.infoStep hold (by simp [Value.oneCell']) h
set_option maxRecDepth 20000 in
set_option maxHeartbeats 1600000 in
theorem into_any (wb:Nat) (x:WebT) (k:Nat) (mv:Value) (marked:List Bool) (w:World) (h:WebAt w wb x) (ho:WebOk x) (hk:k < x.steps.length) (hm:BRow w mv marked) (hml:marked.length = x.token.length) :
  Calls Tryz.prog 102 #[.pointer (some ⟨wb,0,none⟩),.int .i64 (k:Int),mv] w fun e w'=>e = .returned (intoV (intoF (x.steps.getD k []) marked))∧Below w.heap.size w w':=by
 obtain ⟨tv,sv,hb,ht,hs⟩:=h.ex
 obtain ⟨sd,scap,rfl,hsrow⟩:=hs.form
 rcases hsrow with h0 | ⟨sg,rfl⟩
 ·omega
 obtain ⟨rv,c1,hr⟩:=hs.cell k hk
 have c0:w.cell? ⟨wb,1,none⟩ = some (.slice (some ⟨sg,0,none⟩) x.steps.length scap):=hb.cell 1
 obtain ⟨rd,rcap,rfl,hrow⟩:=hr.form
 obtain ⟨md,mcap,rfl,hmrow⟩:=hm.form
 have hmem:x.steps.getD k [] ∈ x.steps:=by rw [List.getD_eq_getElem?_getD,List.getElem?_eq_getElem hk]; exact List.getElem_mem hk
 have hin:=ho.into _ hmem
 have hfw:=ho.few _ hmem
 have hst:=ho.states
 generalize x.steps.getD k [] = row at hr hin hfw c1 hrow
 have k0:(0:Int) ≤ (k:Int):=by omega
 have k1:(k:Int) < (x.steps.length:Int):=by omega
 have zb:=hb.lt
 have zs:sg < w.heap.size:=by obtain ⟨vs,h9,_⟩:=hs; exact ownsRow_lt h9 sg rfl
 generalize hF:intoF row marked = F
 unfold intoF at hF
 have HF:=hide hF
 have HR:=hide hr
 have HM:=hide hm
 have HIN:=hide hin
 have HML:=hide hml
 clear hb ht hs h ho hmem hF hr hm hin hml
 go_enter Tryz.func102,Tryz.ntmps102
 go_wp2_with fail
 go_loopg [18] row.length (fun G iv wr=>∃ i:Nat,iv = .int .i64 (i:Int)∧i ≤ row.length∧G = row.length - i∧(row.drop i).find? (fun s=>marked.getD s.q false) = F∧Below w.heap.size w wr∧Blk wr w.heap.size #[.string ⟨#[]⟩,.int .i64 0] 186)
 case atStart=>exact ⟨0,rfl,by omega,rfl,HF.out,Below1 _ _,Blk.new _ _ _⟩
 case round =>
  obtain ⟨i,rfl,hi,rfl,hf,hbw,hres⟩:=hrel
  clear HF
  by_cases hlt:i < row.length
  ·have e0:decide ((i:Int) < (row.length:Int)) = true:=by simp; omega
   rcases hrow with h0 | ⟨rg,rfl⟩
   ·omega
   obtain ⟨d0,d1⟩:=(HR.out.below hbw).cell i hlt
   obtain ⟨hq,hbb⟩:=HIN.out row[i] (List.getElem_mem hlt)
   rw [List.drop_eq_getElem_cons hlt,List.find?_cons] at hf
   generalize row[i] = st at d0 d1 hq hbb hf
   obtain ⟨sb,sq⟩:=st
   simp only at d0 d1 hq hbb hf
   rcases hmrow with h0 | ⟨mg,rfl⟩
   ·have:=HML.out; omega
   have m0:=(HM.out.below hbw).cellD sq (by rw [HML.out]; exact hq)
   have i0:(0:Int) ≤ (i:Int):=by omega
   have i1:(i:Int) < (row.length:Int):=by omega
   have q0:(0:Int) ≤ (sq:Int):=by omega
   have q1:(sq:Int) < (marked.length:Int):=by have:=HML.out; omega
   have zr:rg < wr.heap.size:=ownsRow_lt (HR.out.below hbw) rg rfl
   have zm:mg < wr.heap.size:=ownsRow_lt (HM.out.below hbw) mg rfl
   have zres:=hres.lt
   have HH:Hid (Below w.heap.size w wr∧Blk wr w.heap.size #[.string ⟨#[]⟩,.int .i64 0] 186):=⟨hbw,hres⟩
   clear hbw hres
   cases hmk:marked.getD sq false with
   |true =>
    rw [hmk] at m0 hf
    have hfe:F = some ⟨sb,sq⟩:=hf.symm
    subst hfe
    clear hf hmk
    go_wp2_with (first | refine storeStep (s:=⟨sb,sq⟩) rfl (.tmp 6) (.tmp 27) rfl w.heap.size rfl rfl (HH.out.2.alloc _) rfl ?_)
    exact bodyPost_ret (results_cell_tmp Tryz.results102 _ _ w.heap.size 186 #[.string (bytesOf [sb]),.int .i64 (sq:Int)] (0,0) _ rfl ((HH.out.2.alloc _).setRow _) Tryz.underlying186 rfl Tryz.infoStep) rfl ⟨rfl,Below_setRow (HH.out.1.alloc HH.out.1.size _) (Nat.le_refl _) _⟩
   |false =>
    rw [hmk] at m0 hf
    have HF:=hide hf
    clear hf hmk
    go_wp2_with fail
    go_roundg (row.length - (i + 1))
    case measure=>omega
    case rel=>exact ⟨i + 1,by go_num,by omega,rfl,HF.out,HH.out.1.alloc HH.out.1.size _,HH.out.2.alloc _⟩
  ·have e0:decide ((i:Int) < (row.length:Int)) = false:=by simp; omega
   rw [List.drop_of_length_le (by omega)] at hf
   have hfe:F = none:=hf.symm
   subst hfe
   have HH:Hid (Below w.heap.size w wr∧Blk wr w.heap.size #[.string ⟨#[]⟩,.int .i64 0] 186):=⟨hbw,hres⟩
   clear hf hbw hres
   go_wp2_with (first | refine storeNoStep rfl (.tmp 6) (.tmp 29) rfl w.heap.size rfl rfl HH.out.2 rfl ?_)
   exact bodyPost_ret (results_cell_tmp Tryz.results102 _ _ w.heap.size 186 #[.string ⟨#[]⟩,.int .i64 0] (0,0) _ rfl (HH.out.2.setRow _) Tryz.underlying186 rfl Tryz.infoStep) rfl ⟨rfl,Below_setRow HH.out.1 (Nat.le_refl _) _⟩
def stepsLoop (kd : Nat → Nat) (g : Graph) (s : Nat) : Nat → Nat → List Bool → List StepT → List StepT
  | 0, _, _, acc => acc
  | n + 1, b, seen, acc =>
    if b < 256 then
      (if nextF kd g (s : Int) (b : Int) = -1 ∨ seen.getD (nextF kd g (s : Int) (b : Int)).toNat false = true then stepsLoop kd g s n (b + 1) seen acc
       else stepsLoop kd g s n (b + 1) (seen.set (nextF kd g (s : Int) (b : Int)).toNat true) (acc ++ [⟨b, (nextF kd g (s : Int) (b : Int)).toNat⟩]))
    else acc
def stepsF (kd:Nat→Nat) (g:Graph) (s:Nat):List StepT:=stepsLoop kd g s 257 0 (List.replicate g.rule.length false) []
theorem Tryz.infoStep3:(Tryz.prog.info? 186).map (fun i=>(i.zero,i.size,i.bytes)) = some (some (.agg #[.string ⟨#[]⟩,.int .i64 0]),2,24):=by kernel_rfl
def StepsIn (kd:Nat→Nat) (g:Graph):Prop:=∀ s b,nextF kd g s b = -1∨(0 ≤ nextF kd g s b∧nextF kd g s b < (g.rule.length:Int))
set_option maxRecDepth 20000 in
set_option maxHeartbeats 1600000 in
theorem tableCount_any (pb:Nat) (kd:Nat→Nat) (g:Graph) (w:World) (h:LexAt w pb kd g) :
  Calls Tryz.prog 20 #[.pointer (some ⟨pb,0,none⟩)] w fun e w'=>e = .returned (.int .i64 (g.rule.length:Int))∧w' = w:=by
 obtain ⟨ruv,nxv,h1,h2⟩:=h
 have c0:w.cell? ⟨pb,256,none⟩ = some ruv:=by rw [h1.cell]; exact tableC_256 _ _ _
 have c1:w.cell? ⟨pb,257,none⟩ = some nxv:=by rw [h1.cell]; exact tableC_257 _ _ _
 obtain ⟨ad,cap,rfl,_⟩:=h2.rule.form
 clear h1 h2
 go_enter Tryz.func20,Tryz.ntmps20
 go_wp2_with fail
 go_ret
 exact ⟨rfl,rfl⟩
set_option maxRecDepth 20000 in
set_option maxHeartbeats 3200000 in
theorem steps_any (pb:Nat) (kd:Nat→Nat) (g:Graph) (s:Nat) (w:World) (h:LexAt w pb kd g) (ho:LexOk kd g) (hi:StepsIn kd g) (hl:g.rule.length ≤ 50000) :
  Calls Tryz.prog 101 #[.pointer (some ⟨pb,0,none⟩),.int .i64 (s:Int)] w fun e w'=>∃ v,e = .returned v∧StepRow w' v (stepsF kd g s)∧(∀ b,v.ownBlock = some b→w.heap.size ≤ b)∧Below w.heap.size w w':=by
 have HN:=hide (fun (W:World) (hb:Below w.heap.size w W) (b:Int)=>tableNext_any pb kd g (s:Int) b W (h.below hb) ho)
 have HCO:=hide (fun (W:World) (hb:Below w.heap.size w W)=>tableCount_any pb kd g W (h.below hb))
 have HI:=hide hi
 generalize hX:stepsF kd g s = X
 unfold stepsF at hX
 have HX:=hide hX
 have hmk:=makeBools g.rule.length (by omega)
 clear h ho hX hi
 go_enter Tryz.func101,Tryz.ntmps101
 go_wp2_with fail
 refine (HCO.out _ (Below1 _ _)).mono ?_
 rintro e w1 ⟨rfl,rfl⟩
 go_wp2_with fail
 go_loopg [5,7] 257 (fun G sv bv wr=>∃ (b:Nat) (seen:List Bool) (acc:List StepT),bv = .int .i64 (b:Int)∧b ≤ 256∧G = 257 - b∧seen.length = g.rule.length∧acc.length ≤ b∧stepsLoop kd g s G b seen acc = X∧Below w.heap.size w wr∧Blk wr (w.heap.size + 1) (boolsA seen) 4∧StepRow wr sv acc∧(∀ b,sv.ownBlock = some b→w.heap.size ≤ b∧b ≠ w.heap.size + 1))
 case atStart =>
  refine ⟨0,List.replicate g.rule.length false,[],rfl,by omega,rfl,by simp,by simp,HX.out,Below2 _ _ _,Blk.at1 _ _ _ _,?_,?_⟩
  ·exact ownsRow_mk (cur:=#[]) (by rfl) ((Blk.new w #[] 186).alloc _) (Nat.le_refl _) (by unfold maxLen; omega) rfl (by rfl)
  ·intro b e
   cases (Option.some.inj e:w.heap.size = b)
   omega
 case round =>
  obtain ⟨b,seen,acc,rfl,hb,rfl,hsl,hal,hX,hbw,hS,hA,hO⟩:=hrel
  clear HX
  obtain ⟨ad,acap,rfl,harow⟩:=hA.form
  by_cases hlt:b < 256
  ·have e0:decide ((b:Int) < 256) = true:=by simp; omega
   rw [show 257 - b = (257 - (b + 1)) + 1 by omega] at hX
   unfold stepsLoop at hX
   rw [if_pos hlt] at hX
   have HH:Hid (Below w.heap.size w wr∧Blk wr (w.heap.size + 1) (boolsA seen) 4∧StepRow wr (.slice ad acc.length acap) acc∧(∀ b,(Value.slice ad acc.length acap).ownBlock = some b→w.heap.size ≤ b∧b ≠ w.heap.size + 1)):=⟨hbw,hS,hA,hO⟩
   have HSL:=hide hsl
   clear hbw hS hA hO hsl
   go_wp2_with fail
   refine (HN.out wr HH.out.1 (b:Int)).mono ?_
   rintro e w1 ⟨rfl,hb1⟩
   have hin:=HI.out (s:Int) (b:Int)
   generalize nextF kd g (s:Int) (b:Int) = q at hX hin
   have HH1:Hid (Below w.heap.size w w1∧Blk w1 (w.heap.size + 1) (boolsA seen) 4∧StepRow w1 (.slice ad acc.length acap) acc∧(∀ b,(Value.slice ad acc.length acap).ownBlock = some b→w.heap.size ≤ b∧b ≠ w.heap.size + 1)) :=
    ⟨HH.out.1.trans (hb1.mono HH.out.1.size),HH.out.2.1.below hb1,HH.out.2.2.1.below hb1,HH.out.2.2.2⟩
   clear hb1 HH
   by_cases hq:q = -1
   ·rw [if_pos (.inl hq)] at hX
    have e1:(q != -1) = false:=by simp [hq]
    have HX:=hide hX
    clear hX hin hq
    go_wp2_with fail
    go_roundg (257 - (b + 1))
    case measure=>omega
    case rel=>exact ⟨b + 1,seen,acc,by go_num,by omega,rfl,HSL.out,by omega,HX.out,HH1.out.1,HH1.out.2.1,HH1.out.2.2.1,HH1.out.2.2.2⟩
   ·have e1:(q != -1) = true:=by simp [hq]
    obtain ⟨j,rfl⟩:∃ j:Nat,q = (j:Int):=⟨q.toNat,by omega⟩
    have hj:j < g.rule.length:=by omega
    have c0:=boolsA_cellD HH1.out.2.1 j (by rw [HSL.out]; exact hj)
    have f0:=HH1.out.2.1.frozen j
    have j0:(0:Int) ≤ (j:Int):=by omega
    have j1:(j:Int) < (g.rule.length:Int):=by omega
    have zs:=HH1.out.2.1.lt
    rw [Int.toNat_natCast] at hX
    clear hin
    cases hsn:seen.getD j false with
    |true =>
     rw [hsn] at c0 hX
     rw [if_pos (.inr rfl)] at hX
     have HX:=hide hX
     clear hX hsn hq
     go_wp2_with fail
     go_roundg (257 - (b + 1))
     case measure=>omega
     case rel=>exact ⟨b + 1,seen,acc,by go_num,by omega,rfl,HSL.out,by omega,HX.out,HH1.out.1,HH1.out.2.1,HH1.out.2.2.1,HH1.out.2.2.2⟩
    |false =>
     rw [hsn] at c0 hX
     rw [if_neg (by simp [hq])] at hX
     have HX:=hide hX
     clear hX hsn hq
     obtain ⟨w2,hw2⟩:∃ w2:World,w1.setCell ⟨w.heap.size + 1,j,none⟩ (.bool true) = w2:=⟨_,rfl⟩
     have hk2:Kept (fun x=>x = w.heap.size + 1) w1 w2:=by rw [← hw2]; exact Kept.setCell (ex:=fun x=>x = w.heap.size + 1) (p:=⟨w.heap.size + 1,j,none⟩) (Kept.refl _ _) (fun _=>rfl) _
     have HH2:Hid (Below w.heap.size w w2∧Blk w2 (w.heap.size + 1) (boolsA (seen.set j true)) 4∧StepRow w2 (.slice ad acc.length acap) acc∧(∀ b,(Value.slice ad acc.length acap).ownBlock = some b→w.heap.size ≤ b∧b ≠ w.heap.size + 1)):=by
      refine ⟨?_,?_,HH1.out.2.2.1.kept hk2 (fun b hb e=>(HH1.out.2.2.2 b hb).2 e),HH1.out.2.2.2⟩
      ·rw [← hw2]; exact HH1.out.1.setCell (p:=⟨w.heap.size + 1,j,none⟩) (by simp) _
      ·rw [← hw2,← boolsA_set]; exact HH1.out.2.1.set j _
     have hcv:=conv1 b (by omega) w2
     obtain ⟨ii,hii,hz0,hz1,hz2⟩:=info_parts Tryz.infoStep3
     have hol:StepRow ((w2.alloc (.cells #[.int .u8 (b:Int)] 5)).alloc (.cells #[.string (bytesOf [b]),.int .i64 (j:Int)] 186)) (.slice ad acc.length acap) acc:=HH2.out.2.2.1.below (Below2 _ _ _)
     have HOL:=hide hol
     have zz:=HH2.out.1.size
     have zz2:=HH2.out.2.1.lt
     have hu8:IntKind.u8.wrap (b:Int) = (b:Int):=by simp [IntKind.wrap,IntKind.bits,IntKind.signed]; omega
     clear hol hk2
     go_upto_region 9 with fail
     try rw [hw2]
     clear hw2 HH1 c0 f0 zs
     go_wp2_with (at_builtin; (refine wpList_append_lies _ (by rfl) _ _ _ (by rfl) 0 186 ii _ 2 24 Tryz.underlying183 hii hz0 hz1 hz2 rfl (by omega) (.slice ad acc.length acap) acc.length (stepsC acc) (by rfl) HOL.out ⟨w2.heap.size + 1,0,none⟩ 1 1 [.string (bytesOf [b]),.int .i64 (j:Int)] (by rfl) (by rfl) (World.news_of_block (cs:=#[.string (bytesOf [b]),.int .i64 (j:Int)]) (t:=186) (fr:=(0,0)) (by have:=heap_alloc_new (w2.alloc (.cells #[.int .u8 (b:Int)] 5)) (.cells #[.string (bytesOf [b]),.int .i64 (j:Int)] 186); simpa using this)) (by simp [Value.oneCell']) (by omega) (by unfold maxLen; omega) (by omega) (by simp) (w2.heap.size + 1 + 1) (by simp) ?_))
     intro gg cap6 w6 hown6 hgrow6 hat6 hlt6
     have hk6:Kept (fun x=>(Value.slice ad acc.length acap).ownBlock = some x) ((w2.alloc (.cells #[.int .u8 (b:Int)] 5)).alloc (.cells #[.string (bytesOf [b]),.int .i64 (j:Int)] 186)) w6:=⟨hgrow6.os,hgrow6.tape,hgrow6.output,hgrow6.size,fun k hk he=>hgrow6.block k hk (fun e=>he e.symm)⟩
     have HH6:Hid (Below w.heap.size w w6∧Blk w6 (w.heap.size + 1) (boolsA (seen.set j true)) 4∧StepRow w6 (.slice (some ⟨gg,0,none⟩) (acc.length + 1) cap6) (acc ++ [⟨b,j⟩])∧(w.heap.size ≤ gg∧gg ≠ w.heap.size + 1)):=by
      obtain ⟨h1,h2,h3,h4⟩:=HH2.out
      refine ⟨?_,((h2.alloc _).alloc _).kept hk6 (fun e=>(h4 _ e).2 rfl),?_,?_⟩
      ·have k1:Below w.heap.size w ((w2.alloc (.cells #[.int .u8 (b:Int)] 5)).alloc (.cells #[.string (bytesOf [b]),.int .i64 (j:Int)] 186)):=(h1.alloc h1.size _).alloc (by simp; omega) _
       exact k1.trans ⟨hk6.os,hk6.tape,hk6.output,hk6.size,fun x hx=>hk6.block x (by simp; omega) (fun e=>by have:=(h4 x e).1; omega)⟩
      ·unfold StepRow
       rw [stepsC_append,List.length_append]
       exact hown6
      ·rcases hat6 with e | e
       ·exact h4 gg e
       ·omega
     clear hk6 hown6 hgrow6 hat6 hlt6 HOL HH2 hcv hu8
     go_wp2_with fail
     go_roundg (257 - (b + 1))
     case measure=>omega
     case rel =>
      refine ⟨b + 1,seen.set j true,acc ++ [⟨b,j⟩],by go_num,by omega,rfl,by simp [HSL.out],by simp; omega,HX.out,HH6.out.1,HH6.out.2.1,?_,?_⟩
      ·have:=HH6.out.2.2.1
       simpa using this
      ·intro x e
       cases (Option.some.inj e:gg = x)
       exact HH6.out.2.2.2
  ·have e0:decide ((b:Int) < 256) = false:=by simp; omega
   have hx:acc = X:=by
    rw [show 257 - b = 0 + 1 by omega] at hX
    unfold stepsLoop at hX
    rw [if_neg hlt] at hX
    exact hX
   subst hx
   have HH:Hid (StepRow wr (.slice ad acc.length acap) acc∧(∀ b,(Value.slice ad acc.length acap).ownBlock = some b→w.heap.size ≤ b∧b ≠ w.heap.size + 1)∧Below w.heap.size w wr):=⟨hA,hO,hbw⟩
   clear hA hO hbw hX hS
   go_wp2_with fail
   go_ret
   exact ⟨_,rfl,HH.out.1,fun b hb=>(HH.out.2.1 b hb).1,HH.out.2.2⟩
def tokenF (g:Graph) (n:Nat):List Bool:=(List.range n).map (fun (s:Nat)=>decide (ruleOfF g (s:Int) ≠ -1))
def stepsTo (kd:Nat→Nat) (g:Graph) (n:Nat):List (List StepT):=(List.range n).map (fun (s:Nat)=>stepsF kd g s)
def weaveF (kd:Nat→Nat) (g:Graph):WebT:=⟨tokenF g g.rule.length,stepsTo kd g g.rule.length⟩
theorem stepsTo_succ (kd:Nat→Nat) (g:Graph) (n:Nat):stepsTo kd g (n + 1) = stepsTo kd g n ++ [stepsF kd g n]:=by simp [stepsTo,List.range_succ]
theorem tokenF_len (g:Graph) (n:Nat):(tokenF g n).length = n:=by simp [tokenF]
theorem stepsTo_len (kd:Nat→Nat) (g:Graph) (n:Nat):(stepsTo kd g n).length = n:=by simp [stepsTo]
theorem own_blkW {w:World} {e:TypeId} {size n:Nat} {v:Value} {xs:List Value} {b:Nat} (h:w.ownsRow 0 e size v n xs) (hb:v.ownBlock = some b):∃ cur,Blk w b cur e:=by
 obtain ⟨_,ad,cap,rfl,⟨rfl,_⟩ | ⟨g,cur,rfl,h2,_⟩⟩:=ownsRow_form h
 ·simp [Value.ownBlock] at hb
 ·cases (Option.some.inj hb:g = b); exact ⟨cur,h2⟩
theorem own_ne {w:World} {e e':TypeId} {size size' n n':Nat} {v v':Value} {xs xs':List Value} (h:w.ownsRow 0 e size v n xs) (h':w.ownsRow 0 e' size' v' n' xs') (hne:e ≠ e'):∀ b,v.ownBlock = some b→¬ v'.ownBlock = some b:=fun b hb hb'=>by
 obtain ⟨cur,hB⟩:=own_blkW h hb
 exact ownsRow_ne h' hB hne hb'
theorem Tryz.infoBool3:(Tryz.prog.info? 4).map (fun i=>(i.zero,i.size,i.bytes)) = some (some (.bool false),1,1):=by kernel_rfl
theorem Tryz.infoSteps3:(Tryz.prog.info? 183).map (fun i=>(i.zero,i.size,i.bytes)) = some (some (.slice none 0 0),1,24):=by kernel_rfl
theorem tokenF_succ (g:Graph) (n:Nat):tokenF g (n + 1) = tokenF g n ++ [decide (ruleOfF g (n:Int) ≠ -1)]:=by simp [tokenF,List.range_succ]
set_option maxRecDepth 20000 in
set_option maxHeartbeats 3200000 in
theorem weave_any (pb:Nat) (kd:Nat→Nat) (g:Graph) (w:World) (h:LexAt w pb kd g) (ho:LexOk kd g) (hi:StepsIn kd g) (hl:g.rule.length ≤ 50000) :
  Calls Tryz.prog 58 #[.pointer (some ⟨pb,0,none⟩)] w fun e w'=>∃ wb,e = .returned (.pointer (some ⟨wb,0,none⟩))∧WebAt w' wb (weaveF kd g)∧Below w.heap.size w w':=by
 have HR:=hide (fun (W:World) (hb:Below w.heap.size w W) (st:Int)=>tableRule_any pb kd g st W (h.below hb))
 have HCO:=hide (fun (W:World) (hb:Below w.heap.size w W)=>tableCount_any pb kd g W (h.below hb))
 have HST:=hide (fun (W:World) (hb:Below w.heap.size w W) (s:Nat)=>steps_any pb kd g s W (h.below hb) ho hi hl)
 clear h ho hi
 go_enter Tryz.func58,Tryz.ntmps58
 go_wp2_with fail
 go_loopg [4] g.rule.length (fun G iv wr=>∃ (i:Nat) (tv sv:Value),iv = .int .i64 (i:Int)∧i ≤ g.rule.length∧G = g.rule.length - i∧Below w.heap.size w wr∧Blk wr w.heap.size #[tv,sv] 145∧BRow wr tv (tokenF g i)∧StepRows wr sv (stepsTo kd g i)∧(∀ b,tv.ownBlock = some b→w.heap.size < b)∧(∀ b,sv.ownBlock = some b→w.heap.size < b))
 case atStart=>exact ⟨0,.slice none 0 0,.slice none 0 0,rfl,by omega,rfl,Below1 _ _,Blk.new _ _ _,World.ownsRow_nil _ _ _ _,⟨[],World.ownsRow_nil _ _ _ _,rfl,fun i x hx=>by simp at hx⟩,fun b h=>by simp [Value.ownBlock] at h,fun b h=>by simp [Value.ownBlock] at h⟩
 case round =>
  obtain ⟨i,tv,sv,rfl,hi,rfl,hbw,hB,hT,hS,hO1,hO2⟩:=hrel
  by_cases hlt:i < g.rule.length
  ·have e0:decide ((i:Int) < (g.rule.length:Int)) = true:=by simp; omega
   obtain ⟨td,tcap,rfl,_⟩:=hT.form
   obtain ⟨sd,scap,rfl,_⟩:=hS.form
   rw [tokenF_len] at hB hT hO1
   rw [stepsTo_len] at hB hS hO2
   have HH:Hid (Below w.heap.size w wr∧Blk wr w.heap.size #[.slice td i tcap,.slice sd i scap] 145∧BRow wr (.slice td i tcap) (tokenF g i)∧StepRows wr (.slice sd i scap) (stepsTo kd g i)∧(∀ b,(Value.slice td i tcap).ownBlock = some b→w.heap.size < b)∧(∀ b,(Value.slice sd i scap).ownBlock = some b→w.heap.size < b)):=⟨hbw,hB,hT,hS,hO1,hO2⟩
   clear hbw hB hT hS hO1 hO2
   go_wp2_with fail
   refine (HCO.out wr HH.out.1).mono ?_
   rintro e w0 ⟨rfl,rfl⟩
   go_wp2_with fail
   refine (HR.out w0 HH.out.1 (i:Int)).mono ?_
   rintro e w1 ⟨rfl,rfl⟩
   have htk:=tokenF_succ g i
   have hdec:(ruleOfF g (i:Int) != -1) = decide (ruleOfF g (i:Int) ≠ -1):=by
    by_cases e:ruleOfF g (i:Int) = -1
    ·simp [e]
    ·simp [e,bne]
   generalize ruleOfF g (i:Int) = r at htk hdec
   generalize hbr:decide (r ≠ -1) = br at htk hdec
   have HTK:=hide htk
   obtain ⟨ii,hii,hz0,hz1,hz2⟩:=info_parts Tryz.infoBool3
   have hol:(w1.alloc (.cells #[.bool br] 4)).ownsRow 0 4 1 (.slice td i tcap) i ((tokenF g i).map Value.bool):=by
    have h9:=HH.out.2.2.1.below (Below1 w1 (.cells #[.bool br] 4))
    unfold BRow at h9
    rw [tokenF_len] at h9
    exact h9
   have HOL:=hide hol
   have c0:=HH.out.2.1.cell 0
   have f0:=HH.out.2.1.frozen 0
   have zb:=HH.out.2.1.lt
   clear hol htk hbr
   go_wp2_with (at_builtin; (refine wpList_append_lies _ (by rfl) _ _ _ (by rfl) 0 4 ii _ 1 1 Tryz.underlying130 hii hz0 hz1 hz2 rfl (by omega) (.slice td i tcap) i ((tokenF g i).map Value.bool) (by rfl) HOL.out ⟨w1.heap.size,0,none⟩ 1 1 [.bool br] (by rfl) (by rfl) (World.news_of_block (cs:=#[.bool br]) (t:=4) (fr:=(0,0)) (by have:=heap_alloc_new w1 (.cells #[.bool br] 4); simpa using this)) (by simp [Value.oneCell']) (by omega) (by unfold maxLen; omega) (by omega) (by simp) (w1.heap.size + 1) (by simp) ?_))
   intro gg cap6 w6 hown6 hgrow6 hat6 hlt6
   obtain ⟨w7,hw7⟩:∃ w7:World,w6.setCell ⟨w.heap.size,0,none⟩ (.slice (some ⟨gg,0,none⟩) (i + 1) cap6) = w7:=⟨_,rfl⟩
   obtain ⟨h1,h2,h3,h4,h5,h6⟩:=HH.out
   have hk6:Kept (fun x=>(Value.slice td i tcap).ownBlock = some x) (w1.alloc (.cells #[.bool br] 4)) w6:=⟨hgrow6.os,hgrow6.tape,hgrow6.output,hgrow6.size,fun k hk he=>hgrow6.block k hk (fun e=>he e.symm)⟩
   have hB6:Blk w6 w.heap.size #[.slice td i tcap,.slice sd i scap] 145:=(h2.alloc _).kept hk6 (fun e=>by have:=h5 _ e; omega)
   have hS6:StepRows w6 (.slice sd i scap) (stepsTo kd g i):=by
    have h9:=h4.below (Below1 w1 (.cells #[.bool br] 4))
    obtain ⟨vs,g1,g2,g3⟩:=h9
    exact ⟨vs,ownsRow_kept g1 hk6 (own_ne g1 HOL.out (by decide)),g2,fun k x hx=>(g3 k x hx).kept hk6 (own_ne (g3 k x hx) HOL.out (by decide))⟩
   have hT6:BRow w6 (.slice (some ⟨gg,0,none⟩) (i + 1) cap6) (tokenF g (i + 1)):=by
    unfold BRow
    rw [HTK.out,List.map_append,List.length_append,tokenF_len]
    exact hown6
   have hgg:w.heap.size < gg:=by
    rcases hat6 with e | e
    ·exact h5 gg e
    ·omega
   have hb6:Below w.heap.size w w6:=by
    have k1:Below w.heap.size w (w1.alloc (.cells #[.bool br] 4)):=h1.alloc h1.size _
    exact k1.trans ⟨hk6.os,hk6.tape,hk6.output,hk6.size,fun x hx=>hk6.block x (by have:=k1.size; omega) (fun e=>by have:=h5 x e; omega)⟩
   have ks:Kept (fun x=>x = w.heap.size) w6 w7:=by rw [← hw7]; exact Kept.setCell (ex:=fun x=>x = w.heap.size) (p:=⟨w.heap.size,0,none⟩) (Kept.refl _ _) (fun _=>rfl) _
   have HH7:Hid (Below w.heap.size w w7∧Blk w7 w.heap.size #[.slice (some ⟨gg,0,none⟩) (i + 1) cap6,.slice sd i scap] 145∧BRow w7 (.slice (some ⟨gg,0,none⟩) (i + 1) cap6) (tokenF g (i + 1))∧StepRows w7 (.slice sd i scap) (stepsTo kd g i)∧w.heap.size < gg∧(∀ b,(Value.slice sd i scap).ownBlock = some b→w.heap.size < b)):=by
    refine ⟨by rw [← hw7]; exact hb6.setCell (p:=⟨w.heap.size,0,none⟩) (Nat.le_refl _) _,by rw [← hw7]; exact hB6.set 0 _,hT6.kept ks (fun b hb e=>by cases (Option.some.inj hb:gg = b); omega),?_,hgg,h6⟩
    obtain ⟨vs,g1,g2,g3⟩:=hS6
    refine ⟨vs,ownsRow_kept g1 ks (fun b hb e=>by have:=h6 b hb; omega),g2,fun k x hx=>(g3 k x hx).kept ks (fun b hb e=>?_)⟩
    subst e
    obtain ⟨cur,hcur⟩:=own_blkW (g3 k x hx) hb
    have:=(hcur.one hB6).2
    revert this
    decide
   have c6:=hB6.cell 0
   have f6:=hB6.frozen 0
   have z6:=hB6.lt
   clear h1 h2 h3 h4 h5 h6 hk6 hB6 hS6 hT6 hgg hb6 ks hown6 hgrow6 hat6 hlt6 HOL HH c0 f0
   go_upto_region 7 with fail
   try rw [hw7]
   clear hw7 c6 f6
   go_wp2_with fail
   refine (HST.out w7 HH7.out.1 i).mono ?_
   rintro e w8 ⟨nv,rfl,hSR,hvo,hb8⟩
   obtain ⟨nd,ncap,rfl,_⟩:=hSR.form
   have HH8:Hid (Below w.heap.size w w8∧Blk w8 w.heap.size #[.slice (some ⟨gg,0,none⟩) (i + 1) cap6,.slice sd i scap] 145∧BRow w8 (.slice (some ⟨gg,0,none⟩) (i + 1) cap6) (tokenF g (i + 1))∧StepRows w8 (.slice sd i scap) (stepsTo kd g i)∧w.heap.size < gg∧(∀ b,(Value.slice sd i scap).ownBlock = some b→w.heap.size < b)∧StepRow w8 (.slice nd (stepsF kd g i).length ncap) (stepsF kd g i)) :=
    ⟨HH7.out.1.trans (hb8.mono HH7.out.1.size),HH7.out.2.1.below hb8,HH7.out.2.2.1.below hb8,HH7.out.2.2.2.1.below hb8,HH7.out.2.2.2.2.1,HH7.out.2.2.2.2.2,hSR⟩
   clear hSR hvo hb8 HH7
   obtain ⟨vs,g1,g2,g3⟩:=HH8.out.2.2.2.1
   obtain ⟨ij,hij,hy0,hy1,hy2⟩:=info_parts Tryz.infoSteps3
   have hol:(w8.alloc (.cells #[.slice nd (stepsF kd g i).length ncap] 183)).ownsRow 0 183 1 (.slice sd i scap) i vs:=by
    have h9:=ownsRow_kept (ex:=fun _=>False) g1 (Kept.ofBelow (Below1 w8 (.cells #[.slice nd (stepsF kd g i).length ncap] 183))) (fun _ _ e=>e)
    rw [stepsTo_len] at h9
    exact h9
   have HOL:=hide hol
   have HVS:Hid (vs.length = i∧∀ k x,vs[k]? = some x→StepRow w8 x ((stepsTo kd g i).getD k [])):=⟨by rw [stepsTo_len] at g2; exact g2,g3⟩
   have c1:=HH8.out.2.1.cell 1
   have f1:=HH8.out.2.1.frozen 1
   have z8:=HH8.out.2.1.lt
   clear hol g1 g2 g3
   go_wp2_with (at_builtin; (refine wpList_append_lies _ (by rfl) _ _ _ (by rfl) 0 183 ij _ 1 24 Tryz.underlying143 hij hy0 hy1 hy2 rfl (by omega) (.slice sd i scap) i vs (by rfl) HOL.out ⟨w8.heap.size,0,none⟩ 1 1 [.slice nd (stepsF kd g i).length ncap] (by rfl) (by rfl) (World.news_of_block (cs:=#[.slice nd (stepsF kd g i).length ncap]) (t:=183) (fr:=(0,0)) (by have:=heap_alloc_new w8 (.cells #[.slice nd (stepsF kd g i).length ncap] 183); simpa using this)) (by simp [Value.oneCell']) (by omega) (by unfold maxLen; omega) (by omega) (by simp) (w8.heap.size + 1) (by simp) ?_))
   intro gs cap9 w9 hown9 hgrow9 hat9 hlt9
   obtain ⟨h1,h2,h3,h4,h5,h6,h7⟩:=HH8.out
   have hk9:Kept (fun x=>(Value.slice sd i scap).ownBlock = some x) (w8.alloc (.cells #[.slice nd (stepsF kd g i).length ncap] 183)) w9:=⟨hgrow9.os,hgrow9.tape,hgrow9.output,hgrow9.size,fun k hk he=>hgrow9.block k hk (fun e=>he e.symm)⟩
   have hB9:Blk w9 w.heap.size #[.slice (some ⟨gg,0,none⟩) (i + 1) cap6,.slice sd i scap] 145:=(h2.alloc _).kept hk9 (fun e=>by have:=h6 _ e; omega)
   have hT9:BRow w9 (.slice (some ⟨gg,0,none⟩) (i + 1) cap6) (tokenF g (i + 1)):=(h3.below (Below1 _ _)).kept hk9 (own_ne (h3.below (Below1 _ _)) HOL.out (by decide))
   have hS9:StepRows w9 (.slice (some ⟨gs,0,none⟩) (i + 1) cap9) (stepsTo kd g (i + 1)):=by
    refine ⟨vs ++ [.slice nd (stepsF kd g i).length ncap],by rw [stepsTo_len]; exact hown9,by rw [stepsTo_len]; simp [HVS.out.1],fun k x hx=>?_⟩
    rw [stepsTo_succ]
    by_cases e:k < i
    ·rw [List.getElem?_append_left (by rw [HVS.out.1]; exact e)] at hx
     have e9:(stepsTo kd g i ++ [stepsF kd g i]).getD k [] = (stepsTo kd g i).getD k []:=by rw [List.getD_eq_getElem?_getD,List.getElem?_append_left (by rw [stepsTo_len]; exact e),← List.getD_eq_getElem?_getD]
     rw [e9]
     have h8:=(HVS.out.2 k x hx).below (Below1 w8 (.cells #[.slice nd (stepsF kd g i).length ncap] 183))
     exact h8.kept hk9 (own_ne h8 HOL.out (by decide))
    ·rw [List.getElem?_append_right (by rw [HVS.out.1]; omega),HVS.out.1] at hx
     have hki:k = i:=by
      rcases Nat.lt_or_ge (k - i) 1 with e2 | e2
      ·omega
      ·rw [List.getElem?_eq_none (by simpa using e2)] at hx; cases hx
     subst hki
     simp only [Nat.sub_self,List.getElem?_cons_zero,Option.some.injEq] at hx
     subst hx
     have e9:(stepsTo kd g k ++ [stepsF kd g k]).getD k [] = stepsF kd g k:=by rw [List.getD_eq_getElem?_getD,List.getElem?_append_right (by rw [stepsTo_len]; omega),stepsTo_len]; simp
     rw [e9]
     have h8:=h7.below (Below1 w8 (.cells #[.slice nd (stepsF kd g k).length ncap] 183))
     exact h8.kept hk9 (own_ne h8 HOL.out (by decide))
   have hgs:w.heap.size < gs:=by
    rcases hat9 with e | e
    ·exact h6 gs e
    ·omega
   have hb9:Below w.heap.size w w9:=by
    have k1:Below w.heap.size w (w8.alloc (.cells #[.slice nd (stepsF kd g i).length ncap] 183)):=h1.alloc h1.size _
    exact k1.trans ⟨hk9.os,hk9.tape,hk9.output,hk9.size,fun x hx=>hk9.block x (by have:=k1.size; omega) (fun e=>by have:=h6 x e; omega)⟩
   have HH9:Hid (Below w.heap.size w w9∧Blk w9 w.heap.size #[.slice (some ⟨gg,0,none⟩) (i + 1) cap6,.slice sd i scap] 145∧BRow w9 (.slice (some ⟨gg,0,none⟩) (i + 1) cap6) (tokenF g (i + 1))∧StepRows w9 (.slice (some ⟨gs,0,none⟩) (i + 1) cap9) (stepsTo kd g (i + 1))∧w.heap.size < gg∧w.heap.size < gs):=⟨hb9,hB9,hT9,hS9,h5,hgs⟩
   have c9:=hB9.cell 1
   have f9:=hB9.frozen 1
   have z9:=hB9.lt
   clear h1 h2 h3 h4 h5 h6 h7 hk9 hB9 hT9 hS9 hgs hb9 hown9 hgrow9 hat9 hlt9 HOL HH8 c1 f1 HVS
   go_wp2_with fail
   go_roundg (g.rule.length - (i + 1))
   case measure=>omega
   case rel =>
    obtain ⟨h1,h2,h3,h4,h5,h6⟩:=HH9.out
    have ks:Kept (fun x=>x = w.heap.size) w9 (w9.setCell ⟨w.heap.size,1,none⟩ (.slice (some ⟨gs,0,none⟩) (i + 1) cap9)):=Kept.setCell (ex:=fun x=>x = w.heap.size) (p:=⟨w.heap.size,1,none⟩) (Kept.refl _ _) (fun _=>rfl) _
    refine ⟨i + 1,.slice (some ⟨gg,0,none⟩) (i + 1) cap6,.slice (some ⟨gs,0,none⟩) (i + 1) cap9,by go_num,by omega,rfl,h1.setCell (p:=⟨w.heap.size,1,none⟩) (Nat.le_refl _) _,h2.set 1 _,h3.kept ks (fun b hb e=>by cases (Option.some.inj hb:gg = b); omega),?_,fun b hb=>by cases (Option.some.inj hb:gg = b); exact h5,fun b hb=>by cases (Option.some.inj hb:gs = b); exact h6⟩
    obtain ⟨vs',g1,g2,g3⟩:=h4
    refine ⟨vs',ownsRow_kept g1 ks (fun b hb e=>by cases (Option.some.inj hb:gs = b); omega),g2,fun k x hx=>(g3 k x hx).kept ks (fun b hb e=>?_)⟩
    subst e
    obtain ⟨cur,hcur⟩:=own_blkW (g3 k x hx) hb
    have:=(hcur.one h2).2
    revert this
    decide
  ·have e0:decide ((i:Int) < (g.rule.length:Int)) = false:=by simp; omega
   obtain rfl:i = g.rule.length:=by omega
   have HH:Hid (Below w.heap.size w wr∧Blk wr w.heap.size #[tv,sv] 145∧BRow wr tv (tokenF g g.rule.length)∧StepRows wr sv (stepsTo kd g g.rule.length)):=⟨hbw,hB,hT,hS⟩
   clear hbw hB hT hS hO1 hO2
   go_wp2_with fail
   refine (HCO.out wr HH.out.1).mono ?_
   rintro e w0 ⟨rfl,rfl⟩
   go_wp2_with fail
   go_ret
   exact ⟨w.heap.size,rfl,⟨tv,sv,HH.out.2.1,HH.out.2.2.1,HH.out.2.2.2⟩,HH.out.1⟩
end Go.Proofs.YtcckhngbdoiikaaGreat
