import Derived.Test.YtcckhngbdoiikaaGreatG44
import Derived.BigQuiet
import Derived.BigRegion
import Derived.IntWalk
import Derived.Deep.DeepCutAuto
import Derived.Deep.QuietTactic

namespace Go.Proofs.YtcckhngbdoiikaaGreat
open Go.RowKit Go.Deep
set_option linter.unusedVariables false
def strsA (l:List ByteArray):Array Value:=(l.map Value.string).toArray
theorem Tryz.infoStr3:(Tryz.prog.info? 9).map (fun i=>(i.zero,i.size,i.bytes)) = some (some (.string ⟨#[]⟩),1,16):=by kernel_rfl
def noStr:ByteArray:=⟨#[]⟩
theorem strsA_made (n:Nat):madeCells #[.string ⟨#[]⟩] n = strsA (List.replicate n noStr):=by
 apply Array.toList_inj.1
 rw [toList_madeCells_one]
 simp [strsA,noStr]
theorem makeStrs (n:Nat) (hn:n ≤ 100000) (w:World):(Instr.makeSlice 76 (.int .i64 (n:Int)) (.int .i64 (n:Int))).run Tryz.prog w = .ok (.slice (some ⟨w.heap.size,0,none⟩) n n) (w.alloc (.cells (strsA (List.replicate n noStr)) 9)):=by
 rw [run_make_row' (P:=Tryz.prog) 76 9 (.string ⟨#[]⟩) 16 Tryz.underlying76 Tryz.infoStr3 rfl .i64 .i64 n (by omega) (by omega) w,strsA_made]
theorem strsA_set (l:List ByteArray) (i:Nat) (x:ByteArray):(strsA l).setIfInBounds i (.string x) = strsA (l.set i x):=by
 apply Array.toList_inj.1
 simp [strsA,List.map_set]
theorem strsA_cell {w:World} {b:Nat} {l:List ByteArray} (h:Blk w b (strsA l) 9) (i:Nat) (hi:i < l.length):w.cell? ⟨b,i,none⟩ = some (.string (l.getD i noStr)):=by
 rw [h.cell]
 simp [strsA,hi]
structure ApprT where
 token:List ByteArray
 rest:List ByteArray
 found:List Bool
def apprStep (x:WebT) (state:Nat) (a:ApprT) (s:StepT):ApprT :=
 if a.found.getD s.q false = true then a
 else if x.token.getD s.q false = true then
  ⟨a.token.set s.q (a.token.getD state noStr ++ (a.rest.getD state noStr ++ bytesOf [s.b])),a.rest.set s.q noStr,a.found.set s.q true⟩
 else ⟨a.token.set s.q (a.token.getD state noStr),a.rest.set s.q (a.rest.getD state noStr ++ bytesOf [s.b]),a.found.set s.q true⟩
def apprRow (x:WebT) (state:Nat) (a:ApprT):ApprT:=(x.steps.getD state []).foldl (apprStep x state) a
def appr0 (n:Nat):ApprT:=⟨List.replicate n noStr,List.replicate n noStr,(List.replicate n false).set 0 true⟩
def apprTo (x:WebT):Nat→ApprT
 | 0=>appr0 x.token.length
 |k + 1=>apprRow x k (apprTo x k)
def approachF (x:WebT) (wanted:Nat):ByteArray × ByteArray:=((apprTo x x.steps.length).token.getD wanted noStr,(apprTo x x.steps.length).rest.getD wanted noStr)
structure ApprOk (n c:Nat) (a:ApprT):Prop where
 tl:a.token.length = n
 rl:a.rest.length = n
 fl:a.found.length = n
 sz:∀ i,(a.token.getD i noStr).size + (a.rest.getD i noStr).size ≤ c
theorem getD_setS (l:List ByteArray) (k i:Nat) (x:ByteArray):(l.set k x).getD i noStr = if k = i∧k < l.length then x else l.getD i noStr:=by
 rw [List.getD_eq_getElem?_getD,List.getElem?_set]
 by_cases h:k = i
 ·subst h
  by_cases h2:k < l.length
  ·simp [h2]
  ·simp [h2]
 ·simp [h]
theorem apprStep_ok {n c:Nat} {a:ApprT} (h:ApprOk n c a) (x:WebT) (state:Nat) (s:StepT):ApprOk n (c + 1) (apprStep x state a s):=by
 have hs:=h.sz state
 have h1:=bytes1_size s.b
 have h0:noStr.size = 0:=rfl
 unfold apprStep
 split
 ·exact ⟨h.tl,h.rl,h.fl,fun i=>by have:=h.sz i; omega⟩
 ·split
  ·refine ⟨by simp [h.tl],by simp [h.rl],by simp [h.fl],fun i=>?_⟩
   have hi:=h.sz i
   simp only
   rw [getD_setS,getD_setS,h.tl,h.rl]
   split
   ·rw [ByteArray.size_append,ByteArray.size_append]; omega
   ·omega
  ·refine ⟨by simp [h.tl],by simp [h.rl],by simp [h.fl],fun i=>?_⟩
   have hi:=h.sz i
   simp only
   rw [getD_setS,getD_setS,h.tl,h.rl]
   split
   ·rw [ByteArray.size_append]; omega
   ·omega
theorem apprFold_ok (x:WebT) (state:Nat):∀ (l:List StepT) (n c:Nat) (a:ApprT),ApprOk n c a→ApprOk n (c + l.length) (l.foldl (apprStep x state) a)
 | [],n,c,a,h=>h
 |s :: r,n,c,a,h=>by
  have h2:=apprFold_ok x state r n (c + 1) _ (apprStep_ok h x state s)
  rw [show c + (s :: r).length = c + 1 + r.length by simp; omega]
  exact h2
structure ApprAt (w0 w:World) (a:ApprT):Prop where
 below:Below w0.heap.size w0 w
 bt:Blk w w0.heap.size (strsA a.token) 9
 br:Blk w (w0.heap.size + 1) (strsA a.rest) 9
 bf:Blk w (w0.heap.size + 1 + 1) (boolsA a.found) 4
theorem StepRow.keptAt {w w':World} {v:Value} {l:List StepT} {b:Nat} {cs:Array Value} {ty:TypeId} (h:StepRow w v l) (hb:Blk w b cs ty) (hne:ty ≠ 186) (k:Kept (fun y=>y = b) w w'):StepRow w' v l:=h.kept k (fun y hy e=>by subst e; exact ownsRow_ne h hb hne hy)
theorem Kept1c (w:World) (b c:Nat) (v:Value):Kept (fun y=>y = b) w (w.setCell ⟨b,c,none⟩ v):=Kept.setCell (ex:=fun y=>y = b) (p:=⟨b,c,none⟩) (Kept.refl _ _) (fun _=>rfl) _
theorem ApprAt.more {w0 w w':World} {a:ApprT} (h:ApprAt w0 w a) (hb:Below w.heap.size w w'):ApprAt w0 w' a:=⟨h.below.trans (hb.mono h.below.size),h.bt.below hb,h.br.below hb,h.bf.below hb⟩
theorem ApprAt.drew {w0 w:World} {a:ApprT} (h:ApprAt w0 w a):ApprAt w0 w.drew a:=⟨⟨h.below.os,h.below.tape,h.below.output,h.below.size,h.below.block⟩,h.bt.drew,h.br.drew,h.bf.drew⟩
theorem ApprAt.putT {w0 w:World} {a:ApprT} (h:ApprAt w0 w a) (i:Nat) (x:ByteArray):ApprAt w0 (w.setCell ⟨w0.heap.size,i,none⟩ (.string x)) { a with token:=a.token.set i x } :=
 ⟨h.below.setCell (p:=⟨w0.heap.size,i,none⟩) (Nat.le_refl _) _,by rw [← strsA_set]; exact h.bt.set i _,h.br.setOther (p:=⟨w0.heap.size,i,none⟩) (by simp) _,h.bf.setOther (p:=⟨w0.heap.size,i,none⟩) (by simp; omega) _⟩
theorem ApprAt.putR {w0 w:World} {a:ApprT} (h:ApprAt w0 w a) (i:Nat) (x:ByteArray):ApprAt w0 (w.setCell ⟨w0.heap.size + 1,i,none⟩ (.string x)) { a with rest:=a.rest.set i x } :=
 ⟨h.below.setCell (p:=⟨w0.heap.size + 1,i,none⟩) (by simp) _,h.bt.setOther (p:=⟨w0.heap.size + 1,i,none⟩) (by simp) _,by rw [← strsA_set]; exact h.br.set i _,h.bf.setOther (p:=⟨w0.heap.size + 1,i,none⟩) (by simp) _⟩
theorem ApprAt.putF {w0 w:World} {a:ApprT} (h:ApprAt w0 w a) (i:Nat):ApprAt w0 (w.setCell ⟨w0.heap.size + 1 + 1,i,none⟩ (.bool true)) { a with found:=a.found.set i true } :=
 ⟨h.below.setCell (p:=⟨w0.heap.size + 1 + 1,i,none⟩) (by simp; omega) _,h.bt.setOther (p:=⟨w0.heap.size + 1 + 1,i,none⟩) (by simp; omega) _,h.br.setOther (p:=⟨w0.heap.size + 1 + 1,i,none⟩) (by simp) _,by rw [← boolsA_set]; exact h.bf.set i _⟩
set_option maxRecDepth 20000 in
set_option maxHeartbeats 3200000 in
theorem approach_any (wb:Nat) (x:WebT) (wanted:Nat) (w:World) (h:WebAt w wb x) (ho:WebOk x) (hw:wanted < x.token.length) :
  Calls Tryz.prog 105 #[.pointer (some ⟨wb,0,none⟩),.int .i64 (wanted:Int)] w fun e w'=>e = .returned (.tuple #[.string (approachF x wanted).1,.string (approachF x wanted).2])∧Below w.heap.size w w':=by
 have hst:=ho.states
 have HLEN:=hide ho.len
 have HFEW:=hide ho.few
 have HINTO:=hide ho.into
 obtain ⟨tv,sv,hb,ht,hs⟩:=h.ex
 obtain ⟨td,tcap,rfl,htrow⟩:=ht.form
 obtain ⟨sd,scap,rfl,hsrow⟩:=hs.form
 have c0:w.cell? ⟨wb,0,none⟩ = some (.slice td x.token.length tcap):=hb.cell 0
 have c1:w.cell? ⟨wb,1,none⟩ = some (.slice sd x.steps.length scap):=hb.cell 1
 have zb:=hb.lt
 have HT:=hide ht
 have HS:=hide hs
 have hmk:=makeBools x.token.length (by omega)
 have hms:=makeStrs x.token.length (by omega)
 have w0:(0:Int) < (x.token.length:Int):=by omega
 have b00:(boolsA (List.replicate x.token.length false))[0]? = some (.bool false):=by
  have hpos:0 < x.token.length:=by omega
  rw [boolsA,List.getElem?_toArray,List.getElem?_map,List.getElem?_replicate,if_pos hpos]
  rfl
 have HRX:=hide (show (approachF x wanted) = ((apprTo x x.steps.length).token.getD wanted noStr,(apprTo x x.steps.length).rest.getD wanted noStr) from rfl)
 clear h ho hs hb ht
 go_enter Tryz.func105,Tryz.ntmps105
 go_upto_region 5 with fail
 obtain ⟨w3,hw3⟩:∃ w3:World,((w.alloc (.cells (strsA (List.replicate x.token.length noStr)) 9)).alloc (.cells (strsA (List.replicate x.token.length noStr)) 9)).alloc (.cells ((boolsA (List.replicate x.token.length false)).setIfInBounds 0 (.bool true)) 4) = w3:=⟨_,rfl⟩
 rw [hw3]
 have hb3:Below w.heap.size w w3:=by rw [← hw3]; exact (Below2 _ _ _).alloc (by simp; omega) _
 have hA3:ApprAt w w3 (apprTo x 0):=by
  refine ⟨hb3,by rw [← hw3]; exact ((Blk.new _ _ _).alloc _).alloc _,by rw [← hw3]; exact (Blk.at1 _ _ _ _).alloc _,?_⟩
  rw [← hw3]
  have h9:=Blk.new ((w.alloc (.cells (strsA (List.replicate x.token.length noStr)) 9)).alloc (.cells (strsA (List.replicate x.token.length noStr)) 9)) ((boolsA (List.replicate x.token.length false)).setIfInBounds 0 (.bool true)) 4
  rw [boolsA_set] at h9 ⊢
  have e9:((w.alloc (.cells (strsA (List.replicate x.token.length noStr)) 9)).alloc (.cells (strsA (List.replicate x.token.length noStr)) 9)).heap.size = w.heap.size + 1 + 1:=by simp
  rw [e9] at h9
  exact h9
 have c1':=(hb3.cell (p:=⟨wb,1,none⟩) zb).trans c1
 have HA3:=hide hA3
 clear b00 hw3 hA3
 go_wp2_with fail
 go_loopg [38] x.steps.length (fun G kv wr=>∃ k:Nat,kv = .int .i64 (k:Int)∧k ≤ x.steps.length∧G = x.steps.length - k∧ApprOk x.token.length (256 * k) (apprTo x k)∧ApprAt w wr (apprTo x k))
 case atStart =>
  refine ⟨0,rfl,by omega,rfl,⟨by simp [apprTo,appr0],by simp [apprTo,appr0],by simp [apprTo,appr0],fun i=>?_⟩,HA3.out⟩
  ·have h9:∀ j,(List.replicate x.token.length noStr).getD j noStr = noStr:=fun j=>by
    rw [List.getD_eq_getElem?_getD,List.getElem?_replicate]
    split <;> rfl
   show ((List.replicate x.token.length noStr).getD i noStr).size + ((List.replicate x.token.length noStr).getD i noStr).size ≤ 0
   rw [h9]
   exact Nat.le_refl _
 case round =>
  obtain ⟨k,rfl,hk,rfl,hok,hA⟩:=hrel
  by_cases hlt:k < x.steps.length
  ·have e0:decide ((k:Int) < (x.steps.length:Int)) = true:=by simp; omega
   rcases hsrow with h9 | ⟨sg,rfl⟩
   ·omega
   obtain ⟨rv,r0,hR⟩:=RowsOf.cell (HS.out.below hA.below) k hlt
   obtain ⟨rd,rcap,rfl,hrrow⟩:=hR.form
   have hmem:x.steps.getD k [] ∈ x.steps:=by rw [List.getD_eq_getElem?_getD,List.getElem?_eq_getElem hlt]; exact List.getElem_mem hlt
   have hfew:=HFEW.out _ hmem
   have hinto:=HINTO.out _ hmem
   have hnx:apprTo x (k + 1) = (x.steps.getD k []).foldl (apprStep x k) (apprTo x k):=rfl
   have hok2:=apprFold_ok x k (x.steps.getD k []) _ _ _ hok
   have hkn:k < x.token.length:=by rw [← HLEN.out]; exact hlt
   generalize x.steps.getD k [] = row at hR hfew hinto hnx r0 hrrow hok2
   have k0:(0:Int) ≤ (k:Int):=by omega
   have k1:(k:Int) < (x.steps.length:Int):=by omega
   have k2:(k:Int) < (x.token.length:Int):=by omega
   have HR:=hide hR
   have HNX:=hide hnx
   have HOK2:=hide hok2
   have HIN:=hide hinto
   have HA:=hide hA
   have HOK:=hide hok
   clear hR hnx hok hok2 hinto hA hmem
   obtain ⟨wo,rfl⟩:∃ wo:World,wo = wr:=⟨_,rfl⟩
   go_wp2_with fail
   go_loopg [45] row.length (fun G jv wi=>∃ (j:Nat) (a:ApprT),jv = .int .i64 (j:Int)∧j ≤ row.length∧G = row.length - j∧ApprOk x.token.length (256 * k + j) a∧(row.drop j).foldl (apprStep x k) a = apprTo x (k + 1)∧ApprAt w wi a∧StepRow wi (.slice rd row.length rcap) row)
   case atStart=>exact ⟨0,apprTo x k,rfl,by omega,rfl,HOK.out,HNX.out.symm,HA.out,HR.out⟩
   case round =>
    obtain ⟨j,a,rfl,hj,rfl,haok,hfo,hAt,hSR⟩:=hrel
    by_cases hjl:j < row.length
    ·have e1:decide ((j:Int) < (row.length:Int)) = true:=by simp; omega
     rcases hrrow with h9 | ⟨rg,rfl⟩
     ·omega
     obtain ⟨d0,d1⟩:=hSR.cell j hjl
     obtain ⟨hq,hbb⟩:=HIN.out row[j] (List.getElem_mem hjl)
     rw [List.drop_eq_getElem_cons hjl,List.foldl_cons] at hfo
     have hstep:=apprStep_ok haok x k row[j]
     generalize row[j] = st at d0 d1 hq hbb hfo hstep
     obtain ⟨sb,sq⟩:=st
     simp only at d0 d1 hq hbb
     have j0:(0:Int) ≤ (j:Int):=by omega
     have j1:(j:Int) < (row.length:Int):=by omega
     have q0:(0:Int) ≤ (sq:Int):=by omega
     have q1:(sq:Int) < (x.token.length:Int):=by omega
     have zr:rg < wr.heap.size:=ownsRow_lt hSR rg rfl
     have zf:=hAt.bf.lt
     have b0:=boolsA_cellD hAt.bf sq (by rw [haok.fl]; exact hq)
     have ff:=hAt.bf.frozen sq
     have HFO:=hide hfo
     have HST:=hide hstep
     have HAK:=hide haok
     have HH:Hid (ApprAt w wr a∧StepRow wr (.slice (some ⟨rg,0,none⟩) row.length rcap) row):=⟨hAt,hSR⟩
     clear hfo hstep haok hAt hSR
     cases hf:a.found.getD sq false with
     |true =>
      rw [hf] at b0
      have hsame:apprStep x k a ⟨sb,sq⟩ = a:=by unfold apprStep; rw [if_pos hf]
      have HSM:=hide hsame
      clear hf hsame
      go_wp2_with fail
      go_roundg (row.length - (j + 1))
      case measure=>omega
      case rel =>
       have h9:=HFO.out
       rw [HSM.out] at h9
       have h8:=HST.out
       rw [HSM.out] at h8
       exact ⟨j + 1,a,by go_num,by omega,rfl,h8,h9,HH.out.1.more (Below1 _ _),HH.out.2.below (Below1 _ _)⟩
     |false =>
      rw [hf] at b0
      have HF:=hide hf
      clear hf
      obtain ⟨w2,hw2⟩:∃ w2:World,(wr.alloc (.cells #[.string (bytesOf [sb]),.int .i64 (sq:Int)] 186)).setCell ⟨w.heap.size + 1 + 1,sq,none⟩ (.bool true) = w2:=⟨_,rfl⟩
      obtain ⟨T,hTd⟩:∃ T,a.token.getD k noStr = T:=⟨_,rfl⟩
      obtain ⟨R,hRd⟩:∃ R,a.rest.getD k noStr = R:=⟨_,rfl⟩
      have hsz:=HAK.out.sz k
      rw [hTd,hRd] at hsz
      have hTR:T.size ≤ 30000000∧R.size ≤ 30000000:=by
       have h9:256 * k + j ≤ 25600256:=by omega
       omega
      have hA2:ApprAt w w2 { a with found:=a.found.set sq true }:=by rw [← hw2]; exact (HH.out.1.more (Below1 _ _)).putF sq
      have hS2:Blk w2 wr.heap.size #[.string (bytesOf [sb]),.int .i64 (sq:Int)] 186:=by rw [← hw2]; exact (Blk.new _ _ _).setOther (p:=⟨w.heap.size + 1 + 1,sq,none⟩) (by simp; have:=zf; omega) _
      have hR2:StepRow w2 (.slice (some ⟨rg,0,none⟩) row.length rcap) row:=by
       rw [← hw2]
       refine (HH.out.2.below (Below1 _ _)).kept (ex:=fun y=>y = w.heap.size + 1 + 1) (Kept.setCell (ex:=fun y=>y = w.heap.size + 1 + 1) (p:=⟨w.heap.size + 1 + 1,sq,none⟩) (Kept.refl _ _) (fun _=>rfl) _) (fun y hy e=>?_)
       subst e
       exact ownsRow_ne HH.out.2 HH.out.1.bf (by decide) hy
      have HTD:=hide hTd
      have HRD:=hide hRd
      go_upto_region 13 with fail
      try rw [hw2]
      clear hw2 hTd hRd hsz b0 ff zf
      -- token[s.to] = token[state]
      have s0:=hS2.cell 0
      have s1:=hS2.cell 1
      have t0:w2.cell? ⟨w.heap.size,k,none⟩ = some (.string T):=by rw [strsA_cell hA2.bt k (by show k < a.token.length; rw [HAK.out.tl]; exact hkn),← HTD.out]
      have t1:=strsA_cell hA2.bt sq (by show sq < a.token.length; rw [HAK.out.tl]; exact hq)
      have tf:=hA2.bt.frozen sq
      have zS:=hS2.lt
      have zT:=hA2.bt.lt
      have zwr:w.heap.size + 1 + 1 < wr.heap.size:=HH.out.1.bf.lt
      have dS:wr.heap.size ≠ w.heap.size:=by omega
      have HA2:=hide hA2
      have HS2:=hide hS2
      have HR2:=hide hR2
      clear hA2 hS2 hR2 HH
      go_region
      obtain ⟨w4,hw4⟩:∃ w4:World,(w2.setCell ⟨w.heap.size,sq,none⟩ (.string T)).drew = w4:=⟨_,rfl⟩
      have hA4:ApprAt w w4 { a with token:=a.token.set sq T,found:=a.found.set sq true }:=by rw [← hw4]; exact (HA2.out.putT sq T).drew
      have hS4:Blk w4 wr.heap.size #[.string (bytesOf [sb]),.int .i64 (sq:Int)] 186:=by rw [← hw4]; exact (HS2.out.setOther (p:=⟨w.heap.size,sq,none⟩) (by simp; exact dS) _).drew
      have hR4:StepRow w4 (.slice (some ⟨rg,0,none⟩) row.length rcap) row:=by rw [← hw4]; exact HR2.out.keptAt HA2.out.bt (by decide) (Kept1c _ _ _ _).drew
      go_upto_region 14 with fail
      try rw [hw4]
      clear hw4 s0 s1 t0 t1 tf zS zT HA2 HS2 HR2
      -- rest[s.to] = rest[state] + s.text
      have s0:=hS4.cell 0
      have s1:=hS4.cell 1
      have t0:w4.cell? ⟨w.heap.size + 1,k,none⟩ = some (.string R):=by rw [strsA_cell hA4.br k (by show k < a.rest.length; rw [HAK.out.rl]; exact hkn),← HRD.out]
      have t1:=strsA_cell hA4.br sq (by show sq < a.rest.length; rw [HAK.out.rl]; exact hq)
      have tf:=hA4.br.frozen sq
      have zS:=hS4.lt
      have zT:=hA4.br.lt
      have dS2:wr.heap.size ≠ w.heap.size + 1:=by omega
      have u1:∀ W:World,(Op.stringOp .add R (bytesOf [sb])).run Tryz.prog W = .ok (.string (R ++ bytesOf [sb])) W:=fun W=>run_string_add_sum W _ _ (by rw [bytes1_size]; omega)
      have HA4:=hide hA4
      have HS4:=hide hS4
      have HR4:=hide hR4
      clear hA4 hS4 hR4
      go_region
      obtain ⟨w5,hw5⟩:∃ w5:World,(w4.setCell ⟨w.heap.size + 1,sq,none⟩ (.string (R ++ bytesOf [sb]))).drew = w5:=⟨_,rfl⟩
      have hA5:ApprAt w w5 { token:=a.token.set sq T,rest:=a.rest.set sq (R ++ bytesOf [sb]),found:=a.found.set sq true }:=by rw [← hw5]; exact (HA4.out.putR sq _).drew
      have hS5:Blk w5 wr.heap.size #[.string (bytesOf [sb]),.int .i64 (sq:Int)] 186:=by rw [← hw5]; exact (HS4.out.setOther (p:=⟨w.heap.size + 1,sq,none⟩) (by simp; exact dS2) _).drew
      have hR5:StepRow w5 (.slice (some ⟨rg,0,none⟩) row.length rcap) row:=by rw [← hw5]; exact HR4.out.keptAt HA4.out.br (by decide) (Kept1c _ _ _ _).drew
      go_upto_region 15 with fail
      try rw [hw5]
      clear hw5 s0 s1 t0 t1 tf zS zT HA4 HS4 HR4 u1
      rcases htrow with h9 | ⟨tg,rfl⟩
      ·omega
      have s1:=hS5.cell 1
      have m0:=(hA5.below.cell (p:=⟨wb,0,none⟩) zb).trans c0
      have m1:=(HT.out.below hA5.below).cellD sq hq
      obtain ⟨tk,htk⟩:∃ tk,x.token.getD sq false = tk:=⟨_,rfl⟩
      rw [htk] at m1
      have HA5:=hide hA5
      have HS5:=hide hS5
      have HR5:=hide hR5
      have HTKK:=hide htk
      clear hA5 hS5 hR5 htk
      go_quiet (fail)
      obtain ⟨w6,hw6⟩:∃ w6:World,w5.drewN nq = w6:=⟨_,rfl⟩
      rw [hw6]
      have hb6:Below w5.heap.size w5 w6:=by rw [← hw6]; exact Below_drewN (Below.refl _ _) _
      have HA6:=hide (HA5.out.more hb6)
      have HS6:=hide (HS5.out.below hb6)
      have HR6:=hide (HR5.out.below hb6)
      clear hw6 hb6 HA5 HS5 HR5 s1 m0 m1
      cases tk with
      |false =>
       go_wp2_with fail
       go_roundg (row.length - (j + 1))
       case measure=>omega
       case rel =>
        have hst:apprStep x k a ⟨sb,sq⟩ = { token:=a.token.set sq T,rest:=a.rest.set sq (R ++ bytesOf [sb]),found:=a.found.set sq true }:=by
         unfold apprStep
         rw [if_neg (by rw [HF.out]; simp),if_neg (by rw [HTKK.out]; simp),HTD.out,HRD.out]
        have h9:=HFO.out
        rw [hst] at h9
        have h8:=HST.out
        rw [hst] at h8
        exact ⟨j + 1,_,by go_num,by omega,rfl,h8,h9,HA6.out,HR6.out⟩
      |true =>
       go_upto_region 16 with fail
       have s1:=HS6.out.cell 1
       have hl1:sq < (a.token.set sq T).length:=by rw [List.length_set,HAK.out.tl]; exact hq
       have hl2:sq < (a.rest.set sq (R ++ bytesOf [sb])).length:=by rw [List.length_set,HAK.out.rl]; exact hq
       have t0:w6.cell? ⟨w.heap.size,sq,none⟩ = some (.string T):=by
        rw [strsA_cell HA6.out.bt sq hl1,getD_setS,if_pos ⟨rfl,by rw [HAK.out.tl]; exact hq⟩]
       have t1:w6.cell? ⟨w.heap.size + 1,sq,none⟩ = some (.string (R ++ bytesOf [sb])):=by
        rw [strsA_cell HA6.out.br sq hl2,getD_setS,if_pos ⟨rfl,by rw [HAK.out.rl]; exact hq⟩]
       have tf:=HA6.out.bt.frozen sq
       have zS:=HS6.out.lt
       have zT:=HA6.out.bt.lt
       have zT2:=HA6.out.br.lt
       have u1:∀ W:World,(Op.stringOp .add T (R ++ bytesOf [sb])).run Tryz.prog W = .ok (.string (T ++ (R ++ bytesOf [sb]))) W:=fun W=>run_string_add_sum W _ _ (by rw [ByteArray.size_append,bytes1_size]; omega)
       clear hl1 hl2
       go_region
       obtain ⟨w7,hw7⟩:∃ w7:World,(w6.setCell ⟨w.heap.size,sq,none⟩ (.string (T ++ (R ++ bytesOf [sb])))).drew = w7:=⟨_,rfl⟩
       have hA7:ApprAt w w7 { token:=(a.token.set sq T).set sq (T ++ (R ++ bytesOf [sb])),rest:=a.rest.set sq (R ++ bytesOf [sb]),found:=a.found.set sq true }:=by rw [← hw7]; exact (HA6.out.putT sq _).drew
       have hS7:Blk w7 wr.heap.size #[.string (bytesOf [sb]),.int .i64 (sq:Int)] 186:=by rw [← hw7]; exact (HS6.out.setOther (p:=⟨w.heap.size,sq,none⟩) (by simp; exact dS) _).drew
       have hR7:StepRow w7 (.slice (some ⟨rg,0,none⟩) row.length rcap) row:=by rw [← hw7]; exact HR6.out.keptAt HA6.out.bt (by decide) (Kept1c _ _ _ _).drew
       go_upto_region 17 with fail
       try rw [hw7]
       clear hw7 s1 t0 t1 tf zS zT zT2 u1 HA6 HS6 HR6
       have s1:=hS7.cell 1
       have t1:=strsA_cell hA7.br sq (by rw [List.length_set,HAK.out.rl]; exact hq)
       have tf:=hA7.br.frozen sq
       have zS:=hS7.lt
       have zT:=hA7.br.lt
       have HA7:=hide hA7
       have HR7:=hide hR7
       clear hA7 hS7 hR7
       go_wp2_with fail
       go_roundg (row.length - (j + 1))
       case measure=>omega
       case rel =>
        have hst:apprStep x k a ⟨sb,sq⟩ = { token:=a.token.set sq (T ++ (R ++ bytesOf [sb])),rest:=a.rest.set sq noStr,found:=a.found.set sq true }:=by
         unfold apprStep
         rw [if_neg (by rw [HF.out]; simp),if_pos HTKK.out,HTD.out,HRD.out]
        have h9:=HFO.out
        rw [hst] at h9
        have h8:=HST.out
        rw [hst] at h8
        have h7:=HA7.out.putR sq noStr
        simp only [List.set_set] at h7
        exact ⟨j + 1,_,by go_num,by omega,rfl,h8,h9,h7,HR7.out.keptAt HA7.out.br (by decide) (Kept1c _ _ _ _)⟩
    ·have e1:decide ((j:Int) < (row.length:Int)) = false:=by simp; omega
     obtain rfl:j = row.length:=by omega
     rw [List.drop_length] at hfo
     have ha:a = apprTo x (k + 1):=hfo
     subst ha
     have HAT:=hide hAt
     clear hfo hAt hSR haok
     go_wp2_with fail
     go_roundg (x.steps.length - (k + 1))
     case measure=>omega
     case rel =>
      have h8:=HOK2.out
      rw [← HNX.out] at h8
      exact ⟨k + 1,by go_num,by omega,rfl,⟨h8.tl,h8.rl,h8.fl,fun i=>by have:=h8.sz i; omega⟩,HAT.out⟩
  ·have e0:decide ((k:Int) < (x.steps.length:Int)) = false:=by simp; omega
   obtain rfl:k = x.steps.length:=by omega
   have t0:=strsA_cell hA.bt wanted (by rw [hok.tl]; exact hw)
   have t1:=strsA_cell hA.br wanted (by rw [hok.rl]; exact hw)
   have w1:(0:Int) ≤ (wanted:Int):=by omega
   have w2:(wanted:Int) < (x.token.length:Int):=by omega
   have HB:=hide hA.below
   have HRX2:=HRX.out
   generalize (apprTo x x.steps.length).token.getD wanted noStr = T at t0 HRX2
   generalize (apprTo x x.steps.length).rest.getD wanted noStr = R at t1 HRX2
   have HRY:=hide HRX2
   clear hA hok HRX2 HRX
   go_wp2_with fail
   go_quiet (fail)
   go_wp2_with fail
   go_ret2
   exact ⟨by rw [HRY.out]; rfl,Below_drewN HB.out _⟩
end Go.Proofs.YtcckhngbdoiikaaGreat
