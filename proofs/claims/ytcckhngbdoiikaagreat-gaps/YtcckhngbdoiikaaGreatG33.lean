import Derived.Test.YtcckhngbdoiikaaGreatG32
import Derived.Deep.RegionLaw
import Derived.IntWalk
import Derived.Test.YtcckhngbdoiikaaGreatG06
import Derived.BigQuiet

namespace Go.Proofs.YtcckhngbdoiikaaGreat
open Go.RowKit Go.Deep
set_option linter.unusedVariables false
def nilsB (n:Nat):Array Value:=(List.replicate n (Value.slice none 0 0)).toArray
theorem nilsB_made (n:Nat):madeCells #[.slice none 0 0] n = nilsB n:=by
 apply Array.toList_inj.1
 rw [toList_madeCells_one]
 simp [nilsB]
theorem Tryz.infoRB3:(Tryz.prog.info? 130).map (fun i=>(i.zero,i.size,i.bytes)) = some (some (.slice none 0 0),1,24):=by kernel_rfl
theorem Tryz.infoRBB3:(Tryz.prog.info? 131).map (fun i=>(i.zero,i.size,i.bytes)) = some (some (.slice none 0 0),1,24):=by kernel_rfl
theorem makeNilsB (n:Nat) (hn:n ≤ 100000) (w:World):(Instr.makeSlice 131 (.int .i64 (n:Int)) (.int .i64 (n:Int))).run Tryz.prog w = .ok (.slice (some ⟨w.heap.size,0,none⟩) n n) (w.alloc (.cells (nilsB n) 130)):=by
 rw [run_make_row' (P:=Tryz.prog) 131 130 (.slice none 0 0) 24 Tryz.underlying131 Tryz.infoRB3 rfl .i64 .i64 n (by omega) (by omega) w,nilsB_made]
structure MRow (w:World) (h:Nat) (ety:TypeId) (cell:Array Value) (cty:TypeId) (N:Nat) (kv:Value) (R:Nat→Nat) (i:Nat):Prop where
 row:∃ vs:List Value,w.ownsRow 0 ety 1 kv i vs∧vs.length = i∧∀ j,j < i→vs[j]? = some (.slice (some ⟨R j,0,none⟩) N N)
 each:∀ j,j < i→Blk w (R j) cell cty∧h < R j
 inj:∀ j k,j < i→k < i→R j = R k→j = k
 own:∀ b,kv.ownBlock = some b→h < b∧b < w.heap.size
theorem MRow.keep {w w':World} {h:Nat} {ety:TypeId} {cell:Array Value} {cty:TypeId} {N:Nat} {kv:Value} {R:Nat→Nat} {i:Nat} (m:MRow w h ety cell cty N kv R i) {ex:Nat→Prop} (k:Kept ex w w') (h1:∀ j,j < i→¬ ex (R j)) (h2:∀ b,kv.ownBlock = some b→¬ ex b):MRow w' h ety cell cty N kv R i:=by
 obtain ⟨vs,v1,v2,v3⟩:=m.row
 exact ⟨⟨vs,ownsRow_kept v1 k h2,v2,v3⟩,fun j hj=>⟨(m.each j hj).1.kept k (h1 j hj),(m.each j hj).2⟩,m.inj,fun b hb=>⟨(m.own b hb).1,Nat.lt_of_lt_of_le (m.own b hb).2 k.size⟩⟩
def updR (R:Nat→Nat) (i b:Nat):Nat→Nat:=fun j=>if j = i then b else R j
theorem MRow.grow {w w6:World} {h fld:Nat} {ety:TypeId} {cell:Array Value} {cty:TypeId} {N gg cap6:Nat} {kv:Value} {R:Nat→Nat} {i:Nat} {vs:List Value} (m:MRow w h ety cell cty N kv R i) (hne:cty ≠ ety) (hvl:vs.length = i) (hvs:∀ j,j < i→vs[j]? = some (.slice (some ⟨R j,0,none⟩) N N)) (hh:h < w.heap.size)
  (g1:w6.ownsRow 0 ety 1 (.slice (some ⟨gg,0,none⟩) (i + 1) cap6) (i + 1) (vs ++ [.slice (some ⟨w.heap.size,0,none⟩) N N]))
  (g2:Kept (fun b=>kv.ownBlock = some b) ((w.alloc (.cells cell cty)).alloc (.cells #[.slice (some ⟨w.heap.size,0,none⟩) N N] ety)).drew w6) (g3:kv.ownBlock = some gg∨gg = w.heap.size + 1 + 1) :
  MRow (w6.setCell ⟨h,fld,none⟩ (.slice (some ⟨gg,0,none⟩) (i + 1) cap6)) h ety cell cty N (.slice (some ⟨gg,0,none⟩) (i + 1) cap6) (updR R i w.heap.size) (i + 1)∧Kept (fun b=>kv.ownBlock = some b∨b = h) w (w6.setCell ⟨h,fld,none⟩ (.slice (some ⟨gg,0,none⟩) (i + 1) cap6)):=by
 have k1:Kept (fun _=>False) w ((w.alloc (.cells cell cty)).alloc (.cells #[.slice (some ⟨w.heap.size,0,none⟩) N N] ety)).drew:=(((Kept.refl _ _).alloc _).alloc _).drew
 have k9:Kept (fun b=>b = h) w6 (w6.setCell ⟨h,fld,none⟩ (.slice (some ⟨gg,0,none⟩) (i + 1) cap6)):=Kept.setCell (ex:=fun b=>b = h) (p:=⟨h,fld,none⟩) (Kept.refl _ _) (fun _=>rfl) _
 have hgg:h < gg:=by rcases g3 with e | e; exact (m.own gg e).1; omega
 obtain ⟨vs0,v1,v2,v3⟩:=m.row
 have hrow9:=ownsRow_kept v1 k1 (fun _ _ e=>e)
 have hz6:=g2.size
 refine ⟨⟨⟨vs ++ [.slice (some ⟨w.heap.size,0,none⟩) N N],ownsRow_kept g1 k9 (fun b hb e=>by cases (Option.some.inj hb:gg = b); omega),by simp [hvl],fun j hj=>?_⟩,fun j hj=>?_,fun j k hj hk he=>?_,fun b hb=>?_⟩,?_⟩
 ·unfold updR
  by_cases e:j < i
  ·rw [if_neg (by omega),List.getElem?_append_left (by omega)]; exact hvs j e
  ·have:j = i:=by omega
   subst this
   rw [if_pos rfl,List.getElem?_append_right (by omega),hvl]; simp
 ·unfold updR
  by_cases e:j < i
  ·rw [if_neg (by omega)]
   obtain ⟨r1,r2⟩:=m.each j e
   exact ⟨((r1.kept k1 (fun e=>e)).kept g2 (fun e=>ownsRow_ne hrow9 (r1.kept k1 (fun e=>e)) hne e)).kept k9 (by omega),r2⟩
  ·rw [if_pos (by omega)]
   have r1:Blk ((w.alloc (.cells cell cty)).alloc (.cells #[.slice (some ⟨w.heap.size,0,none⟩) N N] ety)).drew w.heap.size cell cty:=((Blk.new w _ _).alloc _)
   exact ⟨(r1.kept g2 (fun e=>ownsRow_ne hrow9 r1 hne e)).kept k9 (by omega),hh⟩
 ·unfold updR at he
  have hRlt:∀ j,j < i→R j < w.heap.size:=fun j hj=>(m.each j hj).1.lt
  by_cases e1:j = i <;> by_cases e2:k = i
  ·omega
  ·have:=hRlt k (by omega); simp only [if_pos e1,if_neg e2] at he; omega
  ·have:=hRlt j (by omega); simp only [if_neg e1,if_pos e2] at he; omega
  ·simp only [if_neg e1,if_neg e2] at he; exact m.inj j k (by omega) (by omega) he
 ·cases (Option.some.inj hb:gg = b)
  have:=ownsRow_lt g1 gg rfl
  exact ⟨hgg,by simpa using this⟩
 ·exact ((k1.weaken (fun _ _ e=>e.elim)).trans g2 (fun _ _ e=>.inl e)).trans k9 (fun _ _ e=>.inr e)
set_option maxRecDepth 20000 in
set_option maxHeartbeats 6400000 in
theorem along_any (s:ByteArray) (parts:Nat) (w:World) (hs:s.size ≤ 20000) (hp:parts ≤ 100000) :
  Calls Tryz.prog 94 #[.string s,.int .i64 (parts:Int)] w fun e w'=>∃ kv uv R U,e = .returned (.pointer (some ⟨w.heap.size,0,none⟩))∧Below w.heap.size w w'∧Blk w' w.heap.size #[.string s,kv,uv] 216 ∧
   MRow w' w.heap.size 131 (nilsB (s.size + 1)) 130 (s.size + 1) kv R parts∧MRow w' w.heap.size 130 (boolsA (List.replicate (s.size + 1) false)) 4 (s.size + 1) uv U parts∧∀ j,j < parts→uv.ownBlock ≠ some (R j):=by
 obtain ⟨N,hN⟩:∃ N,N = s.size + 1:=⟨_,rfl⟩
 have hN1:(s.size:Int) + 1 = (N:Int):=by omega
 have hN2:N ≤ 20001:=by omega
 have hmk:=makeNilsB N (by omega)
 have hmb:=makeBools N (by omega)
 rw [← hN]
 clear hN
 obtain ⟨ii,hii,hz0,hz1,hz2⟩:=info_parts Tryz.infoRBB3
 obtain ⟨ij,hij,hy0,hy1,hy2⟩:=info_parts Tryz.infoRB3
 go_enter Tryz.func94,Tryz.ntmps94
 go_wp2_with fail
 go_loopg [6] parts (fun G iv wr=>∃ (i:Nat) (kv uv:Value) (R U:Nat→Nat),iv = .int .i64 (i:Int)∧i ≤ parts∧G = parts - i∧Below w.heap.size w wr∧Blk wr w.heap.size #[.string s,kv,uv] 216 ∧
   MRow wr w.heap.size 131 (nilsB N) 130 N kv R i∧MRow wr w.heap.size 130 (boolsA (List.replicate N false)) 4 N uv U i∧∀ j,j < i→uv.ownBlock ≠ some (R j))
 case atStart =>
  exact ⟨0,.slice none 0 0,.slice none 0 0,fun _=>0,fun _=>0,rfl,by omega,rfl,Below1 _ _,Blk.new _ _ _,⟨⟨[],World.ownsRow_nil _ _ _ _,rfl,fun j hj=>by omega⟩,fun j hj=>by omega,fun j k hj=>by omega,fun b h=>by simp [Value.ownBlock] at h⟩,⟨⟨[],World.ownsRow_nil _ _ _ _,rfl,fun j hj=>by omega⟩,fun j hj=>by omega,fun j k hj=>by omega,fun b h=>by simp [Value.ownBlock] at h⟩,fun j hj=>by omega⟩
 case round =>
  obtain ⟨i,kv,uv,R,U,rfl,hi,rfl,hb,hW,hK,hU,hsep⟩:=hrel
  by_cases hlt:i < parts
  ·have e0:decide ((i:Int) < (parts:Int)) = true:=by simp; omega
   obtain ⟨vs,hrow,hvl,hvs⟩:=hK.row
   obtain ⟨_,kd9,kcap,rfl,_⟩:=ownsRow_form hrow
   have k2:wr.cell? ⟨w.heap.size,1,none⟩ = some (.slice kd9 i kcap):=hW.cell 1
   have kf:=hW.frozen 1
   have zW:=hW.lt
   have hk1:Kept (fun _=>False) wr ((wr.alloc (.cells (nilsB N) 130)).alloc (.cells #[.slice (some ⟨wr.heap.size,0,none⟩) N N] 131)).drew:=(((Kept.refl _ _).alloc _).alloc _).drew
   have HOL:=hide (ownsRow_kept hrow hk1 (fun _ _ e=>e))
   have hnk2:some w.heap.size ≠ (Value.slice kd9 i kcap).ownBlock:=fun e=>by have:=(hK.own _ e.symm).1; omega
   have hW2:=hW.kept hk1 (fun e=>e)
   have CW2:Hid (((wr.alloc (.cells (nilsB N) 130)).alloc (.cells #[.slice (some ⟨wr.heap.size,0,none⟩) N N] 131)).drew.cell? ⟨w.heap.size,1,none⟩ = some (.slice kd9 i kcap)):=hide (hW2.cell 1)
   have FW2:=hide (hW2.frozen 1)
   have hnw:((wr.alloc (.cells (nilsB N) 130)).alloc (.cells #[.slice (some ⟨wr.heap.size,0,none⟩) N N] 131)).drew.heap[wr.heap.size + 1]? = some (.cells #[.slice (some ⟨wr.heap.size,0,none⟩) N N] 131 (0,0)):=by
    have h9:=heap_alloc_new (wr.alloc (.cells (nilsB N) 130)) (.cells #[.slice (some ⟨wr.heap.size,0,none⟩) N N] 131)
    have e9:(wr.alloc (.cells (nilsB N) 130)).heap.size = wr.heap.size + 1:=by simp
    rw [e9] at h9
    exact h9
   have HNW:=hide hnw
   have HZL:Hid (w.heap.size < ((wr.alloc (.cells (nilsB N) 130)).alloc (.cells #[.slice (some ⟨wr.heap.size,0,none⟩) N N] 131)).drew.heap.size):=hide (by simp; omega)
   have H63:Hid (i + 1 ≤ maxLen):=hide (by unfold maxLen; omega)
   have HBY:Hid ((i + 1) * 24 ≤ 140737488355328):=hide (by omega)
   have HH:=hide (And.intro hb (And.intro hW (And.intro hK (And.intro hU (And.intro hsep (And.intro hvl hvs))))))
   have zW2:w.heap.size < wr.heap.size + 1:=by omega
   clear hb hW hK hU hsep hrow hvl hvs hk1 hW2 hnw
   have hwN:IntKind.i64.wrap (N:Int) = (N:Int):=(Go.IntWalk.i64_left _).trans (by unfold wrap64; omega)
   go_upto_region 5 with fail
   go_cut [] (fun wx=>∃ (kv:Value) (R:Nat→Nat),Below w.heap.size w wx∧Blk wx w.heap.size #[.string s,kv,uv] 216∧MRow wx w.heap.size 131 (nilsB N) 130 N kv R (i + 1)∧MRow wx w.heap.size 130 (boolsA (List.replicate N false)) 4 N uv U i∧∀ j,j < i + 1→uv.ownBlock ≠ some (R j))
   case first =>
    go_region_law ((refine step_append_lies _ (by rfl) _ _ _ (by rfl) 0 131 ii _ 1 24 Tryz.underlying214 hii hz0 hz1 hz2 rfl (Nat.one_pos) (.slice kd9 i kcap) i vs (by rfl) HOL.out ⟨wr.heap.size + 1,0,none⟩ 1 1 [.slice (some ⟨wr.heap.size,0,none⟩) N N] (by rfl) (by rfl) (World.news_of_block (cs:=#[.slice (some ⟨wr.heap.size,0,none⟩) N N]) (t:=131) (fr:=(0,0)) HNW.out) (by simp [Value.oneCell']) (Nat.one_pos) H63.out HBY.out (Nat.zero_le _) (wr.heap.size + 1 + 1) (by simp) ?_; intro gg cap6 w6 hown6 hgrow6 hat6 hlt6; have cg3:=(hgrow6.cell_far ⟨w.heap.size,1,none⟩ HZL.out hnk2).trans CW2.out; have fg3:=(hgrow6.frozen_far ⟨w.heap.size,1,none⟩ HZL.out hnk2).trans FW2.out))
    all_goals
     have HG6:=hide (And.intro hown6 (And.intro (Kept_grown (O:=fun b=>(Value.slice kd9 i kcap).ownBlock = some b) hgrow6 (fun k e=>e)) hat6))
     clear hown6 hgrow6 hat6 hwN
     go_wp2_with fail
     go_meet
     obtain ⟨g1,g2,g3⟩:=HG6.out
     obtain ⟨q1,q2,q3,q4,q5,q6,q7⟩:=HH.out
     obtain ⟨m1,m2⟩:=q3.grow (fld:=1) (by decide) q6 q7 zW g1 g2 g3
     have hown3:=q3.own
     refine ⟨_,_,?_,?_,m1,q4.keep m2 (fun j hj e=>?_) (fun b hb e=>?_),fun j hj e=>?_⟩
     ·exact Below_kept q1 m2 (by omega) (fun x hx e=>by rcases e with e | e; have:=(hown3 x e).1; omega; omega)
     ·have h9:Blk w6 w.heap.size #[.string s,.slice kd9 i kcap,uv] 216:=(q2.kept (ex:=fun _=>False) (((Kept.refl _ _).alloc _).alloc _).drew (fun e=>e)).kept g2 (fun e=>hnk2 e.symm)
      exact h9.set 1 _
     ·rcases e with e | e
      ·obtain ⟨_,v1,_⟩:=q3.row; exact ownsRow_ne v1 (q4.each j hj).1 (by decide) e
      ·have:=(q4.each j hj).2; omega
     ·rcases e with e | e
      ·obtain ⟨_,v1,_⟩:=q3.row
       obtain ⟨_,u1,_⟩:=q4.row
       obtain ⟨_,ad,cap',e',⟨h1,_⟩ | ⟨g,cur,h1,h2,_⟩⟩:=ownsRow_form u1
       ·rw [e',h1] at hb; cases hb
       ·rw [e',h1] at hb; cases (Option.some.inj hb:g = b); exact ownsRow_ne v1 h2 (by decide) e
      ·have:=(q4.own b hb).1; omega
     ·unfold updR at e
      by_cases ej:j = i
      ·rw [if_pos ej] at e; have:=(q4.own _ e).2; omega
      ·rw [if_neg ej] at e; exact q5 j (by omega) e
   case rest =>
    obtain ⟨kv2,R2,hb,hW,hK,hU,hsep⟩:=hcut
    clear HOL CW2 FW2 HNW HZL H63 HBY HH k2 kf hnk2 hwN
    obtain ⟨us,hrow,hvl,hvs⟩:=hU.row
    obtain ⟨_,ud,ucap,rfl,_⟩:=ownsRow_form hrow
    have k2:wc.cell? ⟨w.heap.size,2,none⟩ = some (.slice ud i ucap):=hW.cell 2
    have kf:=hW.frozen 2
    have zW:=hW.lt
    have hk1:Kept (fun _=>False) wc ((wc.alloc (.cells (boolsA (List.replicate N false)) 4)).alloc (.cells #[.slice (some ⟨wc.heap.size,0,none⟩) N N] 130)).drew:=(((Kept.refl _ _).alloc _).alloc _).drew
    have HOL:=hide (ownsRow_kept hrow hk1 (fun _ _ e=>e))
    have hnk2:some w.heap.size ≠ (Value.slice ud i ucap).ownBlock:=fun e=>by have:=(hU.own _ e.symm).1; omega
    have hW2:=hW.kept hk1 (fun e=>e)
    have CW2:Hid (((wc.alloc (.cells (boolsA (List.replicate N false)) 4)).alloc (.cells #[.slice (some ⟨wc.heap.size,0,none⟩) N N] 130)).drew.cell? ⟨w.heap.size,2,none⟩ = some (.slice ud i ucap)):=hide (hW2.cell 2)
    have FW2:=hide (hW2.frozen 2)
    have hnw:((wc.alloc (.cells (boolsA (List.replicate N false)) 4)).alloc (.cells #[.slice (some ⟨wc.heap.size,0,none⟩) N N] 130)).drew.heap[wc.heap.size + 1]? = some (.cells #[.slice (some ⟨wc.heap.size,0,none⟩) N N] 130 (0,0)):=by
     have h9:=heap_alloc_new (wc.alloc (.cells (boolsA (List.replicate N false)) 4)) (.cells #[.slice (some ⟨wc.heap.size,0,none⟩) N N] 130)
     have e9:(wc.alloc (.cells (boolsA (List.replicate N false)) 4)).heap.size = wc.heap.size + 1:=by simp
     rw [e9] at h9
     exact h9
    have HNW:=hide hnw
    have HZL:Hid (w.heap.size < ((wc.alloc (.cells (boolsA (List.replicate N false)) 4)).alloc (.cells #[.slice (some ⟨wc.heap.size,0,none⟩) N N] 130)).drew.heap.size):=hide (by simp; omega)
    have H63:Hid (i + 1 ≤ maxLen):=hide (by unfold maxLen; omega)
    have HBY:Hid ((i + 1) * 24 ≤ 140737488355328):=hide (by omega)
    have HH:=hide (And.intro hb (And.intro hW (And.intro hK (And.intro hU (And.intro hsep (And.intro hvl hvs))))))
    have zW2:w.heap.size < wc.heap.size + 1:=by omega
    clear hb hW hK hU hsep hrow hvl hvs hk1 hW2 hnw
    have hwN:IntKind.i64.wrap (N:Int) = (N:Int):=(Go.IntWalk.i64_left _).trans (by unfold wrap64; omega)
    go_upto_region 6 with fail
    go_region_law ((refine step_append_lies _ (by rfl) _ _ _ (by rfl) 0 130 ij _ 1 24 Tryz.underlying131 hij hy0 hy1 hy2 rfl (Nat.one_pos) (.slice ud i ucap) i us (by rfl) HOL.out ⟨wc.heap.size + 1,0,none⟩ 1 1 [.slice (some ⟨wc.heap.size,0,none⟩) N N] (by rfl) (by rfl) (World.news_of_block (cs:=#[.slice (some ⟨wc.heap.size,0,none⟩) N N]) (t:=130) (fr:=(0,0)) HNW.out) (by simp [Value.oneCell']) (Nat.one_pos) H63.out HBY.out (Nat.zero_le _) (wc.heap.size + 1 + 1) (by simp) ?_; intro gg cap6 w6 hown6 hgrow6 hat6 hlt6; have cg3:=(hgrow6.cell_far ⟨w.heap.size,2,none⟩ HZL.out hnk2).trans CW2.out; have fg3:=(hgrow6.frozen_far ⟨w.heap.size,2,none⟩ HZL.out hnk2).trans FW2.out))
    all_goals
     have HG6:=hide (And.intro hown6 (And.intro (Kept_grown (O:=fun b=>(Value.slice ud i ucap).ownBlock = some b) hgrow6 (fun k e=>e)) hat6))
     clear hown6 hgrow6 hat6 hwN
     go_wp2_with fail
     go_roundg (parts - (i + 1))
     case measure=>omega
     case rel =>
      obtain ⟨g1,g2,g3⟩:=HG6.out
      obtain ⟨q1,q2,q3,q4,q5,q6,q7⟩:=HH.out
      obtain ⟨m1,m2⟩:=q4.grow (fld:=2) (by decide) q6 q7 zW g1 g2 g3
      have hown4:=q4.own
      refine ⟨i + 1,kv2,_,R2,_,by go_num,by omega,rfl,?_,?_,q3.keep m2 (fun j hj e=>?_) (fun b hb e=>?_),m1,fun j hj e=>?_⟩
      ·exact Below_kept q1 m2 (by omega) (fun x hx e=>by rcases e with e | e; have:=(hown4 x e).1; omega; omega)
      ·have h9:Blk w6 w.heap.size #[.string s,kv2,.slice ud i ucap] 216:=(q2.kept (ex:=fun _=>False) (((Kept.refl _ _).alloc _).alloc _).drew (fun e=>e)).kept g2 (fun e=>hnk2 e.symm)
       exact h9.set 2 _
      ·rcases e with e | e
       ·exact q5 j hj e
       ·have:=(q3.each j hj).2; omega
      ·rcases e with e | e
       ·obtain ⟨_,u1,_⟩:=q4.row
        obtain ⟨_,v1,_⟩:=q3.row
        obtain ⟨_,ad,cap',e',⟨h1,_⟩ | ⟨g,cur,h1,h2,_⟩⟩:=ownsRow_form v1
        ·rw [e',h1] at hb; cases hb
        ·rw [e',h1] at hb; cases (Option.some.inj hb:g = b); exact ownsRow_ne u1 h2 (by decide) e
       ·have:=(q3.own b hb).1; omega
      ·cases (Option.some.inj e:gg = R2 j)
       rcases g3 with e' | e'
       ·exact q5 j hj e'
       ·have:=(q3.each j hj).1.lt; omega
  ·obtain rfl:i = parts:=by omega
   have e0:decide ((i:Int) < (i:Int)) = false:=by simp
   have HF:=hide (And.intro hb (And.intro hW (And.intro hK (And.intro hU hsep))))
   clear hb hW hK hU hsep
   go_wp2_with fail
   go_ret
   obtain ⟨a1,a2,a3,a4,a5⟩:=HF.out
   exact ⟨kv,uv,R,U,rfl,a1,a2,a3,a4,a5⟩
def row120:List Bool:=List.replicate 120 false
theorem row120_len:row120.length = 120:=by simp [row120]
theorem row120_getD (a:Nat):row120.getD a false = false:=by unfold row120; rw [List.getD_eq_getElem?_getD,List.getElem?_replicate]; split <;> rfl
theorem make120 (W:World):(Instr.makeSlice 130 (.int .i64 120) (.int .i64 120)).run Tryz.prog W = .ok (.slice (some ⟨W.heap.size,0,none⟩) 120 120) (W.alloc (.cells (boolsA row120) 4)):=makeBools 120 (by omega) W
structure LexR (w:World) (xb:Nat) (rs:ByteArray) (f:Nat→Int) (rules:List MT):Prop where
 blk:∃ c rv,Blk w xb c 78∧c[0]? = some rv∧c[1]? = some (.int .i64 (partsL (ntL rules):Int))∧w.ownsRow 0 80 1 rv rules.length (ptrs (rules.map MT.root))
 prt:AtL w rs f rules
 num:NumdL f rules 0
 wf:WfL rs (ntL rules)
 rsz:rs.size ≤ 120
 psz:partsL (ntL rules) ≤ 100000
 pos:rules ≠ []
theorem LexR.below {w w':World} {xb:Nat} {rs:ByteArray} {f:Nat→Int} {rules:List MT} (h:LexR w xb rs f rules) (k:Below w.heap.size w w'):LexR w' xb rs f rules:=by
 obtain ⟨c,rv,h1,h2,h3,h4⟩:=h.blk
 exact ⟨⟨c,rv,h1.below k,h2,h3,ownsRow_kept (ex:=fun _=>False) h4 (Kept.ofBelow k) (fun _ _ e=>e)⟩,AtL.kept (ex:=fun _=>False) (Kept.ofBelow k) _ h.prt (fun _ _ e=>e),h.num,h.wf,h.rsz,h.psz,h.pos⟩
theorem LexR.cells {w:World} {xb:Nat} {rs:ByteArray} {f:Nat→Int} {rules:List MT} (h:LexR w xb rs f rules):xb < w.heap.size∧w.cell? ⟨xb,1,none⟩ = some (.int .i64 (partsL (ntL rules):Int))∧∃ g cap,w.cell? ⟨xb,0,none⟩ = some (.slice (some ⟨g,0,none⟩) rules.length cap)∧∀ i,(hi:i < rules.length)→w.cell? ⟨g,i,none⟩ = some (.pointer (some ⟨rules[i].root,0,none⟩)):=by
 obtain ⟨c,rv,h1,h2,h3,h4⟩:=h.blk
 refine ⟨h1.lt,by rw [h1.cell]; exact h3,?_⟩
 obtain ⟨_,ad,cap,rfl,⟨_,e⟩ | ⟨g,_,rfl,_⟩⟩:=ownsRow_form h4
 ·exact absurd (List.eq_nil_of_length_eq_zero e) h.pos
 ·exact ⟨g,cap,by rw [h1.cell]; exact h2,fun i hi=>by rw [ownsRow_cell h4 i (by omega)]; simp [ptrs,hi]⟩
theorem rules_sub {l:List MT} {y:MT} (h:y ∈ l):y ∈ subsL l:=subsL_mem h (MT.sub_self y)
theorem LexR.ppos {w:World} {xb:Nat} {rs:ByteArray} {f:Nat→Int} {rules:List MT} (h:LexR w xb rs f rules):0 < partsL (ntL rules):=by
 have h1:=partsL_len rules
 have h2:0 < rules.length:=List.length_pos_iff.2 h.pos
 omega
theorem memo_start {w':World} {xb:Nat} {rs s:ByteArray} {f:Nat→Int} {rules:List MT} {kv uv:Value} {R U:Nat→Nat} {h0:Nat} (h:LexR w' xb rs f rules) (hW:Blk w' h0 #[.string s,kv,uv] 216)
  (hK:MRow w' h0 131 (nilsB (s.size + 1)) 130 (s.size + 1) kv R (partsL (ntL rules))) (hU:MRow w' h0 130 (boolsA (List.replicate (s.size + 1) false)) 4 (s.size + 1) uv U (partsL (ntL rules))) (hsep:∀ j,j < partsL (ntL rules)→uv.ownBlock ≠ some (R j)) :
  ∃ c:AlC,c.ab = h0∧c.s = s∧c.rs = rs∧c.f = f∧c.rules = rules∧(∀ n,n < c.parts→h0 < c.U n∧Blk w' (c.U n) (boolsA (List.replicate c.N false)) 4)∧(∀ n,n < c.parts→h0 < c.R n)∧∀ A:Nat→Prop,(∀ n,n < c.parts→A (c.U n))→AMemo c A w':=by
 obtain ⟨vs,v1,v2,v3⟩:=hK.row
 obtain ⟨us,u1,u2,u3⟩:=hU.row
 have hpp:=h.ppos
 obtain ⟨_,kd,kcap,rfl,⟨_,e⟩ | ⟨bg,kc,rfl,hkb,_,_,_,hkt⟩⟩:=ownsRow_form v1
 ·omega
 obtain ⟨_,ud,ucap,rfl,⟨_,e⟩ | ⟨wg,uc,rfl,hub,_,_,_,hut⟩⟩:=ownsRow_form u1
 ·omega
 refine ⟨⟨h0,bg,kcap,wg,ucap,R,U,s,rs,f,rules⟩,rfl,rfl,rfl,rfl,rfl,fun n hn=>⟨(hU.each n hn).2,(hU.each n hn).1⟩,fun n hn=>(hK.each n hn).2,fun A hA=>?_⟩
 refine ⟨hW,⟨kc,hkb,fun n hn=>?_⟩,⟨uc,hub,fun n hn=>?_⟩,fun n hn=>?_,fun n hn=>⟨hA n hn,List.replicate (s.size + 1) false,by simp [AlC.N],(hU.each n hn).1⟩,hK.inj,hU.inj,fun n hn e=>hsep n hn (congrArg some (Eq.symm e)),h.prt,h.num⟩
 ·have h9:=v3 n hn
  rw [← hkt,List.getElem?_take] at h9
  rw [if_pos (by have:n < partsL (ntL rules):=hn; omega)] at h9
  have h8:kc[n]? = some (.slice (some ⟨R n,0,none⟩) (s.size + 1) (s.size + 1)):=by simpa using h9
  exact h8
 ·have h9:=u3 n hn
  rw [← hut,List.getElem?_take] at h9
  rw [if_pos (by have:n < partsL (ntL rules):=hn; omega)] at h9
  have h8:uc[n]? = some (.slice (some ⟨U n,0,none⟩) (s.size + 1) (s.size + 1)):=by simpa using h9
  exact h8
 ·refine ⟨nilsB (s.size + 1),(hK.each n hn).1,by simp [nilsB,AlC.N],fun p hp=>.inl ?_⟩
  have hp':p ≤ s.size:=hp
  simp [nilsB,show p < s.size + 1 by omega]
set_option maxRecDepth 20000 in
set_option maxHeartbeats 6400000 in
theorem refSet_any (xb:Nat) (rs s:ByteArray) (f:Nat→Int) (rules:List MT) (w:World) (h:LexR w xb rs f rules) (hs:s.size ≤ 20000) :
  Calls Tryz.prog 51 #[.pointer (some ⟨xb,0,none⟩),.string s] w fun e w'=>∃ l,e = .returned (.slice (some ⟨w.heap.size,0,none⟩) 120 120)∧l.length = 120∧(∀ a,l.getD a false = true↔∃ T ∈ rules,T.nt.PLast (bytesN s) a)∧Blk w' w.heap.size (boolsA l) 4∧Below w.heap.size w w':=by
 have hmk:=make120
 obtain ⟨w1,hw1⟩:∃ w1:World,w.alloc (.cells (boolsA row120) 4) = w1:=⟨_,rfl⟩
 have hb1:Below w.heap.size w w1:=by rw [← hw1]; exact Below1 _ _
 have hB1:Blk w1 w.heap.size (boolsA row120) 4:=by rw [← hw1]; exact Blk.new _ _ _
 have h1:=h.below hb1
 obtain ⟨zx,c1,_⟩:=h1.cells
 have HAL:=hide (along_any s (partsL (ntL rules)) w1 hs h.psz)
 have HH:=hide (And.intro h1 (And.intro hb1 hB1))
 have HL0:=hide h
 have z1:=hB1.lt
 have hpsz:=h.psz
 obtain ⟨pn,hpn⟩:∃ pn,partsL (ntL rules) = pn:=⟨_,rfl⟩
 rw [hpn] at c1 HAL
 have HPN:=hide hpn
 clear h h1 hb1 hB1 hpn hpsz
 go_enter Tryz.func51,Tryz.ntmps51
 go_upto_region 2 with fail
 try rw [hw1]
 clear hw1 hmk
 go_wp2_with fail
 refine HAL.out.mono ?_
 rintro e w2 ⟨kv,uv,R,U,rfl,hb2,hW2,hK2,hU2,hsep⟩
 obtain ⟨h1,hb1,hB1⟩:=HH.out
 rw [← HPN.out] at hK2 hU2 hsep
 have h2:=h1.below hb2
 obtain ⟨c,hab,rfl,rfl,rfl,rfl,cU,cR,cM⟩:=memo_start h2 hW2 hK2 hU2 hsep
 rw [← hab]
 have hst:LSt c (fun b=>b = w.heap.size∨∃ n,n < c.parts∧b = c.U n) w.heap.size w2 row120 (fun _=>List.replicate c.N false):=by
  refine ⟨cM _ (fun n hn=>.inr ⟨n,hn,rfl⟩),.inl rfl,fun b hb=>?_,row120_len,hB1.below hb2,fun n hn=>⟨by simp,(cU n hn).2⟩,fun n hn e=>by have:=(cU n hn).1; omega⟩
  rcases hb with e | ⟨n,hn,e⟩
  ·have:=hb2.size; omega
  ·rw [e]; exact (cU n hn).2.lt
 have hb02:Below w.heap.size w w2:=hb1.trans (hb2.mono (by omega))
 have HX:Hid (∀ W,Kept (fun b=>c.M b∨(b = w.heap.size∨∃ n,n < c.parts∧b = c.U n)) w2 W→Below w.heap.size w W):=hide (fun W k=>Below_kept hb02 k (by have:=hb2.size; omega) (fun x hx e=>by
  rcases e with ⟨n,hn,e⟩ | e | ⟨n,hn,e⟩
  ·have:=cR n hn; omega
  ·omega
  ·have:=(cU n hn).1; omega))
 have HST:=hide hst
 have HZ:=hide (And.intro hs (And.intro h1.wf (And.intro h1.rsz (And.intro h1.psz h1.num))))
 have hlen:=hide (partsL_len c.rules)
 have hpsz:=h1.psz
 have hrl:c.rules.length ≤ 100000:=by have:=hlen.out; omega
 clear hb2 hW2 hK2 hU2 hsep h2 cU cR cM hst hb02 h1 hb1 hB1 HAL HH c1 hab
 go_wp2_with fail
 go_loopg [7] c.rules.length (fun G rv wr=>∃ (r:Nat) (lo:List Bool) (wl:Nat→List Bool),rv = .int .i64 (r:Int)∧r ≤ c.rules.length∧G = c.rules.length - r∧LSt c (fun b=>b = w.heap.size∨∃ n,n < c.parts∧b = c.U n) w.heap.size wr lo wl∧WasI c wl lo 0 c.parts∧(∀ a,lo.getD a false = true↔∃ T ∈ c.rules.take r,PL c T 0 a)∧Kept (fun b=>c.M b∨(b = w.heap.size∨∃ n,n < c.parts∧b = c.U n)) w2 wr)
 case atStart =>
  have hr:∀ n q,(List.replicate n false).getD q false = false:=fun n q=>by rw [List.getD_eq_getElem?_getD,List.getElem?_replicate]; split <;> rfl
  exact ⟨0,_,_,rfl,by omega,rfl,HST.out,fun T hT id hid _ _ j hj=>absurd hj (by rw [hr]; simp),fun a=>by rw [row120_getD]; simp,Kept.refl _ _⟩
 case round =>
  obtain ⟨r,lo,wl,rfl,hr,rfl,hst,hwi,hlo,hk⟩:=hrel
  obtain ⟨zx2,_,g,cap,c0,cg⟩:=(HL0.out.below (HX.out wr hk)).cells
  by_cases hlt:r < c.rules.length
  ·have e0:decide ((r:Int) < (c.rules.length:Int)) = true:=by simp; omega
   have cr:=cg r hlt
   have r0:(0:Int) ≤ (r:Int):=by omega
   have r1:(r:Int) < (c.rules.length:Int):=by omega
   obtain ⟨hs,hwf,hrsz,hpsz',hnum⟩:=HZ.out
   obtain ⟨hkn,hkp⟩:=numd_kid hnum hlt
   rw [Nat.zero_add] at hkn
   have HLA:=hide (last_all c hs hwf hrsz hpsz' c.rules[r] (rules_sub (List.getElem_mem hlt)) _ w.heap.size wr lo wl _ 0 hkn hst (hwi.sub (Nat.zero_le _) (by unfold AlC.parts; omega)) (Nat.zero_le _))
   have HI:=hide (And.intro hst (And.intro hwi (And.intro hlo (And.intro hk hkp))))
   clear hst hwi hlo hk cg hs hwf hrsz hpsz' hnum hkn hkp
   go_wp2_with fail
   refine HLA.out.mono ?_
   rintro e w3 ⟨rfl,lo2,wl2,h1,h2,h3,h4,h5⟩
   have HR:=hide (And.intro h1 (And.intro h2 (And.intro h3 (And.intro h4 h5))))
   clear h1 h2 h3 h4 h5 HLA
   go_wp2_with fail
   go_roundg (c.rules.length - (r + 1))
   case measure=>omega
   case rel =>
    obtain ⟨h1,h2,h3,h4,h5⟩:=HR.out
    obtain ⟨a1,a2,a3,a4,a5⟩:=HI.out
    refine ⟨r + 1,lo2,wl2,by go_num,by omega,rfl,h1,a2.grow h4 (fun a ha=>(h2 a).2 (.inl ha)) h3,fun a=>?_,a4.trans h5 (fun i _ e=>e)⟩
    rw [h2 a,a3 a,show c.rules.take (r + 1) = c.rules.take r ++ [c.rules[r]] from (List.take_append_getElem hlt).symm]
    simp only [List.mem_append,List.mem_singleton]
    constructor
    ·rintro (⟨T,hT,hp⟩ | hp)
     ·exact ⟨T,.inl hT,hp⟩
     ·exact ⟨_,.inr rfl,hp⟩
    ·rintro ⟨T,hT | rfl,hp⟩
     ·exact .inl ⟨T,hT,hp⟩
     ·exact .inr hp
  ·obtain rfl:r = c.rules.length:=by omega
   have e0:decide ((c.rules.length:Int) < (c.rules.length:Int)) = false:=by simp
   have HI:=hide (And.intro hst (And.intro hlo hk))
   clear hst hwi hlo hk cg
   go_wp2_with fail
   go_ret
   obtain ⟨a1,a2,a3⟩:=HI.out
   refine ⟨lo,rfl,a1.len,fun a=>?_,a1.blk,HX.out wr a3⟩
   rw [a2 a,List.take_of_length_le (Nat.le_refl _)]
   refine ⟨fun ⟨T,hT,hp⟩=>⟨T,hT,by have:=hp.2; rwa [List.drop_zero] at this⟩,fun ⟨T,hT,hp⟩=>⟨T,hT,?_⟩⟩
   have h9:T.nt.PLast ((bytesN c.s).drop 0) a:=by rw [List.drop_zero]; exact hp
   exact ⟨PL.lt h9,h9⟩
theorem endsW_all {L:List Nat} {P:List Nat→Prop}:EndsW L P 0 L.length↔P L:=by
 unfold EndsW seg
 simp
def MTokIs (rules:List MT) (w:List Nat) (r:Int):Prop:=(r = -1∧(w = []∨∀ T ∈ rules,¬ T.nt.Word w))∨(w ≠ []∧∃ i,∃ h:i < rules.length,r = (i:Int)∧rules[i].nt.Word w∧∀ j,(hj:j < i)→¬ (rules[j]'(by omega)).nt.Word w)
theorem loop_neB (s:ByteArray):∀ n i r,s.size - i = n→r ≠ []→ByteArray.toList.loop s i r ≠ []
 | 0,i,r,h,hr=>by
  unfold ByteArray.toList.loop
  rw [if_neg (by omega)]
  simpa using hr
 |n + 1,i,r,h,hr=>by
  unfold ByteArray.toList.loop
  rw [if_pos (by omega)]
  exact loop_neB s n (i + 1) _ (by omega) (by simp)
theorem notEmptyB (s:ByteArray) (h:s.size ≠ 0):s.toList.isEmpty = false:=by
 have h2:s.toList ≠ []:=by
  unfold ByteArray.toList
  unfold ByteArray.toList.loop
  rw [if_pos (by omega)]
  exact loop_neB s _ 1 _ rfl (by simp)
 cases hh:s.toList with
 |nil=>exact absurd hh h2
 |cons a b=>rfl
theorem isEmptyB (s:ByteArray) (h:s.size = 0):s.toList.isEmpty = true:=by
 unfold ByteArray.toList
 unfold ByteArray.toList.loop
 rw [if_neg (by omega)]
 rfl
set_option maxRecDepth 20000 in
set_option maxHeartbeats 6400000 in
theorem refTok_any (xb:Nat) (rs s:ByteArray) (f:Nat→Int) (rules:List MT) (w:World) (h:LexR w xb rs f rules) (hs:s.size ≤ 20000) :
  Calls Tryz.prog 57 #[.pointer (some ⟨xb,0,none⟩),.string s] w fun e w'=>∃ r,e = .returned (.int .i64 r)∧MTokIs rules (bytesN s) r∧Below w.heap.size w w':=by
 obtain ⟨zx,c1,_⟩:=h.cells
 have HAL:=hide (along_any s (partsL (ntL rules)) w hs h.psz)
 have HL0:=hide h
 obtain ⟨pn,hpn⟩:∃ pn,partsL (ntL rules) = pn:=⟨_,rfl⟩
 rw [hpn] at c1 HAL
 have HPN:=hide hpn
 clear h hpn
 go_enter Tryz.func57,Tryz.ntmps57
 go_wp2_with fail
 refine HAL.out.mono ?_
 rintro e w2 ⟨kv,uv,R,U,rfl,hb2,hW2,hK2,hU2,hsep⟩
 have h1:=HL0.out
 rw [← HPN.out] at hK2 hU2 hsep
 have h2:=h1.below hb2
 obtain ⟨c,hab,rfl,rfl,rfl,rfl,cU,cR,cM⟩:=memo_start h2 hW2 hK2 hU2 hsep
 rw [← hab]
 have hmm:=cM (fun b=>∃ n,n < c.parts∧b = c.U n) (fun n hn=>⟨n,hn,rfl⟩)
 have HX:Hid (∀ W,Kept c.M w2 W→Below w.heap.size w W):=hide (fun W k=>Below_kept hb2 k hb2.size (fun x hx e=>by obtain ⟨n,hn,e⟩:=e; have:=cR n hn; omega))
 have HA:Hid (∀ W,Kept c.M w2 W→∀ b,(∃ n,n < c.parts∧b = c.U n)→b < W.heap.size):=hide (fun W k b hb=>by obtain ⟨n,hn,e⟩:=hb; rw [e]; exact Nat.lt_of_lt_of_le (cU n hn).2.lt k.size)
 have HM:=hide hmm
 have HZ:=hide (And.intro hs (And.intro h1.wf (And.intro h1.rsz h1.psz)))
 have hlen:=partsL_len c.rules
 have hpsz:=h1.psz
 have hrl:c.rules.length ≤ 100000:=by omega
 have hrp:0 < c.rules.length:=List.length_pos_iff.2 h1.pos
 clear hb2 hW2 hK2 hU2 hsep h2 cU cR cM hmm h1 HAL c1 hab hlen hpsz
 by_cases hz:c.s.size = 0
 ·have ez:=isEmptyB c.s hz
  have hnil:bytesN c.s = []:=List.eq_nil_of_length_eq_zero (by rw [bytesN_len]; exact hz)
  have HNL:=hide hnil
  clear hnil
  go_wp2_with fail
  go_loopg [6] 1 (fun G rv wr=>rv = .int .i64 0∧wr = w2)
  case atStart=>exact ⟨rfl,rfl⟩
  case round =>
   obtain ⟨rfl,rfl⟩:=hrel
   obtain ⟨zx2,_,g,cap,c0,cg⟩:=(HL0.out.below (HX.out wr (Kept.refl _ _))).cells
   have e0:decide ((0:Int) < (c.rules.length:Int)) = true:=by simp; omega
   clear cg
   go_wp2_with fail
   go_ret
   exact ⟨-1,rfl,.inl ⟨rfl,.inl HNL.out⟩,HX.out wr (Kept.refl _ _)⟩
 ·have ez:=notEmptyB c.s hz
  have hnn:bytesN c.s ≠ []:=fun e=>by have:=congrArg List.length e; rw [bytesN_len] at this; exact hz this
  have HNN:=hide hnn
  clear hnn
  go_wp2_with fail
  go_loopg [6] c.rules.length (fun G rv wr=>∃ r:Nat,rv = .int .i64 (r:Int)∧r ≤ c.rules.length∧G = c.rules.length - r∧AMemo c (fun b=>∃ n,n < c.parts∧b = c.U n) wr∧(∀ j,(hj:j < c.rules.length)→j < r→¬ c.rules[j].nt.Word (bytesN c.s))∧Kept c.M w2 wr)
  case atStart=>exact ⟨0,rfl,by omega,rfl,HM.out,fun j _ hj=>by omega,Kept.refl _ _⟩
  case round =>
   obtain ⟨r,rfl,hr,rfl,hm,hno,hk⟩:=hrel
   obtain ⟨zx2,_,g,cap,c0,cg⟩:=(HL0.out.below (HX.out wr hk)).cells
   by_cases hlt:r < c.rules.length
   ·have e0:decide ((r:Int) < (c.rules.length:Int)) = true:=by simp; omega
    have cr:=cg r hlt
    have r0:(0:Int) ≤ (r:Int):=by omega
    have r1:(r:Int) < (c.rules.length:Int):=by omega
    obtain ⟨hs,hwf,hrsz,hpsz'⟩:=HZ.out
    have HE:=hide (ends_all c hs hwf hrsz hpsz' c.rules[r] (rules_sub (List.getElem_mem hlt)) _ wr 0 (HA.out wr hk) hm (Nat.zero_le _))
    have HI:=hide (And.intro hm (And.intro hno hk))
    clear hm hno hk cg hs hwf hrsz hpsz'
    go_wp2_with fail
    refine HE.out.mono ?_
    rintro e w3 ⟨b,rfl,hnb,hBR,hm3,hk3⟩
    have hzN:c.s.size < c.N:=by unfold AlC.N; omega
    have cb:=hBR.cellD c.s.size (by rw [rowA_len]; exact hzN)
    have hw:(rowW (bytesN c.s) c.rules[r].nt.Word 0).getD c.s.size false = true↔c.rules[r].nt.Word (bytesN c.s):=by
     rw [rowW_getD]
     have:=endsW_all (L:=bytesN c.s) (P:=c.rules[r].nt.Word)
     rw [bytesN_len] at this
     exact this
    generalize (rowW (bytesN c.s) c.rules[r].nt.Word 0).getD c.s.size false = x at cb hw
    have q0:(0:Int) ≤ (c.s.size:Int):=by omega
    have q1:(c.s.size:Int) < (c.N:Int):=by omega
    have HR:=hide (And.intro hw (And.intro hm3 hk3))
    clear hnb hBR hm3 hk3 hw HE
    cases x with
    |true =>
     go_wp2_with fail
     go_ret
     obtain ⟨a1,a2,a3⟩:=HR.out
     obtain ⟨b1,b2,b3⟩:=HI.out
     exact ⟨(r:Int),rfl,.inr ⟨HNN.out,r,hlt,rfl,a1.1 (by simp),fun j hj=>b2 j (by omega) hj⟩,HX.out _ (b3.trans a3 (fun i _ e=>e))⟩
    |false =>
     go_wp2_with fail
     go_roundg (c.rules.length - (r + 1))
     case measure=>omega
     case rel =>
      obtain ⟨a1,a2,a3⟩:=HR.out
      obtain ⟨b1,b2,b3⟩:=HI.out
      refine ⟨r + 1,by go_num,by omega,rfl,a2,fun j hj1 hj=>?_,b3.trans a3 (fun i _ e=>e)⟩
      by_cases e:j < r
      ·exact b2 j hj1 e
      ·have:j = r:=by omega
       subst this
       exact fun h=>absurd (a1.2 h) (by simp)
   ·obtain rfl:r = c.rules.length:=by omega
    have e0:decide ((c.rules.length:Int) < (c.rules.length:Int)) = false:=by simp
    have HI:=hide (And.intro hno hk)
    clear hm hno hk cg
    go_wp2_with fail
    go_ret
    obtain ⟨b2,b3⟩:=HI.out
    refine ⟨-1,rfl,.inl ⟨rfl,.inr fun T hT hW=>?_⟩,HX.out wr b3⟩
    obtain ⟨j,hj,rfl⟩:=List.getElem_of_mem hT
    exact b2 j hj hj hW
theorem getD_ext {l m:List Bool} {n:Nat} (hl:l.length = n) (hm:m.length = n) (h:∀ q,q < n→l.getD q false = m.getD q false):l = m:=by
 refine bools_ext (hl.trans hm.symm) fun a=>?_
 by_cases ha:a < n
 ·rw [h a ha]
 ·simp only [List.getD_eq_getElem?_getD]
  rw [List.getElem?_eq_none (by omega),List.getElem?_eq_none (by omega)]
set_option maxRecDepth 20000 in
set_option maxHeartbeats 3200000 in
theorem refEqual_any (a b n c1 c2:Nat) (l m:List Bool) (w:World) (hl:Blk w a (boolsA l) 4) (hm:Blk w b (boolsA m) 4) (hln:l.length = n) (hmn:m.length = n) (hn:n ≤ 50000) :
  Calls Tryz.prog 96 #[.slice (some ⟨a,0,none⟩) n c1,.slice (some ⟨b,0,none⟩) n c2] w fun e w'=>∃ x,e = .returned (.bool x)∧(x = true↔l = m)∧Below w.heap.size w w':=by
 have HL:=hide (And.intro hl (And.intro hm (And.intro hln hmn)))
 clear hl hm hln hmn
 go_enter Tryz.func96,Tryz.ntmps96
 go_wp2_with fail
 go_loopg [5] n (fun G iv wr=>∃ i:Nat,iv = .int .i64 (i:Int)∧i ≤ n∧G = n - i∧(∀ q,q < i→l.getD q false = m.getD q false)∧Below w.heap.size w wr)
 case atStart=>exact ⟨0,rfl,by omega,rfl,fun q hq=>by omega,Below.refl _ _⟩
 case round =>
  obtain ⟨i,rfl,hi,rfl,hq,hbl⟩:=hrel
  obtain ⟨h1,h2,h3,h4⟩:=HL.out
  by_cases hlt:i < n
  ·have e0:decide ((i:Int) < (n:Int)) = true:=by simp; omega
   have k1:=boolsA_cellD (h1.below hbl) i (by omega)
   have k2:=boolsA_cellD (h2.below hbl) i (by omega)
   generalize hx:l.getD i false = x at k1
   generalize hy:m.getD i false = y at k2
   have i0:(0:Int) ≤ (i:Int):=by omega
   have i1:(i:Int) < (n:Int):=by omega
   have HI:=hide (And.intro hq (And.intro hbl (And.intro hx hy)))
   clear hq hbl hx hy h1 h2 h3 h4
   cases x <;> cases y
   all_goals
    go_upto_region 4 with fail
    go_quiet (fail)
    obtain ⟨w0,hw0⟩:∃ w0,wr.drewN nq = w0:=⟨_,rfl⟩
    have HB0:Hid (Below wr.heap.size wr w0):=hide (by rw [← hw0]; exact Below_drewN (Below.refl _ _) _)
    rw [hw0]
    clear hw0
    go_wp2_with fail
    first
    |go_ret
     obtain ⟨a1,a2,a3,a4⟩:=HI.out
     refine ⟨false,rfl,⟨fun e=>(by cases e),fun e=>?_⟩,a2.trans (HB0.out.mono a2.size)⟩
     rw [e] at a3
     rw [a3] at a4; cases a4
    |go_roundg (n - (i + 1))
     case measure=>omega
     case rel =>
      obtain ⟨a1,a2,a3,a4⟩:=HI.out
      refine ⟨i + 1,by go_num,by omega,rfl,fun q hq=>?_,a2.trans (HB0.out.mono a2.size)⟩
      by_cases e:q < i
      ·exact a1 q e
      ·rw [show q = i by omega,a3,a4]
  ·obtain rfl:i = n:=by omega
   have e0:decide ((i:Int) < (i:Int)) = false:=by simp
   have HI:=hide (And.intro hq hbl)
   clear hq hbl h1 h2 
   go_wp2_with fail
   go_ret
   obtain ⟨a1,a2⟩:=HI.out
   exact ⟨true,rfl,⟨fun _=>getD_ext h3 h4 a1,fun _=>rfl⟩,a2⟩
set_option maxRecDepth 20000 in
set_option maxHeartbeats 3200000 in
theorem refEmpty_any (a n c1:Nat) (l:List Bool) (w:World) (hl:Blk w a (boolsA l) 4) (hln:l.length = n) (hn:n ≤ 50000) :
  Calls Tryz.prog 52 #[.slice (some ⟨a,0,none⟩) n c1] w fun e w'=>∃ x,e = .returned (.bool x)∧(x = true↔∀ q,l.getD q false = false)∧Below w.heap.size w w':=by
 have HL:=hide (And.intro hl hln)
 clear hl hln
 go_enter Tryz.func52,Tryz.ntmps52
 go_wp2_with fail
 go_loopg [3] n (fun G iv wr=>∃ i:Nat,iv = .int .i64 (i:Int)∧i ≤ n∧G = n - i∧(∀ q,q < i→l.getD q false = false)∧Below w.heap.size w wr)
 case atStart=>exact ⟨0,rfl,by omega,rfl,fun q hq=>by omega,Below.refl _ _⟩
 case round =>
  obtain ⟨i,rfl,hi,rfl,hq,hbl⟩:=hrel
  obtain ⟨h1,h3⟩:=HL.out
  by_cases hlt:i < n
  ·have e0:decide ((i:Int) < (n:Int)) = true:=by simp; omega
   have k1:=boolsA_cellD (h1.below hbl) i (by omega)
   generalize hx:l.getD i false = x at k1
   have i0:(0:Int) ≤ (i:Int):=by omega
   have i1:(i:Int) < (n:Int):=by omega
   have HI:=hide (And.intro hq (And.intro hbl hx))
   clear hq hbl hx h1 h3
   cases x with
   |true =>
    go_wp2_with fail
    go_ret
    obtain ⟨a1,a2,a3⟩:=HI.out
    refine ⟨false,rfl,⟨fun e=>(by cases e),fun e=>?_⟩,a2⟩
    rw [e i] at a3; cases a3
   |false =>
    go_wp2_with fail
    go_roundg (n - (i + 1))
    case measure=>omega
    case rel =>
     obtain ⟨a1,a2,a3⟩:=HI.out
     refine ⟨i + 1,by go_num,by omega,rfl,fun q hq=>?_,a2⟩
     by_cases e:q < i
     ·exact a1 q e
     ·rw [show q = i by omega,a3]
  ·obtain rfl:i = n:=by omega
   have e0:decide ((i:Int) < (i:Int)) = false:=by simp
   have HI:=hide (And.intro hq hbl)
   clear hq hbl h1
   go_wp2_with fail
   go_ret
   obtain ⟨a1,a2⟩:=HI.out
   refine ⟨true,rfl,⟨fun _ q=>?_,fun _=>rfl⟩,a2⟩
   by_cases e:q < i
   ·exact a1 q e
   ·rw [List.getD_eq_getElem?_getD,List.getElem?_eq_none (by omega)]; rfl
def slV (N b:Nat):Value:=.slice (some ⟨b,0,none⟩) N N
structure BSets (w:World) (sv:Value) (S:List (Nat × List Bool)):Prop where
 row:w.ownsRow 0 130 1 sv S.length (S.map (fun p=>slV 120 p.1))
 each:∀ p ∈ S,Blk w p.1 (boolsA p.2) 4∧p.2.length = 120
structure ITos (w:World) (ov:Value) (To:List (Nat × List Int)):Prop where
 row:w.ownsRow 0 60 1 ov To.length (To.map (fun p=>slV 256 p.1))
 each:∀ p ∈ To,Blk w p.1 (intsA p.2) 3∧p.2.length = 256
structure FoundAt (w:World) (lo fb:Nat) (tv sv ov:Value) (T:List ByteArray) (S:List (Nat × List Bool)) (To:List (Nat × List Int)):Prop where
 blk:Blk w fb #[tv,sv,ov] 133
 txt:w.ownsRow 0 9 1 tv T.length (T.map Value.string)
 sets:BSets w sv S
 tos:ITos w ov To
 own:lo ≤ fb∧(∀ b,tv.ownBlock = some b→lo ≤ b)∧(∀ b,sv.ownBlock = some b→lo ≤ b)∧(∀ b,ov.ownBlock = some b→lo ≤ b)
theorem FoundAt.below {w w':World} {lo fb:Nat} {tv sv ov:Value} {T:List ByteArray} {S:List (Nat × List Bool)} {To:List (Nat × List Int)} (h:FoundAt w lo fb tv sv ov T S To) (k:Below w.heap.size w w'):FoundAt w' lo fb tv sv ov T S To :=
 ⟨h.blk.below k,ownsRow_kept (ex:=fun _=>False) h.txt (Kept.ofBelow k) (fun _ _ e=>e),⟨ownsRow_kept (ex:=fun _=>False) h.sets.row (Kept.ofBelow k) (fun _ _ e=>e),fun p hp=>⟨(h.sets.each p hp).1.below k,(h.sets.each p hp).2⟩⟩,⟨ownsRow_kept (ex:=fun _=>False) h.tos.row (Kept.ofBelow k) (fun _ _ e=>e),fun p hp=>⟨(h.tos.each p hp).1.below k,(h.tos.each p hp).2⟩⟩,h.own⟩
def AtIs (S:List (Nat × List Bool)) (m:List Bool) (r:Int):Prop:=(r = -1∧∀ i,(h:i < S.length)→0 < i→S[i].2 ≠ m)∨∃ i,∃ h:i < S.length,0 < i∧r = (i:Int)∧S[i].2 = m
set_option maxRecDepth 20000 in
set_option maxHeartbeats 3200000 in
theorem refAt_any (fb b lo:Nat) (tv sv ov:Value) (T:List ByteArray) (S:List (Nat × List Bool)) (To:List (Nat × List Int)) (m:List Bool) (w:World) (h:FoundAt w lo fb tv sv ov T S To) (hm:Blk w b (boolsA m) 4) (hmn:m.length = 120) (hS:S.length ≤ 100) :
  Calls Tryz.prog 53 #[.pointer (some ⟨fb,0,none⟩),slV 120 b] w fun e w'=>∃ r,e = .returned (.int .i64 r)∧AtIs S m r∧Below w.heap.size w w':=by
 have HL:=hide (And.intro h (And.intro hm hmn))
 clear h hm hmn
 unfold slV
 go_enter Tryz.func53,Tryz.ntmps53
 go_wp2_with fail
 go_loopg [5] 99 (fun G iv wr=>∃ i:Nat,iv = .int .i64 (i:Int)∧0 < i∧G = 100 - i∧(∀ j,(hj:j < S.length)→0 < j→j < i→S[j].2 ≠ m)∧Below w.heap.size w wr)
 case atStart=>exact ⟨1,rfl,by omega,rfl,fun j hj h0 h1=>by omega,Below.refl _ _⟩
 case round =>
  obtain ⟨i,rfl,hi,rfl,hq,hbl⟩:=hrel
  obtain ⟨h1,h2,h3⟩:=HL.out
  have h1':=h1.below hbl
  have hrow:=h1'.sets.row
  obtain ⟨_,sd,scap,rfl,hform⟩:=ownsRow_form hrow
  have c1:wr.cell? ⟨fb,1,none⟩ = some (.slice sd S.length scap):=h1'.blk.cell 1
  by_cases hlt:i < S.length
  ·have e0:decide ((i:Int) < (S.length:Int)) = true:=by simp; omega
   rcases hform with ⟨_,e⟩ | ⟨sg,sc,rfl,hsb,_⟩
   ·omega
   have cg:wr.cell? ⟨sg,i,none⟩ = some (.slice (some ⟨S[i].1,0,none⟩) 120 120):=by rw [ownsRow_cell hrow i (by omega)]; simp [slV,hlt]
   obtain ⟨k1,k2⟩:=h1'.sets.each S[i] (List.getElem_mem hlt)
   have HE:=hide (refEqual_any S[i].1 b 120 120 120 S[i].2 m wr k1 (h2.below hbl) k2 h3 (by omega))
   have i0:(0:Int) ≤ (i:Int):=by omega
   have i1:(i:Int) < (S.length:Int):=by omega
   have HI:=hide (And.intro hq hbl)
   clear hq hbl h1 h2 h3 h1' hrow hsb k1 k2
   go_wp2_with fail
   refine HE.out.mono ?_
   rintro e w1 ⟨x,rfl,hx,hb1⟩
   have HX:=hide (And.intro hx hb1)
   clear hx hb1 HE
   cases x with
   |true =>
    go_wp2_with fail
    go_ret
    obtain ⟨a1,a2⟩:=HI.out
    obtain ⟨b1,b2⟩:=HX.out
    exact ⟨(i:Int),rfl,.inr ⟨i,hlt,hi,rfl,b1.1 (by simp)⟩,a2.trans (b2.mono a2.size)⟩
   |false =>
    go_wp2_with fail
    go_roundg (100 - (i + 1))
    case measure=>omega
    case rel =>
     obtain ⟨a1,a2⟩:=HI.out
     obtain ⟨b1,b2⟩:=HX.out
     refine ⟨i + 1,by go_num,by omega,rfl,fun j hj h0 hji=>?_,a2.trans (b2.mono a2.size)⟩
     by_cases e:j < i
     ·exact a1 j hj h0 e
     ·have:j = i:=by omega
      subst this
      exact fun e=>by have:=b1.2 e; cases this
  ·have e0:decide ((i:Int) < (S.length:Int)) = false:=by simp; omega
   have HI:=hide (And.intro hq hbl)
   clear hq hbl h1 h2 h3 h1' hrow hform
   go_wp2_with fail
   go_ret
   obtain ⟨a1,a2⟩:=HI.out
   exact ⟨-1,rfl,.inl ⟨rfl,fun j hj h0=>a1 j hj h0 (by omega)⟩,a2⟩
end Go.Proofs.YtcckhngbdoiikaaGreat
