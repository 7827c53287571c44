import Derived.Test.YtcckhngbdoiikaaGreatG07
import Derived.Test.YtcckhngbdoiikaaGreatG02
import Derived.Test.YtcckhngbdoiikaaGreatG08
import Derived.Deep.WholeRow
import Derived.Deep.LoopGhost

namespace Go.Proofs.YtcckhngbdoiikaaGreat
open Go.RowKit Go.Deep
set_option linter.unusedVariables false
def boolsC (A:Nat→Bool):Array Value:=(Array.range 256).map (fun i=>.bool (A i))
theorem boolsC_size (A:Nat→Bool):(boolsC A).size = 256:=by simp [boolsC]
theorem boolsC_get (A:Nat→Bool) (i:Nat) (h:i < 256):(boolsC A)[i]? = some (.bool (A i)):=by
 simp [boolsC,h]
theorem boolsC_one (A:Nat→Bool):(boolsC A).all (·.oneCell') = true:=by
 rw [Array.all_eq_true_iff_forall_mem]
 intro v hv
 simp [boolsC] at hv
 obtain ⟨i,_,rfl⟩:=hv
 rfl
theorem boolsC_set (A:Nat→Bool) (i:Nat) (v:Bool) (h:i < 256):(boolsC A).setIfInBounds i (.bool v) = boolsC (fun j=>if j = i then v else A j):=by
 apply Array.ext_getElem?
 intro j
 rw [Array.getElem?_setIfInBounds]
 by_cases hj:j < 256
 ·rw [boolsC_get _ j hj]
  by_cases e:i = j
  ·subst e; rw [if_pos rfl,if_pos (by rw [boolsC_size]; exact h),boolsC_get _ _ h,if_pos rfl]
  ·rw [if_neg e,boolsC_get _ j hj,if_neg (fun e'=>e e'.symm)]
 ·rw [Array.getElem?_eq_none (by rw [boolsC_size]; omega:(boolsC _).size ≤ j)]
  by_cases e:i = j
  ·omega
  ·rw [if_neg e,Array.getElem?_eq_none (by rw [boolsC_size]; omega)]
theorem boolsC_congr {A B:Nat→Bool} (h:∀ i,i < 256→A i = B i):boolsC A = boolsC B:=by
 unfold boolsC
 apply Array.ext_getElem?
 intro j
 simp only [Array.getElem?_map]
 by_cases hj:j < 256
 ·simp [hj,h j hj]
 ·simp [hj]
theorem zeroBools:Tryz.zeroCells228 = boolsC noneF:=by kernel_rfl
theorem Tryz.infoB:(Tryz.prog.info? 228).map (·.size) = some 256:=by kernel_rfl
theorem range_stay (A:Nat→Bool) (lo hi:Int) (k:Nat) (h:¬ (lo ≤ (k:Int)∧(k:Int) ≤ hi)) :
  boolsC (fun b=>A b || (decide (b < k) && (decide (lo ≤ (b:Int)) && decide ((b:Int) ≤ hi)))) = boolsC (fun b=>A b || (decide (b < k + 1) && (decide (lo ≤ (b:Int)) && decide ((b:Int) ≤ hi)))):=by
 apply boolsC_congr
 intro i _
 by_cases e:i = k
 ·subst e
  have:(decide (lo ≤ (i:Int)) && decide ((i:Int) ≤ hi)) = false:=by
   rw [Bool.eq_false_iff]; simp; omega
  simp [this]
 ·have:decide (i < k + 1) = decide (i < k):=by congr 1; simp; omega
  rw [this]
theorem range_step (A:Nat→Bool) (lo hi:Int) (k:Nat) (hk:k < 256) (h1:lo ≤ (k:Int)) (h2:(k:Int) ≤ hi) :
  (boolsC (fun b=>A b || (decide (b < k) && (decide (lo ≤ (b:Int)) && decide ((b:Int) ≤ hi))))).setIfInBounds k (.bool true) = boolsC (fun b=>A b || (decide (b < k + 1) && (decide (lo ≤ (b:Int)) && decide ((b:Int) ≤ hi)))):=by
 rw [boolsC_set _ _ _ hk]
 apply boolsC_congr
 intro i _
 by_cases e:i = k
 ·subst e
  simp [h1,h2]
 ·have:decide (i < k + 1) = decide (i < k):=by congr 1; simp; omega
  rw [this,if_neg e]
theorem range_all (A:Nat→Bool) (lo hi:Int) (k:Nat) (hk:256 ≤ k) :
  boolsC (fun b=>A b || (decide (b < k) && (decide (lo ≤ (b:Int)) && decide ((b:Int) ≤ hi)))) = boolsC (rangeF A lo hi):=by
 apply boolsC_congr
 intro i hi'
 have:decide (i < k) = true:=by simp; omega
 simp [this,rangeF]
set_option maxHeartbeats 400000 in
theorem withRange_any (A:Nat→Bool) (lo hi:Int) (w:World) :
  Calls Tryz.prog 152 #[.agg (boolsC A),.int .i64 lo,.int .i64 hi] w fun e w'=>e = .returned (.agg (boolsC (rangeF A lo hi)))∧Below w.heap.size w w':=by
 go_enter Tryz.func152,Tryz.ntmps152
 go_wp2_with fail
 go_loopg [8] 256 (fun g i wr=>∃ k:Nat,k ≤ 256∧g = 256 - k∧i = .int .i64 (k:Int)∧Below w.heap.size w wr∧wr.heap.size = w.heap.size + 2 ∧
  Blk wr w.heap.size (boolsC (fun b=>A b || (decide (b < k) && (decide (lo ≤ (b:Int)) && decide ((b:Int) ≤ hi))))) 228 ∧
  Blk wr (w.heap.size + 1) Tryz.zeroCells228 228)
 case atStart =>
  refine ⟨0,by omega,rfl,rfl,Below2 _ _ _,by simp,?_,?_⟩
  ·have e0:boolsC (fun b=>A b || (decide (b < 0) && (decide (lo ≤ (b:Int)) && decide ((b:Int) ≤ hi)))) = boolsC A:=boolsC_congr (fun i _=>by simp)
   exact e0 ▸ (Blk.new w (boolsC A) 228).alloc _
  ·have:=Blk.new (w.alloc (.cells (boolsC A) 228)) Tryz.zeroCells228 228
   simpa using this
 case round =>
  obtain ⟨k,hk,rfl,rfl,hb,hsz,hA,hZ⟩:=hrel
  by_cases hlt:k < 256
  ·obtain ⟨v,ck⟩:∃ v,wr.cell? ⟨w.heap.size,k,none⟩ = some (.bool v):=⟨_,(hA.cell k).trans (boolsC_get _ k hlt)⟩
   have fk:=hA.frozen k
   have HH:Hid (Below w.heap.size w wr∧wr.heap.size = w.heap.size + 2 ∧
    Blk wr w.heap.size (boolsC (fun b=>A b || (decide (b < k) && (decide (lo ≤ (b:Int)) && decide ((b:Int) ≤ hi))))) 228 ∧
    Blk wr (w.heap.size + 1) Tryz.zeroCells228 228):=⟨hb,hsz,hA,hZ⟩
   clear hb hsz hA hZ
   by_cases h1:lo ≤ (k:Int) <;> by_cases h2:(k:Int) ≤ hi
   all_goals
    have e0:decide ((k:Int) < 256) = true:=by simp; omega
    go_wp2_with fail
    go_roundg (256 - (k + 1))
    case measure=>omega
    case rel =>
     obtain ⟨hb,hsz,hA,hZ⟩:=HH.out
     refine ⟨k + 1,by omega,rfl,by go_num,?_⟩
     first
     |exact ⟨hb,hsz,by rw [← range_stay A lo hi k (by omega)]; exact hA,hZ⟩
     |exact ⟨hb.setCell (Nat.le_refl _) _,by simp [hsz],by rw [← range_step A lo hi k hlt h1 h2]; exact hA.set k _,hZ.setOther (by simp) _⟩
  ·have e0:decide ((k:Int) < 256) = false:=by simp; omega
   go_wp2_with (first | refine wpList_load_row rfl 228 (.tmp 3) rfl w.heap.size rfl 228 _ (0,0) _ hA Tryz.underlying228 rfl (by rw [boolsC_size]; exact Tryz.infoB) ?_ | refine wpList_store_row rfl 228 (.tmp 6) (.tmp 22) rfl (w.heap.size + 1) _ rfl rfl 228 _ hZ (by rw [boolsC_size]; exact Tryz.infoB) (by rw [boolsC_size]; exact Tryz.zeroCells228_size) (boolsC_one _) ?_)
   have e1:=range_all A lo hi k (by omega)
   rw [← e1]
   exact bodyPost_ret (results_cell_row Tryz.results152 _ _ (w.heap.size + 1) 228 _ (0,0) _ rfl (hZ.setRow _) Tryz.underlying228 rfl (by rw [boolsC_size]; exact Tryz.infoB)) rfl ⟨rfl,Below_setRow hb (by omega) _⟩
theorem load256 {A:Nat→Bool} {ops:Array Oper} {rest:List Oper} {o:Oper} {a:Act} {w:World} {Q:Exit→Act→World→Prop} (hgd:o.guard = none) (x:Operand) (ho:o.op = .load 228 x)
  (g:Nat) (hx:a.eval x = .pointer (some ⟨g,0,none⟩)) (hb:Blk w g (boolsC A) 228)
  (h:wpList Tryz.prog ops Q rest (a.put o.dst (.agg (boolsC A))) w):wpList Tryz.prog ops Q (o :: rest) a w :=
 wpList_load_row hgd 228 x ho g hx 228 _ (0,0) _ hb Tryz.underlying228 rfl (by rw [boolsC_size]; exact Tryz.infoB) h
theorem store256 {A:Nat→Bool} {ops:Array Oper} {rest:List Oper} {o:Oper} {a:Act} {w:World} {Q:Exit→Act→World→Prop} (hgd:o.guard = none) (x y:Operand) (ho:o.op = .store 228 x y)
  (g:Nat) (hx:a.eval x = .pointer (some ⟨g,0,none⟩)) (hy:a.eval y = .agg (boolsC A)) {old:Array Value} (hb:Blk w g old 228) (hold:old.size = 256)
  (h:wpList Tryz.prog ops Q rest (a.put o.dst undef) (w.setRow g (boolsC A))):wpList Tryz.prog ops Q (o :: rest) a w :=
 wpList_store_row hgd 228 x y ho g _ hx hy 228 _ hb (by rw [boolsC_size]; exact Tryz.infoB) (by rw [boolsC_size]; exact hold) (boolsC_one _) h
theorem store256z {ops:Array Oper} {rest:List Oper} {o:Oper} {a:Act} {w:World} {Q:Exit→Act→World→Prop} (hgd:o.guard = none) (x y:Operand) (ho:o.op = .store 228 x y)
  (g:Nat) (hx:a.eval x = .pointer (some ⟨g,0,none⟩)) (hy:a.eval y = .agg Tryz.zeroCells228) {old:Array Value} (hb:Blk w g old 228) (hold:old.size = 256)
  (h:wpList Tryz.prog ops Q rest (a.put o.dst undef) (w.setRow g (boolsC noneF))):wpList Tryz.prog ops Q (o :: rest) a w :=
 store256 hgd x y ho g hx (by rw [hy,zeroBools]) hb hold h
theorem zero256:Tryz.zeroCells228.size = 256:=Tryz.zeroCells228_size
theorem results_cell_tmp {P:Program} {fn:Func} {p q:Tmp} {ty:TypeId} (h:fn.results = #[.cell p ty,.tmp q]) (tmps:Array Value) (w:World) (g:Nat) (t:TypeId) (cs:Array Value) (fr:Nat × Nat) (d:TypeDesc)
  (hp:tmps.getD p undef = .pointer (some ⟨g,0,none⟩)) (hg:w.heap[g]? = some (.cells cs t fr))
  (hu:P.underlying ty = some d) (hd:(match d with | .struct _ | .array _ _=>true | _=>false) = true) (hi:(P.info? ty).map (·.size) = some cs.size) :
  (results fn tmps).run P w = .ok (.tuple #[.agg cs,tmps.getD q undef]) w:=by
 have hp':tmps[p]?.getD undef = .pointer (some ⟨g,0,none⟩):=by simpa using hp
 simp [results,h,hp',asAddr,run_loadVar_row w g t ty cs fr d hg hu hd hi]
theorem but_step (A:Nat→Bool) (k:Nat) (hk:k < 256) :
  (boolsC (fun b=>if b < k then !A b else A b)).setIfInBounds k (.bool !A k) = boolsC (fun b=>if b < k + 1 then !A b else A b):=by
 rw [boolsC_set _ _ _ hk]
 apply boolsC_congr
 intro i _
 by_cases e:i = k
 ·subst e; simp
 ·by_cases h:i < k
  ·simp [e,h,show i < k + 1 by omega]
  ·simp [e,h,show ¬ i < k + 1 by omega]
theorem but_all (A:Nat→Bool) (k:Nat) (hk:256 ≤ k):boolsC (fun b=>if b < k then !A b else A b) = boolsC (butF A):=by
 apply boolsC_congr
 intro i hi'
 simp [show i < k by omega,butF]
set_option maxHeartbeats 400000 in
theorem allBut_any (A:Nat→Bool) (w:World) :
  Calls Tryz.prog 149 #[.agg (boolsC A)] w fun e w'=>e = .returned (.agg (boolsC (butF A)))∧Below w.heap.size w w':=by
 go_enter Tryz.func149,Tryz.ntmps149
 go_wp2_with fail
 go_loopg [4] 256 (fun g i wr=>∃ k:Nat,k ≤ 256∧g = 256 - k∧i = .int .i64 (k:Int)∧Below w.heap.size w wr∧wr.heap.size = w.heap.size + 2 ∧
  Blk wr w.heap.size (boolsC (fun b=>if b < k then !A b else A b)) 228 ∧
  Blk wr (w.heap.size + 1) Tryz.zeroCells228 228)
 case atStart =>
  refine ⟨0,by omega,rfl,rfl,Below2 _ _ _,by simp,?_,?_⟩
  ·have e0:boolsC (fun b=>if b < 0 then !A b else A b) = boolsC A:=boolsC_congr (fun i _=>by simp)
   exact e0 ▸ (Blk.new w (boolsC A) 228).alloc _
  ·have:=Blk.new (w.alloc (.cells (boolsC A) 228)) Tryz.zeroCells228 228
   simpa using this
 case round =>
  obtain ⟨k,hk,rfl,rfl,hb,hsz,hA,hZ⟩:=hrel
  by_cases hlt:k < 256
  ·have ck:wr.cell? ⟨w.heap.size,k,none⟩ = some (.bool (A k)):=by rw [hA.cell k,boolsC_get _ k hlt]; simp
   have fk:=hA.frozen k
   have HH:Hid (Below w.heap.size w wr∧wr.heap.size = w.heap.size + 2 ∧
    Blk wr w.heap.size (boolsC (fun b=>if b < k then !A b else A b)) 228 ∧
    Blk wr (w.heap.size + 1) Tryz.zeroCells228 228):=⟨hb,hsz,hA,hZ⟩
   clear hb hsz hA hZ
   have e0:decide ((k:Int) < 256) = true:=by simp; omega
   go_wp2_with fail
   go_roundg (256 - (k + 1))
   case measure=>omega
   case rel =>
    obtain ⟨hb,hsz,hA,hZ⟩:=HH.out
    exact ⟨k + 1,by omega,rfl,by go_num,hb.setCell (Nat.le_refl _) _,by simp [hsz],by rw [← but_step A k hlt]; exact hA.set k _,hZ.setOther (by simp) _⟩
  ·have e0:decide ((k:Int) < 256) = false:=by simp; omega
   go_wp2_with (first | refine wpList_load_row rfl 228 (.tmp 1) rfl w.heap.size rfl 228 _ (0,0) _ hA Tryz.underlying228 rfl (by rw [boolsC_size]; exact Tryz.infoB) ?_ | refine wpList_store_row rfl 228 (.tmp 2) (.tmp 14) rfl (w.heap.size + 1) _ rfl rfl 228 _ hZ (by rw [boolsC_size]; exact Tryz.infoB) (by rw [boolsC_size]; exact Tryz.zeroCells228_size) (boolsC_one _) ?_)
   have e1:=but_all A k (by omega)
   rw [← e1]
   exact bodyPost_ret (results_cell_row Tryz.results149 _ _ (w.heap.size + 1) 228 _ (0,0) _ rfl (hZ.setRow _) Tryz.underlying228 rfl (by rw [boolsC_size]; exact Tryz.infoB)) rfl ⟨rfl,Below_setRow hb (by omega) _⟩
end Go.Proofs.YtcckhngbdoiikaaGreat
