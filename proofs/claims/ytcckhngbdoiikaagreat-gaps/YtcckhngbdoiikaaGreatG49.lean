import Derived.Test.YtcckhngbdoiikaaGreatG46
import Derived.Test.YtcckhngbdoiikaaGreatG48
import Derived.Deep.RegionWith
import Derived.BigRegion

namespace Go.Proofs.YtcckhngbdoiikaaGreat
open Go.RowKit Go.Deep
set_option linter.unusedVariables false
structure LexFit (kd:Nat→Nat) (g:Graph):Prop where
 ok:LexOk kd g
 into:StepsIn kd g
 few:g.rule.length ≤ 61
 pos:0 < g.rule.length
set_option maxRecDepth 20000 in
set_option maxHeartbeats 1600000 in
theorem gap_any (pb:Nat) (kd:Nat→Nat) (g:Graph) (w:World) (h:LexAt w pb kd g) (hf:LexFit kd g) :
  Calls Tryz.prog 14 #[.pointer (some ⟨pb,0,none⟩)] w fun e w'=>e = .returned (gapV (gapOf kd g))∧Below w.heap.size w w':=by
 have HF:=hide (fun (W:World) (hb:Below w.heap.size w W)=>gapFind_any pb kd g W (h.below hb) hf.ok hf.into (by have:=hf.few; omega) hf.pos)
 clear h hf
 generalize gapOf kd g = X at HF
 go_enter Tryz.func14,Tryz.ntmps14
 go_wp2_with fail
 refine (HF.out _ (Below1 _ _)).mono ?_
 rintro e w1 ⟨rfl,hb1⟩
 have HB1:Hid (Below w.heap.size w w1∧Blk w1 w.heap.size gap0 42):=⟨(Below1 _ _).trans (hb1.mono (by simp)),(Blk.new _ _ _).below hb1⟩
 clear hb1
 go_wp2_with (first | refine storeGap (x:=X) rfl (.tmp 2) (.tmp 6) rfl w.heap.size rfl rfl HB1.out.2 rfl ?_)
 exact bodyPost_ret (results_cell_row Tryz.results14 _ _ w.heap.size 42 (gapC X) (0,0) _ rfl (HB1.out.2.setRow _) Tryz.underlying42 rfl Tryz.infoGap) rfl ⟨rfl,Below_setRow HB1.out.1 (Nat.le_refl _) _⟩
end Go.Proofs.YtcckhngbdoiikaaGreat
