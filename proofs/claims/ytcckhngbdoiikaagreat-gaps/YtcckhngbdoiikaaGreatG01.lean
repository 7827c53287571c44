import Derived.Test.YtcckhngbdoiikaaGreatRows
import Derived.ProofKit
import Derived.OpenShut
import Derived.JoinedCond

namespace Go.Proofs.YtcckhngbdoiikaaGreat
open Go.ChangeShapes Go.WideShapes Go.ChangeAt Go.RowKit
set_option linter.unusedVariables false
theorem Tryz.ownK:ownKnob Tryz.prog.godebug = none:=by kernel_rfl
theorem post_noneK {H:Type} {enc:TypeId × Value→H} {P:Program} {f:Func} {s:ChangeSpec} {apart fresh handsOn again:Bool} {W W':World} {args:Array Value} {v:Value} {ds gs:List (DataW H)}
  (hW:DataW.Whole enc P f.params.toList s.vars apart W args.toList ds gs [])
  (hr:∀ (b:Nat) (sp:Nat→Bool) (hd:Bool),DataW.TrodAll enc P W' b sp hd f.resultTypes.toList (v.resultList f.resultTypes.size) (s.fn H (ds ++ gs)).results [])
  (ha:∀ sp:Nat→Bool,DataW.TrodAll enc P W' 0 sp true f.params.toList args.toList (s.fn H (ds ++ gs)).args [])
  (hv:∀ sp:Nat→Bool,DataW.TrodVars enc P W' sp s.vars (s.fn H (ds ++ gs)).vars []) (hk:W.keptBut W' (· ∈ ([]:List MemPlace)))
  (hok:∀ (j:Nat) (t:TypeId) (r:Value),f.resultTypes[j]? = some t→(v.resultList f.resultTypes.size)[j]? = some r→Value.okWide P W' .any 0 t r) :
  s.post enc P f apart fresh handsOn again W args v W' :=
 ⟨ds,gs,[],[],[],[],hW,hr _ _ _,ha _,hv _,World.keptBut_mono (fun p hp=>absurd hp (by simp)) hk,fun _ =>
  ⟨hok,_,_,[],⟨[],[],trodAll_append (ha _) (hr _ _ _),hv _,rfl,fun b off hp=>absurd hp (by simp),fun _=>List.nodup_nil⟩,fun p hp _=>absurd hp (by simp)⟩⟩
end Go.Proofs.YtcckhngbdoiikaaGreat
