import Derived.Test.YtcckhngbdoiikaaGreatG47
import Derived.Lib.AppendStr
import Derived.Deep.AppendLies

namespace Go.Proofs.YtcckhngbdoiikaaGreat
open Go.RowKit Go.Deep
set_option linter.unusedVariables false
theorem loop_ne (s:ByteArray):∀ (n i:Nat) (r:List UInt8),s.size - i = n→r ≠ []→ByteArray.toList.loop s i r ≠ []
 | 0,i,r,h,hr=>by
  unfold ByteArray.toList.loop
  rw [if_neg (by omega)]
  simpa using hr
 |n + 1,i,r,h,hr=>by
  unfold ByteArray.toList.loop
  rw [if_pos (by omega)]
  exact loop_ne s n (i + 1) _ (by omega) (by simp)
theorem notEmpty (s:ByteArray) (h:s.size ≠ 0):s.toList.isEmpty = false:=by
 have h2:s.toList ≠ []:=by
  unfold ByteArray.toList
  unfold ByteArray.toList.loop
  rw [if_pos (by omega)]
  exact loop_ne s _ 1 _ rfl (by simp)
 cases hh:s.toList with
 |nil=>exact absurd hh h2
 |cons a b=>rfl
end Go.Proofs.YtcckhngbdoiikaaGreat
