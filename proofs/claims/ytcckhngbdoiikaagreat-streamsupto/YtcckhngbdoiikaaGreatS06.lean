import Derived.Test.YtcckhngbdoiikaaGreatS02
import Derived.Test.YtcckhngbdoiikaaGreatChecked
import Derived.WalkSpells
import Derived.WalkLawsBesides
set_option maxRecDepth 20000
set_option maxHeartbeats 12800000
set_option linter.unusedVariables false
namespace Go.Proofs.YtcckhngbdoiikaaGreat
open Go.RowKit
abbrev Jg(s:I0):Value:=.agg #[.int .u64 (s.lo.toNat:Int),.int .u64 (s.hi.toNat:Int)]
abbrev E5(s:I0):Array Value:=#[.int .u64 (s.lo.toNat:Int),.int .u64 (s.hi.toNat:Int)]
theorem Tv(w:World)(a b c:Obj):Bw w (((w.alloc a).alloc b).alloc c):=
 (((Below.refl _ _).alloc (zD _) _).alloc (by simp) _).alloc (by simp;omega) _
theorem Z5(w:World)(a b:Obj):Bw w ((w.alloc a).alloc b):=
 ((Below.refl _ _).alloc (zD _) _).alloc (by simp) _
theorem P0(w:World)(a:Obj):Bw w (w.alloc a):=(Below.refl _ _).alloc (zD _) _
theorem Ci(s t:I0)(w:World):Calls Tryz.prog 120 #[Jg s,Jg t] w fun e w'=>
  e=.returned (Jg (s.or t))/\Bw w w':=by
 go_enter Tryz.func120,Tryz.ntmps120
 go_wp2
 refine bodyPost_ret (v:=Jg (s.or t)) (by simp[results,Tryz.results120,go_sem,NP,I0.or]) rfl ⟨rfl,?_⟩;exact Tv _ _ _ _
theorem BX(s t:I0)(w:World):Calls Tryz.prog 85 #[Jg s,Jg t] w fun e w'=>
  e=.returned (Jg (s.and t))/\Bw w w':=by
 go_enter Tryz.func85,Tryz.ntmps85
 go_wp2
 refine bodyPost_ret (v:=Jg (s.and t)) (by simp[results,Tryz.results85,go_sem,Ho,I0.and]) rfl ⟨rfl,?_⟩;exact Tv _ _ _ _
theorem Lk(a:BitVec 64):((a.toNat:Int)==0)=(a==0):=by
 rw[Bool.eq_iff_iff];simp[BitVec.toNat_eq]
theorem CB(s:I0)(w:World):Calls Tryz.prog 121 #[Jg s] w fun e w'=>
  e=.returned (.bool s.isEmpty)/\Bw w w':=by
 unfold I0.isEmpty;rw[<-Lk,<-Lk];cases h1:((s.lo.toNat:Int)==0) <;>cases h2:((s.hi.toNat:Int)==0) <;>
 ·go_enter Tryz.func121,Tryz.ntmps121
  go_wp2
  go_ret;exact⟨rfl,P0 _ _⟩
theorem VB(s t:I0)(w:World):Calls Tryz.prog 122 #[Jg s,Jg t] w fun e w'=>
  e=.returned (.bool (s.cK t))/\Bw w w':=by
 unfold I0.cK;rw[<-Lk,<-Lk,<-Ho,<-Ho];generalize D:bits .and .u64 (s.lo.toNat:Int) (t.lo.toNat:Int)=A;generalize G:bits .and .u64 (s.hi.toNat:Int) (t.hi.toNat:Int)=B;cases h1:(A==0) <;>cases h2:(B==0) <;>
 ·have f:(A !=0)=!(A==0):=rfl;have h:(B !=0)=!(B==0):=rfl;rw[h1]at f;rw[h2]at h;go_enter Tryz.func122,Tryz.ntmps122
  go_wp2
  go_ret;exact⟨rfl,Z5 _ _ _⟩
theorem ZJ(p:Nat):IntKind.u64.wrap ((2:Int) ^ p)=(((1#64<<<p).toNat:Nat):Int):=by
 rw[IntKind.wrap_u64,BitVec.toNat_shiftLeft,Nat.shiftLeft_eq];simp
theorem Ow{W f:World}(B:Bw W f):(∀b o,b<W.heap.size->f.cell? ⟨b,o,none⟩=W.cell? ⟨b,o,none⟩)/\(∀b o,b<W.heap.size->f.frozen? ⟨b,o,none⟩=W.frozen? ⟨b,o,none⟩):=
 ⟨fun b o h=>B.cell (p:=⟨b,o,none⟩) h,fun b o h=>B.frozen (p:=⟨b,o,none⟩) h⟩
theorem EI(p:Nat)(B:p<9223372036854775807)(w:World):Calls Tryz.prog 139 #[.int .i64 p] w fun e w'=>
  e=.returned (Jg (I0.only p))/\Bw w w':=by
 by_cases f:p<64
 ·go_enter Tryz.func139,Tryz.ntmps139
  go_wp2
  exact bodyPost_ret (v:=Jg (I0.only p)) (by simp[results,Tryz.results139,go_sem,ZJ,I0.only,f]) rfl ⟨rfl,P0 _ _⟩
 by_cases h:p<128
 ·go_enter Tryz.func139,Tryz.ntmps139
  go_wp2
  exact bodyPost_ret (v:=Jg (I0.only p)) (by simp[results,Tryz.results139,go_sem,ZJ,I0.only,f,h]) rfl ⟨rfl,P0 _ _⟩
 ·go_enter Tryz.func139,Tryz.ntmps139
  go_wp2
  exact bodyPost_ret (v:=Jg (I0.only p)) (by simp[results,Tryz.results139,go_sem,I0.only,I0.none,f,h]) rfl ⟨rfl,P0 _ _⟩
theorem SN(s:I0)(p:Nat)(B:p<9223372036854775807)(w:World):Calls Tryz.prog 119 #[Jg s,.int .i64 p] w fun e w'=>
  e=.returned (.bool (s.has p))/\Bw w w':=by
 go_enter Tryz.func119,Tryz.ntmps119;go_wp2_with fail;refine(EI p B _).mono ?_;rintro e D ⟨rfl,f⟩;obtain⟨G,J⟩:=Ow f;have K:w.heap.size<D.heap.size:=by have:=f.size;simp at this;omega
 go_wp2_with fail;refine(VB s (I0.only p) _).mono ?_;rintro e M ⟨rfl,h⟩;go_wp2_with fail;go_ret;exact⟨rfl,(((P0 w _).trans (f.mono (by simp))).alloc (by omega) _).trans (h.mono (by simp;omega))⟩
end Go.Proofs.YtcckhngbdoiikaaGreat
