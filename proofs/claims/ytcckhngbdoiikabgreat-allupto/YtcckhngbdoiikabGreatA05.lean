import Derived.Test.YtcckhngbdoiikabGreatA02
import Derived.Test.YtcckhngbdoiikabGreatChecked
import Derived.WalkSpells
import Derived.WalkLawsBesides
set_option maxRecDepth 20000
set_option maxHeartbeats 12800000
set_option linter.unusedVariables false
namespace Go.Proofs.YtcckhngbdoiikabGreat
open Go.RowKit
abbrev Qg(s:I0):Value:=.agg #[.int .u64 (s.lo.toNat:Int),.int .u64 (s.hi.toNat:Int)]
abbrev K5(s:I0):Array Value:=#[.int .u64 (s.lo.toNat:Int),.int .u64 (s.hi.toNat:Int)]
theorem Pw(w:World)(a b c:Obj):Bw w (((w.alloc a).alloc b).alloc c):=
 (((Below.refl _ _).alloc (zD _) _).alloc (by simp) _).alloc (by simp;omega) _
theorem F6(w:World)(a b:Obj):Bw w ((w.alloc a).alloc b):=
 ((Below.refl _ _).alloc (zD _) _).alloc (by simp) _
theorem N0(w:World)(a:Obj):Bw w (w.alloc a):=(Below.refl _ _).alloc (zD _) _
theorem Ni(s t:I0)(w:World):Calls Tryz.prog 118 #[Qg s,Qg t] w fun e w'=>
  e=.returned (Qg (s.or t))/\Bw w w':=by
 go_enter Tryz.func118,Tryz.ntmps118
 go_wp2
 refine bodyPost_ret (v:=Qg (s.or t)) (by simp[results,Tryz.results118,go_sem,NR,I0.or]) rfl ⟨rfl,?_⟩;exact Pw _ _ _ _
theorem UY(s t:I0)(w:World):Calls Tryz.prog 90 #[Qg s,Qg t] w fun e w'=>
  e=.returned (Qg (s.and t))/\Bw w w':=by
 go_enter Tryz.func90,Tryz.ntmps90
 go_wp2
 refine bodyPost_ret (v:=Qg (s.and t)) (by simp[results,Tryz.results90,go_sem,Ap,I0.and]) rfl ⟨rfl,?_⟩;exact Pw _ _ _ _
theorem Xk(a:BitVec 64):((a.toNat:Int)==0)=(a==0):=by
 rw[Bool.eq_iff_iff];simp[BitVec.toNat_eq]
theorem LC(s:I0)(w:World):Calls Tryz.prog 119 #[Qg s] w fun e w'=>
  e=.returned (.bool s.isEmpty)/\Bw w w':=by
 unfold I0.isEmpty;rw[<-Xk,<-Xk];cases h1:((s.lo.toNat:Int)==0) <;>cases h2:((s.hi.toNat:Int)==0) <;>
 ·go_enter Tryz.func119,Tryz.ntmps119
  go_wp2
  go_ret;exact⟨rfl,N0 _ _⟩
theorem CD(s t:I0)(w:World):Calls Tryz.prog 120 #[Qg s,Qg t] w fun e w'=>
  e=.returned (.bool (s.cL t))/\Bw w w':=by
 unfold I0.cL;rw[<-Xk,<-Xk,<-Ap,<-Ap];generalize D:bits .and .u64 (s.lo.toNat:Int) (t.lo.toNat:Int)=A;generalize G:bits .and .u64 (s.hi.toNat:Int) (t.hi.toNat:Int)=B;cases h1:(A==0) <;>cases h2:(B==0) <;>
 ·have f:(A !=0)=!(A==0):=rfl;have h:(B !=0)=!(B==0):=rfl;rw[h1]at f;rw[h2]at h;go_enter Tryz.func120,Tryz.ntmps120
  go_wp2
  go_ret;exact⟨rfl,F6 _ _ _⟩
theorem YL(p:Nat):IntKind.u64.wrap ((2:Int) ^ p)=(((1#64<<<p).toNat:Nat):Int):=by
 rw[IntKind.wrap_u64,BitVec.toNat_shiftLeft,Nat.shiftLeft_eq];simp
theorem Mx{W f:World}(B:Bw W f):(∀b o,b<W.heap.size->f.cell? ⟨b,o,none⟩=W.cell? ⟨b,o,none⟩)/\(∀b o,b<W.heap.size->f.frozen? ⟨b,o,none⟩=W.frozen? ⟨b,o,none⟩):=
 ⟨fun b o h=>B.cell (p:=⟨b,o,none⟩) h,fun b o h=>B.frozen (p:=⟨b,o,none⟩) h⟩
theorem IK(p:Nat)(B:p<9223372036854775807)(w:World):Calls Tryz.prog 138 #[.int .i64 p] w fun e w'=>
  e=.returned (Qg (I0.only p))/\Bw w w':=by
 by_cases f:p<64
 ·go_enter Tryz.func138,Tryz.ntmps138
  go_wp2
  exact bodyPost_ret (v:=Qg (I0.only p)) (by simp[results,Tryz.results138,go_sem,YL,I0.only,f]) rfl ⟨rfl,N0 _ _⟩
 by_cases h:p<128
 ·go_enter Tryz.func138,Tryz.ntmps138
  go_wp2
  exact bodyPost_ret (v:=Qg (I0.only p)) (by simp[results,Tryz.results138,go_sem,YL,I0.only,f,h]) rfl ⟨rfl,N0 _ _⟩
 ·go_enter Tryz.func138,Tryz.ntmps138
  go_wp2
  exact bodyPost_ret (v:=Qg (I0.only p)) (by simp[results,Tryz.results138,go_sem,I0.only,I0.none,f,h]) rfl ⟨rfl,N0 _ _⟩
theorem WP(s:I0)(p:Nat)(B:p<9223372036854775807)(w:World):Calls Tryz.prog 117 #[Qg s,.int .i64 p] w fun e w'=>
  e=.returned (.bool (s.has p))/\Bw w w':=by
 go_enter Tryz.func117,Tryz.ntmps117;go_wp2_with fail;refine(IK p B _).mono ?_;rintro e D ⟨rfl,f⟩;obtain⟨G,J⟩:=Mx f;have K:w.heap.size<D.heap.size:=by have:=f.size;simp at this;omega
 go_wp2_with fail;refine(CD s (I0.only p) _).mono ?_;rintro e M ⟨rfl,h⟩;go_wp2_with fail;go_ret;exact⟨rfl,(((N0 w _).trans (f.mono (by simp))).alloc (by omega) _).trans (h.mono (by simp;omega))⟩
end Go.Proofs.YtcckhngbdoiikabGreat
