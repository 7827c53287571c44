import Derived.Test.YtcckhngbdoiikabGreatA05
import Derived.Test.YtcckhngbdoiikabGreatA06
import Derived.Deep.QuietTactic
import Derived.BigQuiet
set_option maxRecDepth 20000
set_option maxHeartbeats 12800000
set_option linter.unusedVariables false
namespace Go.Proofs.YtcckhngbdoiikabGreat
open Go.RowKit Go.Deep
def Rd(w:World)(f:Nat)(s:ByteArray)(p:Nat)(gb:Nat):Prop:=
 Blk w f #[.string s,.int .i64 p,.pointer (some ⟨gb,0,none⟩)] 128
theorem Yk(x:Int)(f:0<=x)(h:x<1000000):wrap64 x=x:=by unfold wrap64;omega
theorem Rd.c0{w:World}{f:Nat}{s:ByteArray}{p gb:Nat}(h:Rd w f s p gb):w.cell? ⟨f,0,none⟩=some (.string s):=by rw[Blk.cell h];rfl
theorem Rd.c1{w:World}{f:Nat}{s:ByteArray}{p gb:Nat}(h:Rd w f s p gb):w.cell? ⟨f,1,none⟩=some (.int .i64 p):=by rw[Blk.cell h];rfl
theorem Rd.c2{w:World}{f:Nat}{s:ByteArray}{p gb:Nat}(h:Rd w f s p gb):w.cell? ⟨f,2,none⟩=some (.pointer (some ⟨gb,0,none⟩)):=by rw[Blk.cell h];rfl
theorem Rd.f1{w:World}{f:Nat}{s:ByteArray}{p gb:Nat}(h:Rd w f s p gb):w.frozen? ⟨f,1,none⟩=false:=Blk.frozen h 1
theorem Rd.set{w:World}{f:Nat}{s:ByteArray}{p gb:Nat}(h:Rd w f s p gb)(q:Nat):Rd (w.setCell ⟨f,1,none⟩ (.int .i64 q)) f s q gb:=Blk.set h 1 _
theorem I3(s:ByteArray)(p B gb:Nat)(w:World)(f:Rd w B s p gb)(V:s.size<=120)(U:p<=1000):
  Calls Tryz.prog 88 #[.pointer (some ⟨B,0,none⟩)] w fun e w'=>e=.returned (.int .i64 (F0 s p))/\∃n,w'=w.drewN n:=by
 have J:=f.c0;have K:=f.c1;clear f
 by_cases h:p<s.size
 ·have D:decide ((p:Int)<0)=false:=by simp
  have G:decide ((s.size:Int)<=(p:Int))=false:=by simp;omega
  go_enter Tryz.func88,Tryz.ntmps88
  go_wp2
  go_quiet(fail)
  go_wp2
  go_quiet(fail)
  go_wp2
  go_ret;have M:((s[p].toNat:Nat):Int)<256:=by have:=s[p].toNat_lt;omega
  refine⟨by simp[F0,h];exact Yk _ (by omega) (by omega),?_⟩;rw[World.drewN_drewN];exact⟨_,rfl⟩
 ·have D:decide ((p:Int)<0)=false:=by simp
  have G:decide ((s.size:Int)<=(p:Int))=true:=by simp;omega
  go_enter Tryz.func88,Tryz.ntmps88
  go_wp2
  go_quiet(fail)
  go_wp2
  go_ret;exact⟨by simp[F0,h],_,rfl⟩
theorem Rd.set1{w:World}{f:Nat}{s:ByteArray}{p gb:Nat}(h:Rd w f s p gb):Rd (w.setCell ⟨f,1,none⟩ (.int .i64 ((p:Int)+1))) f s (p+1) gb:=h.set (p+1)
theorem Rd.drewN{w:World}{f:Nat}{s:ByteArray}{p gb:Nat}(h:Rd w f s p gb)(n:Nat):Rd (w.drewN n) f s p gb:=h
theorem AA(s:ByteArray)(p B gb:Nat)(w:World)(f:Rd w B s p gb)(K:s.size<=120)(hp:p<=500):
  Calls Tryz.prog 150 #[.pointer (some ⟨B,0,none⟩)] w fun e w'=>
   e=.returned (.tuple #[.int .i64 (O5 s p).1,.bool (O5 s p).2.1])/\Rd w' B s (O5 s p).2.2 gb/\C0 (·=B) w w':=by
 have X:=f.c1;have f1:=f.f1;have V:C0 (·=B) w w:=C0.refl _ _
 by_cases J:F0 s p=92
 ·by_cases D:F0 s (p+1)= -1\/F0 s (p+1)=10
  ·have G:O5 s p=(0,false,p+1):=by unfold O5;rw[if_neg (by simp[J]),if_pos D]
   rw[G];clear G;go_enter Tryz.func150,Tryz.ntmps150;go_wp2_with fail;refine(I3 s p B gb _ f K (by omega)).mono ?_;rintro e M ⟨rfl,n,rfl⟩;rw[J];go_wp2_with fail;refine(I3 s (p+1) B gb _ (f.drewN n).set1 K (by omega)).mono ?_;rintro e M ⟨rfl,m,rfl⟩;rcases D with D|D <;>rw[D] <;>go_wp2_with fail
   all_goals
    go_ret2
    exact⟨rfl,((f.drewN n).set1).drewN m,((V.drewN n).setCell (fun _=>rfl) _).drewN m⟩
  ·by_cases U:F0 s (p+1)=110
   ·have G:O5 s p=(10,true,p+2):=by unfold O5;rw[if_neg (by simp[J]),if_neg D,if_pos U]
    rw[G];clear G D;go_enter Tryz.func150,Tryz.ntmps150;go_wp2_with fail;refine(I3 s p B gb _ f K (by omega)).mono ?_;rintro e M ⟨rfl,n,rfl⟩;rw[J];go_wp2_with fail;refine(I3 s (p+1) B gb _ (f.drewN n).set1 K (by omega)).mono ?_;rintro e M ⟨rfl,m,rfl⟩;rw[U];go_wp2_with fail
    go_ret2
    exact⟨rfl,(((f.drewN n).set1).drewN m).set1,(((V.drewN n).setCell (fun _=>rfl) _).drewN m).setCell (fun _=>rfl) _⟩
   ·have G:O5 s p=(F0 s (p+1),true,p+2):=by unfold O5;rw[if_neg (by simp[J]),if_neg D,if_neg U]
    rw[G];clear G;have W:(F0 s (p+1)== -1)=false:=by simp;intro h;exact D (Or.inl h)
    have Y:(F0 s (p+1)==10)=false:=by simp;intro h;exact D (Or.inr h)
    have Z:(F0 s (p+1)==110)=false:=by simp[U]
    clear D U;go_enter Tryz.func150,Tryz.ntmps150;go_wp2_with fail;refine(I3 s p B gb _ f K (by omega)).mono ?_;rintro e M ⟨rfl,n,rfl⟩;rw[J];go_wp2_with fail;refine(I3 s (p+1) B gb _ (f.drewN n).set1 K (by omega)).mono ?_;rintro e M ⟨rfl,m,rfl⟩;go_wp2_with fail
    go_ret2
    exact⟨rfl,(((f.drewN n).set1).drewN m).set1,(((V.drewN n).setCell (fun _=>rfl) _).drewN m).setCell (fun _=>rfl) _⟩
 ·have G:O5 s p=(F0 s p,true,p+1):=by unfold O5;rw[if_pos J]
  have W:(F0 s p !=92)=true:=by simp[J]
  rw[G];clear G;go_enter Tryz.func150,Tryz.ntmps150;go_wp2_with fail;refine(I3 s p B gb _ f K (by omega)).mono ?_;rintro e M ⟨rfl,n,rfl⟩;go_wp2_with fail
  go_ret2
  exact⟨rfl,(f.drewN n).set1,(V.drewN n).setCell (fun _=>rfl) _⟩
theorem LJ(s:ByteArray)(p B gb:Nat)(w:World)(K:Rd w B s p gb)(U:s.size<=120)(hp:p<=400):
  Calls Tryz.prog 153 #[.pointer (some ⟨B,0,none⟩)] w fun e w'=>
   e=.returned (.tuple #[.int .i64 (A4 s p).1,.bool (A4 s p).2.1])/\Rd w' B s (A4 s p).2.2 gb/\C0 (·=B) w w':=by
 have W:C0 (·=B) w w:=C0.refl _ _
 by_cases f:Lw (F0 s p)
 ·have D:A4 s p=(0,false,p):=by unfold A4;rw[if_pos f]
  rw[D];clear D;go_enter Tryz.func153,Tryz.ntmps153;go_wp2_with fail;refine(I3 s p B gb _ K U (by omega)).mono ?_;rintro e M ⟨rfl,n,rfl⟩;rcases f with f|f|f|f <;>rw[f] <;>go_wp2_with fail
  all_goals
   go_ret2
   exact⟨rfl,K.drewN n,W.drewN n⟩
 ·have D:A4 s p=O5 s p:=by unfold A4;rw[if_neg f]
  rw[D];clear D;have X:(F0 s p== -1)=false:=by simp;intro h;exact f (Or.inl h)
  have Y:(F0 s p==10)=false:=by simp;intro h;exact f (Or.inr (Or.inl h))
  have Z:(F0 s p==93)=false:=by simp;intro h;exact f (Or.inr (Or.inr (Or.inl h)))
  have e4:(F0 s p==45)=false:=by simp;intro h;exact f (Or.inr (Or.inr (Or.inr h)))
  clear f;go_enter Tryz.func153,Tryz.ntmps153;go_wp2_with fail;refine(I3 s p B gb _ K U (by omega)).mono ?_;rintro e M ⟨rfl,n,rfl⟩;go_wp2_with fail;refine(AA s p B gb _ (K.drewN n) U (by omega)).mono ?_;rintro e M ⟨rfl,J,G⟩;have V:Hid (Rd M B s (O5 s p).2.2 gb/\C0 (·=B) (w.drewN n) M):=⟨J,G⟩;clear J G;go_wp2_with fail
  go_ret2
  exact⟨rfl,V.out.1,(W.drewN n).trans' V.out.2⟩
theorem Jg(s:ByteArray)(p D gb:Nat)(w:World)(G:Rd w D s p gb)(J:s.size<=120)(X:p<=400):
  Calls Tryz.prog 141 #[.pointer (some ⟨D,0,none⟩)] w fun e w'=>
   e=.returned (.bool (Zb (F0 s p)))/\∃n,w'=w.drewN n:=by
 by_cases f:F0 s p= -1\/F0 s p=10\/F0 s p=124\/F0 s p=41
 ·have B:Zb (F0 s p)=true:=by unfold Zb;simp[f]
  rw[B];clear B;go_enter Tryz.func141,Tryz.ntmps141;go_wp2_with fail;refine(I3 s p D gb _ G J (by omega)).mono ?_;rintro e K ⟨rfl,n,rfl⟩;rcases f with f|f|f|f <;>rw[f] <;>go_wp2_with fail
  all_goals
   go_ret;exact⟨rfl,n,rfl⟩
 ·have B:Zb (F0 s p)=false:=by unfold Zb;simp[f]
  rw[B];clear B;have M:(F0 s p== -1)=false:=by simp;intro h;exact f (Or.inl h)
  have U:(F0 s p==10)=false:=by simp;intro h;exact f (Or.inr (Or.inl h))
  have V:(F0 s p==124)=false:=by simp;intro h;exact f (Or.inr (Or.inr (Or.inl h)))
  have W:(F0 s p==41)=false:=by simp;intro h;exact f (Or.inr (Or.inr (Or.inr h)))
  clear f;go_enter Tryz.func141,Tryz.ntmps141;go_wp2_with fail;refine(I3 s p D gb _ G J (by omega)).mono ?_;rintro e K ⟨rfl,n,rfl⟩;go_wp2_with fail;go_ret;exact⟨rfl,n,rfl⟩
end Go.Proofs.YtcckhngbdoiikabGreat
