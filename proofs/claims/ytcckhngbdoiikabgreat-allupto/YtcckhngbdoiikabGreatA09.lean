import Derived.Test.YtcckhngbdoiikabGreatA07
import Derived.Test.YtcckhngbdoiikabGreatA08
import Derived.Test.YtcckhngbdoiikabGreatA04
import Derived.Deep.RegionWith
set_option maxRecDepth 20000
set_option maxHeartbeats 12800000
set_option linter.unusedVariables false
namespace Go.Proofs.YtcckhngbdoiikabGreat
open Go.RowKit Go.Deep
def Ob(w:World)(f:Nat)(r:RRd):Prop:=Blk w f #[.int .i64 r.bN,.int .i64 r.depth,.int .i64 r.low] 138
theorem Ob.c0{w:World}{f:Nat}{r:RRd}(h:Ob w f r):w.cell? ⟨f,0,none⟩=some (.int .i64 r.bN):=by rw[Blk.cell h];rfl
theorem Ob.c1{w:World}{f:Nat}{r:RRd}(h:Ob w f r):w.cell? ⟨f,1,none⟩=some (.int .i64 r.depth):=by rw[Blk.cell h];rfl
theorem Ob.c2{w:World}{f:Nat}{r:RRd}(h:Ob w f r):w.cell? ⟨f,2,none⟩=some (.int .i64 r.low):=by rw[Blk.cell h];rfl
theorem Ob.bY{w:World}{f:Nat}{m d l:Int}(h:Ob w f ⟨m,d,l⟩)(B:Int):Ob (w.setCell ⟨f,0,none⟩ (.int .i64 B)) f ⟨B,d,l⟩:=Blk.set h 0 _
theorem Ob.set1{w:World}{f:Nat}{m d l:Int}(h:Ob w f ⟨m,d,l⟩)(B:Int):Ob (w.setCell ⟨f,1,none⟩ (.int .i64 B)) f ⟨m,B,l⟩:=Blk.set h 1 _
theorem Ob.iR{w:World}{f:Nat}{m d l:Int}(h:Ob w f ⟨m,d,l⟩)(B:Int):Ob (w.setCell ⟨f,2,none⟩ (.int .i64 B)) f ⟨m,d,B⟩:=Blk.set h 2 _
theorem Tn(c:Nat)(w:World)(B:c<256):Calls Tryz.prog 123 #[.int .u8 (c:Int)] w fun e w'=>e=.returned (.int .i64 (Cb c))/\w'=w:=by
 by_cases h:c=110
 ·subst h;go_enter Tryz.func123,Tryz.ntmps123;go_wp2_with fail;go_ret;exact⟨rfl,rfl⟩
 ·have f:((c:Int)==110)=false:=by simp;omega
  go_enter Tryz.func123,Tryz.ntmps123;go_wp2_with fail;go_ret;refine⟨?_,rfl⟩;unfold Cb;rw[if_neg (by omega)]
  first|rfl|(rw[Yk _ (by omega) (by omega)])
theorem FJ(m d l:Int)(f:Nat)(w:World)(h:Ob w f ⟨m,d,l⟩):
  Calls Tryz.prog 96 #[.pointer (some ⟨f,0,none⟩),.int .u8 10] w fun e w'=>e=.returned (.bool false)/\w'=w:=by
 go_enter Tryz.func96,Tryz.ntmps96;go_wp2_with fail;go_ret;exact⟨rfl,rfl⟩
theorem ZF(d l:Int)(c f:Nat)(w:World)(h:Ob w f ⟨9,d,l⟩)(J:c<256)(G:c≠10):
  Calls Tryz.prog 96 #[.pointer (some ⟨f,0,none⟩),.int .u8 (c:Int)] w fun e w'=>e=.returned (.bool true)/\Ob w' f ⟨6,d,Cb c⟩/\C0 (·=f) w w':=by
 have M:((c:Int)==10)=false:=by simp;omega
 have D:=h.c0;go_enter Tryz.func96,Tryz.ntmps96;go_wp2_with fail;refine(Tn c _ J).mono ?_;rintro e B ⟨rfl,rfl⟩;clear D;have U:B.frozen? ⟨f,0,none⟩=false:=Blk.frozen h 0;have V:B.frozen? ⟨f,2,none⟩=false:=Blk.frozen h 2;have D:B.cell? ⟨f,0,none⟩=some (.int .i64 9):=h.c0;have K:B.cell? ⟨f,2,none⟩=some (.int .i64 l):=h.c2;go_wp2_with fail;go_ret;exact⟨rfl,(h.iR _).bY _,((C0.refl (·=f) _).setCell (fun _=>rfl) _).setCell (fun _=>rfl) _⟩
theorem ZA(d l:Int)(c f:Nat)(w:World)(h:Ob w f ⟨10,d,l⟩)(D:c<256)(B:c≠10):
  Calls Tryz.prog 96 #[.pointer (some ⟨f,0,none⟩),.int .u8 (c:Int)] w fun e w'=>e=.returned (.bool (decide (l<=Cb c)))/\Ob w' f ⟨8,d,l⟩/\C0 (·=f) w w':=by
 have K:((c:Int)==10)=false:=by simp;omega
 have G:=h.c0;have J:=h.c2;have M:=Blk.frozen h 0;go_enter Tryz.func96,Tryz.ntmps96;go_wp2_with fail
 go_region_with (go_at_call 123;refine(Tn c _ D).mono ?_;rintro e U ⟨rfl,rfl⟩)
 all_goals
  go_wp2_with fail;go_ret;exact⟨rfl,(h.bY _).drewN 1,((C0.refl (·=f) _).setCell (fun _=>rfl) _).drew⟩
theorem AG(m d l:Int)(c h:Nat)(w:World)(f:Ob w h ⟨m,d,l⟩)(hc:c<256)(X:c≠10)(D:m=4\/m=5\/m=6\/m=7\/m=8):
  Calls Tryz.prog 96 #[.pointer (some ⟨h,0,none⟩),.int .u8 (c:Int)] w fun e w'=>e=.returned (.bool (L2 ⟨m,d,l⟩ c).2)/\Ob w' h (L2 ⟨m,d,l⟩ c).1/\C0 (·=h) w w':=by
 have e0:((c:Int)==10)=false:=by simp;omega
 have Z:=f.c0;have c2:=f.c2;have f0:=Blk.frozen f 0;have f2:=Blk.frozen f 2
 by_cases M:m=4/\c=94
 ·obtain⟨rfl,rfl⟩:=M;go_enter Tryz.func96,Tryz.ntmps96;go_wp2_with fail;go_ret;exact⟨rfl,f.bY _,(C0.refl (·=h) _).setCell (fun _=>rfl) _⟩
 have B:m=4->((c:Int)==94)=false:=fun e=>by simp;omega
 by_cases K:c=93
 ·subst K;rcases D with rfl|rfl|rfl|rfl|rfl
  all_goals
   go_enter Tryz.func96,Tryz.ntmps96;go_wp2_with fail;go_ret
   first
   |exact⟨rfl,f.bY _,(C0.refl (·=h) _).setCell (fun _=>rfl) _⟩
   |exact⟨rfl,(f.bY _).bY _,((C0.refl (·=h) _).setCell (fun _=>rfl) _).setCell (fun _=>rfl) _⟩
 have W:((c:Int)==93)=false:=by simp;omega
 by_cases G:c=45
 ·subst G;rcases D with rfl|rfl|rfl|rfl|rfl
  all_goals
   go_enter Tryz.func96,Tryz.ntmps96;go_wp2_with fail;go_ret
   first
   |exact⟨rfl,f.bY _,(C0.refl (·=h) _).setCell (fun _=>rfl) _⟩
   |exact⟨rfl,(f.bY _).bY _,((C0.refl (·=h) _).setCell (fun _=>rfl) _).setCell (fun _=>rfl) _⟩
 have U:((c:Int)==45)=false:=by simp;omega
 by_cases J:c=92
 ·subst J;rcases D with rfl|rfl|rfl|rfl|rfl
  all_goals
   go_enter Tryz.func96,Tryz.ntmps96;go_wp2_with fail;go_ret
   first
   |exact⟨rfl,f.bY _,(C0.refl (·=h) _).setCell (fun _=>rfl) _⟩
   |exact⟨rfl,(f.bY _).bY _,((C0.refl (·=h) _).setCell (fun _=>rfl) _).setCell (fun _=>rfl) _⟩
 have V:((c:Int)==92)=false:=by simp;omega
 have Y:L2 ⟨m,d,l⟩ c=if m=7 then(⟨8,d,l⟩,decide (l<=(c:Int)))else(⟨6,d,(c:Int)⟩,true):=by
  unfold L2;rw[if_neg (by omega),if_neg (by simp;omega),if_neg (by simp;omega),if_neg (by simp;omega),if_neg (by omega),if_neg (by omega),if_neg (by omega)]
 rw[Y];rcases D with rfl|rfl|rfl|rfl|rfl
 ·have B:=B rfl;go_enter Tryz.func96,Tryz.ntmps96;go_wp2_with fail;go_ret;exact⟨rfl,((f.bY _).iR _).bY _,(((C0.refl (·=h) _).setCell (fun _=>rfl) _).setCell (fun _=>rfl) _).setCell (fun _=>rfl) _⟩
 ·go_enter Tryz.func96,Tryz.ntmps96;go_wp2_with fail;go_ret;exact⟨rfl,(f.iR _).bY _,((C0.refl (·=h) _).setCell (fun _=>rfl) _).setCell (fun _=>rfl) _⟩
 ·go_enter Tryz.func96,Tryz.ntmps96;go_wp2_with fail;go_ret;exact⟨rfl,(f.iR _).bY _,((C0.refl (·=h) _).setCell (fun _=>rfl) _).setCell (fun _=>rfl) _⟩
 ·go_enter Tryz.func96,Tryz.ntmps96;go_wp2_with fail;go_ret;exact⟨rfl,f.bY _,(C0.refl (·=h) _).setCell (fun _=>rfl) _⟩
 ·go_enter Tryz.func96,Tryz.ntmps96;go_wp2_with fail;go_ret;exact⟨rfl,(f.iR _).bY _,((C0.refl (·=h) _).setCell (fun _=>rfl) _).setCell (fun _=>rfl) _⟩
theorem EJ(r:RRd)(c h:Nat)(w:World)(B:Ob w h r)(K:c<256)(W:4<=r.bN/\r.bN<=10):
  Calls Tryz.prog 96 #[.pointer (some ⟨h,0,none⟩),.int .u8 (c:Int)] w fun e w'=>e=.returned (.bool (L2 r c).2)/\Ob w' h (L2 r c).1/\C0 (·=h) w w':=by
 obtain⟨m,d,l⟩:=r;simp only at W
 by_cases f:c=10
 ·subst f;refine(FJ m d l h w B).mono ?_;rintro e M ⟨rfl,rfl⟩;exact⟨by simp[L2],by simpa[L2]using B,C0.refl _ _⟩
 ·have D:¬((c:Int)=10):=by omega
  by_cases V:m=9
  ·subst V;refine(ZF d l c h w B K f).mono ?_;rintro e M ⟨rfl,G,J⟩;exact⟨by simp[L2,D],by simpa[L2,D]using G,J⟩
  ·by_cases U:m=10
   ·subst U;refine(ZA d l c h w B K f).mono ?_;rintro e M ⟨rfl,G,J⟩;exact⟨by simp[L2,D],by simpa[L2,D]using G,J⟩
   ·exact AG m d l c h w B K f (by omega)
theorem CP(r:RRd)(c f:Nat)(w:World)(M:Ob w f r)(U:c<256)(B:4<=r.bN/\r.bN<=10):
  Calls Tryz.prog 60 #[.pointer (some ⟨f,0,none⟩),.int .u8 (c:Int)] w fun e w'=>e=.returned (.bool (X2 r c).2)/\Ob w' f (X2 r c).1/\C0 (·=f) w w':=by
 have K:X2 r c=L2 r c:=by unfold X2;rw[if_pos B.1]
 rw[K];clear K;have h:=Hd (EJ r c f w M U B);generalize L2 r c=F at h⊢;obtain⟨V,W⟩:=F;simp only at h⊢;have X:=M.c0;have Y:decide (4<=r.bN)=true:=by simp[B.1]
 go_enter Tryz.func60,Tryz.ntmps60;go_wp2_with fail;refine h.out.mono ?_;rintro e Z ⟨rfl,G,J⟩;have D:=Hd2 G J;clear G J;go_wp2_with fail;go_ret;exact⟨rfl,D.out.1,D.out.2⟩
theorem OL(d l:Int)(c f:Nat)(w:World)(h:Ob w f ⟨3,d,l⟩)(M:c<256):
  Calls Tryz.prog 60 #[.pointer (some ⟨f,0,none⟩),.int .u8 (c:Int)] w fun e w'=>e=.returned (.bool (decide ((c:Int)≠10)))/\Ob w' f ⟨1,d,l⟩/\C0 (·=f) w w':=by
 have G:=h.c0;have K:=Blk.frozen h 0
 by_cases B:c=10
 ·subst B;go_enter Tryz.func60,Tryz.ntmps60;go_wp2_with fail;go_ret;exact⟨rfl,h.bY _,(C0.refl (·=f) _).setCell (fun _=>rfl) _⟩
 ·have J:((c:Int) !=10)=true:=by simp;omega
  have D:decide ((c:Int)≠10)=true:=by simp;omega
  rw[D];go_enter Tryz.func60,Tryz.ntmps60;go_wp2_with fail;go_ret;exact⟨rfl,h.bY _,(C0.refl (·=f) _).setCell (fun _=>rfl) _⟩
def Zg(r:RRd)(c f:Nat)(w:World):Prop:=Calls Tryz.prog 60 #[.pointer (some ⟨f,0,none⟩),.int .u8 (c:Int)] w fun e w'=>e=.returned (.bool (X2 r c).2)/\Ob w' f (X2 r c).1/\C0 (·=f) w w'
theorem SZ(m d l:Int)(h:Nat)(w:World)(f:Ob w h ⟨m,d,l⟩)(D:m=0\/m=1\/m=2):Zg ⟨m,d,l⟩ 10 h w:=by
 unfold Zg;have J:=f.c0;have K:=f.c1;have U:=Blk.frozen f 0
 by_cases B:d=0
 ·subst B;rcases D with rfl|rfl|rfl
  all_goals
   go_enter Tryz.func60,Tryz.ntmps60;go_wp2_with fail;go_ret;exact⟨rfl,f.bY _,(C0.refl (·=h) _).setCell (fun _=>rfl) _⟩
 ·have M:(d==0)=false:=by simp;exact B
  have G:X2 ⟨m,d,l⟩ ((10:Nat):Int)=(⟨0,d,l⟩,false):=by
   rcases D with rfl|rfl|rfl <;>simp[X2,B]
  rw[G];rcases D with rfl|rfl|rfl
  all_goals
   go_enter Tryz.func60,Tryz.ntmps60;go_wp2_with fail;go_ret;exact⟨rfl,f.bY _,(C0.refl (·=h) _).setCell (fun _=>rfl) _⟩
theorem XU(m d l:Int)(D:Nat)(w:World)(f:Ob w D ⟨m,d,l⟩)(B:m=0\/m=1\/m=2)(G:-1000000<=d/\d<=1000000):Zg ⟨m,d,l⟩ 41 D w:=by
 unfold Zg;have M:=f.c0;have U:=f.c1;have V:=Blk.frozen f 0;have W:=Blk.frozen f 1;have X:wrap64 (d-1)=d-1:=by unfold wrap64;omega
 by_cases K:0<=d-1
 ·have J:decide (1<=d)=true:=by simp;omega
  have h:X2 ⟨m,d,l⟩ ((41:Nat):Int)=(⟨1,d-1,l⟩,decide (m≠0)):=by
   rcases B with rfl|rfl|rfl <;>simp[X2] <;>omega
  rw[h];clear G h;rcases B with rfl|rfl|rfl
  all_goals
   go_enter Tryz.func60,Tryz.ntmps60;go_wp2_with fail;go_ret;exact⟨rfl,(f.set1 _).bY _,((C0.refl (·=D) _).setCell (fun _=>rfl) _).setCell (fun _=>rfl) _⟩
 ·have J:decide (1<=d)=false:=by simp;omega
  have h:X2 ⟨m,d,l⟩ ((41:Nat):Int)=(⟨1,d-1,l⟩,false):=by
   rcases B with rfl|rfl|rfl <;>simp[X2] <;>omega
  rw[h];clear G h;rcases B with rfl|rfl|rfl
  all_goals
   go_enter Tryz.func60,Tryz.ntmps60;go_wp2_with fail;go_ret;exact⟨rfl,(f.set1 _).bY _,((C0.refl (·=D) _).setCell (fun _=>rfl) _).setCell (fun _=>rfl) _⟩
theorem WU(m d l:Int)(h:Nat)(w:World)(f:Ob w h ⟨m,d,l⟩)(D:m=0\/m=1\/m=2)(G:-1000000<=d/\d<=1000000):Zg ⟨m,d,l⟩ 40 h w:=by
 unfold Zg;have J:=f.c0;have K:=f.c1;have M:=Blk.frozen f 0;have U:=Blk.frozen f 1;have V:wrap64 (d+1)=d+1:=by unfold wrap64;omega
 have B:X2 ⟨m,d,l⟩ ((40:Nat):Int)=(⟨0,d+1,l⟩,true):=by
  rcases D with rfl|rfl|rfl <;>simp[X2]
 rw[B];clear G B;rcases D with rfl|rfl|rfl
 all_goals
  go_enter Tryz.func60,Tryz.ntmps60;go_wp2_with fail;go_ret;exact⟨rfl,(f.set1 _).bY _,((C0.refl (·=h) _).setCell (fun _=>rfl) _).setCell (fun _=>rfl) _⟩
theorem YU(m d l:Int)(c h:Nat)(w:World)(f:Ob w h ⟨m,d,l⟩)(D:m=0\/m=1\/m=2)(B:c=124\/c=42\/c=43\/c=63\/c=91\/c=92):Zg ⟨m,d,l⟩ c h w:=by
 unfold Zg;have G:=f.c0;have J:=f.c1;have K:=Blk.frozen f 0;rcases B with rfl|rfl|rfl|rfl|rfl|rfl <;>rcases D with rfl|rfl|rfl
 all_goals
  go_enter Tryz.func60,Tryz.ntmps60;go_wp2_with fail;go_ret;exact⟨rfl,f.bY _,(C0.refl (·=h) _).setCell (fun _=>rfl) _⟩
theorem TZ(m d l:Int)(f:Nat)(w:World)(D:Ob w f ⟨m,d,l⟩)(B:m=0\/m=1\/m=2):Zg ⟨m,d,l⟩ 93 f w:=by
 unfold Zg;have G:=D.c0;have h:X2 ⟨m,d,l⟩ ((93:Nat):Int)=(⟨m,d,l⟩,false):=by
  rcases B with rfl|rfl|rfl <;>simp[X2]
 rw[h];clear h;rcases B with rfl|rfl|rfl
 all_goals
  go_enter Tryz.func60,Tryz.ntmps60;go_wp2_with fail;go_ret;exact⟨rfl,D,C0.refl (·=f) _⟩
theorem UU(m d l:Int)(c B:Nat)(w:World)(f:Ob w B ⟨m,d,l⟩)(K:m=0\/m=1\/m=2)(J:c<256)(M:c≠10)(U:c≠124)(V:c≠41)(W:c≠42)(X:c≠43)(Y:c≠63)(Z:c≠40)(n8:c≠91)(n9:c≠92)(h:c≠93):Zg ⟨m,d,l⟩ c B w:=by
 unfold Zg;have c0:=f.c0;have f0:=Blk.frozen f 0;have D:X2 ⟨m,d,l⟩ (c:Int)=(⟨1,d,l⟩,true):=by
  unfold X2;rw[if_neg (by simp;omega),if_neg (by simp;omega),if_neg (by omega),if_neg (by omega),if_neg (by omega),if_neg (by omega),if_neg (by omega),if_neg (by omega),if_neg (by omega),if_neg (by omega)]
 rw[D];clear D;have e1:((c:Int)==10)=false:=by simp;omega
 have e2:((c:Int)==124)=false:=by simp;omega
 have e3:((c:Int)==41)=false:=by simp;omega
 have e4:((c:Int)==42)=false:=by simp;omega
 have e5:((c:Int)==43)=false:=by simp;omega
 have e6:((c:Int)==63)=false:=by simp;omega
 have e7:((c:Int)==40)=false:=by simp;omega
 have e8:((c:Int)==91)=false:=by simp;omega
 have e9:((c:Int)==92)=false:=by simp;omega
 have G:((c:Int)==93)=false:=by simp;omega
 clear M U V W X Y Z n8 n9 h J;rcases K with rfl|rfl|rfl
 all_goals
  go_enter Tryz.func60,Tryz.ntmps60;go_wp2_with fail;go_ret;exact⟨rfl,f.bY _,(C0.refl (·=B) _).setCell (fun _=>rfl) _⟩
theorem EY(r:RRd)(c h:Nat)(w:World)(B:Ob w h r)(D:c<256)(J:0<=r.bN/\r.bN<=10)(G:-1000000<=r.depth/\r.depth<=1000000):Zg r c h w:=by
 obtain⟨m,d,l⟩:=r;simp only at J G
 by_cases Z:4<=m
 ·exact CP ⟨m,d,l⟩ c h w B D ⟨Z,J.2⟩
 by_cases Y:m=3
 ·subst Y;unfold Zg;refine(OL d l c h w B D).mono ?_;rintro e w1 ⟨rfl,W,X⟩;exact⟨by simp[X2],by simpa[X2]using W,X⟩
 have f:m=0\/m=1\/m=2:=by omega
 by_cases K:c=10
 ·subst K;exact SZ m d l h w B f
 by_cases M:c=41
 ·subst M;exact XU m d l h w B f G
 by_cases U:c=40
 ·subst U;exact WU m d l h w B f G
 by_cases V:c=93
 ·subst V;exact TZ m d l h w B f
 by_cases k5:c=124\/c=42\/c=43\/c=63\/c=91\/c=92
 ·exact YU m d l c h w B f k5
 ·exact UU m d l c h w B f D K (by omega) M (by omega) (by omega) (by omega) U (by omega) (by omega) V
theorem YF{r:RRd}{c:Int}(f:0<=r.bN/\r.bN<=10):0<=(L2 r c).1.bN/\(L2 r c).1.bN<=10/\(L2 r c).1.depth=r.depth:=by
 unfold L2
 repeat' split
 all_goals(refine⟨?_,?_,?_⟩ <;>simp <;>omega)
theorem VU{r:RRd}{c:Int}(f:0<=r.bN/\r.bN<=10):0<=(X2 r c).1.bN/\(X2 r c).1.bN<=10/\r.depth-1<=(X2 r c).1.depth/\(X2 r c).1.depth<=r.depth+1:=by
 unfold X2;split
 ·have:=YF (c:=c) f;omega
 repeat' split
 all_goals(refine⟨?_,?_,?_,?_⟩ <;>simp <;>omega)
theorem C3{B:Nat}{a b c:World}{ex:Nat->Prop}(h:Below B a b)(k:C0 ex b c)(G:B<=b.heap.size)(D:∀i,i<B->¬ex i):Below B a c:=
 ⟨k.os.trans h.os,k.tape.trans h.tape,k.output.trans h.output,yI h.size k.size,fun i f=>(k.block i (by omega) (D i f)).trans (h.block i f)⟩
theorem R3{s:ByteArray}{p:Nat}(h:p<s.size):F0 s p=(s[p].toNat:Int):=by unfold F0;rw[dif_pos h]
theorem Ur(s:ByteArray)(w:World)(hs:s.size<=120):Calls Tryz.prog 27 #[.string s] w fun e w'=>e=.returned (.int .i64 (LG s))/\Bw w w':=by
 have a0:∃P,P=LG s:=⟨_,rfl⟩;obtain⟨P,hP⟩:=a0;rw[<-hP];have HP:=Hd hP;clear hP;go_enter Tryz.func27,Tryz.ntmps27;go_wp2_with fail
 go_loopg[4] s.size (fun G iv wr=>∃(k:Nat) (r:RRd),iv=.int .i64 k/\k<=s.size/\G=s.size-k/\Ob wr w.heap.size r/\(0<=r.bN/\r.bN<=10)/\(-(k:Int)<=r.depth/\r.depth<=(k:Int))/\M4 s r k=P/\Bw w wr/\w.heap.size<wr.heap.size)
 case atStart=>
  exact⟨0,⟨0,0,0⟩,rfl,by omega,rfl,Blk.aR _ _ _,⟨by simp,by simp⟩,⟨by simp,by simp⟩,HP.out.symm,N0 _ _,by simp⟩
 case round=>
  obtain⟨k,r,rfl,hk,rfl,W,V,hd,J,Z,hz⟩:=hrel
  by_cases Y:k<s.size
  ·have e0:decide ((k:Int)<(s.size:Int))=true:=by simp;omega
   have k0:(0:Int)<=(k:Int):=by omega
   have k1:(k:Int)<(s.size:Int):=by omega
   have X:=Hd (EY r s[k].toNat w.heap.size wr W (s[k].toNat_lt) V (by omega));unfold Zg at X;have D:=Hd (VU (c:=F0 s k) V);have h:=Hd (Tj (s:=s) (r:=r) Y);rw[R3 Y]at D h;rw[J]at h;generalize hF:X2 r ((s[k].toNat:Nat):Int)=F at X D h;obtain⟨F1,F2⟩:=F;simp only at X D h;have M:=Hd4 Z hz hd W;clear Z W V hd J hF;cases F2 with
   |true=>
    go_wp2_with fail;refine X.out.mono ?_;rintro e w1 ⟨rfl,U,K⟩;have B:=Hd2 U K;clear U K;go_wp2_with fail
    go_roundg (s.size- (k+1))
    case measure=>omega
    case rel=>
     obtain⟨b1,b2,b3,b4⟩:=M.out;have V:=D.out;refine⟨k+1,F1,by go_num,by omega,rfl,B.out.1,⟨V.1,V.2.1⟩,⟨by push_cast;omega,by push_cast;omega⟩,?_,C3 b1 B.out.2 (by omega) (fun i hi=>by omega),by have:=B.out.2.size;omega⟩;have:=h.out;simp only[if_true]at this;exact this.symm
   |false=>
    go_wp2_with fail;refine X.out.mono ?_;rintro e w1 ⟨rfl,U,K⟩;have B:=Hd2 U K;clear U K;go_wp2_with fail;go_ret;obtain⟨b1,b2,b3,b4⟩:=M.out;have:=h.out;simp only[zX,if_false]at this;refine⟨by rw[this];rfl,C3 b1 B.out.2 (by omega) (fun i hi=>by omega)⟩
  ·have e0:decide ((k:Int)<(s.size:Int))=false:=by simp;omega
   have f:=Hd (Lc (s:=s) (r:=r) (p:=k) (by omega));rw[J]at f;obtain⟨m,d,l⟩:=r;simp only at f;have c0:=W.c0;have c1:=W.c1;simp only at c0 c1;have M:=Hd Z;clear Z W V hd J
   by_cases U:0<d
   ·have e1:decide (0<d)=true:=by simp;omega
    go_wp2_with fail;go_ret;have:=f.out;rw[if_pos (.inl U)]at this;exact⟨by rw[this];rfl,M.out⟩
   ·have e1:decide (0<d)=false:=by simp;omega
    by_cases K:m=1
    ·subst K;go_wp2_with fail;go_ret;have:=f.out;rw[if_neg (by omega)]at this;exact⟨by rw[this];rfl,M.out⟩
    ·by_cases h3:m=2
     ·subst h3;go_wp2_with fail;go_ret;have:=f.out;rw[if_neg (by omega)]at this;exact⟨by rw[this];rfl,M.out⟩
     ·have e2:(m !=1)=true:=by simp;omega
      have e3:(m !=2)=true:=by simp;omega
      go_wp2_with fail;go_ret;have:=f.out;rw[if_pos (.inr ⟨K,h3⟩)]at this;exact⟨by rw[this];rfl,M.out⟩
theorem Sm(s:ByteArray)(w:World):Calls Tryz.prog 26 #[.string s] w fun e w'=>e=.returned (.bool (decide (s.size<=120)))/\w'=w:=by
 by_cases h:s.size<=120
 ·have f:decide ((s.size:Int)<=120)=true:=by simp;omega
  rw[show decide (s.size<=120)=true by simp;omega];go_enter Tryz.func26,Tryz.ntmps26;go_wp2_with fail;go_ret;exact⟨rfl,rfl⟩
 ·have f:decide ((s.size:Int)<=120)=false:=by simp;omega
  rw[show decide (s.size<=120)=false by simp;omega];go_enter Tryz.func26,Tryz.ntmps26;go_wp2_with fail;go_ret;exact⟨rfl,rfl⟩
def AEC(s:ByteArray)(i e:Nat):Prop:=∀w:World,Calls Tryz.prog 97 #[.string s,.int .i64 i] w fun f w'=>f=.returned (.int .i64 e)/\w'=w
inductive AEs(s:ByteArray):Nat->Nat->Prop where
 |nil (z:Nat):AEs s z z
 |step {i j z:Nat}:i<s.size->F0 s i≠41->i<j->AEC s i j->AEs s j z->AEs s i z
theorem Iq(s:ByteArray)(i:Nat)(U:s.size<=120)(f:F0 s i≠ -1)(h:F0 s i≠92)(B:F0 s i≠91)(D:F0 s i≠40):AEC s i (i+1):=by
 intro w;have G:=A1 f;rw[R3 G]at f h B D;have V:(0:Int)<=(i:Int):=by omega
 have W:(i:Int)<(s.size:Int):=by omega
 have J:(((s[i].toNat:Nat):Int)==92)=false:=by simp;omega
 have K:(((s[i].toNat:Nat):Int)==91)=false:=by simp;omega
 have M:(((s[i].toNat:Nat):Int)==40)=false:=by simp;omega
 clear f h B D;go_enter Tryz.func97,Tryz.ntmps97;go_wp2_with fail;go_ret;exact⟨by go_num,rfl⟩
theorem Aa9(s:ByteArray)(i:Nat)(D:s.size<=120)(f:F0 s i=92):AEC s i (i+2):=by
 intro w;have h:=A1 (s:=s) (p:=i) (by rw[f];decide);rw[R3 h]at f;have G:(0:Int)<=(i:Int):=by omega
 have J:(i:Int)<(s.size:Int):=by omega
 have B:(((s[i].toNat:Nat):Int)==92)=true:=by simp;omega
 clear f;go_enter Tryz.func97,Tryz.ntmps97;go_wp2_with fail;go_ret;exact⟨by go_num,rfl⟩
theorem Aa8(s:ByteArray)(i z:Nat)(l:List Int)(hs:s.size<=120)(f:F0 s i=91)(U:Cls s l i z):AEC s i (z+1):=by
 intro w;have hi:=A1 (s:=s) (p:=i) (by rw[f];decide);rw[R3 hi]at f;have i0:(0:Int)<=(i:Int):=by omega
 have i1:(i:Int)<(s.size:Int):=by omega
 have e1:(((s[i].toNat:Nat):Int)==92)=false:=by simp;omega
 have e2:(((s[i].toNat:Nat):Int)==91)=true:=by simp;omega
 clear f;have Z:=Hd U;have K:=U.le;clear U;go_enter Tryz.func97,Tryz.ntmps97;go_wp2_with fail
 go_loopg[1] (s.size-i) (fun G iv wr=>∃(q:Nat) (l:List Int),iv=.int .i64 q/\G=s.size-q/\q<=z/\Cls s l q z/\wr=w)
 case atStart=>exact⟨i,l,rfl,rfl,by have:=Z.out.le;omega,Z.out,rfl⟩
 case round=>
  obtain⟨q,X,rfl,rfl,hq,U,rfl⟩:=hrel;have J:=U.le;have q0:(0:Int)<=(q:Int):=by omega
  have q1:(q:Int)<(s.size:Int):=by omega
  have D:q<s.size:=by omega
  cases X with
  |nil=>
   obtain⟨rfl,W⟩:=U;rw[R3 D]at W;have Y:(((s[q].toNat:Nat):Int) !=93)=false:=by simp;omega
   clear W J K;go_wp2_with fail;go_ret;exact⟨by go_num,rfl⟩
  |cons v X=>
   rcases U with⟨f,_,B⟩|⟨f,_,_,_,B⟩|⟨_,_,_,f,h3,_,B⟩
   ·have M:=B.le;rw[R3 D]at f;have Y:(((s[q].toNat:Nat):Int) !=93)=true:=by simp;omega
    have e4:(((s[q].toNat:Nat):Int)==92)=false:=by simp;omega
    have h:=Hd B;have V:=Hd M;clear f J K B M;go_wp2_with fail
    go_roundg (s.size- (q+1))
    case measure=>omega
    case rel=>exact⟨q+1,X,by go_num,rfl,by have:=V.out;omega,h.out,rfl⟩
   ·have M:=B.le;rw[R3 D]at f;have Y:(((s[q].toNat:Nat):Int) !=93)=true:=by simp;omega
    have e4:(((s[q].toNat:Nat):Int)==92)=true:=by simp;omega
    have h:=Hd B;have V:=Hd M;clear f J K B M;go_wp2_with fail
    go_roundg (s.size- (q+2))
    case measure=>have:=V.out;omega
    case rel=>exact⟨q+2,X,by go_num,rfl,by have:=V.out;omega,h.out,rfl⟩
   ·have M:=B.le;rw[R3 D]at f h3;have Y:(((s[q].toNat:Nat):Int) !=93)=true:=by simp;omega
    have e4:(((s[q].toNat:Nat):Int)==92)=false:=by simp;omega
    have h:=Hd B;have V:=Hd M;clear f h3 J K B M;go_wp2_with fail
    go_roundg (s.size- (q+1))
    case measure=>omega
    case rel=>exact⟨q+1,X,by go_num,rfl,by have:=V.out;omega,h.out,rfl⟩
theorem RH(s:ByteArray)(i z:Nat)(hs:s.size<=120)(B:F0 s i=40)(h:AEs s (i+1) z)(D:F0 s z=41):AEC s i (z+1):=by
 intro w;have X:=A1 (s:=s) (p:=i) (by rw[B];decide);have J:=A1 (s:=s) (p:=z) (by rw[D];decide);rw[R3 X]at B;have i0:(0:Int)<=(i:Int):=by omega
 have i1:(i:Int)<(s.size:Int):=by omega
 have e1:(((s[i].toNat:Nat):Int)==92)=false:=by simp;omega
 have e2:(((s[i].toNat:Nat):Int)==91)=false:=by simp;omega
 have e3:(((s[i].toNat:Nat):Int)==40)=true:=by simp;omega
 clear B;have M:=Hd h;have V:=Hd D;clear h D;go_enter Tryz.func97,Tryz.ntmps97;go_wp2_with fail
 go_loopg[1] (s.size- (i+1)) (fun G Y wr=>∃q:Nat,Y=.int .i64 q/\G=s.size-q/\AEs s q z/\wr=w)
 case atStart=>exact⟨i+1,by go_num,rfl,M.out,rfl⟩
 case round=>
  obtain⟨q,rfl,rfl,h,rfl⟩:=hrel;cases h with
  |nil=>
   have Z:(0:Int)<=(z:Int):=by omega
   have q1:(z:Int)<(s.size:Int):=by omega
   have f:=V.out;rw[R3 J]at f;have W:(((s[z].toNat:Nat):Int) !=41)=false:=by simp;omega
   clear f;go_wp2_with fail;go_ret;exact⟨by go_num,rfl⟩
  | @step _ j _ hq f hlt hae hrest=>
   have Z:(0:Int)<=(q:Int):=by omega
   have q1:(q:Int)<(s.size:Int):=by omega
   rw[R3 hq]at f;have W:(((s[q].toNat:Nat):Int) !=41)=true:=by simp;omega
   have K:=Hd hae;have U:=Hd hrest;clear f hae hrest;go_wp2_with fail;refine(K.out _).mono ?_;rintro e w1 ⟨rfl,rfl⟩;go_wp2_with fail
   go_roundg (s.size-j)
   case measure=>omega
   case rel=>exact⟨j,rfl,rfl,U.out,rfl⟩
theorem SH{s:ByteArray}{i e:Nat}{A:Nat->Bool}(D:s.size<=120)(h:L8 s i e A)(B:F0 s i≠40):AEC s i e:=by
 cases h with
 |any h1 h2 _=>subst h2;exact Iq s i D (by rw[h1];decide) (by rw[h1];decide) (by rw[h1];decide) B
 |esc h1 h2 _ _ _=>subst h2;exact Aa9 s i D h1
 |aE l neg z h1 h2 h3 h4 _=>
  subst h2;have G:Cls s (91::(if neg=true then [94]else [])++l) i z:=by
   refine .inr (.inr ⟨by rw[h1];decide,by rw[h1];decide,by rw[h1];decide,by rw[h1];decide,by rw[h1];decide,h1.symm,?_⟩);cases neg with
   |false=>exact h4
   |true=>
    have f:F0 s (i+1)=94:=by simpa using h3.symm
    exact .inr (.inr ⟨by rw[f];decide,by rw[f];decide,by rw[f];decide,by rw[f];decide,by rw[f];decide,f.symm,h4⟩)
  exact Aa8 s i z _ D h1 G
 |bX h1 h2 h3 h4 h5 _=>subst h5;exact Iq s i D (fun e=>h1 (.inl e)) h4 h3 B
theorem PP{s:ByteArray}{e m z:Nat}(G:s.size<=120)(h:Dt s e m)(B:AEs s (e+F5 m) z):AEs s e z:=by
 rcases h with⟨rfl,_⟩|⟨J,f⟩
 ·exact B
 ·have D:=A1 (s:=s) (p:=e) (by rw[f];omega);have:F5 m=1:=by unfold F5;rw[if_neg (by omega)]
  rw[this]at B;exact .step D (by rw[f];omega) (by omega) (Iq s e G (by rw[f];omega) (by rw[f];omega) (by rw[f];omega) (by rw[f];omega)) B
theorem Bx{s:ByteArray}(f:s.size<=120):∀(t:PT) (i j z:Nat),t.Sp s i j->AEs s j z->AEs s i z
 |.nil,i,j,z,h,hr=>by rw[show i=j from h];exact hr
 |.bar r,i,j,z,h,hr=>by
  have M:=A1 (s:=s) (p:=i) (by rw[h.1];decide);exact .step M (by rw[h.1];decide) (by omega) (Iq s i f (by rw[h.1];decide) (by rw[h.1];decide) (by rw[h.1];decide) (by rw[h.1];decide)) (Bx f r (i+1) j z h.2 hr)
 |.leaf a e A m r,i,j,z,h,hr=>by
  obtain⟨_,B,G,J,K⟩:=h;have U:=Vf B;have V:=U.lt;exact .step (by omega) (fun e=>U.first (.inr (.inr (.inr (.inr (.inr (.inr (.inr (.inl e))))))))) V.1 (SH f U G) (PP f J (Bx f r _ j z K hr))
 |.group t m r,i,j,z,h,hr=>by
  obtain⟨D,e,B,G,J,K⟩:=h;have M:=A1 (s:=s) (p:=i) (by rw[D];decide);have W:=PT.cF B;exact .step M (by rw[D];decide) (by omega) (RH s i e f D (Bx f t _ _ _ B (.nil e)) G) (PP f J (Bx f r _ j z K hr))
theorem Ab0{s:ByteArray}(f:s.size<=120){t:PT}{i e:Nat}(h:F0 s i=40)(B:t.Sp s (i+1) e)(D:F0 s e=41):AEC s i (e+1):=RH s i e f h (Bx f t _ _ _ B (.nil e)) D
end Go.Proofs.YtcckhngbdoiikabGreat
