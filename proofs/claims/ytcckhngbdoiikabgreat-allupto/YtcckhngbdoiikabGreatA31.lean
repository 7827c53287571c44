import Derived.Test.YtcckhngbdoiikabGreatA21
import Derived.Deep.RegionWith
import Derived.BigRegion
import Derived.IntWalk
set_option maxRecDepth 20000
set_option maxHeartbeats 12800000
set_option linter.unusedVariables false
namespace Go.Proofs.YtcckhngbdoiikabGreat
open Go.RowKit Go.Deep
theorem Tryz.bZ:(Tryz.prog.info? 27).map (·.size)=some 5:=by kernel_rfl
theorem Qh{x:F3}{D:Array Oper}{rest:List Oper}{o:Oper}{a:Act}{w:World}{Q:Exit->Act->World->Prop}(G:o.guard=none)(p q:Operand)(K:o.op=.store 27 p q)
  (g:Nat) (M:a.eval p=.pointer (some ⟨g,0,none⟩)) (U:a.eval q=Es x) {B:Array Value} (J:Blk w g B 27) (f:B.size=5)
  (h:wpList Tryz.prog D Q rest (a.put o.dst undef) (w.setRow g (Pg x))):wpList Tryz.prog D Q (o::rest) a w:=
 wpList_store_row G 27 p q K g _ M U 27 _ J Tryz.bZ f (by simp[Value.oneCell']) h
theorem DG{x:F3}{f:Array Oper}{rest:List Oper}{o:Oper}{a:Act}{w:World}{Q:Exit->Act->World->Prop}(B:o.guard=none)(p:Operand)(G:o.op=.load 27 p)
  (g:Nat) (J:a.eval p=.pointer (some ⟨g,0,none⟩)) (D:Blk w g (Pg x) 27)
  (h:wpList Tryz.prog f Q rest (a.put o.dst (Es x)) w):wpList Tryz.prog f Q (o::rest) a w:=
 wpList_load_row B 27 p G g J 27 _ (0,0) _ D Tryz.underlying27 rfl Tryz.bZ h
theorem Ld{B:Func}{p q:Tmp}(h:B.results=#[.cell p 27,.tmp q]){x:F3}(f:Array Value){w:World}{g:Nat}
  (G:f.getD p undef=.pointer (some ⟨g,0,none⟩)) (D:Blk w g (Pg x) 27):(results B f).run Tryz.prog w=.ok (.tuple #[Es x,f.getD q undef]) w:=
 G3 h f w g 27 _ (0,0) _ G D Tryz.underlying27 rfl Tryz.bZ
theorem Q6{n:Nat}{w w':World}(h:Below n w w'):Below n w w'.drew:=⟨h.os,h.tape,h.output,h.size,h.block⟩
abbrev Tb:Array Value:=#[.int .i64 0,.int .i64 0,.int .i64 0,.int .i64 0,.string ⟨#[]⟩]
theorem KL(pb:Nat)(kd:Nat->Nat)(g:B0)(x:F3)(w:World)(h:W7 w pb kd g)(ho:N7 kd g)(h1:x.en<=2000000000000)(h2:x.tail.size<=4000000):
  Calls Tryz.prog 79 #[.pointer (some ⟨pb,0,none⟩),Es x] w fun e w'=>e=.returned (.tuple #[Es (S4 kd g x).1,.bool (S4 kd g x).2])/\Bw w w':=by
 have hN:=fun(W:World) (V:Bw w W) (st b:Int)=>Of pb kd g st b W (h.aA V) ho
 have hR:=fun(W:World) (V:Bw w W) (st:Int)=>Ad pb kd g st W (h.aA V)
 have hL:=fun(W:World) (V:Bw w W) (st:Int)=>Py pb kd g st W (h.aA V)
 have HN:=Hd hN;have HR:=Hd hR;have HL:=Hd hL;generalize K:S4 kd g x=X;unfold S4 at K;have HX:=Hd K;clear h ho hN hR K hL;obtain⟨xa,xe,xr,xs,D⟩:=x;simp only at h1 h2;go_enter Tryz.func79,Tryz.ntmps79;go_wp2_with fail
 go_loopg[8,9] (D.size+1) (fun G sv iv wr=>∃(i:Nat) (st:Int) (y:F3),sv=.int .i64 st/\iv=.int .i64 i/\i<=D.size/\G=D.size-i+1/\T4 kd g D xe G i st y=X/\
  Bw w wr/\Blk wr w.heap.size (Pg y) 27/\Blk wr (w.heap.size+1) Tb 27)
 case atStart=>
  exact⟨0,xs,⟨xa,xe,xr,xs,D⟩,rfl,rfl,yC _,rfl,HX.out,F6 _ _ _,(Blk.aR _ _ _).alloc _,Blk.dX _ _ _ _⟩
 case round=>
  obtain⟨i,st,y,rfl,rfl,hi,rfl,K,V,hT,hZ⟩:=hrel;clear HX
  by_cases a1:i<D.size
  ·have e0:decide ((i:Int)<(D.size:Int))=true:=by simp;omega
   rw[show D.size-i+1=(D.size- (i+1)+1)+1 by omega]at K;unfold T4 at K;rw[if_pos a1]at K;have B:Hid (Bw w wr/\Blk wr w.heap.size (Pg y) 27/\Blk wr (w.heap.size+1) Tb 27):=⟨V,hT,hZ⟩;have U:=Hd K;have p0:(0:Int)<=(i:Int):=by omega
   have p1:(i:Int)<(D.size:Int):=by omega
   clear V hZ hT K;go_wp2_with fail;rw[Vj D i a1];refine(HN.out wr B.out.1 st _).mono ?_;rintro e w1 ⟨rfl,Y⟩;generalize X0 kd g st (F0 D i)=n at U;have f:Hid (Bw w w1/\Blk w1 w.heap.size (Pg y) 27/\Blk w1 (w.heap.size+1) Tb 27):=
    ⟨B.out.1.trans (Y.mono B.out.1.size),B.out.2.1.aA Y,B.out.2.2.aA Y⟩
   clear Y B
   by_cases hn:n= -1
   ·have e1:(n== -1)=true:=by simp[hn]
    have J:=U.out;rw[if_pos hn]at J;subst J;clear U hn;go_wp2_with(first|refine DG rfl (.tmp 3) rfl w.heap.size rfl f.out.2.1 ?_|refine Qh rfl (.tmp 4) (.tmp 32) rfl (w.heap.size+1) rfl rfl f.out.2.2 rfl ?_);exact bodyPost_ret (Ld (x:=y) Tryz.results79 _ rfl (f.out.2.2.setRow _)) rfl ⟨rfl,I2 f.out.1 (by omega) _⟩
   ·have e1:(n== -1)=false:=by simp[hn]
    have J:=U.out;rw[if_neg hn]at J;clear U hn;have M:=Hd J;clear J;go_wp2_with fail;refine(HR.out w1 f.out.1 n).mono ?_;rintro e w2 ⟨rfl,rfl⟩;generalize M0 g n=r at M
    by_cases Z:r= -1
    ·have e2:(r != -1)=false:=by simp[Z]
     have e3:(r== -1)=true:=by simp[Z]
     have J:=M.out;rw[if_pos Z]at J;have a0:=Hd J;clear M J Z;go_wp2_with fail
     go_roundg (D.size- (i+1)+1)
     case measure=>omega
     case rel=>exact⟨i+1,n,y,rfl,by go_num,by omega,rfl,a0.out,f.out.1,f.out.2.1,f.out.2.2⟩
    ·have e2:(r != -1)=true:=by simp[Z]
     have e3:(r== -1)=false:=by simp[Z]
     have J:=M.out;rw[if_neg Z]at J;have a0:=Hd J;clear M J Z;obtain⟨ya,ye,yr,ys,yt⟩:=y;have c0:=f.out.2.1.cell 0;have f0:=f.out.2.1.frozen 0;have f1:=f.out.2.1.frozen 1;have f2:=f.out.2.1.frozen 2;have f3:=f.out.2.1.frozen 3;have f4:=f.out.2.1.frozen 4;have q1:=f.out.2.1.cell 1;have q2:=f.out.2.1.cell 2;have q3:=f.out.2.1.cell 3;have q4:=f.out.2.1.cell 4;have d9:w.heap.size≠w.heap.size+1:=by omega
     obtain⟨m,hm⟩:∃m:Nat,(xe:Int)+(i:Int)=(m:Int):=⟨xe+i,by omega⟩;obtain⟨m1,a3⟩:∃m1:Nat,(m:Int)+1=(m1:Int):=⟨m+1,by omega⟩;obtain⟨i1,a2⟩:∃i1:Nat,(i:Int)+1=(i1:Int):=⟨i+1,by omega⟩;have k1:(0:Int)<=(i1:Int):=by omega
     have k2:(i1:Int)<=(D.size:Int):=by omega
     have g1:m1=xe+i+1:=by omega
     have g2:i1=i+1:=by omega
     have G1:=Hd g1;have G2:=Hd g2;have b1:IntKind.i64.wrap ((xe:Int)+(i:Int))=(m:Int):=(Go.IntWalk.i64_left _).trans (by rw[hm];unfold wrap64;omega);have b2:IntKind.i64.wrap ((m:Int)+1)=(m1:Int):=(Go.IntWalk.i64_left _).trans (by rw[a3];unfold wrap64;omega);have b3:IntKind.i64.wrap ((i:Int)+1)=(i1:Int):=(Go.IntWalk.i64_left _).trans (by rw[a2];unfold wrap64;omega);clear g1 g2 hm a3 a2;go_wp2_with fail;go_region;clear b1 b2 b3;go_wp2_with fail
     go_roundg (D.size- (i+1)+1)
     case measure=>omega
     case rel=>
      refine⟨i+1,n,⟨ya,m1,r,n,D.extract i1 D.size⟩,rfl,by go_num,by omega,rfl,?_,?_,?_,?_⟩
      ·rw[G1.out,G2.out];exact a0.out
      ·exact Q6 (((((f.out.1.setCell (p:=⟨w.heap.size,0,none⟩) (zD _) _).setCell (p:=⟨w.heap.size,1,none⟩) (zD _) _).setCell (p:=⟨w.heap.size,2,none⟩) (zD _) _).setCell (p:=⟨w.heap.size,3,none⟩) (zD _) _).setCell (p:=⟨w.heap.size,4,none⟩) (zD _) _)
      ·exact Blk.drew (((((f.out.2.1.set 0 _).set 1 _).set 2 _).set 3 _).set 4 _)
      ·exact Blk.drew (((((f.out.2.2.aG (p:=⟨w.heap.size,0,none⟩) (by simp) _).aG (p:=⟨w.heap.size,1,none⟩) (by simp) _).aG (p:=⟨w.heap.size,2,none⟩) (by simp) _).aG (p:=⟨w.heap.size,3,none⟩) (by simp) _).aG (p:=⟨w.heap.size,4,none⟩) (by simp) _)
  ·have e0:decide ((i:Int)<(D.size:Int))=false:=by simp;omega
   rw[show D.size-i+1=0+1 by omega]at K;unfold T4 at K;rw[if_neg a1]at K;subst K;have B:Hid (Bw w wr/\Blk wr w.heap.size (Pg y) 27/\Blk wr (w.heap.size+1) Tb 27):=⟨V,hT,hZ⟩;clear V hZ hT;obtain⟨ya,ye,yr,ys,yt⟩:=y;have c0:=B.out.2.1.cell 0;have c1:=B.out.2.1.cell 1;have c2:=B.out.2.1.cell 2;have c3:=B.out.2.1.cell 3;have c4:=B.out.2.1.cell 4;have q0:=B.out.2.2.cell 0;have q1:=B.out.2.2.cell 1;have q2:=B.out.2.2.cell 2;have q3:=B.out.2.2.cell 3;have q4:=B.out.2.2.cell 4;have f0:=B.out.2.2.frozen 0;have f1:=B.out.2.2.frozen 1;have f2:=B.out.2.2.frozen 2;have f3:=B.out.2.2.frozen 3;have f4:=B.out.2.2.frozen 4;have d9:w.heap.size≠w.heap.size+1:=by omega
   have HB:Hid (Bw w wr.drew):=⟨B.out.1.os,B.out.1.tape,B.out.1.output,B.out.1.size,B.out.1.block⟩;go_wp2_with fail
   go_region_with (go_at_call 114;refine(HL.out _ HB.out _).mono ?_;rintro e w2 ⟨rfl,rfl⟩)
   all_goals
    clear c0 c1 c2 c3 c4 q0 q1 q2 q3 q4 f0 f1 f2 f3 f4;go_wp2_with fail;exact bodyPost_ret (Ld (x:=⟨ya,ye,yr,ys,yt⟩) Tryz.results79 _ rfl (Blk.drew (((((B.out.2.2.set 0 _).set 1 _).set 2 _).set 3 _).set 4 _))) rfl ⟨rfl,Q6 (((((B.out.1.setCell (p:=⟨w.heap.size+1,0,none⟩) (by simp) _).setCell (p:=⟨w.heap.size+1,1,none⟩) (by simp) _).setCell (p:=⟨w.heap.size+1,2,none⟩) (by simp) _).setCell (p:=⟨w.heap.size+1,3,none⟩) (by simp) _).setCell (p:=⟨w.heap.size+1,4,none⟩) (by simp) _)⟩
end Go.Proofs.YtcckhngbdoiikabGreat
