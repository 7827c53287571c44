import Derived.Test.YtcckhngbdoiikabGreatA05
import Derived.Test.YtcckhngbdoiikabGreatA06
import Derived.Deep.WholeRow
import Derived.Deep.LoopGhost
set_option maxRecDepth 20000
set_option maxHeartbeats 12800000
set_option linter.unusedVariables false
namespace Go.Proofs.YtcckhngbdoiikabGreat
open Go.RowKit Go.Deep
def Z1(A:Nat->Bool):Array Value:=(Array.range 256).map (fun i=>.bool (A i))
theorem Z2(A:Nat->Bool):(Z1 A).size=256:=by simp[Z1]
theorem Gd(A:Nat->Bool)(i:Nat)(h:i<256):(Z1 A)[i]?=some (.bool (A i)):=by
 simp[Z1,h]
theorem Ak(A:Nat->Bool):(Z1 A).all (·.oneCell')=true:=by
 rw[Array.all_eq_true_iff_forall_mem];intro v f;simp[Z1]at f;obtain⟨i,_,rfl⟩:=f;rfl
theorem Ox(A:Nat->Bool)(i:Nat)(v:Bool)(h:i<256):(Z1 A).setIfInBounds i (.bool v)=Z1 (fun j=>if j=i then v else A j):=by
 apply Array.ext_getElem?;intro j;rw[xD]
 by_cases f:j<256
 ·rw[Gd _ j f]
  by_cases e:i=j
  ·subst e;rw[if_pos rfl,if_pos (by rw[Z2];exact h),Gd _ _ h,if_pos rfl]
  ·rw[if_neg e,Gd _ j f,if_neg (fun B=>e B.symm)]
 ·rw[Array.getElem?_eq_none (by rw[Z2];omega:(Z1 _).size<=j)]
  by_cases e:i=j
  ·omega
  ·rw[if_neg e,Array.getElem?_eq_none (by rw[Z2];omega)]
theorem Wa{A B:Nat->Bool}(h:∀i,i<256->A i=B i):Z1 A=Z1 B:=by
 unfold Z1;apply Array.ext_getElem?;intro j;simp only[Array.getElem?_map]
 by_cases f:j<256
 ·simp[f,h j f]
 ·simp[f]
theorem Iu:Tryz.zeroCells228=Z1 Ja:=by kernel_rfl
theorem Tryz.cW:(Tryz.prog.info? 228).map (·.size)=some 256:=by kernel_rfl
theorem FO(A:Nat->Bool)(B f:Int)(k:Nat)(h:¬(B<=(k:Int)/\(k:Int)<=f)):
  Z1 (fun b=>A b || (decide (b<k) && (decide (B<=(b:Int)) && decide ((b:Int)<=f))))=Z1 (fun b=>A b || (decide (b<k+1) && (decide (B<=(b:Int)) && decide ((b:Int)<=f)))):=by
 apply Wa;intro i _
 by_cases e:i=k
 ·subst e;have:(decide (B<=(i:Int)) && decide ((i:Int)<=f))=false:=by
   rw[Bool.eq_false_iff];simp;omega
  simp[this]
 ·have:decide (i<k+1)=decide (i<k):=by congr 1;simp;omega
  rw[this]
theorem GO(A:Nat->Bool)(h f:Int)(k:Nat)(G:k<256)(B:h<=(k:Int))(D:(k:Int)<=f):
  (Z1 (fun b=>A b || (decide (b<k) && (decide (h<=(b:Int)) && decide ((b:Int)<=f))))).setIfInBounds k (.bool true)=Z1 (fun b=>A b || (decide (b<k+1) && (decide (h<=(b:Int)) && decide ((b:Int)<=f)))):=by
 rw[Ox _ _ _ G];apply Wa;intro i _
 by_cases e:i=k
 ·subst e;simp[B,D]
 ·have:decide (i<k+1)=decide (i<k):=by congr 1;simp;omega
  rw[this,if_neg e]
theorem AU(A:Nat->Bool)(h f:Int)(k:Nat)(D:256<=k):
  Z1 (fun b=>A b || (decide (b<k) && (decide (h<=(b:Int)) && decide ((b:Int)<=f))))=Z1 (P9 A h f):=by
 apply Wa;intro i B;have:decide (i<k)=true:=by simp;omega
 simp[this,P9]
theorem Zi(A:Nat->Bool)(B h:Int)(w:World):
  Calls Tryz.prog 151 #[.agg (Z1 A),.int .i64 B,.int .i64 h] w fun e w'=>e=.returned (.agg (Z1 (P9 A B h)))/\Bw w w':=by
 go_enter Tryz.func151,Tryz.ntmps151;go_wp2_with fail
 go_loopg[8] 256 (fun g i wr=>∃k:Nat,k<=256/\g=256-k/\i=.int .i64 k/\Bw w wr/\wr.heap.size=w.heap.size+2/\
  Blk wr w.heap.size (Z1 (fun b=>A b || (decide (b<k) && (decide (B<=(b:Int)) && decide ((b:Int)<=h))))) 228/\
  Blk wr (w.heap.size+1) Tryz.zeroCells228 228)
 case atStart=>
  refine⟨0,by omega,rfl,rfl,F6 _ _ _,by simp,?_,?_⟩
  ·have M:Z1 (fun b=>A b || (decide (b<0) && (decide (B<=(b:Int)) && decide ((b:Int)<=h))))=Z1 A:=Wa (fun i _=>by simp);exact M ▸ (Blk.aR w (Z1 A) 228).alloc _
  ·have:=Blk.aR (w.alloc (.cells (Z1 A) 228)) Tryz.zeroCells228 228;simpa using this
 case round=>
  obtain⟨k,hk,rfl,rfl,J,f,D,G⟩:=hrel
  by_cases K:k<256
  ·obtain⟨v,Y⟩:∃v,wr.cell? ⟨w.heap.size,k,none⟩=some (.bool v):=⟨_,(D.cell k).trans (Gd _ k K)⟩;have Z:=D.frozen k;have U:Hid (Bw w wr/\wr.heap.size=w.heap.size+2/\
    Blk wr w.heap.size (Z1 (fun b=>A b || (decide (b<k) && (decide (B<=(b:Int)) && decide ((b:Int)<=h))))) 228/\
    Blk wr (w.heap.size+1) Tryz.zeroCells228 228):=⟨J,f,D,G⟩
   clear J f D G
   by_cases W:B<=(k:Int) <;>by_cases X:(k:Int)<=h
   all_goals
    have M:decide ((k:Int)<256)=true:=by simp;omega
    go_wp2_with fail
    go_roundg (256- (k+1))
    case measure=>omega
    case rel=>
     obtain⟨J,f,D,G⟩:=U.out;refine⟨k+1,by omega,rfl,by go_num,?_⟩
     first
     |exact⟨J,f,by rw[<-FO A B h k (by omega)];exact D,G⟩
     |exact⟨J.setCell (zD _) _,by simp[f],by rw[<-GO A B h k K W X];exact D.set k _,G.aG (by simp) _⟩
  ·have M:decide ((k:Int)<256)=false:=by simp;omega
   go_wp2_with(first|refine wpList_load_row rfl 228 (.tmp 3) rfl w.heap.size rfl 228 _ (0,0) _ D Tryz.underlying228 rfl (by rw[Z2];exact Tryz.cW) ?_|refine wpList_store_row rfl 228 (.tmp 6) (.tmp 22) rfl (w.heap.size+1) _ rfl rfl 228 _ G (by rw[Z2];exact Tryz.cW) (by rw[Z2];exact Tryz.zeroCells228_size) (Ak _) ?_);have V:=AU A B h k (by omega);rw[<-V];exact bodyPost_ret (results_cell_row Tryz.results151 _ _ (w.heap.size+1) 228 _ (0,0) _ rfl (G.setRow _) Tryz.underlying228 rfl (by rw[Z2];exact Tryz.cW)) rfl ⟨rfl,I2 J (by omega) _⟩
theorem Sn{A:Nat->Bool}{f:Array Oper}{rest:List Oper}{o:Oper}{a:Act}{w:World}{Q:Exit->Act->World->Prop}(B:o.guard=none)(x:Operand)(G:o.op=.load 228 x)
  (g:Nat) (J:a.eval x=.pointer (some ⟨g,0,none⟩)) (D:Blk w g (Z1 A) 228)
  (h:wpList Tryz.prog f Q rest (a.put o.dst (.agg (Z1 A))) w):wpList Tryz.prog f Q (o::rest) a w:=
 wpList_load_row B 228 x G g J 228 _ (0,0) _ D Tryz.underlying228 rfl (by rw[Z2];exact Tryz.cW) h
theorem Ka{A:Nat->Bool}{D:Array Oper}{rest:List Oper}{o:Oper}{a:Act}{w:World}{Q:Exit->Act->World->Prop}(G:o.guard=none)(x y:Operand)(K:o.op=.store 228 x y)
  (g:Nat) (M:a.eval x=.pointer (some ⟨g,0,none⟩)) (U:a.eval y=.agg (Z1 A)) {B:Array Value} (J:Blk w g B 228) (f:B.size=256)
  (h:wpList Tryz.prog D Q rest (a.put o.dst undef) (w.setRow g (Z1 A))):wpList Tryz.prog D Q (o::rest) a w:=
 wpList_store_row G 228 x y K g _ M U 228 _ J (by rw[Z2];exact Tryz.cW) (by rw[Z2];exact f) (Ak _) h
theorem Gu{D:Array Oper}{rest:List Oper}{o:Oper}{a:Act}{w:World}{Q:Exit->Act->World->Prop}(G:o.guard=none)(x y:Operand)(K:o.op=.store 228 x y)
  (g:Nat) (M:a.eval x=.pointer (some ⟨g,0,none⟩)) (U:a.eval y=.agg Tryz.zeroCells228) {B:Array Value} (J:Blk w g B 228) (f:B.size=256)
  (h:wpList Tryz.prog D Q rest (a.put o.dst undef) (w.setRow g (Z1 Ja))):wpList Tryz.prog D Q (o::rest) a w:=
 Ka G x y K g M (by rw[U,Iu]) J f h
theorem Dd:Tryz.zeroCells228.size=256:=Tryz.zeroCells228_size
theorem G3{P:Program}{G:Func}{p q:Tmp}{B:TypeId}(h:G.results=#[.cell p B,.tmp q])(f:Array Value)(w:World)(g:Nat)(t:TypeId)(cs:Array Value)(fr:Nat×Nat)(d:TypeDesc)
  (U:f.getD p undef=.pointer (some ⟨g,0,none⟩)) (K:w.heap[g]?=some (.cells cs t fr))
  (V:P.underlying B=some d) (J:(match d with|.struct _|.array _ _=>true|_=>false)=true) (M:(P.info? B).map (·.size)=some cs.size):
  (results G f).run P w=.ok (.tuple #[.agg cs,f.getD q undef]) w:=by
 have D:f[p]?.getD undef=.pointer (some ⟨g,0,none⟩):=by simpa using U
 simp[results,h,D,asAddr,run_loadVar_row w g t B cs fr d K V J M]
theorem ZV(A:Nat->Bool)(k:Nat)(f:k<256):
  (Z1 (fun b=>if b<k then !A b else A b)).setIfInBounds k (.bool !A k)=Z1 (fun b=>if b<k+1 then !A b else A b):=by
 rw[Ox _ _ _ f];apply Wa;intro i _
 by_cases e:i=k
 ·subst e;simp
 ·by_cases h:i<k
  ·simp[e,h,show i<k+1 by omega]
  ·simp[e,h,show ¬i<k+1 by omega]
theorem WY(A:Nat->Bool)(k:Nat)(h:256<=k):Z1 (fun b=>if b<k then !A b else A b)=Z1 (Px A):=by
 apply Wa;intro i f;simp[show i<k by omega,Px]
theorem Dx(A:Nat->Bool)(w:World):
  Calls Tryz.prog 148 #[.agg (Z1 A)] w fun e w'=>e=.returned (.agg (Z1 (Px A)))/\Bw w w':=by
 go_enter Tryz.func148,Tryz.ntmps148;go_wp2_with fail
 go_loopg[4] 256 (fun g i wr=>∃k:Nat,k<=256/\g=256-k/\i=.int .i64 k/\Bw w wr/\wr.heap.size=w.heap.size+2/\
  Blk wr w.heap.size (Z1 (fun b=>if b<k then !A b else A b)) 228/\
  Blk wr (w.heap.size+1) Tryz.zeroCells228 228)
 case atStart=>
  refine⟨0,by omega,rfl,rfl,F6 _ _ _,by simp,?_,?_⟩
  ·have J:Z1 (fun b=>if b<0 then !A b else A b)=Z1 A:=Wa (fun i _=>by simp);exact J ▸ (Blk.aR w (Z1 A) 228).alloc _
  ·have:=Blk.aR (w.alloc (.cells (Z1 A) 228)) Tryz.zeroCells228 228;simpa using this
 case round=>
  obtain⟨k,W,rfl,rfl,D,f,h,B⟩:=hrel
  by_cases G:k<256
  ·have U:wr.cell? ⟨w.heap.size,k,none⟩=some (.bool (A k)):=by rw[h.cell k,Gd _ k G];simp
   have V:=h.frozen k;have K:Hid (Bw w wr/\wr.heap.size=w.heap.size+2/\
    Blk wr w.heap.size (Z1 (fun b=>if b<k then !A b else A b)) 228/\
    Blk wr (w.heap.size+1) Tryz.zeroCells228 228):=⟨D,f,h,B⟩
   clear D f h B;have J:decide ((k:Int)<256)=true:=by simp;omega
   go_wp2_with fail
   go_roundg (256- (k+1))
   case measure=>omega
   case rel=>
    obtain⟨D,f,h,B⟩:=K.out;exact⟨k+1,by omega,rfl,by go_num,D.setCell (zD _) _,by simp[f],by rw[<-ZV A k G];exact h.set k _,B.aG (by simp) _⟩
  ·have J:decide ((k:Int)<256)=false:=by simp;omega
   go_wp2_with(first|refine wpList_load_row rfl 228 (.tmp 1) rfl w.heap.size rfl 228 _ (0,0) _ h Tryz.underlying228 rfl (by rw[Z2];exact Tryz.cW) ?_|refine wpList_store_row rfl 228 (.tmp 2) (.tmp 14) rfl (w.heap.size+1) _ rfl rfl 228 _ B (by rw[Z2];exact Tryz.cW) (by rw[Z2];exact Tryz.zeroCells228_size) (Ak _) ?_);have M:=WY A k (by omega);rw[<-M];exact bodyPost_ret (results_cell_row Tryz.results148 _ _ (w.heap.size+1) 228 _ (0,0) _ rfl (B.setRow _) Tryz.underlying228 rfl (by rw[Z2];exact Tryz.cW)) rfl ⟨rfl,I2 D (by omega) _⟩
end Go.Proofs.YtcckhngbdoiikabGreat
