import Derived.Test.YtcckhngbdoiikaaGreatS06
import Derived.Test.YtcckhngbdoiikaaGreatS07
import Derived.Deep.WholeRow
import Derived.Deep.LoopGhost
set_option maxRecDepth 20000
set_option maxHeartbeats 12800000
set_option linter.unusedVariables false
namespace Go.Proofs.YtcckhngbdoiikaaGreat
open Go.RowKit Go.Deep
def U1(A:Nat->Bool):Array Value:=(Array.range 256).map (fun i=>.bool (A i))
theorem X2(A:Nat->Bool):(U1 A).size=256:=by simp[U1]
theorem Xc(A:Nat->Bool)(i:Nat)(h:i<256):(U1 A)[i]?=some (.bool (A i)):=by
 simp[U1,h]
theorem Qj(A:Nat->Bool):(U1 A).all (·.oneCell')=true:=by
 rw[Array.all_eq_true_iff_forall_mem];intro v f;simp[U1]at f;obtain⟨i,_,rfl⟩:=f;rfl
theorem Qw(A:Nat->Bool)(i:Nat)(v:Bool)(h:i<256):(U1 A).setIfInBounds i (.bool v)=U1 (fun j=>if j=i then v else A j):=by
 apply Array.ext_getElem?;intro j;rw[xB]
 by_cases f:j<256
 ·rw[Xc _ j f]
  by_cases e:i=j
  ·subst e;rw[if_pos rfl,if_pos (by rw[X2];exact h),Xc _ _ h,if_pos rfl]
  ·rw[if_neg e,Xc _ j f,if_neg (fun B=>e B.symm)]
 ·rw[Array.getElem?_eq_none (by rw[X2];omega:(U1 _).size<=j)]
  by_cases e:i=j
  ·omega
  ·rw[if_neg e,Array.getElem?_eq_none (by rw[X2];omega)]
theorem Qa{A B:Nat->Bool}(h:∀i,i<256->A i=B i):U1 A=U1 B:=by
 unfold U1;apply Array.ext_getElem?;intro j;simp only[Array.getElem?_map]
 by_cases f:j<256
 ·simp[f,h j f]
 ·simp[f]
theorem Lt:Tryz.zeroCells228=U1 Da:=by kernel_rfl
theorem Tryz.cV:(Tryz.prog.info? 228).map (·.size)=some 256:=by kernel_rfl
theorem IM(A:Nat->Bool)(B f:Int)(k:Nat)(h:¬(B<=(k:Int)/\(k:Int)<=f)):
  U1 (fun b=>A b || (decide (b<k) && (decide (B<=(b:Int)) && decide ((b:Int)<=f))))=U1 (fun b=>A b || (decide (b<k+1) && (decide (B<=(b:Int)) && decide ((b:Int)<=f)))):=by
 apply Qa;intro i _
 by_cases e:i=k
 ·subst e;have:(decide (B<=(i:Int)) && decide ((i:Int)<=f))=false:=by
   rw[Bool.eq_false_iff];simp;omega
  simp[this]
 ·have:decide (i<k+1)=decide (i<k):=by congr 1;simp;omega
  rw[this]
theorem JM(A:Nat->Bool)(h f:Int)(k:Nat)(G:k<256)(B:h<=(k:Int))(D:(k:Int)<=f):
  (U1 (fun b=>A b || (decide (b<k) && (decide (h<=(b:Int)) && decide ((b:Int)<=f))))).setIfInBounds k (.bool true)=U1 (fun b=>A b || (decide (b<k+1) && (decide (h<=(b:Int)) && decide ((b:Int)<=f)))):=by
 rw[Qw _ _ _ G];apply Qa;intro i _
 by_cases e:i=k
 ·subst e;simp[B,D]
 ·have:decide (i<k+1)=decide (i<k):=by congr 1;simp;omega
  rw[this,if_neg e]
theorem NR(A:Nat->Bool)(h f:Int)(k:Nat)(D:256<=k):
  U1 (fun b=>A b || (decide (b<k) && (decide (h<=(b:Int)) && decide ((b:Int)<=f))))=U1 (F9 A h f):=by
 apply Qa;intro i B;have:decide (i<k)=true:=by simp;omega
 simp[this,F9]
theorem Qi(A:Nat->Bool)(B h:Int)(w:World):
  Calls Tryz.prog 152 #[.agg (U1 A),.int .i64 B,.int .i64 h] w fun e w'=>e=.returned (.agg (U1 (F9 A B h)))/\Bw w w':=by
 go_enter Tryz.func152,Tryz.ntmps152;go_wp2_with fail
 go_loopg[8] 256 (fun g i wr=>∃k:Nat,k<=256/\g=256-k/\i=.int .i64 k/\Bw w wr/\wr.heap.size=w.heap.size+2/\
  Blk wr w.heap.size (U1 (fun b=>A b || (decide (b<k) && (decide (B<=(b:Int)) && decide ((b:Int)<=h))))) 228/\
  Blk wr (w.heap.size+1) Tryz.zeroCells228 228)
 case atStart=>
  refine⟨0,by omega,rfl,rfl,Z5 _ _ _,by simp,?_,?_⟩
  ·have M:U1 (fun b=>A b || (decide (b<0) && (decide (B<=(b:Int)) && decide ((b:Int)<=h))))=U1 A:=Qa (fun i _=>by simp);exact M ▸ (Blk.aQ w (U1 A) 228).alloc _
  ·have:=Blk.aQ (w.alloc (.cells (U1 A) 228)) Tryz.zeroCells228 228;simpa using this
 case round=>
  obtain⟨k,hk,rfl,rfl,J,f,D,G⟩:=hrel
  by_cases K:k<256
  ·obtain⟨v,Y⟩:∃v,wr.cell? ⟨w.heap.size,k,none⟩=some (.bool v):=⟨_,(D.cell k).trans (Xc _ k K)⟩;have Z:=D.frozen k;have U:Hid (Bw w wr/\wr.heap.size=w.heap.size+2/\
    Blk wr w.heap.size (U1 (fun b=>A b || (decide (b<k) && (decide (B<=(b:Int)) && decide ((b:Int)<=h))))) 228/\
    Blk wr (w.heap.size+1) Tryz.zeroCells228 228):=⟨J,f,D,G⟩
   clear J f D G
   by_cases W:B<=(k:Int) <;>by_cases X:(k:Int)<=h
   all_goals
    have M:decide ((k:Int)<256)=true:=by simp;omega
    go_wp2_with fail
    go_roundg (256- (k+1))
    case measure=>omega
    case rel=>
     obtain⟨J,f,D,G⟩:=U.out;refine⟨k+1,by omega,rfl,by go_num,?_⟩
     first
     |exact⟨J,f,by rw[<-IM A B h k (by omega)];exact D,G⟩
     |exact⟨J.setCell (zD _) _,by simp[f],by rw[<-JM A B h k K W X];exact D.set k _,G.aG (by simp) _⟩
  ·have M:decide ((k:Int)<256)=false:=by simp;omega
   go_wp2_with(first|refine wpList_load_row rfl 228 (.tmp 3) rfl w.heap.size rfl 228 _ (0,0) _ D Tryz.underlying228 rfl (by rw[X2];exact Tryz.cV) ?_|refine wpList_store_row rfl 228 (.tmp 6) (.tmp 22) rfl (w.heap.size+1) _ rfl rfl 228 _ G (by rw[X2];exact Tryz.cV) (by rw[X2];exact Tryz.zeroCells228_size) (Qj _) ?_);have V:=NR A B h k (by omega);rw[<-V];exact bodyPost_ret (results_cell_row Tryz.results152 _ _ (w.heap.size+1) 228 _ (0,0) _ rfl (G.setRow _) Tryz.underlying228 rfl (by rw[X2];exact Tryz.cV)) rfl ⟨rfl,I2 J (by omega) _⟩
theorem Xm{A:Nat->Bool}{f:Array Oper}{rest:List Oper}{o:Oper}{a:Act}{w:World}{Q:Exit->Act->World->Prop}(B:o.guard=none)(x:Operand)(G:o.op=.load 228 x)
  (g:Nat) (J:a.eval x=.pointer (some ⟨g,0,none⟩)) (D:Blk w g (U1 A) 228)
  (h:wpList Tryz.prog f Q rest (a.put o.dst (.agg (U1 A))) w):wpList Tryz.prog f Q (o::rest) a w:=
 wpList_load_row B 228 x G g J 228 _ (0,0) _ D Tryz.underlying228 rfl (by rw[X2];exact Tryz.cV) h
theorem Fa{A:Nat->Bool}{D:Array Oper}{rest:List Oper}{o:Oper}{a:Act}{w:World}{Q:Exit->Act->World->Prop}(G:o.guard=none)(x y:Operand)(K:o.op=.store 228 x y)
  (g:Nat) (M:a.eval x=.pointer (some ⟨g,0,none⟩)) (U:a.eval y=.agg (U1 A)) {B:Array Value} (J:Blk w g B 228) (f:B.size=256)
  (h:wpList Tryz.prog D Q rest (a.put o.dst undef) (w.setRow g (U1 A))):wpList Tryz.prog D Q (o::rest) a w:=
 wpList_store_row G 228 x y K g _ M U 228 _ J (by rw[X2];exact Tryz.cV) (by rw[X2];exact f) (Qj _) h
theorem Ht{D:Array Oper}{rest:List Oper}{o:Oper}{a:Act}{w:World}{Q:Exit->Act->World->Prop}(G:o.guard=none)(x y:Operand)(K:o.op=.store 228 x y)
  (g:Nat) (M:a.eval x=.pointer (some ⟨g,0,none⟩)) (U:a.eval y=.agg Tryz.zeroCells228) {B:Array Value} (J:Blk w g B 228) (f:B.size=256)
  (h:wpList Tryz.prog D Q rest (a.put o.dst undef) (w.setRow g (U1 Da))):wpList Tryz.prog D Q (o::rest) a w:=
 Fa G x y K g M (by rw[U,Lt]) J f h
theorem Vc:Tryz.zeroCells228.size=256:=Tryz.zeroCells228_size
theorem C3{P:Program}{G:Func}{p q:Tmp}{B:TypeId}(h:G.results=#[.cell p B,.tmp q])(f:Array Value)(w:World)(g:Nat)(t:TypeId)(cs:Array Value)(fr:Nat×Nat)(d:TypeDesc)
  (U:f.getD p undef=.pointer (some ⟨g,0,none⟩)) (K:w.heap[g]?=some (.cells cs t fr))
  (V:P.underlying B=some d) (J:(match d with|.struct _|.array _ _=>true|_=>false)=true) (M:(P.info? B).map (·.size)=some cs.size):
  (results G f).run P w=.ok (.tuple #[.agg cs,f.getD q undef]) w:=by
 have D:f[p]?.getD undef=.pointer (some ⟨g,0,none⟩):=by simpa using U
 simp[results,h,D,asAddr,run_loadVar_row w g t B cs fr d K V J M]
theorem AU(A:Nat->Bool)(k:Nat)(f:k<256):
  (U1 (fun b=>if b<k then !A b else A b)).setIfInBounds k (.bool !A k)=U1 (fun b=>if b<k+1 then !A b else A b):=by
 rw[Qw _ _ _ f];apply Qa;intro i _
 by_cases e:i=k
 ·subst e;simp
 ·by_cases h:i<k
  ·simp[e,h,show i<k+1 by omega]
  ·simp[e,h,show ¬i<k+1 by omega]
theorem DX(A:Nat->Bool)(k:Nat)(h:256<=k):U1 (fun b=>if b<k then !A b else A b)=U1 (Rw A):=by
 apply Qa;intro i f;simp[show i<k by omega,Rw]
theorem Fw(A:Nat->Bool)(w:World):
  Calls Tryz.prog 149 #[.agg (U1 A)] w fun e w'=>e=.returned (.agg (U1 (Rw A)))/\Bw w w':=by
 go_enter Tryz.func149,Tryz.ntmps149;go_wp2_with fail
 go_loopg[4] 256 (fun g i wr=>∃k:Nat,k<=256/\g=256-k/\i=.int .i64 k/\Bw w wr/\wr.heap.size=w.heap.size+2/\
  Blk wr w.heap.size (U1 (fun b=>if b<k then !A b else A b)) 228/\
  Blk wr (w.heap.size+1) Tryz.zeroCells228 228)
 case atStart=>
  refine⟨0,by omega,rfl,rfl,Z5 _ _ _,by simp,?_,?_⟩
  ·have J:U1 (fun b=>if b<0 then !A b else A b)=U1 A:=Qa (fun i _=>by simp);exact J ▸ (Blk.aQ w (U1 A) 228).alloc _
  ·have:=Blk.aQ (w.alloc (.cells (U1 A) 228)) Tryz.zeroCells228 228;simpa using this
 case round=>
  obtain⟨k,W,rfl,rfl,D,f,h,B⟩:=hrel
  by_cases G:k<256
  ·have U:wr.cell? ⟨w.heap.size,k,none⟩=some (.bool (A k)):=by rw[h.cell k,Xc _ k G];simp
   have V:=h.frozen k;have K:Hid (Bw w wr/\wr.heap.size=w.heap.size+2/\
    Blk wr w.heap.size (U1 (fun b=>if b<k then !A b else A b)) 228/\
    Blk wr (w.heap.size+1) Tryz.zeroCells228 228):=⟨D,f,h,B⟩
   clear D f h B;have J:decide ((k:Int)<256)=true:=by simp;omega
   go_wp2_with fail
   go_roundg (256- (k+1))
   case measure=>omega
   case rel=>
    obtain⟨D,f,h,B⟩:=K.out;exact⟨k+1,by omega,rfl,by go_num,D.setCell (zD _) _,by simp[f],by rw[<-AU A k G];exact h.set k _,B.aG (by simp) _⟩
  ·have J:decide ((k:Int)<256)=false:=by simp;omega
   go_wp2_with(first|refine wpList_load_row rfl 228 (.tmp 1) rfl w.heap.size rfl 228 _ (0,0) _ h Tryz.underlying228 rfl (by rw[X2];exact Tryz.cV) ?_|refine wpList_store_row rfl 228 (.tmp 2) (.tmp 14) rfl (w.heap.size+1) _ rfl rfl 228 _ B (by rw[X2];exact Tryz.cV) (by rw[X2];exact Tryz.zeroCells228_size) (Qj _) ?_);have M:=DX A k (by omega);rw[<-M];exact bodyPost_ret (results_cell_row Tryz.results149 _ _ (w.heap.size+1) 228 _ (0,0) _ rfl (B.setRow _) Tryz.underlying228 rfl (by rw[X2];exact Tryz.cV)) rfl ⟨rfl,I2 D (by omega) _⟩
end Go.Proofs.YtcckhngbdoiikaaGreat
