import Derived.Test.YtcckhngbdoiikaaGreatS20
import Derived.Test.YtcckhngbdoiikaaGreatS05
set_option maxRecDepth 20000
set_option maxHeartbeats 12800000
set_option linter.unusedVariables false
namespace Go.Proofs.YtcckhngbdoiikaaGreat
open Go.RowKit Go.Deep
theorem K0{w:World}{e:TypeId}{B n:Nat}{v:Value}{M:List Value}{b:Nat}{c:Array Value}{t:TypeId}(h:w.ownsRow 0 e B v n M)(G:Blk w b c t)(D:t≠e):v.ownBlock≠some b:=by
 intro J;obtain⟨_,⟨rfl,_⟩|⟨g,K,cur,rfl,_,f,_⟩⟩:=h
 ·simp[Value.ownBlock]at J
 ·cases(zE J:g=b);unfold Blk at G;rw[G]at f
  injection f with f
  injection f with _ f
  exact D f
theorem U6.keptAt{w w':World}{U J:Value}{g:B0}{b:Nat}{c:Array Value}{t:TypeId}(h:U6 w U J g)(k:C0 (fun x=>x=b) w w')(B:Blk w b c t)(D:t≠3)(V:t≠60):U6 w' U J g:=by
 obtain⟨X,K,W,M⟩:=h.next;exact⟨h.aB.kept k (fun x f e=>K0 h.aB B D (e ▸ f)),X,K.kept k (fun x f e=>K0 K B V (e ▸ f)),W,fun i v G=>(M i v G).kept k (fun x f e=>K0 (M i v G) B D (e ▸ f))⟩
theorem RF(w:World)(b:Nat)(x y:Value):C0 (fun k=>k=b) w ((w.setCell ⟨b,0,none⟩ x).setCell ⟨b,1,none⟩ y):=
 C0.setCell (ex:=fun k=>k=b) (p:=⟨b,1,none⟩) (C0.setCell (ex:=fun k=>k=b) (p:=⟨b,0,none⟩) (C0.refl _ _) (fun _=>rfl) _) (fun _=>rfl) _
theorem KT(w:World)(b:Nat)(c:Array Value):C0 (fun k=>k=b) w (w.setRow b c):=C0.setRow (ex:=fun k=>k=b) (C0.refl _ _) (fun _=>rfl) _
theorem ER{w:World}{v:Value}{l:List Int}(h:O2 w v l):v.oneCell'=true:=by
 obtain⟨_,_,rfl,_⟩:=h.aT;rfl
theorem U6.bX{w:World}{B f:Value}{g:B0}(h:U6 w B f g):B.oneCell'=true/\f.oneCell'=true:=by
 obtain⟨G,D,_⟩:=h.next;obtain⟨_,_,rfl,_⟩:=D.aT;exact⟨ER h.aB,rfl⟩
theorem AN(f:Nat->Nat){G D:Value}(h:G.oneCell'=true/\D.oneCell'=true):(S6 f G D).all (·.oneCell')=true:=by
 rw[Array.all_eq_true_iff_forall_mem];intro v B;simp only[S6,Array.mem_append]at B;rcases B with B|B
 ·have:=JB f;rw[Array.all_eq_true_iff_forall_mem]at this;exact this v B
 ·simp at B;rcases B with e|e
  ·subst e;exact h.1
  ·subst e;exact h.2
theorem QZ{f:Nat->Nat}{J G:Value}{B:Array Oper}{rest:List Oper}{o:Oper}{a:Act}{w:World}{Q:Exit->Act->World->Prop}(D:o.guard=none)(x:Operand)(M:o.op=.load 65 x)
  (g:Nat) (U:a.eval x=.pointer (some ⟨g,0,none⟩)) (K:Blk w g (S6 f J G) 65)
  (h:wpList Tryz.prog B Q rest (a.put o.dst (.agg (S6 f J G))) w):wpList Tryz.prog B Q (o::rest) a w:=
 wpList_load_row D 65 x M g U 65 _ (0,0) _ K Tryz.underlying65 rfl (by rw[Tf];exact Tryz.fW) h
theorem GF{f:Nat->Nat}{M K:Value}{G:Array Oper}{rest:List Oper}{o:Oper}{a:Act}{w:World}{Q:Exit->Act->World->Prop}(J:o.guard=none)(x y:Operand)(W:o.op=.store 65 x y)
  (g:Nat) (X:a.eval x=.pointer (some ⟨g,0,none⟩)) (Y:a.eval y=.agg (S6 f M K)) {D:Array Value} (V:Blk w g D 65) (B:D.size=258) (U:M.oneCell'=true/\K.oneCell'=true)
  (h:wpList Tryz.prog G Q rest (a.put o.dst undef) (w.setRow g (S6 f M K))):wpList Tryz.prog G Q (o::rest) a w:=
 wpList_store_row J 65 x y W g _ X Y 65 _ V (by rw[Tf];exact Tryz.fW) (by rw[Tf];exact B) (AN f U) h
theorem YX{D:Array Oper}{rest:List Oper}{o:Oper}{a:Act}{w:World}{Q:Exit->Act->World->Prop}(G:o.guard=none)(x y:Operand)(K:o.op=.store 65 x y)
  (g:Nat) (M:a.eval x=.pointer (some ⟨g,0,none⟩)) (U:a.eval y=.agg Tryz.zeroCells65) {B:Array Value} (J:Blk w g B 65) (f:B.size=258)
  (h:wpList Tryz.prog D Q rest (a.put o.dst undef) (w.setRow g (S6 (fun _=>0) (.slice none 0 0) (.slice none 0 0)))):wpList Tryz.prog D Q (o::rest) a w:=
 GF G x y K g M (by rw[U,ZS]) J f ⟨rfl,rfl⟩ h
theorem XY{f:Nat->Nat}{J G:Value}{B:Array Oper}{rest:List Oper}{o:Oper}{a:Act}{w:World}{Q:Exit->Act->World->Prop}(D:o.guard=none)(x y:Operand)(U:o.op=.build 65 #[(0,x),(1,y)])
  (V:a.eval x=.agg (G6 f)) (W:a.eval y=.agg #[J,G])
  (h:wpList Tryz.prog B Q rest (a.put o.dst (.agg (S6 f J G))) w):wpList Tryz.prog B Q (o::rest) a w:=by
 refine wpList_plain D fun K M=>?_
 unfold Oper.wp execOp;simp only[U,List.map_toArray,List.map_cons,List.map_nil,V,W,UK,Sem.run_bind,Sem.run_pure,Result.andThen_ok];exact M _ _ h
theorem WY{f:Nat->Nat}{J G:Value}{B:Array Oper}{rest:List Oper}{o:Oper}{a:Act}{w:World}{Q:Exit->Act->World->Prop}(D:o.guard=none)(x:Operand)(U:o.op=.build 67 #[(0,x)])
  (V:a.eval x=.agg (S6 f J G))
  (h:wpList Tryz.prog B Q rest (a.put o.dst (.agg (S6 f J G))) w):wpList Tryz.prog B Q (o::rest) a w:=by
 refine wpList_plain D fun K M=>?_
 unfold Oper.wp execOp;simp only[U,List.map_toArray,List.map_cons,List.map_nil,V,TK,Sem.run_bind,Sem.run_pure,Result.andThen_ok];exact M _ _ h
theorem ZO:Tryz.zeroCells65.size=258:=Tryz.zeroCells65_size
theorem QP(R:E0)(gb:Nat)(O:Nat->Prop)(fv lv:Value)(w:World)(h:C1 w gb O R fv lv)(hf:R.aC.length<=1000)(hl:R.last.length<=1000):
    Calls Tryz.prog 22 #[.pointer (some ⟨gb,0,none⟩)] w fun e w'=>Bw w w'/\
      (A4 R=none/\e=.returned (.tuple #[.agg (S6 (fun _=>0) (.slice none 0 0) (.slice none 0 0)),.int .i64 3])\/
       ∃kd g a9 a8,A4 R=some (kd,g)/\e=.returned (.tuple #[.agg (S6 kd a9 a8),.int .i64 0])/\U6 w' a9 a8 g):=by
  generalize hX:A4 R=X;unfold A4 at hX;have HX:=Hd hX;have HR:=Hd h;have be:=FA R gb O fv lv (w.alloc (.cells Tryz.zeroCells65 65)) (h.aA (P0 _ _));have b4:=Hd be;clear h hX be;go_enter Tryz.func22,Tryz.ntmps22;go_wp2_with fail;refine b4.out.mono ?_;rintro e K ⟨kv,rfl,bd,au⟩;have Z:Bw w K:=(P0 w _).trans (au.mono (by simp));have ar:=(Blk.aQ w Tryz.zeroCells65 65).aA au;have ag:Bw K ((K.alloc (.cells Tryz.zeroCells59 59)).setRow K.heap.size (G6 (Z2 R.aJ))):=I2 (P0 _ _) (zD _) _;have V:Blk ((K.alloc (.cells Tryz.zeroCells59 59)).setRow K.heap.size (G6 (Z2 R.aJ))) K.heap.size (G6 (Z2 R.aJ)) 59:=(Blk.aQ _ _ _).setRow _;have W:Bw w ((K.alloc (.cells Tryz.zeroCells59 59)).setRow K.heap.size (G6 (Z2 R.aJ))):=Z.trans (ag.mono Z.size);have b7:=TG R gb O fv lv kv (V0 R.aJ 256) _ (HR.out.aA W) (bd.aA ag) (Wj _ 256) hf hl;have ax:=Hd b7;have z1:=ar.lt;have az:Hid (Bw w K/\Blk K w.heap.size Tryz.zeroCells65 65/\Bw K ((K.alloc (.cells Tryz.zeroCells59 59)).setRow K.heap.size (G6 (Z2 R.aJ)))/\Blk ((K.alloc (.cells Tryz.zeroCells59 59)).setRow K.heap.size (G6 (Z2 R.aJ))) K.heap.size (G6 (Z2 R.aJ)) 59):=⟨Z,ar,ag,V⟩;clear au Z ar ag V W b7 bd;go_wp2_with(first|refine YM rfl (.tmp 4) (.tmp 12) rfl K.heap.size rfl rfl (Blk.aQ _ _ _) PW ?_);refine ax.out.mono ?_;rintro e f ⟨W,bp⟩;obtain⟨q1,q2,q3,q4⟩:=az.out;have a4:=(q2.aA q3).aA W;have V:=q4.aA W;have a0:Bw w f:=(q1.trans (q3.mono q1.size)).trans (W.mono (by have:=q1.size;simp;omega));have z2:w.heap.size<f.heap.size:=a4.lt;have z3:K.heap.size<f.heap.size:=V.lt;clear q1 q2 q3 q4 W ax az b4;rcases bp with⟨hx,rfl⟩|⟨g,a9,a8,hx,rfl,a3⟩
  · have bw:X=none:=by have:=HX.out;rw[hx]at this;exact this.symm
    subst bw;have b5:=Hd a4;have br:=Hd a0;clear hx a4 V a0;go_wp2_with(first|refine YX rfl (.tmp 2) (.tmp 22) rfl w.heap.size rfl rfl (b5.out.alloc _) ZO ?_);exact bodyPost_ret (C3 Tryz.results22 _ _ w.heap.size 65 _ (0,0) _ rfl ((b5.out.alloc _).setRow _) Tryz.underlying65 rfl (by rw[Tf];exact Tryz.fW)) rfl ⟨I2 (br.out.alloc (by omega) _) (zD _) _,rfl⟩
  · obtain⟨ho,aj,hn⟩:=K8 hx
    have c4:=Wj R.aJ 256;have bx:X=some (Z2 R.aJ,E1 (G0 g) (N1 (G0 g))):=by have:=HX.out;rw[hx]at this;exact this.symm
    subst bx;have bz:=Z4 ho;have bo:(G0 g).aB=g.aB:=rfl;have bn:=LR a9 a8 g _ (f.alloc (.cells #[a9,a8] 63)) (a3.aA (P0 _ _)) ho (by omega) (by omega);have a1:=a3.bX;have b3:=Hd bn;have ac:Hid (Bw w f/\Blk f w.heap.size Tryz.zeroCells65 65/\Blk f K.heap.size (G6 (Z2 R.aJ)) 59):=⟨a0,a4,V⟩;have b2:=Hd bz;have c3:=Hd hx;have ae:=Hd bo;clear bo;obtain⟨rd,B,rfl,aw⟩:=a3.aB.aT;clear aw;obtain⟨bq,ba,a5,a6⟩:=a3.next;obtain⟨nd,am,rfl,a7⟩:=ba.aT;clear a5 a6 a7;clear bn a3 hx ho a0 a4 V a1 ba;go_wp2_with fail;refine b3.out.mono ?_;rintro e w3 ⟨pv,rfl,ap,av⟩;obtain⟨J,bb,a5,a6⟩:=ap.next;obtain⟨pd,D,rfl,a7⟩:=bb.aT;clear a5 a6 a7;have U:=(Blk.aQ f #[.slice rd g.aB.length B,.slice nd bq.length am] 63).aA av;have c0:w3.cell? ⟨f.heap.size,0,none⟩=some (.slice rd g.aB.length B):=U.cell 0;have c1:w3.cell? ⟨f.heap.size,1,none⟩=some (.slice nd bq.length am):=U.cell 1;have f0:=U.frozen 0;have f1:=U.frozen 1;have bj:=RF w3 f.heap.size (.slice rd g.aB.length B) (.slice pd J.length D);have aq:=ap.keptAt bj U (by decide) (by decide);have bf:=(U.set 0 (.slice rd g.aB.length B)).set 1 (.slice pd J.length D);have Y:Bw f ((w3.setCell ⟨f.heap.size,0,none⟩ (.slice rd g.aB.length B)).setCell ⟨f.heap.size,1,none⟩ (.slice pd J.length D)):=(((P0 f _).trans (av.mono (by simp))).setCell (zD _) _).setCell (zD _) _;have bl:=VQ _ _ (G0 g) _ _ aq b2.out (by rw[ae.out];omega) (by omega);have b0:=Hd bl;have zT:f.heap.size<w3.heap.size:=U.lt;have ad:Hid (Bw f ((w3.setCell ⟨f.heap.size,0,none⟩ (.slice rd g.aB.length B)).setCell ⟨f.heap.size,1,none⟩ (.slice pd J.length D))/\Blk ((w3.setCell ⟨f.heap.size,0,none⟩ (.slice rd g.aB.length B)).setCell ⟨f.heap.size,1,none⟩ (.slice pd J.length D)) f.heap.size #[.slice rd g.aB.length B,.slice pd J.length D] 63/\U6 ((w3.setCell ⟨f.heap.size,0,none⟩ (.slice rd g.aB.length B)).setCell ⟨f.heap.size,1,none⟩ (.slice pd J.length D)) (.slice rd g.aB.length B) (.slice pd J.length D) (G0 g)):=⟨Y,bf,aq⟩;clear bl Y bf aq bj U av ap bb b3;go_wp2_with fail;refine b0.out.mono ?_;rintro e w4 ⟨cv,rfl,b6,bh,Y⟩;have M:=ad.out.2.2.aA Y;have G:=ad.out.2.1.aA Y;have bm:=YL _ _ cv (G0 g) _ (N1 (G0 g)) w4 M b2.out b6 bh (R8 _ (by rw[ae.out];exact aj)) (by rw[ae.out];exact aj) (by rw[ae.out];omega) (by omega);have b1:=Hd bm;have d0:w4.cell? ⟨f.heap.size,0,none⟩=some (.slice rd g.aB.length B):=G.cell 0;have d1:w4.cell? ⟨f.heap.size,1,none⟩=some (.slice pd J.length D):=G.cell 1;have a2:Bw f w4:=ad.out.1.trans (Y.mono (by simp;omega));have z4:=G.lt;have an:Hid (Bw f w4/\Blk w4 f.heap.size #[.slice rd g.aB.length B,.slice pd J.length D] 63):=⟨a2,G⟩;clear bm M G b6 bh Y a2 b0 ad c0 c1 f0 f1;go_wp2_with fail;refine b1.out.mono ?_;rintro e w5 ⟨c6,c5,rfl,M,a2⟩;generalize bi:E1 (G0 g) (N1 (G0 g))=g5 at M;have ay:=Hd bi;clear bi;obtain⟨xd,aa,ak,aw⟩:=M.aB.aT;obtain⟨c2,bc,a5,a6⟩:=M.next;obtain⟨yd,ab,ai,a7⟩:=bc.aT;clear aw a5 a6 a7 bc;generalize g5.aB.length=xl at ak;generalize c2.length=yl at ai;subst ak ai;have G:=an.out.2.aA a2;have a1:=M.bX;have bk:=RF w5 f.heap.size (.slice xd xl aa) (.slice yd yl ab);have b8:=M.keptAt bk G (by decide) (by decide);have af:Bw f ((w5.setCell ⟨f.heap.size,0,none⟩ (.slice xd xl aa)).setCell ⟨f.heap.size,1,none⟩ (.slice yd yl ab)):=((an.out.1.trans (a2.mono (by omega))).setCell (zD _) _).setCell (zD _) _;have e0:w5.cell? ⟨f.heap.size,0,none⟩=some (.slice rd g.aB.length B):=G.cell 0;have e1:w5.cell? ⟨f.heap.size,1,none⟩=some (.slice pd J.length D):=G.cell 1;have f0:=G.frozen 0;have f1:=G.frozen 1;have b9:=ac.out.2.2.aA af;have bg:=ac.out.2.1.aA af;have ah:Bw w ((w5.setCell ⟨f.heap.size,0,none⟩ (.slice xd xl aa)).setCell ⟨f.heap.size,1,none⟩ (.slice yd yl ab)):=ac.out.1.trans (af.mono (by omega));have bu:=Hd b9;have ao:=Hd bg;have bt:=Hd b8;have bs:=Hd ah;have bv:=Hd a1;clear b9 bg b8 ah G bk M a2 af b1 an ac d0 d1 a1;go_wp2_with(first|refine XY rfl (.tmp 31) (.tmp 32) rfl rfl rfl ?_|refine JY rfl (.tmp 4) rfl K.heap.size rfl bu.out ?_|refine GF rfl (.tmp 2) (.tmp 33) rfl w.heap.size rfl rfl ao.out ZO bv.out ?_);refine bodyPost_ret (C3 Tryz.results22 _ _ w.heap.size 65 _ (0,0) _ rfl (ao.out.setRow _) Tryz.underlying65 rfl (by rw[Tf];exact Tryz.fW)) rfl ⟨I2 bs.out (zD _) _,.inr ⟨_,_,_,_,rfl,rfl,?_⟩⟩;rw[ay.out];exact bt.out.keptAt (KT _ _ _) ao.out (by decide) (by decide)
def Q0(s:ByteArray):List Nat:=s.data.toList.map UInt8.toNat
theorem I1(s:ByteArray):(Q0 s).length=s.size:=by rw[Q0,yA,Array.length_toList];rfl
theorem Blk.bX{w:World}{b:Nat}{c B:Array Value}{t D:TypeId}(h:Blk w b c t)(f:Blk w b B D):c=B/\t=D:=by
 unfold Blk at h f;rw[h]at f
 injection f with f
 injection f with h1 h2
 exact⟨h1,h2⟩
theorem X6(l:List Bool)(k i:Nat)(x:Bool)(f:k<l.length):(l.set k x).getD i false=if i=k then x else l.getD i false:=by
 rw[zC,List.getElem?_set]
 by_cases h:k=i
 ·subst h;simp[f]
 ·rw[if_neg h,if_neg (fun e=>h e.symm),zC]
theorem N2{w:World}{b:Nat}{l:List Bool}(h:Blk w b (Z0 l) 4)(i:Nat)(f:i<l.length):w.cell? ⟨b,i,none⟩=some (.bool (l.getD i false)):=by
 rw[Gl h i f];simp[f]
theorem Y5.cellD{w:World}{l:List Bool}{g n f:Nat}(h:Y5 w (.slice (some ⟨g,0,none⟩) n f) l)(j:Nat)(D:j<l.length):w.cell? ⟨g,j,none⟩=some (.bool (l.getD j false)):=by
 have J:=h;obtain⟨_,G,B,e,_⟩:=L0 h
 injection e with e1 e2 e3
 subst e2;rw[h.cell j D];simp[D]
end Go.Proofs.YtcckhngbdoiikaaGreat

namespace Go.Proofs.YtcckhngbdoiikaaGreat
theorem G4{l:List Int}{k:Nat}(h:k<l.length)(d:Int):l.getD k d∈l:=by simp[h]
theorem Hx(f:Int->Int)(l:List Int)(k:Nat)(h:k<l.length):(l.map f).getD k 0=f (l.getD k 0):=by simp[h]
theorem C8{g:B0}{K:Nat}(f:GOk g K){s:Int}(D:0<=s)(G:s<(g.aB.length:Int)){k:Nat}(B:k<K):W0 g s k= -1\/(0<=W0 g s k/\W0 g s k<(g.aB.length:Int)):=by
 unfold W0;rw[if_neg (by omega)];have h:=f.row s.toNat (by rw[f.len];omega);exact h.2 _ (G4 (by rw[h.1];exact B) 0)
theorem CC(g:B0)(al:List Bool):∀k,(L6 g al k).2=false->(L6 g al k).1=al/\∀i,i<k->Zf (g.next.getD i []) al=true->al.getD i false=true
 |0,_=>⟨rfl,fun i J=>by omega⟩
 |k+1,h=>by
  unfold L6 at h⊢;split at h
  ·cases h
  ·rename_i f;rw[if_neg f];obtain⟨B,G⟩:=CC g al k h;refine⟨B,fun i J D=>?_⟩
   by_cases e:i<k
   ·exact G i e D
   ·have:i=k:=by omega
    subst this;rw[B]at f;cases e2:al.getD i false
    ·exact absurd ⟨e2,D⟩ f
    ·rfl
theorem Yl(g:B0)(al:List Bool):∀k i,al.getD i false=true->(L6 g al k).1.getD i false=true
 |0,i,h=>h
 |k+1,i,h=>by
  unfold L6;split
  ·have f:=Yl g al k i h;rw[zC]at f⊢;rw[List.getElem?_set];split
   ·split
    ·rfl
    ·rename_i B D;subst B;rw[yI (by omega)]at f;cases f
   ·exact f
  ·exact Yl g al k i h
theorem Ln(g:B0):∀(n:Nat) (al:List Bool),g.next.length<=al.length->Zw al<n->
  (∀i,i<g.next.length->Zf (g.next.getD i []) (Ba g n al)=true->(Ba g n al).getD i false=true)/\(∀i,al.getD i false=true->(Ba g n al).getD i false=true)/\(Ba g n al).length=al.length
 |0,al,_,h=>by omega
 |n+1,al,hl,h=>by
  unfold Ba;have M:=Ro g al g.next.length hl;split
  ·rename_i f;have:=M.2 f;have G:=Ln g n (L6 g al g.next.length).1 (by rw[Xe];exact hl) (by omega);exact⟨G.1,fun i D=>G.2.1 i (Yl g al _ i D),by rw[G.2.2,Xe]⟩
  ·rename_i f;have B:(L6 g al g.next.length).2=false:=by simpa using f
   obtain⟨J,K⟩:=CC g al _ B;rw[J];exact⟨K,fun i D=>D,rfl⟩
theorem Ew{g:B0}{K:Nat}(B:GOk g K):(∀i,i<g.aB.length->Zf (g.next.getD i []) (Oa g)=true->(Oa g).getD i false=true)/\(∀i,i<g.aB.length->g.aB.getD i 0≠ -1->(Oa g).getD i false=true)/\(Oa g).length=g.aB.length:=by
 have J:g.next.length=(g.aB.map (fun r=>r != -1)).length:=by simp[B.len]
 have G:=ON (g.aB.map (fun r=>r != -1));have h:=Ln g (g.aB.length+1) (g.aB.map (fun r=>r != -1)) (by omega) (by simp at G;omega);refine⟨fun i f=>h.1 i (by rw[B.len];exact f),fun i f D=>h.2.1 i ?_,?_⟩
 ·simp[f]at D⊢;exact D
 ·have:=h.2.2;simpa[Oa]using this
theorem Nj{g:B0}{K:Nat}(B:GOk g K):∀(D:List Nat) (s:Nat),(∀k∈D,k<K)->s<g.aB.length->V4 g (G3 g (s:Int) D)≠ -1->(Oa g).getD s false=true
 | [],s,_,hs,h=>by
  have:g.aB.getD s 0≠ -1:=by
   have f:V4 g (s:Int)≠ -1:=h;unfold V4 at f;rw[if_neg (by omega),zH]at f;exact f
  exact(Ew B).2.1 s hs this
 |k::D,s,hk,hs,h=>by
  have f:V4 g (G3 g (W0 g (s:Int) k) D)≠ -1:=h;rcases C8 B (s:=(s:Int)) (by omega) (by omega) (hk k (by simp))with e|e
  ·exfalso
   rw[e,I9 g D (-1) (by omega)]at f;apply f;split <;>rfl
  ·obtain⟨t,J⟩:∃t:Nat,W0 g (s:Int) k=(t:Int):=⟨(W0 g (s:Int) k).toNat,by omega⟩;rw[J]at f e;have U:=Nj B D t (fun k G=>hk k (by simp[G])) (by omega) f;refine(Ew B).1 s hs ?_;unfold Zf;rw[List.any_eq_true];have M:=B.row s (by rw[B.len];exact hs);refine⟨(t:Int),?_,?_⟩
   ·rw[<-J];unfold W0;rw[if_neg (by omega),zH];exact G4 (by rw[M.1];exact hk k (by simp)) 0
   ·rw[zH,U];simp
theorem Yg{g:B0}{K:Nat}(h:GOk g K){s:Nat}(B:s<g.aB.length){k:Nat}(J:k<K):
  W0 (G0 g) (s:Int) k=if W0 g (s:Int) k != -1 && (Oa g).getD (W0 g (s:Int) k).toNat false then W0 g (s:Int) k else -1:=by
 have U:=h.row s (by rw[h.len];exact B);have M:s<g.next.length:=by rw[h.len];exact B
 have D:(G0 g).next.getD s []=N4 (Oa g) (g.next.getD s []):=by simp[G0,M]
 have G:k<(g.next.getD s []).length:=by rw[U.1];exact J
 have f:¬((s:Int)<0):=by omega
 simp only[W0,if_neg f,zH,D];unfold N4;rw[Hx _ _ _ G]
theorem H9{g:B0}{K:Nat}(D:GOk g K):∀(h:List Nat) (s:Nat),(∀k∈h,k<K)->s<g.aB.length->V4 (G0 g) (G3 (G0 g) (s:Int) h)=V4 g (G3 g (s:Int) h)
 | [],s,_,hs=>rfl
 |k::h,s,hk,hs=>by
  show V4 (G0 g) (G3 (G0 g) (W0 (G0 g) (s:Int) k) h)=V4 g (G3 g (W0 g (s:Int) k) h);rw[Yg D hs (hk k (by simp))];have f:∀g:B0,V4 g (G3 g (-1) h)= -1:=fun g=>by rw[I9 g h (-1) (by omega)];split <;>rfl
  rcases C8 D (s:=(s:Int)) (by omega) (by omega) (hk k (by simp))with e|e
  ·rw[e];simp[f]
  ·obtain⟨t,J⟩:∃t:Nat,W0 g (s:Int) k=(t:Int):=⟨(W0 g (s:Int) k).toNat,by omega⟩;rw[J]at e⊢;rw[zH];cases ha:(Oa g).getD t false with
   |true=>
    rw[if_pos (by simp)];exact H9 D h t (fun k B=>hk k (by simp[B])) (by omega)
   |false=>
    rw[if_neg (by simp),f];refine Classical.byContradiction fun G=>?_
    have:=Nj D h t (fun k B=>hk k (by simp[B])) (by omega) (fun e=>G e.symm);rw[ha]at this;cases this
def Co(g:B0)(K:Nat)(aE:List Int):Prop:=∀a b,a<g.aB.length->b<g.aB.length->aE.getD a 0=aE.getD b 0->
 g.aB.getD a 0=g.aB.getD b 0/\∀k,k<K->K4 aE ((g.next.getD a []).getD k 0) ((g.next.getD b []).getD k 0)=true
theorem Gr(aE:List Int):∀(l m:List Int),l.length=m.length->Je aE l m=true->∀k,k<l.length->K4 aE (l.getD k 0) (m.getD k 0)=true
 | [],m,_,_,k,hk=>by simp at hk
 |x::l,[],hl,_,k,hk=>by simp at hl
 |x::l,y::m,hl,h,k,hk=>by
  unfold Je at h;simp only[List.headD_cons,List.tail_cons,yL]at h;cases k with
  |zero=>simpa using h.1
  |succ k=>simpa using Gr aE l m (by simpa using hl) h.2 k (by simpa using hk)
theorem Mi{g:B0}{K:Nat}(f:GOk g K){aE:List Int}{a b:Nat}(M:a<g.aB.length)(U:b<g.aB.length)(h:B7 g aE a b=true):
  aE.getD a 0=aE.getD b 0/\g.aB.getD a 0=g.aB.getD b 0/\∀k,k<K->K4 aE ((g.next.getD a []).getD k 0) ((g.next.getD b []).getD k 0)=true:=by
 unfold B7 at h;split at h
 ·cases h
 ·rename_i B;have G:aE.getD a 0=aE.getD b 0:=Decidable.not_not.1 fun e=>B (.inl e)
  have J:g.aB.getD a 0=g.aB.getD b 0:=Decidable.not_not.1 fun e=>B (.inr e)
  have D:=f.row a (by rw[f.len];exact M);have W:=f.row b (by rw[f.len];exact U);exact⟨G,J,fun k V=>Gr aE _ _ (by rw[D.1,W.1]) h k (by rw[D.1];exact V)⟩
theorem Xj(g:B0)(aE:List Int)(n:Nat):∀(f k e:Nat),Kb g aE n f k=some e->e<n/\B7 g aE e n=true
 |0,k,e,h=>by simp[Kb]at h
 |f+1,k,e,h=>by
  unfold Kb at h;split at h
  ·rename_i B;split at h
   ·rename_i D
    injection h with h
    subst h;exact⟨B,D⟩
   ·exact Xj g aE n f (k+1) e h
  ·cases h
theorem Zy{aE:List Int}{a b c:Int}(f:K4 aE a b=true)(h:K4 aE b c=true):K4 aE a c=true:=by
 unfold K4 at*
 by_cases B:a= -1
 ·subst B;simp at f;subst f;exact h
 ·by_cases D:b= -1
  ·subst D;simp at f;exact absurd f B
  ·by_cases G:c= -1
   ·subst G;simp at h;exact absurd h D
   ·simp[B,D,G]at f h⊢;rw[f,h]
theorem IA{aE:List Int}{a b:Int}(f:K4 aE a b=true):K4 aE b a=true:=by
 unfold K4 at*
 by_cases h:a= -1
 ·subst h;simp at f;subst f;simp
 ·by_cases B:b= -1
  ·subst B;simp at f;exact absurd f h
  ·simp[h,B]at f⊢;rw[f]
theorem GA{aE:List Int}(a:Int):K4 aE a a=true:=by unfold K4;split <;>simp
def Dd(g:B0)(K:Nat)(aE:List Int)(a b:Nat):Prop:=aE.getD a 0=aE.getD b 0/\g.aB.getD a 0=g.aB.getD b 0/\∀k,k<K->K4 aE ((g.next.getD a []).getD k 0) ((g.next.getD b []).getD k 0)=true
theorem Dd.refl{g:B0}{K:Nat}{aE:List Int}(a:Nat):Dd g K aE a a:=⟨rfl,rfl,fun k _=>GA _⟩
theorem Dd.symm{g:B0}{K:Nat}{aE:List Int}{a b:Nat}(h:Dd g K aE a b):Dd g K aE b a:=⟨h.1.symm,h.2.1.symm,fun k f=>IA (h.2.2 k f)⟩
theorem Dd.trans{g:B0}{K:Nat}{aE:List Int}{a b c:Nat}(h:Dd g K aE a b)(f:Dd g K aE b c):Dd g K aE a c:=⟨h.1.trans f.1,h.2.1.trans f.2.1,fun k B=>Zy (h.2.2 k B) (f.2.2 k B)⟩
theorem Ei{g:B0}{K:Nat}(ho:GOk g K)(aE:List Int):∀n,n<=g.aB.length->(∀a b,a<n->b<n->(M0 g aE n).1.getD a 0=(M0 g aE n).1.getD b 0->Dd g K aE a b)/\(∀c:Nat,c<(M0 g aE n).2->∃a,a<n/\(M0 g aE n).1.getD a 0=(c:Int))
 |0,_=>⟨fun a b J=>by omega,fun c W=>by simp[M0]at W⟩
 |n+1,hn=>by
  obtain⟨U,V⟩:=Ei ho aE n (by omega);have h:=S3 g aE n;have Y:=P9 g aE n;unfold M0;split
  ·rename_i e he;obtain⟨a0,a1⟩:=Xj g aE n _ _ _ he;have X:Dd g K aE e n:=Mi ho (by omega) (by omega) a1;generalize M0 g aE n=r at*;simp only;have hg:∀a,a<n+1->∃G,G<n/\(r.1++ [r.1.getD e 0]).getD a 0=r.1.getD G 0/\Dd g K aE a G:=by
    intro a J;rw[G5,h];split
    ·exact⟨a,by omega,rfl,.refl a⟩
    ·rw[if_pos (by omega)];have:a=n:=by omega
     subst this;exact⟨e,a0,rfl,X.symm⟩
   refine⟨fun a b J hb f=>?_,fun c W=>?_⟩
   ·obtain⟨G,B,D,h3⟩:=hg a J;obtain⟨b',h4,h5,h6⟩:=hg b hb;rw[D,h5]at f;exact h3.trans ((U G b' B h4 f).trans h6.symm)
   ·obtain⟨a,B,D⟩:=V c W;refine⟨a,by omega,?_⟩;rw[G5,h,if_pos B];exact D
  ·generalize M0 g aE n=r at*;simp only;refine⟨fun a b J hb f=>?_,fun c W=>?_⟩
   ·rw[G5,G5,h]at f;have M:∀a,a<n->r.1.getD a 0<(r.2:Int):=fun a J=>(Y.1 _ (G4 (by omega) 0)).2
    by_cases B:a<n <;>by_cases D:b<n
    ·rw[if_pos B,if_pos D]at f;exact U a b B D f
    ·rw[if_pos B,if_neg D,if_pos (by omega)]at f;have:=M a B;omega
    ·rw[if_neg B,if_pos D,if_pos (by omega)]at f;have:=M b D;omega
    ·have e1:a=n:=by omega
     have e2:b=n:=by omega
     subst e1 e2;exact .refl _
   ·by_cases Z:c<r.2
    ·obtain⟨a,B,D⟩:=V c Z;refine⟨a,by omega,?_⟩;rw[G5,h,if_pos B];exact D
    ·refine⟨n,by omega,?_⟩;rw[G5,h,if_neg (by omega),if_pos rfl];have:c=r.2:=by omega
     rw[this]
theorem IV(n:Nat)(f:Nat->Nat)(hf:∀x,x<n->f x<n)(ho:∀y,y<n->∃x,x<n/\f x=y)(a b:Nat)(ha:a<n)(hb:b<n)(h:f a=f b):a=b:=by
 refine Classical.byContradiction fun V=>?_
 have M:∀y,∃x,y<n->(x<n/\f x=y/\x≠(if f a=y then b else n)):=by
  intro y
  by_cases B:y<n
  ·by_cases e:f a=y
   ·exact⟨a,fun _=>⟨ha,e,by rw[if_pos e];exact V⟩⟩
   ·obtain⟨x,G,D⟩:=ho y B;exact⟨x,fun _=>⟨G,D,by rw[if_neg e];omega⟩⟩
  ·exact⟨0,fun h=>absurd h B⟩
 obtain⟨c,J⟩:=Classical.axiomOfChoice M;have U:(b::(List.range n).map c).Nodup:=by
  rw[List.nodup_cons];refine⟨?_,?_⟩
  ·rw[List.mem_map];rintro⟨y,B,e⟩;have X:y<n:=by simpa using B
   obtain⟨G,D,Z⟩:=J y X
   by_cases Y:f a=y
   ·rw[if_pos Y]at Z;exact Z e
   ·apply Y;rw[h,<-e,D]
  ·rw[List.Nodup,List.pairwise_map];refine List.Pairwise.imp_of_mem (R:=fun x y=>x≠y) (fun{x y} K B W=>?_) List.nodup_range;intro e;apply W;have G:=(J x (by simpa using K)).2.1;have D:=(J y (by simpa using B)).2.1;rw[<-G,<-D,e]
 have:=Pg n _ U (fun x K=>by
  rw[zU,List.mem_map]at K;rcases K with e|⟨y,B,e⟩
  ·rw[e];exact hb
  ·rw[<-e];exact(J y (by simpa using B)).1)
 simp at this;omega
theorem Yz{g:B0}{K:Nat}(Z:GOk g K)(aE:List Int)(f:Nat)(hb:∀a,a<g.aB.length->0<=aE.getD a 0/\aE.getD a 0<(f:Int))(a3:∀c:Nat,c<f->∃a,a<g.aB.length/\aE.getD a 0=(c:Int))
  (hc:(M0 g aE g.aB.length).2=f):Co g K (M0 g aE g.aB.length).1:=by
 obtain⟨h1,h2⟩:=Ei Z aE g.aB.length (zD _);have a4:=S3 g aE g.aB.length;have a1:=P9 g aE g.aB.length;generalize M0 g aE g.aB.length=r at*;have hr:∀a,a<g.aB.length->0<=r.1.getD a 0/\r.1.getD a 0<(r.2:Int):=fun a W=>a1.1 _ (G4 (by omega) 0)
 have a2:∀c:Nat,∃a:Nat,c<f->a<g.aB.length/\r.1.getD a 0=(c:Int):=by
  intro c
  by_cases U:c<f
  ·obtain⟨a,h3,h4⟩:=h2 c (by omega);exact⟨a,fun _=>⟨h3,h4⟩⟩
  ·exact⟨0,fun h=>absurd h U⟩
 obtain⟨iW,B⟩:=Classical.axiomOfChoice a2;have Y:=IV f (fun c=>(aE.getD (iW c) 0).toNat) (fun c U=>by
   have:=hb (iW c) (B c U).1;show(aE.getD (iW c) 0).toNat<f;omega)
  (fun y hy=>by
   obtain⟨a,h3,h4⟩:=a3 y hy;have h5:=hr a h3;refine⟨(r.1.getD a 0).toNat,by omega,?_⟩;have h6:=B (r.1.getD a 0).toNat (by omega);have h7:=h1 (iW (r.1.getD a 0).toNat) a h6.1 h3 (by rw[h6.2];omega);show(aE.getD (iW (r.1.getD a 0).toNat) 0).toNat=y;rw[h7.1,h4];rfl)
 have V:∀a b,a<g.aB.length->b<g.aB.length->aE.getD a 0=aE.getD b 0->r.1.getD a 0=r.1.getD b 0:=by
  intro a b W D M;have h5:=hr a W;have h6:=hr b D;have h7:=B (r.1.getD a 0).toNat (by omega);have h8:=B (r.1.getD b 0).toNat (by omega);have h9:=h1 _ a h7.1 W (by rw[h7.2];omega);have a0:=h1 _ b h8.1 D (by rw[h8.2];omega);have:=Y (r.1.getD a 0).toNat (r.1.getD b 0).toNat (by omega) (by omega) (by show(aE.getD _ 0).toNat=(aE.getD _ 0).toNat;rw[h9.1,a0.1,M]);omega
 intro a b W D M;have X:=h1 a b W D M;refine⟨X.2.1,fun k hk=>?_⟩;have J:=X.2.2 k hk;have ra:=Z.row a (by rw[Z.len];exact W);have rb:=Z.row b (by rw[Z.len];exact D);have ia:=ra.2 _ (G4 (by rw[ra.1];exact hk) 0);have ib:=rb.2 _ (G4 (by rw[rb.1];exact hk) 0);generalize(g.next.getD a []).getD k 0=x at J ia⊢;generalize(g.next.getD b []).getD k 0=y at J ib⊢;unfold K4 at J⊢;split
 ·rename_i G;rw[if_pos G]at J;exact J
 ·rename_i G;rw[if_neg G]at J;simp at G J⊢;exact V x.toNat y.toNat (by omega) (by omega) (by simpa using J)
theorem Cj{g:B0}{K:Nat}(M:GOk g K)(B:0<g.aB.length):∀(f:Nat) (aE:List Int) (h:Nat),g.aB.length+1<=f+h->h<=g.aB.length->h<=(M0 g aE g.aB.length).2->
  (h=0\/((∀a,a<g.aB.length->0<=aE.getD a 0/\aE.getD a 0<(h:Int))/\∀c:Nat,c<h->∃a,a<g.aB.length/\aE.getD a 0=(c:Int)))->Co g K (S8 g f aE h)
 |0,aE,h,h1,h2,_,_=>by omega
 |f+1,aE,h,h1,h2,h3,G=>by
  have D:=P9 g aE g.aB.length;have W:=S3 g aE g.aB.length;have U:=Ei M aE g.aB.length (zD _);have J:=Di g aE g.aB.length g.aB.length (zD _);have X:∀a,a<g.aB.length->0<=(M0 g aE g.aB.length).1.getD a 0/\(M0 g aE g.aB.length).1.getD a 0<((M0 g aE g.aB.length).2:Int):=fun a Z=>D.1 _ (G4 (by omega) 0)
  unfold S8;split
  ·rename_i V;rcases G with G|⟨G,Y⟩
   ·have:=X 0 B;omega
   ·exact Yz M aE h G Y V
  ·rename_i V;exact Cj M B f _ _ (by omega) D.2 J (.inr ⟨X,U.2⟩)
theorem Qc{g:B0}{K:Nat}(h:GOk g K)(f:0<g.aB.length):Co g K (N1 g):=
 Cj h f _ _ 0 (by omega) (by omega) (by omega) (.inl rfl)
theorem Un(g:B0):∀(f:Nat) (aE:List Int) (B:Nat),aE.length=g.aB.length->(S8 g f aE B).length=g.aB.length
 |0,aE,_,h=>h
 |f+1,aE,B,h=>by
  unfold S8;split
  ·exact S3 _ _ _
  ·exact Un g f _ _ (S3 _ _ _)
theorem Y7(g:B0):(N1 g).length=g.aB.length:=Un g _ _ _ (by simp)
structure Np(N:Nat)(aE:List Int)(st:List Int×List Int):Prop where
 ok:VOk N st
 bF:0<st.1.length/\st.1.getD 0 0=0
 num:∀j,j<st.1.length->st.2.getD (aE.getD (st.1.getD j 0).toNat 0).toNat 0=(j:Int)
 aE:∀c:Nat,c<N->st.2.getD c 0= -1\/(0<=st.2.getD c 0/\st.2.getD c 0<(st.1.length:Int)/\aE.getD (st.1.getD (st.2.getD c 0).toNat 0).toNat 0=(c:Int))
def Mp(st f:List Int×List Int):Prop:=st.1<+:f.1/\∀c:Nat,st.2.getD c 0≠ -1->f.2.getD c 0=st.2.getD c 0
theorem Mp.refl(st:List Int×List Int):Mp st st:=⟨List.prefix_refl _,fun _ _=>rfl⟩
theorem Mp.trans{a b c:List Int×List Int}(h:Mp a b)(g:Mp b c):Mp a c:=⟨h.1.trans g.1,fun x f=>by rw[g.2 x (by rw[h.2 x f];exact f),h.2 x f]⟩
theorem Yb{l m:List Int}(h:l<+:m){k:Nat}(f:k<l.length):m.getD k 0=l.getD k 0:=by
 obtain⟨r,rfl⟩:=h;rw[zC,zQ f,<-zC]
theorem Za(l:List Int)(k i:Nat)(x:Int)(f:k<l.length):(l.set k x).getD i 0=if i=k then x else l.getD i 0:=by
 rw[zC,List.getElem?_set]
 by_cases h:k=i
 ·subst h;simp[f]
 ·rw[if_neg h,if_neg (fun e=>h e.symm),zC]
theorem Oi{N:Nat}{aE:List Int}(U:aE.length=N)(Y:∀x∈aE,0<=x/\x<(N:Int)){st:List Int×List Int}(h:Np N aE st){tt:Int}(ht:tt= -1\/(0<=tt/\tt<(N:Int))):
  Np N aE (V2 aE st tt)/\Mp st (V2 aE st tt)/\(tt≠ -1->(V2 aE st tt).2.getD (aE.getD tt.toNat 0).toNat 0≠ -1):=by
 have G:=Cs U Y h.ok ht;unfold V2 at G⊢;split at G
 ·rename_i B;rw[if_pos B];simp only[yL,bne_iff_ne,ne_eq,beq_iff_eq]at B;obtain⟨h1,W⟩:=B;have a1:0<=tt/\tt<(N:Int):=by rcases ht with e|e;exact absurd e h1;exact e
  have hx:=Y _ (G4 (l:=aE) (k:=tt.toNat) (by omega) 0);generalize J:aE.getD tt.toNat 0=c at W G hx⊢;have a0:=h.ok.len;have D:c.toNat<st.2.length:=by omega
  have f:st.1<+:st.1++ [tt]:=List.prefix_append _ _;refine⟨⟨G,⟨by simp,?_⟩,fun j Z=>?_,fun d M=>?_⟩,⟨f,fun d M=>?_⟩,fun _=>?_⟩
  ·rw[Yb f h.bF.1];exact h.bF.2
  ·simp only at Z⊢;rw[Za _ _ _ _ D];simp only[zL,yH,List.length_nil]at Z
   by_cases K:j<st.1.length
   ·rw[Yb f K];have X:=h.num j K;rw[if_neg (fun e=>by rw[e]at X;omega)];exact X
   ·have:j=st.1.length:=by omega
    subst this;have e9:(st.1++ [tt]).getD st.1.length 0=tt:=by simp
    rw[e9,J,if_pos rfl]
  ·simp only;rw[Za _ _ _ _ D];simp only[zL,yH,List.length_nil];split
   ·rename_i e
    right
    refine⟨by omega,by omega,?_⟩;rw[zH,G5,if_neg (by omega),if_pos rfl,J];omega
   ·rcases h.aE d M with e|⟨e1,e2,e3⟩
    ·exact .inl e
    ·exact .inr ⟨e1,by omega,by rw[Yb f (by omega)];exact e3⟩
  ·simp only;rw[Za _ _ _ _ D,if_neg (fun e=>by rw[e]at M;exact M W)]
  ·simp only;rw[Za _ _ _ _ D,if_pos rfl];omega
 ·rename_i B;rw[if_neg B];refine⟨h,Mp.refl _,fun V he=>B ?_⟩;simp only[yL,bne_iff_ne,ne_eq,beq_iff_eq];exact⟨V,he⟩
theorem Xa{N:Nat}{aE:List Int}(D:aE.length=N)(K:∀x∈aE,0<=x/\x<(N:Int)):∀(f:List Int) (st:List Int×List Int),Np N aE st->Pk N f->
  Np N aE (I3 aE f st)/\Mp st (I3 aE f st)/\∀tt∈f,tt≠ -1->(I3 aE f st).2.getD (aE.getD tt.toNat 0).toNat 0≠ -1
 | [],st,h,_=>⟨h,Mp.refl _,fun tt V=>by simp at V⟩
 |x::r,st,h,hr=>by
  have e:I3 aE (x::r) st=I3 aE r (V2 aE st x):=rfl;rw[e];obtain⟨Z,s2,U⟩:=Oi D K h (hr x (by simp));obtain⟨X,M,Y⟩:=Xa D K r _ Z (fun y W=>hr y (by simp[W]));refine⟨X,s2.trans M,fun tt G B=>?_⟩;rw[zU]at G;rcases G with J|J
  ·subst J;rw[M.2 _ (U B)];exact U B
  ·exact Y tt J B
theorem Xn{g:B0}{K:Nat}(V:GOk g K){aE:List Int}(D:aE.length=g.aB.length)(X:∀x∈aE,0<=x/\x<(g.aB.length:Int)):∀(f i:Nat) (st:List Int×List Int),f+i=g.aB.length+1->i<=st.1.length->Np g.aB.length aE st->
  (∀j,j<i->∀tt∈g.next.getD (st.1.getD j 0).toNat [],tt≠ -1->st.2.getD (aE.getD tt.toNat 0).toNat 0≠ -1)->
  Np g.aB.length aE (P5 g aE f i st)/\∀j,j<(P5 g aE f i st).1.length->∀tt∈g.next.getD ((P5 g aE f i st).1.getD j 0).toNat [],tt≠ -1->(P5 g aE f i st).2.getD (aE.getD tt.toNat 0).toNat 0≠ -1
 |0,i,st,hf,hi,h,_=>by have:=h.ok.sum;omega
 |f+1,i,st,hf,hi,h,hd=>by
  unfold P5;split
  ·rename_i G;have Y:=h.ok.ok _ (G4 (l:=st.1) G 0);have M:=(V.row (st.1.getD i 0).toNat (by rw[V.len];omega)).2;obtain⟨r1,W,r3⟩:=Xa D X _ st h M;refine Xn V D X f (i+1) _ (by omega) (by have:=W.1.length_le;omega) r1 (fun j Z tt B J=>?_);rw[Yb W.1 (by omega)]at B
   by_cases U:j<i
   ·have:=hd j U tt B J;rw[W.2 _ this];exact this
   ·have:j=i:=by omega
    subst this;exact r3 tt B J
  ·rename_i G;exact⟨h,fun j Z=>hd j (by omega)⟩
theorem D7{g:B0}{K:Nat}(V:GOk g K)(M:0<g.aB.length){aE:List Int}(B:aE.length=g.aB.length)(D:∀x∈aE,0<=x/\x<(g.aB.length:Int)):
  Np g.aB.length aE (V1 g aE)/\∀j,j<(V1 g aE).1.length->∀tt∈g.next.getD ((V1 g aE).1.getD j 0).toNat [],tt≠ -1->(V1 g aE).2.getD (aE.getD tt.toNat 0).toNat 0≠ -1:=by
 have U:=D _ (G4 (l:=aE) (k:=0) (by omega) 0);have h:(aE.getD 0 0).toNat<(List.replicate aE.length (-1:Int)).length:=by rw[yD];omega
 have f:∀d,d<aE.length->(List.replicate aE.length (-1:Int)).getD d 0= -1:=fun d G=>by simp[G]
 refine Xn V B D _ 0 _ (by omega) (by simp) ⟨⟨?_,by simp[B],fun x U=>by simp at U;omega⟩,⟨by simp,rfl⟩,fun j J=>?_,fun d G=>?_⟩ (fun j J=>by omega)
 ·have W:=Dj (List.replicate aE.length (-1:Int)) (aE.getD 0 0).toNat 0 h (by rw[f _ (by omega)]) (by omega);have X:Vs (List.replicate aE.length (-1:Int))=aE.length:=by simp[Vs]
  simp only[yH,List.length_nil];omega
 ·simp only[yH,List.length_nil]at J;have:j=0:=by omega
  subst this;simp only[List.getD_cons_zero,Int.toNat_zero];rw[Za _ _ _ _ h,if_pos rfl];rfl
 ·simp only;rw[Za _ _ _ _ h];split
  ·rename_i e
   right
   refine⟨by omega,by simp,?_⟩;simp only[Int.toNat_zero,List.getD_cons_zero];omega
  ·exact .inl (f d (by omega))
theorem Wh{g:B0}{K:Nat}(V:GOk g K)(W:0<g.aB.length){aE:List Int}(Z:aE.length=g.aB.length)(hc:∀x∈aE,0<=x/\x<(g.aB.length:Int))(a4:Co g K aE)
  {j a:Nat} (hj:j<(V1 g aE).1.length) (ha:a<g.aB.length) (he:aE.getD ((V1 g aE).1.getD j 0).toNat 0=aE.getD a 0) {k:Nat} (J:k<K):
  (W0 (E1 g aE) (j:Int) k= -1/\W0 g (a:Int) k= -1)\/∃j' X:Nat,W0 (E1 g aE) (j:Int) k=(j':Int)/\W0 g (a:Int) k=(X:Int)/\j'<(V1 g aE).1.length/\X<g.aB.length/\aE.getD ((V1 g aE).1.getD j' 0).toNat 0=aE.getD X 0:=by
 obtain⟨hv,hd⟩:=D7 V W Z hc;have hF:=hv.ok.ok _ (G4 (l:=(V1 g aE).1) hj 0);have a1:=hd j hj;have e1:(E1 g aE).next.getD j []=Z1 aE (V1 g aE).2 (g.next.getD ((V1 g aE).1.getD j 0).toNat []):=by simp[E1,hj]
 generalize hb:((V1 g aE).1.getD j 0).toNat=b at*;have G:b<g.aB.length:=by omega
 have rb:=V.row b (by rw[V.len];exact G);have f:=(a4 b a G ha he).2 k J;have ib:=C8 V (s:=(b:Int)) (by omega) (by omega) J;have ia:=C8 V (s:=(a:Int)) (by omega) (by omega) J;have Y:W0 g (b:Int) k=(g.next.getD b []).getD k 0:=by unfold W0;rw[if_neg (by omega),zH]
 have ea:W0 g (a:Int) k=(g.next.getD a []).getD k 0:=by unfold W0;rw[if_neg (by omega),zH]
 rw[<-Y,<-ea]at f;have M:W0 g (b:Int) k∈g.next.getD b []:=by rw[Y];exact G4 (by rw[rb.1];exact J) 0
 have en:W0 (E1 g aE) (j:Int) k=if W0 g (b:Int) k != -1 then(V1 g aE).2.getD (aE.getD (W0 g (b:Int) k).toNat 0).toNat 0 else -1:=by
  have U:¬((j:Int)<0):=by omega
  have ej:W0 (E1 g aE) (j:Int) k=((E1 g aE).next.getD j []).getD k 0:=by simp only[W0,if_neg U,zH]
  rw[ej,e1,Y];have a2:k<(g.next.getD b []).length:=by rw[rb.1];exact J
  unfold Z1;rw[Hx _ _ _ a2]
 rw[en];unfold K4 at f;rcases ib with e|e
 ·rw[e]at f⊢;simp at f
  left
  exact⟨by simp,f.symm⟩
 ·have h:W0 g (b:Int) k≠ -1:=by omega
  have B:W0 g (a:Int) k≠ -1:=by
   intro D;rw[D]at f;simp at f;exact h f
  simp[h,B]at f
  right
  have a0:=a1 _ M h;generalize W0 g (b:Int) k=x at*;have a5:0<=W0 g (a:Int) k/\W0 g (a:Int) k<(g.aB.length:Int):=by rcases ia with D|D;exact absurd D B;exact D
  generalize W0 g (a:Int) k=y at*;have hx:=hc _ (G4 (l:=aE) (k:=x.toNat) (by omega) 0);rcases hv.aE (aE.getD x.toNat 0).toNat (by omega)with e3|⟨e3,e4,e5⟩
  ·exact absurd e3 a0
  ·rw[if_pos (by simpa using h)];generalize(V1 g aE).2.getD (aE.getD x.toNat 0).toNat 0=m at*;refine⟨m.toNat,y.toNat,by omega,by omega,by omega,by omega,?_⟩;rw[e5];have a3:aE.getD x.toNat 0=aE.getD y.toNat 0:=by simpa using f
   rw[<-a3];omega
theorem Qo{g:B0}{K:Nat}(W:GOk g K)(h:0<g.aB.length){aE:List Int}(D:aE.length=g.aB.length)(U:∀x∈aE,0<=x/\x<(g.aB.length:Int))(G:Co g K aE):∀(B:List Nat) (j a:Nat),(∀k∈B,k<K)->j<(V1 g aE).1.length->a<g.aB.length->aE.getD ((V1 g aE).1.getD j 0).toNat 0=aE.getD a 0->
  V4 (E1 g aE) (G3 (E1 g aE) (j:Int) B)=V4 g (G3 g (a:Int) B)
 | [],j,a,_,hj,ha,he=>by
  show V4 (E1 g aE) (j:Int)=V4 g (a:Int);obtain⟨hv,_⟩:=D7 W h D U;have hF:=hv.ok.ok _ (G4 (l:=(V1 g aE).1) hj 0);have hs:=(G ((V1 g aE).1.getD j 0).toNat a (by omega) ha he).1;unfold V4;rw[if_neg (by omega),if_neg (by omega),zH,zH,<-hs];simp[E1,hj]
 |k::B,j,a,hk,hj,ha,he=>by
  show V4 (E1 g aE) (G3 (E1 g aE) (W0 (E1 g aE) (j:Int) k) B)=V4 g (G3 g (W0 g (a:Int) k) B);have f:∀g:B0,V4 g (G3 g (-1) B)= -1:=fun g=>by rw[I9 g B (-1) (by omega)];split <;>rfl
  rcases Wh W h D U G hj ha he (hk k (by simp))with⟨J,M⟩|⟨j',X,J,M,Y,Z,h5⟩
  ·rw[J,M,f,f]
  ·rw[J,M];exact Qo W h D U G B j' X (fun k V=>hk k (by simp[V])) Y Z h5
theorem J8{R:E0}{kd:Nat->Nat}{g:B0}(h:A4 R=some (kd,g)):∃f,E6 R (V0 R.aJ 256)=some f/\kd=Z2 R.aJ/\g=E1 (G0 f) (N1 (G0 f)):=by
 unfold A4 at h;generalize V0 R.aJ 256=ks at h⊢;cases hx:E6 R ks with
 |none=>rw[hx]at h;cases h
 |some f=>
  rw[hx]at h;simp only[Option.some.injEq,Prod.mk.injEq]at h;exact⟨f,rfl,h.1.symm,h.2.symm⟩
theorem Aj(al:Nat->I0):∀n k,k<(V0 al n).length->∃b,b<n/\Z2 al b=k
 |0,k,h=>by simp[V0]at h
 |n+1,k,h=>by
  unfold V0 at h
  by_cases B:k<(V0 al n).length
  ·obtain⟨b,D,f⟩:=Aj al n k B;exact⟨b,by omega,f⟩
  ·split at h
   ·rename_i G;simp only[zL,yH,List.length_nil]at h;exact⟨n,by omega,by unfold Z2;omega⟩
   ·omega
def M6(g:B0)(K:Nat)(s:Int):Prop:=∃f:List Nat,(∀k∈f,k<K)/\V4 g (G3 g s f)≠ -1
theorem SH{g:B0}{K:Nat}(U:GOk g K){al:List Bool}(h:∀i:Nat,i<g.aB.length->al.getD i false=true->M6 g K (i:Int)){i:Nat}(hi:i<g.aB.length)(B:Zf (g.next.getD i []) al=true):M6 g K (i:Int):=by
 unfold Zf at B;rw[List.any_eq_true]at B;obtain⟨tt,G,J⟩:=B;simp only[yL,bne_iff_ne,ne_eq]at J;obtain⟨h3,h4⟩:=J;have V:=U.row i (by rw[U.len];exact hi);have a0:=V.2 tt G;obtain⟨k,M,e⟩:=List.getElem_of_mem G;obtain⟨W,Z,D⟩:=h tt.toNat (by omega) h4;have X:W0 g (i:Int) k=tt:=by
  unfold W0;rw[if_neg (by omega),zH,zC,zF M];exact e
 have Y:((tt.toNat:Nat):Int)=tt:=by omega
 rw[Y]at D;refine⟨k::W,fun x f=>?_,?_⟩
 ·rw[zU]at f;rcases f with rfl|f
  ·rw[<-V.1];exact M
  ·exact Z x f
 ·show V4 g (G3 g (W0 g (i:Int) k) W)≠ -1;rw[X];exact D
theorem Iu{g:B0}{K:Nat}(B:GOk g K){al:List Bool}(h:∀i:Nat,i<g.aB.length->al.getD i false=true->M6 g K (i:Int)):∀k,k<=g.aB.length->∀i:Nat,i<g.aB.length->(L6 g al k).1.getD i false=true->M6 g K (i:Int)
 |0,_,i,hi,hx=>h i hi hx
 |k+1,hk,i,hi,hx=>by
  have f:=Iu B h k (by omega);unfold L6 at hx;split at hx
  ·rename_i G
   by_cases e:i=k
   ·subst e;exact SH B f hi G.2
   ·refine f i hi ?_;simp only[zC]at hx⊢;rw[List.getElem?_set_ne (fun D=>e D.symm)]at hx;exact hx
  ·exact f i hi hx
theorem Rk{g:B0}{K:Nat}(f:GOk g K):∀(n:Nat) (al:List Bool),(∀i:Nat,i<g.aB.length->al.getD i false=true->M6 g K (i:Int))->∀i:Nat,i<g.aB.length->(Ba g n al).getD i false=true->M6 g K (i:Int)
 |0,al,h,i,hi,hx=>h i hi hx
 |n+1,al,h,i,hi,hx=>by
  have B:=Iu f h g.next.length (by rw[f.len];exact zD _);unfold Ba at hx;split at hx
  ·exact Rk f n _ B i hi hx
  ·exact B i hi hx
theorem Up{g:B0}{K:Nat}(D:GOk g K){i:Nat}(f:i<g.aB.length)(G:(Oa g).getD i false=true):M6 g K (i:Int):=by
 refine Rk D _ _ (fun i f h=>⟨[],fun k B=>by simp at B,?_⟩) i f G;show V4 g (i:Int)≠ -1;unfold V4;rw[if_neg (by omega),zH];simpa[f]using h
theorem Zl{g:B0}{K:Nat}(f:GOk g K){s t k:Nat}(U:s<g.aB.length)(G:k<K)(h:W0 (G0 g) (s:Int) k=(t:Int)):M6 (G0 g) K (t:Int):=by
 rw[Yg f U G]at h;rcases C8 f (s:=(s:Int)) (by omega) (by omega) G with e|e
 ·rw[e]at h;simp at h
 ·split at h
  ·rename_i B;rw[h]at B e;simp only[yL,zH]at B;obtain⟨J,D,M⟩:=Up f (i:=t) (by omega) B.2;exact⟨J,D,by rw[H9 f J t D (by omega)];exact M⟩
  ·omega
theorem Qu(aE:List Int):∀(l m:List Int),l.length=m.length->(∀k,k<l.length->K4 aE (l.getD k 0) (m.getD k 0)=true)->Je aE l m=true
 | [],m,_,_=>rfl
 |x::l,[],hl,_=>by simp at hl
 |x::l,y::m,hl,h=>by
  unfold Je;simp only[List.headD_cons,List.tail_cons,yL];refine⟨by have:=h 0 (by simp);simpa using this,Qu aE l m (by simpa using hl) (fun k f=>?_)⟩;have:=h (k+1) (by simp;omega);simpa using this
theorem Km{g:B0}{K:Nat}(f:GOk g K){aE:List Int}{a b:Nat}(D:a<g.aB.length)(G:b<g.aB.length)(h:Dd g K aE a b):B7 g aE a b=true:=by
 have B:=f.row a (by rw[f.len];exact D);have M:=f.row b (by rw[f.len];exact G);unfold B7;rw[if_neg (by
  rintro(e|e)
  ·exact e h.1
  ·exact e h.2.1)]
 exact Qu aE _ _ (by rw[B.1,M.1]) (fun k J=>h.2.2 k (by rw[<-B.1];exact J))
theorem Sl(g:B0)(aE:List Int)(n:Nat):∀(f k a:Nat),n<f+k->k<=a->a<n->B7 g aE a n=true->∃e,Kb g aE n f k=some e/\k<=e/\e<=a/\∀j,k<=j->j<e->B7 g aE j n=false
 |0,k,a,hf,h1,h2,_=>by omega
 |f+1,k,a,hf,h1,h2,h3=>by
  unfold Kb;rw[if_pos (by omega)];cases hk:B7 g aE k n with
  |true=>exact⟨k,by simp,zD _,h1,fun j K h=>by omega⟩
  |false=>
   have M:k≠a:=fun e=>by rw[e,h3]at hk;cases hk
   obtain⟨e,D,U,G,J⟩:=Sl g aE n f (k+1) a (by omega) (by omega) h2 h3;refine⟨e,by simpa using D,by omega,G,fun j K h=>?_⟩
   by_cases B:j=k
   ·rw[B];exact hk
   ·exact J j (by omega) h
theorem Nu{g:B0}{aE:List Int}{b e:Nat}(h:Kb g aE b (b+1) 0=some e)(G:b<g.aB.length):(M0 g aE g.aB.length).1.getD b 0=(M0 g aE g.aB.length).1.getD e 0:=by
 have B:=Wx g aE b _ _ _ h;rw[Ig g aE g.aB.length (b+1) b (by omega) (by omega),Ig g aE g.aB.length b e (by omega) B];have f:(M0 g aE (b+1)).1=(M0 g aE b).1++ [(M0 g aE b).1.getD e 0]:=by
  conv=>lhs;unfold M0
  rw[h]
 have D:=S3 g aE b;rw[f,zC,zX (by omega),D,yQ];simp
theorem Br{g:B0}{K:Nat}(B:GOk g K){aE:List Int}{a b:Nat}(G:a<b)(D:b<g.aB.length)(h:Dd g K aE a b):(M0 g aE g.aB.length).1.getD a 0=(M0 g aE g.aB.length).1.getD b 0:=by
 obtain⟨e,Z,e2,e3,e4⟩:=Sl g aE b (b+1) 0 a (by omega) (yC _) G (Km B (by omega) D h);rw[Nu Z D]
 by_cases M:e=a
 ·rw[M]
 ·have U:=Mi B (a:=e) (b:=b) (by omega) D (Xj g aE b _ _ _ Z).2;have J:Dd g K aE e a:=Dd.trans U (Dd.symm h);obtain⟨f,f1,f2,f3,f4⟩:=Sl g aE a (a+1) 0 e (by omega) (yC _) (by omega) (Km B (by omega) (by omega) J);rw[Nu f1 (by omega)];have X:f=e:=by
   refine Nat.le_antisymm f3 (xC fun Y=>?_);have V:=Mi B (a:=f) (b:=a) (by omega) (by omega) (Xj g aE a _ _ _ f1).2;have W:Dd g K aE f b:=Dd.trans V h;have:=e4 f (yC _) Y;rw[Km B (by omega) D W]at this;cases this
  rw[X]
def Uk:List Int->Nat->Option Nat
 | [],k=>some k
 |x::r,k=>if(k:Int)<x then none else Uk r (if x=(k:Int)then k+1 else k)
theorem Yn{N:Nat}{aE:List Int}(G:aE.length=N)(V:∀x∈aE,0<=x/\x<(N:Int)):∀(B:List Int) (st f:List Int×List Int),Np N aE st->Pk N B->Mp (I3 aE B st) f->
  Uk (Z1 aE f.2 B) st.1.length=some (I3 aE B st).1.length
 | [],st,f,_,_,_=>rfl
 |x::r,st,f,h,hr,hx=>by
  have e:I3 aE (x::r) st=I3 aE r (V2 aE st x):=rfl;rw[e]at hx⊢;have Z:=hr x (by simp);obtain⟨s1,s2,s3⟩:=Oi G V h Z;obtain⟨r1,r2,r3⟩:=Xa G V r _ s1 (fun y hy=>hr y (by simp[hy]));have M:=Yn G V r (V2 aE st x) f s1 (fun y hy=>hr y (by simp[hy])) hx;have e2:Z1 aE f.2 (x::r)=(if x != -1 then f.2.getD (aE.getD x.toNat 0).toNat 0 else -1)::Z1 aE f.2 r:=rfl;rw[e2];unfold Uk
  by_cases K:x= -1
  ·have e3:V2 aE st x=st:=by unfold V2;rw[if_neg (by simp[K])]
   have W:(if(x != -1)=true then f.2.getD (aE.getD x.toNat 0).toNat 0 else -1)= -1:=by rw[if_neg (by simp[K])]
   rw[W,if_neg (by omega),if_neg (by omega)];rw[e3]at M⊢;exact M
  ·have W:(if(x != -1)=true then f.2.getD (aE.getD x.toNat 0).toNat 0 else -1)=f.2.getD (aE.getD x.toNat 0).toNat 0:=by rw[if_pos (by simp[K])]
   have a0:=V _ (G4 (l:=aE) (k:=x.toNat) (by omega) 0);have J:f.2.getD (aE.getD x.toNat 0).toNat 0=(V2 aE st x).2.getD (aE.getD x.toNat 0).toNat 0:=by
    have X:=s3 K;rw[hx.2 _ (by rw[r2.2 _ X];exact X),r2.2 _ X]
   rw[W,J]
   by_cases Y:st.2.getD (aE.getD x.toNat 0).toNat 0= -1
   ·have D:(x != -1 && st.2.getD (aE.getD x.toNat 0).toNat 0== -1)=true:=by simp only[yL,bne_iff_ne,ne_eq,beq_iff_eq];exact⟨K,Y⟩
    have U:V2 aE st x=(st.1++ [x],st.2.set (aE.getD x.toNat 0).toNat (st.1.length:Int)):=by unfold V2;rw[if_pos D]
    have hl:=h.ok.len;have e6:(V2 aE st x).2.getD (aE.getD x.toNat 0).toNat 0=(st.1.length:Int):=by
     rw[U];show(st.2.set _ _).getD _ 0=_;rw[Za _ _ _ _ (by omega),if_pos rfl]
    have e7:(V2 aE st x).1.length=st.1.length+1:=by rw[U];simp
    rw[e6,if_neg (by omega),if_pos rfl,<-e7];exact M
   ·have D:¬(x != -1 && st.2.getD (aE.getD x.toNat 0).toNat 0== -1)=true:=by simp only[yL,bne_iff_ne,ne_eq,beq_iff_eq];exact fun e=>Y e.2
    have U:V2 aE st x=st:=by unfold V2;rw[if_neg D]
    rw[U]at M⊢;rcases h.aE (aE.getD x.toNat 0).toNat (by omega)with e|⟨e,e',_⟩
    ·exact absurd e Y
    ·rw[if_neg (by omega),if_neg (by omega)];exact M
def X8:List (List Int)->Nat->Nat->Option Nat
 | [],s,k=>some k
 |r::rs,s,k=>if k<=s then none else(Uk r k).bind (fun f=>X8 rs (s+1) f)
theorem Ni{g:B0}{K:Nat}(J:GOk g K){aE:List Int}(B:aE.length=g.aB.length)(M:∀x∈aE,0<=x/\x<(g.aB.length:Int)):∀(f i:Nat) (st:List Int×List Int),Np g.aB.length aE st->Mp st (P5 g aE f i st)
 |0,i,st,_=>Mp.refl _
 |f+1,i,st,h=>by
  unfold P5;split
  ·rename_i G;have U:=h.ok.ok _ (G4 (l:=st.1) G 0);have D:=(J.row (st.1.getD i 0).toNat (by rw[J.len];omega)).2;obtain⟨V,W,X⟩:=Xa B M _ st h D;exact W.trans (Ni J B M f (i+1) _ V)
  ·exact Mp.refl _
theorem Mm{g:B0}{K:Nat}(Y:GOk g K){aE:List Int}(D:aE.length=g.aB.length)(V:∀x∈aE,0<=x/\x<(g.aB.length:Int)):∀(f i:Nat) (st B:List Int×List Int),f+i=g.aB.length+1->i<=st.1.length->Np g.aB.length aE st->P5 g aE f i st=B->
  X8 ((B.1.drop i).map (fun n=>Z1 aE B.2 (g.next.getD n.toNat []))) i st.1.length=some B.1.length
 |0,i,st,B,hf,hi,h,_=>by have:=h.ok.sum;omega
 |f+1,i,st,B,hf,hi,h,hfin=>by
  have G:=Ni Y D V (f+1) i st h;rw[hfin]at G;unfold P5 at hfin
  by_cases M:i<st.1.length
  ·rw[if_pos M]at hfin;have a0:=h.ok.ok _ (G4 (l:=st.1) M 0);have U:=(Y.row (st.1.getD i 0).toNat (by rw[Y.len];omega)).2;obtain⟨Z,r2,r3⟩:=Xa D V _ st h U;have a1:=r2.1.length_le;have ih:=Mm Y D V f (i+1) _ B (by omega) (by omega) Z hfin;have J:=Ni Y D V f (i+1) _ Z;rw[hfin]at J;have W:i<B.1.length:=by have:=G.1.length_le;omega
   have X:B.1[i]=st.1.getD i 0:=by
    have:=Yb G.1 M;rw[<-this];simp[W]
   rw[zY W,List.map_cons,X];unfold X8;rw[if_neg (by omega),Yn D V _ st B h U J];exact ih
  ·rw[if_neg M]at hfin;subst hfin;rw[List.drop_eq_nil_of_le (by omega)];rfl
theorem SJ{g:B0}{K:Nat}(X:GOk g K)(G:0<g.aB.length){aE:List Int}(B:aE.length=g.aB.length)(M:∀x∈aE,0<=x/\x<(g.aB.length:Int)):Np g.aB.length aE ([0],(List.replicate aE.length (-1:Int)).set (aE.getD 0 0).toNat 0):=by
 have J:=M _ (G4 (l:=aE) (k:=0) (by omega) 0);have h:(aE.getD 0 0).toNat<(List.replicate aE.length (-1:Int)).length:=by rw[yD];omega
 have f:∀d,d<aE.length->(List.replicate aE.length (-1:Int)).getD d 0= -1:=fun d D=>by simp[D]
 refine⟨⟨?_,by simp[B],fun x J=>by simp at J;omega⟩,⟨by simp,rfl⟩,fun j U=>?_,fun d D=>?_⟩
 ·have V:=Dj (List.replicate aE.length (-1:Int)) (aE.getD 0 0).toNat 0 h (by rw[f _ (by omega)]) (by omega);have W:Vs (List.replicate aE.length (-1:Int))=aE.length:=by simp[Vs]
  simp only[yH,List.length_nil];omega
 ·simp only[yH,List.length_nil]at U;have:j=0:=by omega
  subst this;simp only[List.getD_cons_zero,Int.toNat_zero];rw[Za _ _ _ _ h,if_pos rfl];rfl
 ·simp only;rw[Za _ _ _ _ h];split
  ·rename_i e
   right
   refine⟨by omega,by simp,?_⟩;simp only[Int.toNat_zero,List.getD_cons_zero];omega
  ·exact .inl (f d (by omega))
theorem Zu{g:B0}{K:Nat}(J:GOk g K)(D:0<g.aB.length){aE:List Int}(f:aE.length=g.aB.length)(G:∀x∈aE,0<=x/\x<(g.aB.length:Int)):
  X8 (E1 g aE).next 0 1=some (E1 g aE).aB.length:=by
 have X:=G _ (G4 (l:=aE) (k:=0) (by omega) 0);have V:(aE.getD 0 0).toNat<(List.replicate aE.length (-1:Int)).length:=by rw[yD];omega
 have M:∀d,d<aE.length->(List.replicate aE.length (-1:Int)).getD d 0= -1:=fun d W=>by simp[W]
 have B:Np g.aB.length aE ([0],(List.replicate aE.length (-1:Int)).set (aE.getD 0 0).toNat 0):=SJ J D f G;have h:=Mm J f G (aE.length+1) 0 ([0],(List.replicate aE.length (-1:Int)).set (aE.getD 0 0).toNat 0) (V1 g aE) (by omega) (by simp) B rfl;rw[List.drop_zero]at h;have U:(E1 g aE).aB.length=(V1 g aE).1.length:=by simp[E1]
 rw[U];exact h
end Go.Proofs.YtcckhngbdoiikaaGreat
