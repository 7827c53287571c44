import Derived.Test.YtcckhngbdoiikaaGreatS43
import Derived.StillTailTactics
set_option maxRecDepth 20000
set_option maxHeartbeats 12800000
set_option linter.unusedVariables false
namespace Go.Proofs.YtcckhngbdoiikaaGreat
open Go.RowKit Go.Deep
theorem Ny{P:Program}{id:Nat}{Q:Exit->Act->World->Prop}{a:Act}{w:World}{l:List Oper}(n:Nat)(G:P.follows .mixedOrders=true)(D:Region.lexTailB .any l.toArray n=true)
  (h:∀f:Array Oper,wpStill P f { w with drawn:=w.drawn+1 } (fun B=>wpList P f Q (l.drop n) B { w with drawn:=w.drawn+1 }) (l.take n) a):(Code.region id l.toArray true).wp P Q a w:=
 wp_region_still_tail n G D (h _)
theorem Tryz.iG:Tryz.prog.follows .mixedOrders=true:=by kernel_rfl
structure BP where
 aW:Bool
 k:Nat
 fr:ByteArray
 tt:ByteArray
 lead:ByteArray
 lp:ByteArray
 tail:ByteArray
abbrev NU(x:BP):Array Value:=#[.bool x.aW,.int .i64 (x.k:Int),.string x.fr,.string x.tt,.string x.lead,.string x.lp,.string x.tail]
abbrev JX(x:BP):Value:=.agg #[.bool x.aW,.int .i64 (x.k:Int),.string x.fr,.string x.tt,.string x.lead,.string x.lp,.string x.tail]
abbrev Qz:Array Value:=#[.bool false,.int .i64 0,.string ⟨#[]⟩,.string ⟨#[]⟩,.string ⟨#[]⟩,.string ⟨#[]⟩,.string ⟨#[]⟩]
def Nf(x:T9)(f:List (List Bool)):BP:=
 ⟨true,(Hc x f f.length).2,(Y4 x (Hc x f f.length).1).1,(Y4 x (Hc x f f.length).1).1++(P7 x (f.take (Hc x f f.length).2) (Hc x f f.length).1).2,A3,A3,A3⟩
def L9(x:T9)(f:List (List Bool))(s:Nat):BP:=
 ⟨false,0,(Y4 x ((P7 x f s).1.getD (C5 (P7 x f s).1).1 0)).1,A3,(Y4 x ((P7 x f s).1.getD (C5 (P7 x f s).1).1 0)).2,
  (P7 x f s).2.extract (C5 (P7 x f s).1).1 (C5 (P7 x f s).1).2,(P7 x f s).2.extract (C5 (P7 x f s).1).2 (P7 x f s).2.size⟩
theorem Tryz.dE:(Tryz.prog.info? 42).map (·.size)=some 7:=by kernel_rfl
theorem Rr{x:BP}{D:Array Oper}{rest:List Oper}{o:Oper}{a:Act}{w:World}{Q:Exit->Act->World->Prop}(G:o.guard=none)(p q:Operand)(K:o.op=.store 42 p q)
  (g:Nat) (M:a.eval p=.pointer (some ⟨g,0,none⟩)) (U:a.eval q=JX x) {B:Array Value} (J:Blk w g B 42) (f:B.size=7)
  (h:wpList Tryz.prog D Q rest (a.put o.dst undef) (w.setRow g (NU x))):wpList Tryz.prog D Q (o::rest) a w:=
 wpList_store_row G 42 p q K g _ M U 42 _ J Tryz.dE f (by simp[Value.oneCell']) h
theorem ED{n:Nat}{w w':World}(h:Below n w w'):Below n w w'.drew:=⟨h.os,h.tape,h.output,h.size,h.block⟩
theorem Ov(x:T9)(f:List (List Bool)):∀d,(Hc x f d).2<=d/\(0<x.aF.length->(Hc x f d).1<x.aF.length)
 |0=>⟨zD _,fun h=>h⟩
 |d+1=>by
  unfold Hc;split
  ·rename_i s B;have:=List.mem_of_find?_eq_some B;exact⟨zD _,fun _=>by simpa using this⟩
  ·have:=Ov x f d;exact⟨by omega,this.2⟩
theorem Tt{x:T9}(h:Ti x):∀k,k<=x.aY.length->Ao x.aF.length (256*k) (A6 x k)
 |0,_=>by
  refine⟨by simp[A6,Ug],by simp[A6,Ug],by simp[A6,Ug],fun i=>?_⟩;have B:∀j,(List.replicate x.aF.length A3).getD j A3=A3:=fun j=>by
   rw[zC,yW];split <;>rfl
  show((List.replicate x.aF.length A3).getD i A3).size+((List.replicate x.aF.length A3).getD i A3).size<=0;rw[B];exact zD _
 |k+1,hk=>by
  have f:=Fl x k (x.aY.getD k []) _ _ _ (Tt h k (by omega));have D:x.aY.getD k []∈x.aY:=by rw[zC,zF (by omega)];exact zG _
  have G:=h.bV _ D;exact⟨f.tl,f.rl,f.fl,fun i=>yK (f.sz i) (by omega)⟩
theorem RD{x:T9}(f:Ti x)(i:Nat):(Y4 x i).1.size<=30000000/\(Y4 x i).2.size<=30000000:=by
 have h:=(Tt f x.aY.length (zD _)).sz i;have B:=f.dW;have D:=f.len;unfold Y4;simp only;omega
theorem UJ{x:T9}(K:Ti x)(D:List (List Bool)):∀(d B:Nat) (f:List Nat) (t:ByteArray),f.length=t.size+1->(∀v∈f,v<x.aF.length)->
  (Om x D d B f t).1.length=(Om x D d B f t).2.size+1/\(Om x D d B f t).2.size<=t.size+d/\∀v∈(Om x D d B f t).1,v<x.aF.length
 |0,B,f,t,h,hv=>⟨h,zD _,hv⟩
 |d+1,B,f,t,h,hv=>by
  unfold Om;split
  ·exact⟨h,by show t.size<=t.size+(d+1);omega,hv⟩
  ·rename_i s U;have M:=(JH K U).1;have J:=UJ K D d s.q (f++ [s.q]) (t++K1 [s.b]) (by rw[zL,zR,Ob];simp;omega) (fun v G=>by simp at G;rcases G with e|e;exact hv v e;rw[e];exact M);refine⟨J.1,?_,J.2.2⟩;have:=J.2.1;rw[zR,Ob]at this;omega
theorem VJ{x:T9}(D:Ti x)(f:List (List Bool))(s:Nat)(G:s<x.aF.length):(P7 x f s).1.length=(P7 x f s).2.size+1/\(P7 x f s).2.size<=f.length/\∀v∈(P7 x f s).1,v<x.aF.length:=by
 have h:=UJ D f f.length s [s] ⟨#[]⟩ rfl (fun v B=>by simp at B;rw[B];exact G);refine⟨h.1,?_,h.2.2⟩;have:=h.2.1;have e:(⟨#[]⟩:ByteArray).size=0:=rfl;unfold P7;omega
theorem Q5.take{w:World}{g B:Nat}{f:List (List Bool)}(h:Q5 w (.slice (some ⟨g,0,none⟩) f.length B) f)(k:Nat)(X:k<=f.length):Q5 w (.slice (some ⟨g,0,none⟩) k B) (f.take k):=by
 obtain⟨Y,K,M,U⟩:=F8.take h k X;have e:(f.take k).length=k:=by simp;omega
 unfold Q5;rw[e];refine⟨Y,K,M,fun i x D=>?_⟩;have V:=U i x D;have W:i<k:=by
  rcases yE i k with G|G
  ·exact G
  ·rw[yI (by omega)]at D;cases D
 have J:(f.take k).getD i []=f.getD i []:=by rw[zC,List.getElem?_take,if_pos W,<-zC]
 show Y5 w x ((f.take k).getD i []);rw[J];exact V
theorem IG(wb:Nat)(x:T9)(lv:Value)(f:List (List Bool))(w:World)(h:Si w wb x)(ho:Ti x)(hL:Q5 w lv f)(X:∀l∈f,l.length=x.aF.length)(hm:f.length<=100001)(aa:0<x.aF.length)(af:0<f.length):
  Calls Tryz.prog 61 #[.pointer (some ⟨wb,0,none⟩),lv] w fun e w'=>e=.returned (JX (Nf x f))/\Bw w w':=by
 obtain⟨ld,U,rfl,a3⟩:=hL.eC rfl;rcases a3 with h9|⟨lg,rfl⟩
 ·omega
 obtain⟨a2,a9⟩:=Ov x f f.length;have G:=a9 aa;have a5:=Hd (fun(W:World) (Y:Bw w W)=>WD wb x _ f W (h.aA Y) ho (hL.aA Y) X hm);generalize a7:Hc x f f.length=FF at a5 a2 G;obtain⟨K,J⟩:=FF;simp only at a2 G;have a4:=Hd (fun(W:World) (Y:Bw w W)=>Xp wb x K W (h.aA Y) ho G);have a6:=Hd (fun(W:World) (Y:Bw w W)=>CD wb x K _ (f.take J) W (h.aA Y) ho ((hL.aA Y).take J a2) (fun l hl=>X l (List.mem_of_mem_take hl)) (by simp;omega) G);have ab:=RD ho K;have M:=VJ ho (f.take J) K G;have hX:Nf x f=⟨true,J,(Y4 x K).1,(Y4 x K).1++(P7 x (f.take J) K).2,A3,A3,A3⟩:=by unfold Nf;rw[a7]
 rw[hX];have a8:f.length<=U:=by
  obtain⟨vs,g1,_⟩:=hL;obtain⟨_,ae,ac,e9,⟨h1,h2⟩|⟨g9,ad,h1,h2,h3,_⟩⟩:=L0 g1
  ·omega
  ·injection e9 with e1 e2 e3
   omega
 have f0:(0:Int)<=(J:Int):=by omega
 have f1:(J:Int)<=(U:Int):=by omega
 generalize Y4 x K=AP at a4 ab;generalize P7 x (f.take J) K=WW at a6 M;obtain⟨bA,ar⟩:=AP;obtain⟨wv,wt⟩:=WW;simp only at ab M;have ag:wt.size<=100001:=by have:=M.2.1;simp at this;omega
 have u1:∀W:World,(Op.stringOp .add bA wt).run Tryz.prog W=.ok (.string (bA++wt)) W:=fun W=>run_string_add_sum W _ _ (by omega)
 clear h ho hL X a7 hX M a9 a8;go_enter Tryz.func61,Tryz.ntmps61;go_wp2_with fail;refine(a5.out _ (P0 _ _)).mono ?_;rintro e w1 ⟨rfl,Z⟩;have B:Hid (Bw w w1/\Blk w1 w.heap.size Qz 42):=⟨(P0 _ _).trans (Z.mono (by simp)),(Blk.aQ _ _ _).aA Z⟩;clear Z;go_wp2_with fail;refine(a4.out _ B.out.1).mono ?_;rintro e w2 ⟨rfl,a0⟩;have D:Hid (Bw w w2/\Blk w2 w.heap.size Qz 42):=⟨B.out.1.trans (a0.mono B.out.1.size),B.out.2.aA a0⟩;clear a0 B;go_wp2_with fail;refine(a6.out _ D.out.1).mono ?_;rintro e w3 ⟨vv,rfl,hV,a1⟩;have V:Hid (Bw w w3/\Blk w3 w.heap.size Qz 42):=⟨D.out.1.trans (a1.mono D.out.1.size),D.out.2.aA a1⟩;clear a1 D hV;go_wp2_with(first|refine Rr (x:=⟨true,J,bA,bA++wt,A3,A3,A3⟩) rfl (.tmp 4) (.tmp 37) rfl w.heap.size rfl rfl V.out.2 rfl ?_);exact bodyPost_ret (results_cell_row Tryz.results61 _ _ w.heap.size 42 (NU ⟨true,J,bA,bA++wt,A3,A3,A3⟩) (0,0) _ rfl (V.out.2.setRow _) Tryz.underlying42 rfl Tryz.dE) rfl ⟨rfl,I2 V.out.1 (zD _) _⟩
theorem QG(wb:Nat)(x:T9)(s:Nat)(lv:Value)(D:List (List Bool))(w:World)(h:Si w wb x)(ho:Ti x)(hL:Q5 w lv D)(a1:∀l∈D,l.length=x.aF.length)(hm:D.length<=100001)(hs:s<x.aF.length):
  Calls Tryz.prog 60 #[.pointer (some ⟨wb,0,none⟩),.int .i64 s,lv] w fun e w'=>e=.returned (JX (L9 x D s))/\Bw w w':=by
 have a0:=Hd (fun(W:World) (hb:Bw w W)=>CD wb x s lv D W (h.aA hb) ho (hL.aA hb) a1 hm hs);obtain⟨ld,a6,rfl,a5⟩:=hL.eC rfl;obtain⟨z1,z2,z3⟩:=VJ ho D s hs;have hX:L9 x D s=⟨false,0,(Y4 x ((P7 x D s).1.getD (C5 (P7 x D s).1).1 0)).1,A3,(Y4 x ((P7 x D s).1.getD (C5 (P7 x D s).1).1 0)).2,
  (P7 x D s).2.extract (C5 (P7 x D s).1).1 (C5 (P7 x D s).1).2,(P7 x D s).2.extract (C5 (P7 x D s).1).2 (P7 x D s).2.size⟩:=rfl
 rw[hX];clear hX;generalize P7 x D s=WW at a0 z1 z2 z3;obtain⟨B,t⟩:=WW;simp only at z1 z2 z3;obtain⟨r1,r2⟩:=PM B (by omega);have Z:=Hd (fun(v:Value) (W:World) (hv:O2 W v (Ub B))=>QM B v W hv (by omega));simp only;generalize C5 B=RR at Z r1 r2;obtain⟨f,q⟩:=RR;simp only at r1 r2;have a2:B.getD f 0<x.aF.length:=z3 _ (by rw[zC,zF (by omega)];exact zG _);have M:=Hd (fun(W:World) (hb:Bw w W)=>Xp wb x (B.getD f 0) W (h.aA hb) ho a2);simp only;generalize a3:B.getD f 0=vf at M;generalize Y4 x vf=AP at M;obtain⟨bA,ar⟩:=AP;simp only;have a4:=Hd a3;have g0:(0:Int)<=(f:Int):=by omega
 have g1:(f:Int)<(B.length:Int):=by omega
 have g2:(f:Int)<=(q:Int):=by omega
 have g3:(q:Int)<=(t.size:Int):=by omega
 have g4:(0:Int)<=(q:Int):=by omega
 have g5:f<=q:=r1;have g6:q<=t.size:=by omega
 have a9:B.length<=100002:=by omega
 have HZ:=Hd z1;clear h ho hL a1 a3 z1 z3 a2;go_enter Tryz.func60,Tryz.ntmps60;go_wp2_with fail;refine(a0.out _ (P0 _ _)).mono ?_;rintro e w1 ⟨vv,rfl,hV,V⟩;have J:Hid (Bw w w1/\Blk w1 w.heap.size Qz 42/\O2 w1 vv (Ub B)):=⟨(P0 _ _).trans (V.mono (by simp)),(Blk.aQ _ _ _).aA V,hV⟩;clear V hV;go_wp2_with fail;refine(Z.out vv w1 J.out.2.2).mono ?_;rintro e w2 ⟨rfl,K⟩;have G:Hid (Bw w w2/\Blk w2 w.heap.size Qz 42/\O2 w2 vv (Ub B)):=⟨J.out.1.trans (K.mono J.out.1.size),J.out.2.1.aA K,J.out.2.2.aA K⟩;clear K J;obtain⟨vd,a7,rfl,Y⟩:=G.out.2.2.gU;rcases Y with h9|⟨vg,rfl⟩
 ·omega
 have c0:=G.out.2.2.cellN f (by omega);rw[a4.out]at c0;go_wp2_with fail;refine(M.out _ G.out.1).mono ?_;rintro e w3 ⟨rfl,X⟩;have U:Hid (Bw w w3/\Blk w3 w.heap.size Qz 42):=⟨G.out.1.trans (X.mono G.out.1.size),G.out.2.1.aA X⟩;clear X G c0;go_wp2_with fail;refine Ny 10 Tryz.iG (by kernel_rfl) ?_;intro a8;simp only[List.take_succ_cons,List.take_zero,List.drop_succ_cons,List.drop_zero]
 repeat still_step
 refine wpStill_nil ?_;refine Rr (x:=⟨false,0,bA,A3,ar,t.extract f q,t.extract q t.size⟩) rfl (.tmp 6) (.tmp 43) rfl w.heap.size rfl rfl (Blk.drew U.out.2) rfl ?_;go_wp2_with fail;exact bodyPost_ret (results_cell_row Tryz.results60 _ _ w.heap.size 42 (NU ⟨false,0,bA,A3,ar,t.extract f q,t.extract q t.size⟩) (0,0) _ rfl ((Blk.drew U.out.2).setRow _) Tryz.underlying42 rfl Tryz.dE) rfl ⟨rfl,I2 (ED U.out.1) (zD _) _⟩
theorem NW(kd:Nat->Nat)(g:B0)(W:X9 kd g)(Y:g.aB.length<=50000):Ti (U0 kd g):=by
 have X:∀(s n b:Nat) (seen:List Bool) (f:List Q7),b<=256->f.length<=b->(∀t∈f,t.q<g.aB.length/\t.b<256)->(A7 kd g s n b seen f).length<=256/\∀t∈A7 kd g s n b seen f,t.q<g.aB.length/\t.b<256:=by
  intro s n
  induction n with
  |zero=>intro b seen f h K B;exact⟨by show f.length<=256;omega,B⟩
  |succ n ih=>
   intro b seen f h K B;unfold A7
   by_cases M:b<256
   ·rw[if_pos M]
    by_cases U:X0 kd g (s:Int) (b:Int)= -1\/seen.getD (X0 kd g (s:Int) (b:Int)).toNat false=true
    ·rw[if_pos U];exact ih (b+1) seen f (by omega) (by omega) B
    ·rw[if_neg U];refine ih (b+1) _ _ (by omega) (by simp;omega) (fun t J=>?_);simp only[zO,zJ]at J;rcases J with e|e
     ·exact B t e
     ·rcases W (s:Int) (b:Int)with V|V
      ·exact absurd (.inl V) U
      ·rw[e];exact⟨by show(X0 kd g (s:Int) (b:Int)).toNat<_;omega,M⟩
   ·rw[if_neg M];exact⟨by omega,B⟩
 have G:∀l∈(U0 kd g).aY,l.length<=256/\∀t∈l,t.q<g.aB.length/\t.b<256:=by
  intro l D;simp only[U0,J6,List.mem_map]at D;obtain⟨s,_,rfl⟩:=D;exact X s 257 0 _ [] (by omega) (by simp) (fun t J=>by simp at J)
 refine⟨by simp[U0,R9,C7],fun l h t K=>?_,fun l h=>(G l h).1,by simp[U0,C7];omega⟩;have:=(G l h).2 t K;simpa[U0,C7]using this
theorem ME(x:T9)(n:Nat):(X1 x (n+1)).take n=X1 x n:=by
 rw[KE,List.take_append_of_le_length (by rw[P3];exact zD _),zN (by rw[P3];exact zD _)]
theorem Lq(x:T9)(n:Nat):∀l∈X1 x n,l.length=x.aF.length:=by
 intro l f;simp only[X1,List.mem_map]at f;obtain⟨d,_,rfl⟩:=f;exact Of x d
def V3(kd:Nat->Nat)(g:B0):BP:=
 match(List.range g.aB.length).find? (fun s=>(F3 (U0 kd g) g.aB.length).getD s false)with
 |some s=>L9 (U0 kd g) (X1 (U0 kd g) g.aB.length) s
 |none=>Nf (U0 kd g) (X1 (U0 kd g) g.aB.length)
theorem Au(pb:Nat)(kd:Nat->Nat)(g:B0)(w:World)(h:A9 w pb kd g)(ho:B8 kd g)(hi:X9 kd g)(hl:g.aB.length<=50000)(ak:0<g.aB.length):
  Calls Tryz.prog 31 #[.pointer (some ⟨pb,0,none⟩)] w fun e w'=>e=.returned (JX (V3 kd g))/\Bw w w':=by
 have hW:=NW kd g hi hl;have ac:=Hd (fun(W:World) (hb:Bw w W)=>WS pb kd g W (h.aA hb) ho hi hl);have a8:(U0 kd g).aF.length=g.aB.length:=by simp[U0,C7]
 have Y:V3 kd g=match(List.range g.aB.length).find? (fun s=>(F3 (U0 kd g) g.aB.length).getD s false)with
  |some s=>L9 (U0 kd g) (X1 (U0 kd g) g.aB.length) s
  |none=>Nf (U0 kd g) (X1 (U0 kd g) g.aB.length):=rfl
 generalize V3 kd g=X at Y;generalize U0 kd g=x at ac hW a8 Y;have HX:=Hd Y;have HW:=Hd hW;have U:=Hd a8;clear h ho hi Y hW a8;go_enter Tryz.func31,Tryz.ntmps31;go_wp2_with fail;refine(ac.out _ (P0 _ _)).mono ?_;rintro e w1 ⟨wb,rfl,a0,a5⟩;obtain⟨tv,sv,hB,hT,hS⟩:=a0.ex;obtain⟨td,af,rfl,_⟩:=hT.aT;have c0:w1.cell? ⟨wb,0,none⟩=some (.slice td x.aF.length af):=hB.cell 0;have ah:=U.out;have a9:=Hd (FL wb x x.aF.length w1 a0 HW.out (by omega));have K:Hid (Bw w w1/\Blk w1 w.heap.size Qz 42/\Si w1 wb x):=⟨(P0 _ _).trans (a5.mono (by simp)),(Blk.aQ _ _ _).aA a5,a0⟩;have ao:x.aF.length<=50000:=by omega
 have ae:0<x.aF.length:=by omega
 clear hB hT hS a0 a5 ah;go_wp2_with fail;refine a9.out.mono ?_;rintro e w2 ⟨lv,rfl,hL,hO,a1⟩;obtain⟨ld,J,rfl,a6⟩:=hL.eC (P3 x (x.aF.length+1));rcases a6 with h9|⟨lg,rfl⟩
 ·omega
 have f:Hid (Bw w w2/\Blk w2 w.heap.size Qz 42/\Si w2 wb x/\Q5 w2 (.slice (some ⟨lg,0,none⟩) (x.aF.length+1) J) (X1 x (x.aF.length+1))):=⟨K.out.1.trans (a1.mono K.out.1.size),K.out.2.1.aA a1,K.out.2.2.aA a1,hL⟩;have a3:Q5 w2 (.slice (some ⟨lg,0,none⟩) (X1 x (x.aF.length+1)).length J) (X1 x (x.aF.length+1)):=by rw[P3];exact hL
 obtain⟨rv,r0,hR⟩:=F8.cell a3 x.aF.length (by rw[P3];omega);have Z:Y5 w2 rv (F3 x x.aF.length):=by have h9:=hR;simp only[Ja x (x.aF.length+1) x.aF.length (by omega)]at h9;exact h9
 obtain⟨rd,am,rfl,V⟩:=Z.aT;rw[Of]at Z r0 V;have a4:=a3.take x.aF.length (by rw[P3];omega);rw[ME]at a4;have aa:=Hd a4;have HR:=Hd Z;have ad:x.aF.length+1<=J:=by
  obtain⟨vs,g1,_⟩:=hL;obtain⟨_,an,ai,e9,⟨h1,h2⟩|⟨g9,aj,h1,h2,h3,_⟩⟩:=L0 g1
  ·rw[P3]at h2;omega
  ·rw[P3]at h3
   injection e9 with e1 e2 e3
   omega
 have m0:(0:Int)<=(x.aF.length:Int):=by omega
 have m1:(x.aF.length:Int)<((x.aF.length+1:Nat):Int):=by omega
 have m2:(x.aF.length:Int)<=(J:Int):=by omega
 clear hL hO a1 a3 hR Z a4 ad K a9 c0;go_wp2_with fail
 go_loopg[23] x.aF.length (fun G iv wr=>∃i:Nat,iv=.int .i64 i/\i<=x.aF.length/\G=x.aF.length-i/\wr=w2/\∀j,j<i->(F3 x x.aF.length).getD j false=false)
 case atStart=>exact⟨0,rfl,by omega,rfl,rfl,fun j hj=>by omega⟩
 case round=>
  obtain⟨i,rfl,hi,rfl,rfl,a2⟩:=hrel
  by_cases a7:i<x.aF.length
  ·have e0:decide ((i:Int)<(x.aF.length:Int))=true:=by simp;omega
   rcases V with h9|⟨rg,rfl⟩
   ·omega
   have b0:=HR.out.cellD i (by rw[Of];exact a7);have i0:(0:Int)<=(i:Int):=by omega
   have i1:(i:Int)<(x.aF.length:Int):=by omega
   have ab:=Hd a2;clear a2;cases hbi:(F3 x x.aF.length).getD i false with
   |true=>
    rw[hbi]at b0;have Y:X=L9 x (X1 x x.aF.length) i:=by
     have h9:(List.range g.aB.length).find? (fun s=>(F3 x g.aB.length).getD s false)=some i:=by
      rw[<-U.out,List.find?_range_eq_some];exact⟨hbi,by simpa using a7,fun j hj=>by rw[ab.out j hj];rfl⟩
     have h8:=HX.out;rw[h9]at h8;rw[U.out];exact h8
    have M:=Hd (QG wb x i _ (X1 x x.aF.length) wr f.out.2.2.1 HW.out aa.out (Lq x _) (by rw[P3];omega) a7);rw[<-Y]at M;clear Y hbi;go_wp2_with fail;refine M.out.mono ?_;rintro e w3 ⟨rfl,D⟩;have B:Hid (Bw w w3/\Blk w3 w.heap.size Qz 42):=⟨f.out.1.trans (D.mono f.out.1.size),f.out.2.1.aA D⟩;clear D;go_wp2_with(first|refine Rr (x:=X) rfl (.tmp 2) (.tmp 34) rfl w.heap.size rfl rfl B.out.2 rfl ?_);exact bodyPost_ret (results_cell_row Tryz.results31 _ _ w.heap.size 42 (NU X) (0,0) _ rfl (B.out.2.setRow _) Tryz.underlying42 rfl Tryz.dE) rfl ⟨rfl,I2 B.out.1 (zD _) _⟩
   |false=>
    rw[hbi]at b0;have ag:=Hd hbi;clear hbi;go_wp2_with fail
    go_roundg (x.aF.length- (i+1))
    case measure=>omega
    case rel=>
     refine⟨i+1,by go_num,by omega,rfl,rfl,fun j hj=>?_⟩
     by_cases e:j<i
     ·exact ab.out j e
     ·rw[show j=i by omega];exact ag.out
  ·have e0:decide ((i:Int)<(x.aF.length:Int))=false:=by simp;omega
   obtain rfl:i=x.aF.length:=by omega
   have Y:X=Nf x (X1 x x.aF.length):=by
    have h9:(List.range g.aB.length).find? (fun s=>(F3 x g.aB.length).getD s false)=none:=by
     rw[<-U.out,List.find?_range_eq_none];intro j hj;rw[a2 j hj];rfl
    have h8:=HX.out;rw[h9]at h8;rw[U.out];exact h8
   have M:=Hd (IG wb x _ (X1 x x.aF.length) wr f.out.2.2.1 HW.out aa.out (Lq x _) (by rw[P3];omega) ae (by rw[P3];exact ae));rw[<-Y]at M;clear Y a2;go_wp2_with fail;refine M.out.mono ?_;rintro e w3 ⟨rfl,D⟩;have B:Hid (Bw w w3/\Blk w3 w.heap.size Qz 42):=⟨f.out.1.trans (D.mono f.out.1.size),f.out.2.1.aA D⟩;clear D;go_wp2_with(first|refine Rr (x:=X) rfl (.tmp 2) (.tmp 40) rfl w.heap.size rfl rfl B.out.2 rfl ?_);exact bodyPost_ret (results_cell_row Tryz.results31 _ _ w.heap.size 42 (NU X) (0,0) _ rfl (B.out.2.setRow _) Tryz.underlying42 rfl Tryz.dE) rfl ⟨rfl,I2 B.out.1 (zD _) _⟩
end Go.Proofs.YtcckhngbdoiikaaGreat
