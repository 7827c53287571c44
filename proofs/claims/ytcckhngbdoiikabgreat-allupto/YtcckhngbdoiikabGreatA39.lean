import Derived.Test.YtcckhngbdoiikabGreatA38
import Derived.StillTailTactics
set_option maxRecDepth 20000
set_option maxHeartbeats 12800000
set_option linter.unusedVariables false
namespace Go.Proofs.YtcckhngbdoiikabGreat
open Go.RowKit Go.Deep
theorem Oz{P:Program}{id:Nat}{Q:Exit->Act->World->Prop}{a:Act}{w:World}{l:List Oper}(n:Nat)(G:P.follows .mixedOrders=true)(D:Region.lexTailB .any l.toArray n=true)
  (h:∀f:Array Oper,wpStill P f { w with drawn:=w.drawn+1 } (fun B=>wpList P f Q (l.drop n) B { w with drawn:=w.drawn+1 }) (l.take n) a):(Code.region id l.toArray true).wp P Q a w:=
 wp_region_still_tail n G D (h _)
theorem Tryz.iL:Tryz.prog.follows .mixedOrders=true:=by kernel_rfl
structure ER where
 aT:Bool
 k:Nat
 fr:ByteArray
 tt:ByteArray
 lead:ByteArray
 lp:ByteArray
 tail:ByteArray
abbrev ES(x:ER):Array Value:=#[.bool x.aT,.int .i64 (x.k:Int),.string x.fr,.string x.tt,.string x.lead,.string x.lp,.string x.tail]
abbrev XM(x:ER):Value:=.agg #[.bool x.aT,.int .i64 (x.k:Int),.string x.fr,.string x.tt,.string x.lead,.string x.lp,.string x.tail]
abbrev Gy:Array Value:=#[.bool false,.int .i64 0,.string ⟨#[]⟩,.string ⟨#[]⟩,.string ⟨#[]⟩,.string ⟨#[]⟩,.string ⟨#[]⟩]
def I8(x:K9)(f:List (List Bool)):ER:=
 ⟨true,(Na x f f.length).2,(K3 x (Na x f f.length).1).1,(K3 x (Na x f f.length).1).1++(P6 x (f.take (Na x f f.length).2) (Na x f f.length).1).2,N1,N1,N1⟩
def G9(x:K9)(f:List (List Bool))(s:Nat):ER:=
 ⟨false,0,(K3 x ((P6 x f s).1.getD (B5 (P6 x f s).1).1 0)).1,N1,(K3 x ((P6 x f s).1.getD (B5 (P6 x f s).1).1 0)).2,
  (P6 x f s).2.extract (B5 (P6 x f s).1).1 (B5 (P6 x f s).1).2,(P6 x f s).2.extract (B5 (P6 x f s).1).2 (P6 x f s).2.size⟩
theorem Tryz.dC:(Tryz.prog.info? 113).map (·.size)=some 7:=by kernel_rfl
theorem Ym{x:ER}{D:Array Oper}{rest:List Oper}{o:Oper}{a:Act}{w:World}{Q:Exit->Act->World->Prop}(G:o.guard=none)(p q:Operand)(K:o.op=.store 113 p q)
  (g:Nat) (M:a.eval p=.pointer (some ⟨g,0,none⟩)) (U:a.eval q=XM x) {B:Array Value} (J:Blk w g B 113) (f:B.size=7)
  (h:wpList Tryz.prog D Q rest (a.put o.dst undef) (w.setRow g (ES x))):wpList Tryz.prog D Q (o::rest) a w:=
 wpList_store_row G 113 p q K g _ M U 113 _ J Tryz.dC f (by simp[Value.oneCell']) h
theorem PE{n:Nat}{w w':World}(h:Below n w w'):Below n w w'.drew:=⟨h.os,h.tape,h.output,h.size,h.block⟩
theorem Kw(x:K9)(f:List (List Bool)):∀d,(Na x f d).2<=d/\(0<x.aF.length->(Na x f d).1<x.aF.length)
 |0=>⟨zD _,fun h=>h⟩
 |d+1=>by
  unfold Na;split
  ·rename_i s B;have:=yW B;exact⟨zD _,fun _=>by simpa using this⟩
  ·have:=Kw x f d;exact⟨by omega,this.2⟩
theorem Ru{x:K9}(h:Cj x):∀k,k<=x.aZ.length->Vo x.aF.length (256*k) (C5 x k)
 |0,_=>by
  refine⟨by simp[C5,Bh],by simp[C5,Bh],by simp[C5,Bh],fun i=>?_⟩;have B:∀j,(List.replicate x.aF.length N1).getD j N1=N1:=fun j=>by
   rw[zC,yM];split <;>rfl
  show((List.replicate x.aF.length N1).getD i N1).size+((List.replicate x.aF.length N1).getD i N1).size<=0;rw[B];exact zD _
 |k+1,hk=>by
  have f:=Sl x k (x.aZ.getD k []) _ _ _ (Ru h k (by omega));have D:x.aZ.getD k []∈x.aZ:=by rw[zC,zF (by omega)];exact zG _
  have G:=h.bU _ D;exact⟨f.tl,f.rl,f.fl,fun i=>yI (f.sz i) (by omega)⟩
theorem IF{x:K9}(f:Cj x)(i:Nat):(K3 x i).1.size<=30000000/\(K3 x i).2.size<=30000000:=by
 have h:=(Ru f x.aZ.length (zD _)).sz i;have B:=f.dW;have D:=f.len;unfold K3;simp only;omega
theorem TL{x:K9}(K:Cj x)(D:List (List Bool)):∀(d B:Nat) (f:List Nat) (t:ByteArray),f.length=t.size+1->(∀v∈f,v<x.aF.length)->
  (Hn x D d B f t).1.length=(Hn x D d B f t).2.size+1/\(Hn x D d B f t).2.size<=t.size+d/\∀v∈(Hn x D d B f t).1,v<x.aF.length
 |0,B,f,t,h,hv=>⟨h,zD _,hv⟩
 |d+1,B,f,t,h,hv=>by
  unfold Hn;split
  ·exact⟨h,by show t.size<=t.size+(d+1);omega,hv⟩
  ·rename_i s U;have M:=(JJ K U).1;have J:=TL K D d s.q (f++ [s.q]) (t++K1 [s.b]) (by rw[zL,zN,Pa];simp;omega) (fun v G=>by simp at G;rcases G with e|e;exact hv v e;rw[e];exact M);refine⟨J.1,?_,J.2.2⟩;have:=J.2.1;rw[zN,Pa]at this;omega
theorem KA{x:K9}(D:Cj x)(f:List (List Bool))(s:Nat)(G:s<x.aF.length):(P6 x f s).1.length=(P6 x f s).2.size+1/\(P6 x f s).2.size<=f.length/\∀v∈(P6 x f s).1,v<x.aF.length:=by
 have h:=TL D f f.length s [s] ⟨#[]⟩ rfl (fun v B=>by simp at B;rw[B];exact G);refine⟨h.1,?_,h.2.2⟩;have:=h.2.1;have e:(⟨#[]⟩:ByteArray).size=0:=rfl;unfold P6;omega
theorem W5.take{w:World}{g B:Nat}{f:List (List Bool)}(h:W5 w (.slice (some ⟨g,0,none⟩) f.length B) f)(k:Nat)(X:k<=f.length):W5 w (.slice (some ⟨g,0,none⟩) k B) (f.take k):=by
 obtain⟨Y,K,M,U⟩:=N8.take h k X;have e:(f.take k).length=k:=by simp;omega
 unfold W5;rw[e];refine⟨Y,K,M,fun i x D=>?_⟩;have V:=U i x D;have W:i<k:=by
  rcases yE i k with G|G
  ·exact G
  ·rw[yJ (by omega)]at D;cases D
 have J:(f.take k).getD i []=f.getD i []:=by rw[zC,List.getElem?_take,if_pos W,<-zC]
 show E6 w x ((f.take k).getD i []);rw[J];exact V
theorem CI(wb:Nat)(x:K9)(lv:Value)(f:List (List Bool))(w:World)(h:Bj w wb x)(ho:Cj x)(hL:W5 w lv f)(X:∀l∈f,l.length=x.aF.length)(hm:f.length<=100001)(aa:0<x.aF.length)(af:0<f.length):
  Calls Tryz.prog 108 #[.pointer (some ⟨wb,0,none⟩),lv] w fun e w'=>e=.returned (XM (I8 x f))/\Bw w w':=by
 obtain⟨ld,U,rfl,a3⟩:=hL.eC rfl;rcases a3 with h9|⟨lg,rfl⟩
 ·omega
 obtain⟨a2,a9⟩:=Kw x f f.length;have G:=a9 aa;have a5:=Hd (fun(W:World) (Y:Bw w W)=>PF wb x _ f W (h.aA Y) ho (hL.aA Y) X hm);generalize a7:Na x f f.length=FF at a5 a2 G;obtain⟨K,J⟩:=FF;simp only at a2 G;have a4:=Hd (fun(W:World) (Y:Bw w W)=>Pq wb x K W (h.aA Y) ho G);have a6:=Hd (fun(W:World) (Y:Bw w W)=>NE wb x K _ (f.take J) W (h.aA Y) ho ((hL.aA Y).take J a2) (fun l hl=>X l (List.mem_of_mem_take hl)) (by simp;omega) G);have ab:=IF ho K;have M:=KA ho (f.take J) K G;have hX:I8 x f=⟨true,J,(K3 x K).1,(K3 x K).1++(P6 x (f.take J) K).2,N1,N1,N1⟩:=by unfold I8;rw[a7]
 rw[hX];have a8:f.length<=U:=by
  obtain⟨vs,g1,_⟩:=hL;obtain⟨_,ae,ac,e9,⟨h1,h2⟩|⟨g9,ad,h1,h2,h3,_⟩⟩:=P0 g1
  ·omega
  ·injection e9 with e1 e2 e3
   omega
 have f0:(0:Int)<=(J:Int):=by omega
 have f1:(J:Int)<=(U:Int):=by omega
 generalize K3 x K=AP at a4 ab;generalize P6 x (f.take J) K=WW at a6 M;obtain⟨bC,ar⟩:=AP;obtain⟨wv,wt⟩:=WW;simp only at ab M;have ag:wt.size<=100001:=by have:=M.2.1;simp at this;omega
 have u1:∀W:World,(Op.stringOp .add bC wt).run Tryz.prog W=.ok (.string (bC++wt)) W:=fun W=>run_string_add_sum W _ _ (by omega)
 clear h ho hL X a7 hX M a9 a8;go_enter Tryz.func108,Tryz.ntmps108;go_wp2_with fail;refine(a5.out _ (N0 _ _)).mono ?_;rintro e w1 ⟨rfl,Z⟩;have B:Hid (Bw w w1/\Blk w1 w.heap.size Gy 113):=⟨(N0 _ _).trans (Z.mono (by simp)),(Blk.aR _ _ _).aA Z⟩;clear Z;go_wp2_with fail;refine(a4.out _ B.out.1).mono ?_;rintro e w2 ⟨rfl,a0⟩;have D:Hid (Bw w w2/\Blk w2 w.heap.size Gy 113):=⟨B.out.1.trans (a0.mono B.out.1.size),B.out.2.aA a0⟩;clear a0 B;go_wp2_with fail;refine(a6.out _ D.out.1).mono ?_;rintro e w3 ⟨vv,rfl,hV,a1⟩;have V:Hid (Bw w w3/\Blk w3 w.heap.size Gy 113):=⟨D.out.1.trans (a1.mono D.out.1.size),D.out.2.aA a1⟩;clear a1 D hV;go_wp2_with(first|refine Ym (x:=⟨true,J,bC,bC++wt,N1,N1,N1⟩) rfl (.tmp 4) (.tmp 37) rfl w.heap.size rfl rfl V.out.2 rfl ?_);exact bodyPost_ret (results_cell_row Tryz.results108 _ _ w.heap.size 113 (ES ⟨true,J,bC,bC++wt,N1,N1,N1⟩) (0,0) _ rfl (V.out.2.setRow _) Tryz.underlying113 rfl Tryz.dC) rfl ⟨rfl,I2 V.out.1 (zD _) _⟩
theorem LI(wb:Nat)(x:K9)(s:Nat)(lv:Value)(D:List (List Bool))(w:World)(h:Bj w wb x)(ho:Cj x)(hL:W5 w lv D)(a1:∀l∈D,l.length=x.aF.length)(hm:D.length<=100001)(hs:s<x.aF.length):
  Calls Tryz.prog 107 #[.pointer (some ⟨wb,0,none⟩),.int .i64 s,lv] w fun e w'=>e=.returned (XM (G9 x D s))/\Bw w w':=by
 have a0:=Hd (fun(W:World) (hb:Bw w W)=>NE wb x s lv D W (h.aA hb) ho (hL.aA hb) a1 hm hs);obtain⟨ld,a6,rfl,a5⟩:=hL.eC rfl;obtain⟨z1,z2,z3⟩:=KA ho D s hs;have hX:G9 x D s=⟨false,0,(K3 x ((P6 x D s).1.getD (B5 (P6 x D s).1).1 0)).1,N1,(K3 x ((P6 x D s).1.getD (B5 (P6 x D s).1).1 0)).2,
  (P6 x D s).2.extract (B5 (P6 x D s).1).1 (B5 (P6 x D s).1).2,(P6 x D s).2.extract (B5 (P6 x D s).1).2 (P6 x D s).2.size⟩:=rfl
 rw[hX];clear hX;generalize P6 x D s=WW at a0 z1 z2 z3;obtain⟨B,t⟩:=WW;simp only at z1 z2 z3;obtain⟨r1,r2⟩:=OO B (by omega);have Z:=Hd (fun(v:Value) (W:World) (hv:Q2 W v (Dc B))=>PO B v W hv (by omega));simp only;generalize B5 B=RR at Z r1 r2;obtain⟨f,q⟩:=RR;simp only at r1 r2;have a2:B.getD f 0<x.aF.length:=z3 _ (by rw[zC,zF (by omega)];exact zG _);have M:=Hd (fun(W:World) (hb:Bw w W)=>Pq wb x (B.getD f 0) W (h.aA hb) ho a2);simp only;generalize a3:B.getD f 0=vf at M;generalize K3 x vf=AP at M;obtain⟨bC,ar⟩:=AP;simp only;have a4:=Hd a3;have g0:(0:Int)<=(f:Int):=by omega
 have g1:(f:Int)<(B.length:Int):=by omega
 have g2:(f:Int)<=(q:Int):=by omega
 have g3:(q:Int)<=(t.size:Int):=by omega
 have g4:(0:Int)<=(q:Int):=by omega
 have g5:f<=q:=r1;have g6:q<=t.size:=by omega
 have a9:B.length<=100002:=by omega
 have HZ:=Hd z1;clear h ho hL a1 a3 z1 z3 a2;go_enter Tryz.func107,Tryz.ntmps107;go_wp2_with fail;refine(a0.out _ (N0 _ _)).mono ?_;rintro e w1 ⟨vv,rfl,hV,V⟩;have J:Hid (Bw w w1/\Blk w1 w.heap.size Gy 113/\Q2 w1 vv (Dc B)):=⟨(N0 _ _).trans (V.mono (by simp)),(Blk.aR _ _ _).aA V,hV⟩;clear V hV;go_wp2_with fail;refine(Z.out vv w1 J.out.2.2).mono ?_;rintro e w2 ⟨rfl,K⟩;have G:Hid (Bw w w2/\Blk w2 w.heap.size Gy 113/\Q2 w2 vv (Dc B)):=⟨J.out.1.trans (K.mono J.out.1.size),J.out.2.1.aA K,J.out.2.2.aA K⟩;clear K J;obtain⟨vd,a7,rfl,Y⟩:=G.out.2.2.gZ;rcases Y with h9|⟨vg,rfl⟩
 ·omega
 have c0:=G.out.2.2.cellN f (by omega);rw[a4.out]at c0;go_wp2_with fail;refine(M.out _ G.out.1).mono ?_;rintro e w3 ⟨rfl,X⟩;have U:Hid (Bw w w3/\Blk w3 w.heap.size Gy 113):=⟨G.out.1.trans (X.mono G.out.1.size),G.out.2.1.aA X⟩;clear X G c0;go_wp2_with fail;refine Oz 10 Tryz.iL (by kernel_rfl) ?_;intro a8;simp only[List.take_succ_cons,List.take_zero,List.drop_succ_cons,xG]
 repeat still_step
 refine wpStill_nil ?_;refine Ym (x:=⟨false,0,bC,N1,ar,t.extract f q,t.extract q t.size⟩) rfl (.tmp 6) (.tmp 43) rfl w.heap.size rfl rfl (Blk.drew U.out.2) rfl ?_;go_wp2_with fail;exact bodyPost_ret (results_cell_row Tryz.results107 _ _ w.heap.size 113 (ES ⟨false,0,bC,N1,ar,t.extract f q,t.extract q t.size⟩) (0,0) _ rfl ((Blk.drew U.out.2).setRow _) Tryz.underlying113 rfl Tryz.dC) rfl ⟨rfl,I2 (PE U.out.1) (zD _) _⟩
theorem VL(kd:Nat->Nat)(g:B0)(W:Da kd g)(Y:g.aB.length<=50000):Cj (J0 kd g):=by
 have X:∀(s n b:Nat) (seen:List Bool) (f:List A7),b<=256->f.length<=b->(∀t∈f,t.q<g.aB.length/\t.b<256)->(G7 kd g s n b seen f).length<=256/\∀t∈G7 kd g s n b seen f,t.q<g.aB.length/\t.b<256:=by
  intro s n
  induction n with
  |zero=>intro b seen f h K B;exact⟨by show f.length<=256;omega,B⟩
  |succ n ih=>
   intro b seen f h K B;unfold G7
   by_cases M:b<256
   ·rw[if_pos M]
    by_cases U:X0 kd g (s:Int) (b:Int)= -1\/seen.getD (X0 kd g (s:Int) (b:Int)).toNat false=true
    ·rw[if_pos U];exact ih (b+1) seen f (by omega) (by omega) B
    ·rw[if_neg U];refine ih (b+1) _ _ (by omega) (by simp;omega) (fun t J=>?_);simp only[zQ,zJ]at J;rcases J with e|e
     ·exact B t e
     ·rcases W (s:Int) (b:Int)with V|V
      ·exact absurd (.inl V) U
      ·rw[e];exact⟨by show(X0 kd g (s:Int) (b:Int)).toNat<_;omega,M⟩
   ·rw[if_neg M];exact⟨by omega,B⟩
 have G:∀l∈(J0 kd g).aZ,l.length<=256/\∀t∈l,t.q<g.aB.length/\t.b<256:=by
  intro l D;simp only[J0,U5,List.mem_map]at D;obtain⟨s,_,rfl⟩:=D;exact X s 257 0 _ [] (by omega) (by simp) (fun t J=>by simp at J)
 refine⟨by simp[J0,Z9,G6],fun l h t K=>?_,fun l h=>(G l h).1,by simp[J0,G6];omega⟩;have:=(G l h).2 t K;simpa[J0,G6]using this
theorem CG(x:K9)(n:Nat):(L1 x (n+1)).take n=L1 x n:=by
 rw[BG,List.take_append_of_le_length (by rw[E3];exact zD _),zO (by rw[E3];exact zD _)]
theorem Dr(x:K9)(n:Nat):∀l∈L1 x n,l.length=x.aF.length:=by
 intro l f;simp only[L1,List.mem_map]at f;obtain⟨d,_,rfl⟩:=f;exact Uf x d
def V1(kd:Nat->Nat)(g:B0):ER:=
 match(List.range g.aB.length).find? (fun s=>(J3 (J0 kd g) g.aB.length).getD s false)with
 |some s=>G9 (J0 kd g) (L1 (J0 kd g) g.aB.length) s
 |none=>I8 (J0 kd g) (L1 (J0 kd g) g.aB.length)
theorem Em(pb:Nat)(kd:Nat->Nat)(g:B0)(w:World)(h:W7 w pb kd g)(ho:N7 kd g)(hi:Da kd g)(hl:g.aB.length<=50000)(ak:0<g.aB.length):
  Calls Tryz.prog 74 #[.pointer (some ⟨pb,0,none⟩)] w fun e w'=>e=.returned (XM (V1 kd g))/\Bw w w':=by
 have hW:=VL kd g hi hl;have ac:=Hd (fun(W:World) (hb:Bw w W)=>DV pb kd g W (h.aA hb) ho hi hl);have a8:(J0 kd g).aF.length=g.aB.length:=by simp[J0,G6]
 have Y:V1 kd g=match(List.range g.aB.length).find? (fun s=>(J3 (J0 kd g) g.aB.length).getD s false)with
  |some s=>G9 (J0 kd g) (L1 (J0 kd g) g.aB.length) s
  |none=>I8 (J0 kd g) (L1 (J0 kd g) g.aB.length):=rfl
 generalize V1 kd g=X at Y;generalize J0 kd g=x at ac hW a8 Y;have HX:=Hd Y;have HW:=Hd hW;have U:=Hd a8;clear h ho hi Y hW a8;go_enter Tryz.func74,Tryz.ntmps74;go_wp2_with fail;refine(ac.out _ (N0 _ _)).mono ?_;rintro e w1 ⟨wb,rfl,a0,a5⟩;obtain⟨tv,sv,hB,hT,hS⟩:=a0.ex;obtain⟨td,af,rfl,_⟩:=hT.aV;have c0:w1.cell? ⟨wb,0,none⟩=some (.slice td x.aF.length af):=hB.cell 0;have ah:=U.out;have a9:=Hd (FN wb x x.aF.length w1 a0 HW.out (by omega));have K:Hid (Bw w w1/\Blk w1 w.heap.size Gy 113/\Bj w1 wb x):=⟨(N0 _ _).trans (a5.mono (by simp)),(Blk.aR _ _ _).aA a5,a0⟩;have ao:x.aF.length<=50000:=by omega
 have ae:0<x.aF.length:=by omega
 clear hB hT hS a0 a5 ah;go_wp2_with fail;refine a9.out.mono ?_;rintro e w2 ⟨lv,rfl,hL,hO,a1⟩;obtain⟨ld,J,rfl,a6⟩:=hL.eC (E3 x (x.aF.length+1));rcases a6 with h9|⟨lg,rfl⟩
 ·omega
 have f:Hid (Bw w w2/\Blk w2 w.heap.size Gy 113/\Bj w2 wb x/\W5 w2 (.slice (some ⟨lg,0,none⟩) (x.aF.length+1) J) (L1 x (x.aF.length+1))):=⟨K.out.1.trans (a1.mono K.out.1.size),K.out.2.1.aA a1,K.out.2.2.aA a1,hL⟩;have a3:W5 w2 (.slice (some ⟨lg,0,none⟩) (L1 x (x.aF.length+1)).length J) (L1 x (x.aF.length+1)):=by rw[E3];exact hL
 obtain⟨rv,r0,hR⟩:=N8.cell a3 x.aF.length (by rw[E3];omega);have Z:E6 w2 rv (J3 x x.aF.length):=by have h9:=hR;simp only[T8 x (x.aF.length+1) x.aF.length (by omega)]at h9;exact h9
 obtain⟨rd,am,rfl,V⟩:=Z.aV;rw[Uf]at Z r0 V;have a4:=a3.take x.aF.length (by rw[E3];omega);rw[CG]at a4;have aa:=Hd a4;have HR:=Hd Z;have ad:x.aF.length+1<=J:=by
  obtain⟨vs,g1,_⟩:=hL;obtain⟨_,an,ai,e9,⟨h1,h2⟩|⟨g9,aj,h1,h2,h3,_⟩⟩:=P0 g1
  ·rw[E3]at h2;omega
  ·rw[E3]at h3
   injection e9 with e1 e2 e3
   omega
 have m0:(0:Int)<=(x.aF.length:Int):=by omega
 have m1:(x.aF.length:Int)<((x.aF.length+1:Nat):Int):=by omega
 have m2:(x.aF.length:Int)<=(J:Int):=by omega
 clear hL hO a1 a3 hR Z a4 ad K a9 c0;go_wp2_with fail
 go_loopg[23] x.aF.length (fun G iv wr=>∃i:Nat,iv=.int .i64 i/\i<=x.aF.length/\G=x.aF.length-i/\wr=w2/\∀j,j<i->(J3 x x.aF.length).getD j false=false)
 case atStart=>exact⟨0,rfl,by omega,rfl,rfl,fun j hj=>by omega⟩
 case round=>
  obtain⟨i,rfl,hi,rfl,rfl,a2⟩:=hrel
  by_cases a7:i<x.aF.length
  ·have e0:decide ((i:Int)<(x.aF.length:Int))=true:=by simp;omega
   rcases V with h9|⟨rg,rfl⟩
   ·omega
   have b0:=HR.out.cellD i (by rw[Uf];exact a7);have i0:(0:Int)<=(i:Int):=by omega
   have i1:(i:Int)<(x.aF.length:Int):=by omega
   have ab:=Hd a2;clear a2;cases hbi:(J3 x x.aF.length).getD i false with
   |true=>
    rw[hbi]at b0;have Y:X=G9 x (L1 x x.aF.length) i:=by
     have h9:(List.range g.aB.length).find? (fun s=>(J3 x g.aB.length).getD s false)=some i:=by
      rw[<-U.out,List.find?_range_eq_some];exact⟨hbi,by simpa using a7,fun j hj=>by rw[ab.out j hj];rfl⟩
     have h8:=HX.out;rw[h9]at h8;rw[U.out];exact h8
    have M:=Hd (LI wb x i _ (L1 x x.aF.length) wr f.out.2.2.1 HW.out aa.out (Dr x _) (by rw[E3];omega) a7);rw[<-Y]at M;clear Y hbi;go_wp2_with fail;refine M.out.mono ?_;rintro e w3 ⟨rfl,D⟩;have B:Hid (Bw w w3/\Blk w3 w.heap.size Gy 113):=⟨f.out.1.trans (D.mono f.out.1.size),f.out.2.1.aA D⟩;clear D;go_wp2_with(first|refine Ym (x:=X) rfl (.tmp 2) (.tmp 34) rfl w.heap.size rfl rfl B.out.2 rfl ?_);exact bodyPost_ret (results_cell_row Tryz.results74 _ _ w.heap.size 113 (ES X) (0,0) _ rfl (B.out.2.setRow _) Tryz.underlying113 rfl Tryz.dC) rfl ⟨rfl,I2 B.out.1 (zD _) _⟩
   |false=>
    rw[hbi]at b0;have ag:=Hd hbi;clear hbi;go_wp2_with fail
    go_roundg (x.aF.length- (i+1))
    case measure=>omega
    case rel=>
     refine⟨i+1,by go_num,by omega,rfl,rfl,fun j hj=>?_⟩
     by_cases e:j<i
     ·exact ab.out j e
     ·rw[show j=i by omega];exact ag.out
  ·have e0:decide ((i:Int)<(x.aF.length:Int))=false:=by simp;omega
   obtain rfl:i=x.aF.length:=by omega
   have Y:X=I8 x (L1 x x.aF.length):=by
    have h9:(List.range g.aB.length).find? (fun s=>(J3 x g.aB.length).getD s false)=none:=by
     rw[<-U.out,List.find?_range_eq_none];intro j hj;rw[a2 j hj];rfl
    have h8:=HX.out;rw[h9]at h8;rw[U.out];exact h8
   have M:=Hd (CI wb x _ (L1 x x.aF.length) wr f.out.2.2.1 HW.out aa.out (Dr x _) (by rw[E3];omega) ae (by rw[E3];exact ae));rw[<-Y]at M;clear Y a2;go_wp2_with fail;refine M.out.mono ?_;rintro e w3 ⟨rfl,D⟩;have B:Hid (Bw w w3/\Blk w3 w.heap.size Gy 113):=⟨f.out.1.trans (D.mono f.out.1.size),f.out.2.1.aA D⟩;clear D;go_wp2_with(first|refine Ym (x:=X) rfl (.tmp 2) (.tmp 40) rfl w.heap.size rfl rfl B.out.2 rfl ?_);exact bodyPost_ret (results_cell_row Tryz.results74 _ _ w.heap.size 113 (ES X) (0,0) _ rfl (B.out.2.setRow _) Tryz.underlying113 rfl Tryz.dC) rfl ⟨rfl,I2 B.out.1 (zD _) _⟩
end Go.Proofs.YtcckhngbdoiikabGreat
