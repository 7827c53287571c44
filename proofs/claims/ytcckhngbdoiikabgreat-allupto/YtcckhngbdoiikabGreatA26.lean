import Derived.Test.YtcckhngbdoiikabGreatA25
import Derived.IntWalk
set_option maxRecDepth 20000
set_option maxHeartbeats 12800000
set_option linter.unusedVariables false
namespace Go.Proofs.YtcckhngbdoiikabGreat
open Go.RowKit Go.Deep
def Ve(n:Nat):Array Value:=(List.replicate n (Value.slice none 0 0)).toArray
theorem TN(n:Nat):madeCells #[.slice none 0 0] n=Ve n:=by
 apply Array.toList_inj.1;rw[toList_madeCells_one];simp[Ve]
theorem Tryz.eO:(Tryz.prog.info? 143).map (fun i=>(i.zero,i.size,i.bytes))=some (some (.slice none 0 0),1,24):=by kernel_rfl
theorem Tryz.iC:(Tryz.prog.info? 144).map (fun i=>(i.zero,i.size,i.bytes))=some (some (.slice none 0 0),1,24):=by kernel_rfl
theorem AD(n:Nat)(f:n<=100000)(w:World):(Instr.makeSlice 144 (.int .i64 n) (.int .i64 n)).run Tryz.prog w=.ok (.slice (some ⟨w.heap.size,0,none⟩) n n) (w.alloc (.cells (Ve n) 143)):=by
 rw[run_make_row' (P:=Tryz.prog) 144 143 (.slice none 0 0) 24 Tryz.underlying144 Tryz.eO rfl .i64 .i64 n (by omega) (by omega) w,TN]
structure Bq(w:World)(h:Nat)(ety:TypeId)(cell:Array Value)(cty:TypeId)(N:Nat)(kv:Value)(R:Nat->Nat)(i:Nat):Prop where
 row:∃vs:List Value,w.ownsRow 0 ety 1 kv i vs/\vs.length=i/\∀j,j<i->vs[j]?=some (.slice (some ⟨R j,0,none⟩) N N)
 aX:∀j,j<i->Blk w (R j) cell cty/\h<R j
 inj:∀j k,j<i->k<i->R j=R k->j=k
 own:∀b,kv.ownBlock=some b->h<b/\b<w.heap.size
theorem Bq.kR{w w':World}{h:Nat}{D:TypeId}{f:Array Value}{B:TypeId}{N:Nat}{J:Value}{R:Nat->Nat}{i:Nat}(m:Bq w h D f B N J R i){ex:Nat->Prop}(k:C0 ex w w')(M:∀j,j<i->¬ex (R j))(U:∀b,J.ownBlock=some b->¬ex b):Bq w' h D f B N J R i:=by
 obtain⟨Y,V,W,X⟩:=m.row;exact⟨⟨Y,K0 V k U,W,X⟩,fun j G=>⟨(m.aX j G).1.kept k (M j G),(m.aX j G).2⟩,m.inj,fun b K=>⟨(m.own b K).1,yG (m.own b K).2 k.size⟩⟩
def Hw(R:Nat->Nat)(i b:Nat):Nat->Nat:=fun j=>if j=i then b else R j
theorem Bq.grow{w U:World}{h fld:Nat}{G:TypeId}{f:Array Value}{D:TypeId}{N J B:Nat}{kv:Value}{R:Nat->Nat}{i:Nat}{vs:List Value}(m:Bq w h G f D N kv R i)(W:D≠G)(X:vs.length=i)(a1:∀j,j<i->vs[j]?=some (.slice (some ⟨R j,0,none⟩) N N))(hh:h<w.heap.size)
  (g1:U.ownsRow 0 G 1 (.slice (some ⟨J,0,none⟩) (i+1) B) (i+1) (vs++ [.slice (some ⟨w.heap.size,0,none⟩) N N]))
  (Z:C0 (fun b=>kv.ownBlock=some b) ((w.alloc (.cells f D)).alloc (.cells #[.slice (some ⟨w.heap.size,0,none⟩) N N] G)).drew U) (g3:kv.ownBlock=some J\/J=w.heap.size+1+1):
  Bq (U.setCell ⟨h,fld,none⟩ (.slice (some ⟨J,0,none⟩) (i+1) B)) h G f D N (.slice (some ⟨J,0,none⟩) (i+1) B) (Hw R i w.heap.size) (i+1)/\C0 (fun b=>kv.ownBlock=some b\/b=h) w (U.setCell ⟨h,fld,none⟩ (.slice (some ⟨J,0,none⟩) (i+1) B)):=by
 have k1:C0 (fun _=>False) w ((w.alloc (.cells f D)).alloc (.cells #[.slice (some ⟨w.heap.size,0,none⟩) N N] G)).drew:=(((C0.refl _ _).alloc _).alloc _).drew;have k9:C0 (fun b=>b=h) U (U.setCell ⟨h,fld,none⟩ (.slice (some ⟨J,0,none⟩) (i+1) B)):=C0.setCell (ex:=fun b=>b=h) (p:=⟨h,fld,none⟩) (C0.refl _ _) (fun _=>rfl) _;have a0:h<J:=by rcases g3 with e|e;exact(m.own J e).1;omega
 obtain⟨a3,v1,v2,v3⟩:=m.row;have K:=K0 v1 k1 (fun _ _ e=>e);have a2:=Z.size;refine⟨⟨⟨vs++ [.slice (some ⟨w.heap.size,0,none⟩) N N],K0 g1 k9 (fun b hb e=>by cases(zE hb:J=b);omega),by simp[X],fun j hj=>?_⟩,fun j hj=>?_,fun j k hj hk V=>?_,fun b hb=>?_⟩,?_⟩
 ·unfold Hw
  by_cases e:j<i
  ·rw[if_neg (by omega),zR (by omega)];exact a1 j e
  ·have:j=i:=by omega
   subst this;rw[if_pos rfl,zY (by omega),X];simp
 ·unfold Hw
  by_cases e:j<i
  ·rw[if_neg (by omega)];obtain⟨Y,r2⟩:=m.aX j e;exact⟨((Y.kept k1 (fun e=>e)).kept Z (fun e=>L0 K (Y.kept k1 (fun e=>e)) W e)).kept k9 (by omega),r2⟩
  ·rw[if_pos (by omega)];have Y:Blk ((w.alloc (.cells f D)).alloc (.cells #[.slice (some ⟨w.heap.size,0,none⟩) N N] G)).drew w.heap.size f D:=((Blk.aR w _ _).alloc _);exact⟨(Y.kept Z (fun e=>L0 K Y W e)).kept k9 (by omega),hh⟩
 ·unfold Hw at V;have M:∀j,j<i->R j<w.heap.size:=fun j hj=>(m.aX j hj).1.lt
  by_cases e1:j=i <;>by_cases e2:k=i
  ·omega
  ·have:=M k (by omega);simp only[if_pos e1,if_neg e2]at V;omega
  ·have:=M j (by omega);simp only[if_neg e1,if_pos e2]at V;omega
  ·simp only[if_neg e1,if_neg e2]at V;exact m.inj j k (by omega) (by omega) V
 ·cases(zE hb:J=b);have:=Q1 g1 J rfl;exact⟨a0,by simpa using this⟩
 ·exact((k1.bK (fun _ _ e=>e.elim)).trans Z (fun _ _ e=>.inl e)).trans k9 (fun _ _ e=>.inr e)
theorem AC(s:ByteArray)(aH:Nat)(w:World)(hs:s.size<=20000)(hp:aH<=100000):
  Calls Tryz.prog 99 #[.string s,.int .i64 aH] w fun e w'=>∃kv uv R U,e=.returned (.pointer (some ⟨w.heap.size,0,none⟩))/\Bw w w'/\Blk w' w.heap.size #[.string s,kv,uv] 206/\
   Bq w' w.heap.size 144 (Ve (s.size+1)) 143 (s.size+1) kv R aH/\Bq w' w.heap.size 143 (Z0 (List.replicate (s.size+1) false)) 4 (s.size+1) uv U aH/\∀j,j<aH->uv.ownBlock≠some (R j):=by
 obtain⟨N,hN⟩:∃N,N=s.size+1:=⟨_,rfl⟩;have b5:(s.size:Int)+1=(N:Int):=by omega
 have b6:N<=20001:=by omega
 have b9:=AD N (by omega);have b8:=A8 N (by omega);rw[<-hN];clear hN;obtain⟨ii,aw,b1,b2,b3⟩:=info_parts Tryz.iC;obtain⟨ij,ax,ay,az,b0⟩:=info_parts Tryz.eO;go_enter Tryz.func99,Tryz.ntmps99;go_wp2_with fail
 go_loopg[6] aH (fun G iv wr=>∃(i:Nat) (kv uv:Value) (R U:Nat->Nat),iv=.int .i64 i/\i<=aH/\G=aH-i/\Bw w wr/\Blk wr w.heap.size #[.string s,kv,uv] 206/\
   Bq wr w.heap.size 144 (Ve N) 143 N kv R i/\Bq wr w.heap.size 143 (Z0 (List.replicate N false)) 4 N uv U i/\∀j,j<i->uv.ownBlock≠some (R j))
 case atStart=>
  exact⟨0,.slice none 0 0,.slice none 0 0,fun _=>0,fun _=>0,rfl,by omega,rfl,N0 _ _,Blk.aR _ _ _,⟨⟨[],World.ownsRow_nil _ _ _ _,rfl,fun j Y=>by omega⟩,fun j Y=>by omega,fun j k Y=>by omega,fun b h=>by simp[Value.ownBlock]at h⟩,⟨⟨[],World.ownsRow_nil _ _ _ _,rfl,fun j Y=>by omega⟩,fun j Y=>by omega,fun j k Y=>by omega,fun b h=>by simp[Value.ownBlock]at h⟩,fun j Y=>by omega⟩
 case round=>
  obtain⟨i,kv,uv,R,U,rfl,hi,rfl,W,Z,hK,hU,K⟩:=hrel
  by_cases b7:i<aH
  ·have e0:decide ((i:Int)<(aH:Int))=true:=by simp;omega
   obtain⟨vs,J,aa,ab⟩:=hK.row;obtain⟨_,a8,M,rfl,_⟩:=P0 J;have k2:wr.cell? ⟨w.heap.size,1,none⟩=some (.slice a8 i M):=Z.cell 1;have kf:=Z.frozen 1;have zW:=Z.lt;have a6:C0 (fun _=>False) wr ((wr.alloc (.cells (Ve N) 143)).alloc (.cells #[.slice (some ⟨wr.heap.size,0,none⟩) N N] 144)).drew:=(((C0.refl _ _).alloc _).alloc _).drew;have ai:=Hd (K0 J a6 (fun _ _ e=>e));have B:some w.heap.size≠(Value.slice a8 i M).ownBlock:=fun e=>by have:=(hK.own _ e.symm).1;omega
   have a0:=Z.kept a6 (fun e=>e);have ac:Hid (((wr.alloc (.cells (Ve N) 143)).alloc (.cells #[.slice (some ⟨wr.heap.size,0,none⟩) N N] 144)).drew.cell? ⟨w.heap.size,1,none⟩=some (.slice a8 i M)):=Hd (a0.cell 1);have ae:=Hd (a0.frozen 1);have a9:((wr.alloc (.cells (Ve N) 143)).alloc (.cells #[.slice (some ⟨wr.heap.size,0,none⟩) N N] 144)).drew.heap[wr.heap.size+1]?=some (.cells #[.slice (some ⟨wr.heap.size,0,none⟩) N N] 144 (0,0)):=by
    have h9:=heap_alloc_new (wr.alloc (.cells (Ve N) 143)) (.cells #[.slice (some ⟨wr.heap.size,0,none⟩) N N] 144);have e9:(wr.alloc (.cells (Ve N) 143)).heap.size=wr.heap.size+1:=by simp
    rw[e9]at h9;exact h9
   have ah:=Hd a9;have a7:Hid (w.heap.size<((wr.alloc (.cells (Ve N) 143)).alloc (.cells #[.slice (some ⟨wr.heap.size,0,none⟩) N N] 144)).drew.heap.size):=Hd (by simp;omega);have af:Hid (i+1<=maxLen):=Hd (by unfold maxLen;omega);have ag:Hid ((i+1)*24<=140737488355328):=Hd (by omega);have HH:=Hd7 W Z hK hU K aa ab;have b4:w.heap.size<wr.heap.size+1:=by omega
   clear W Z hK hU K J aa ab a6 a0 a9;have aj:IntKind.i64.wrap (N:Int)=(N:Int):=(Go.IntWalk.i64_left _).trans (by unfold wrap64;omega);go_upto_region 5 with fail
   go_cut[] (fun wx=>∃(kv:Value) (R:Nat->Nat),Bw w wx/\Blk wx w.heap.size #[.string s,kv,uv] 206/\Bq wx w.heap.size 144 (Ve N) 143 N kv R (i+1)/\Bq wx w.heap.size 143 (Z0 (List.replicate N false)) 4 N uv U i/\∀j,j<i+1->uv.ownBlock≠some (R j))
   case first=>
    go_region_law ((refine step_append_lies _ (by rfl) _ _ _ (by rfl) 0 144 ii _ 1 24 Tryz.underlying204 aw b1 b2 b3 rfl (Nat.one_pos) (.slice a8 i M) i vs (by rfl) ai.out ⟨wr.heap.size+1,0,none⟩ 1 1 [.slice (some ⟨wr.heap.size,0,none⟩) N N] (by rfl) (by rfl) (World.news_of_block (cs:=#[.slice (some ⟨wr.heap.size,0,none⟩) N N]) (t:=144) (fr:=(0,0)) ah.out) (by simp[Value.oneCell']) (Nat.one_pos) af.out ag.out (yC _) (wr.heap.size+1+1) (by simp) ?_;intro gg ap w6 D f X aq;have au:=(f.cell_far ⟨w.heap.size,1,none⟩ a7.out B).trans ac.out;have av:=(f.frozen_far ⟨w.heap.size,1,none⟩ a7.out B).trans ae.out))
    all_goals
     have ak:=Hd3 D (D8 (O:=fun b=>(Value.slice a8 i M).ownBlock=some b) f (fun k e=>e)) X;clear D f X aj;go_wp2_with fail;go_meet;obtain⟨g1,g2,g3⟩:=ak.out;obtain⟨q1,q2,q3,q4,q5,q6,q7⟩:=HH.out;obtain⟨m1,m2⟩:=q3.grow (fld:=1) (by decide) q6 q7 zW g1 g2 g3;have am:=q3.own;refine⟨_,_,?_,?_,m1,q4.kR m2 (fun j Y e=>?_) (fun b W e=>?_),fun j Y e=>?_⟩
     ·exact C3 q1 m2 (by omega) (fun x hx e=>by rcases e with e|e;have:=(am x e).1;omega;omega)
     ·have h9:Blk w6 w.heap.size #[.string s,.slice a8 i M,uv] 206:=(q2.kept (ex:=fun _=>False) (((C0.refl _ _).alloc _).alloc _).drew (fun e=>e)).kept g2 (fun e=>B e.symm);exact h9.set 1 _
     ·rcases e with e|e
      ·obtain⟨_,v1,_⟩:=q3.row;exact L0 v1 (q4.aX j Y).1 (by decide) e
      ·have:=(q4.aX j Y).2;omega
     ·rcases e with e|e
      ·obtain⟨_,v1,_⟩:=q3.row;obtain⟨_,u1,_⟩:=q4.row;obtain⟨_,ad,ao,e',⟨h1,_⟩|⟨g,cur,h1,h2,_⟩⟩:=P0 u1
       ·rw[e',h1]at W;cases W
       ·rw[e',h1]at W;cases(zE W:g=b);exact L0 v1 h2 (by decide) e
      ·have:=(q4.own b W).1;omega
     ·unfold Hw at e
      by_cases ej:j=i
      ·rw[if_pos ej]at e;have:=(q4.own _ e).2;omega
      ·rw[if_neg ej]at e;exact q5 j (by omega) e
   case rest=>
    obtain⟨ar,R2,W,Z,hK,hU,K⟩:=hcut;clear ai ac ae ah a7 af ag HH k2 kf B aj;obtain⟨us,J,aa,ab⟩:=hU.row;obtain⟨_,ud,V,rfl,_⟩:=P0 J;have k2:wc.cell? ⟨w.heap.size,2,none⟩=some (.slice ud i V):=Z.cell 2;have kf:=Z.frozen 2;have zW:=Z.lt;have a6:C0 (fun _=>False) wc ((wc.alloc (.cells (Z0 (List.replicate N false)) 4)).alloc (.cells #[.slice (some ⟨wc.heap.size,0,none⟩) N N] 143)).drew:=(((C0.refl _ _).alloc _).alloc _).drew;have ai:=Hd (K0 J a6 (fun _ _ e=>e));have B:some w.heap.size≠(Value.slice ud i V).ownBlock:=fun e=>by have:=(hU.own _ e.symm).1;omega
    have a0:=Z.kept a6 (fun e=>e);have ac:Hid (((wc.alloc (.cells (Z0 (List.replicate N false)) 4)).alloc (.cells #[.slice (some ⟨wc.heap.size,0,none⟩) N N] 143)).drew.cell? ⟨w.heap.size,2,none⟩=some (.slice ud i V)):=Hd (a0.cell 2);have ae:=Hd (a0.frozen 2);have a9:((wc.alloc (.cells (Z0 (List.replicate N false)) 4)).alloc (.cells #[.slice (some ⟨wc.heap.size,0,none⟩) N N] 143)).drew.heap[wc.heap.size+1]?=some (.cells #[.slice (some ⟨wc.heap.size,0,none⟩) N N] 143 (0,0)):=by
     have h9:=heap_alloc_new (wc.alloc (.cells (Z0 (List.replicate N false)) 4)) (.cells #[.slice (some ⟨wc.heap.size,0,none⟩) N N] 143);have e9:(wc.alloc (.cells (Z0 (List.replicate N false)) 4)).heap.size=wc.heap.size+1:=by simp
     rw[e9]at h9;exact h9
    have ah:=Hd a9;have a7:Hid (w.heap.size<((wc.alloc (.cells (Z0 (List.replicate N false)) 4)).alloc (.cells #[.slice (some ⟨wc.heap.size,0,none⟩) N N] 143)).drew.heap.size):=Hd (by simp;omega);have af:Hid (i+1<=maxLen):=Hd (by unfold maxLen;omega);have ag:Hid ((i+1)*24<=140737488355328):=Hd (by omega);have HH:=Hd7 W Z hK hU K aa ab;have b4:w.heap.size<wc.heap.size+1:=by omega
    clear W Z hK hU K J aa ab a6 a0 a9;have aj:IntKind.i64.wrap (N:Int)=(N:Int):=(Go.IntWalk.i64_left _).trans (by unfold wrap64;omega);go_upto_region 6 with fail
    go_region_law ((refine step_append_lies _ (by rfl) _ _ _ (by rfl) 0 143 ij _ 1 24 Tryz.underlying144 ax ay az b0 rfl (Nat.one_pos) (.slice ud i V) i us (by rfl) ai.out ⟨wc.heap.size+1,0,none⟩ 1 1 [.slice (some ⟨wc.heap.size,0,none⟩) N N] (by rfl) (by rfl) (World.news_of_block (cs:=#[.slice (some ⟨wc.heap.size,0,none⟩) N N]) (t:=143) (fr:=(0,0)) ah.out) (by simp[Value.oneCell']) (Nat.one_pos) af.out ag.out (yC _) (wc.heap.size+1+1) (by simp) ?_;intro gg ap w6 D f X aq;have au:=(f.cell_far ⟨w.heap.size,2,none⟩ a7.out B).trans ac.out;have av:=(f.frozen_far ⟨w.heap.size,2,none⟩ a7.out B).trans ae.out))
    all_goals
     have ak:=Hd3 D (D8 (O:=fun b=>(Value.slice ud i V).ownBlock=some b) f (fun k e=>e)) X;clear D f X aj;go_wp2_with fail
     go_roundg (aH- (i+1))
     case measure=>omega
     case rel=>
      obtain⟨g1,g2,g3⟩:=ak.out;obtain⟨q1,q2,q3,q4,q5,q6,q7⟩:=HH.out;obtain⟨m1,m2⟩:=q4.grow (fld:=2) (by decide) q6 q7 zW g1 g2 g3;have an:=q4.own;refine⟨i+1,ar,_,R2,_,by go_num,by omega,rfl,?_,?_,q3.kR m2 (fun j Y e=>?_) (fun b W e=>?_),m1,fun j Y e=>?_⟩
      ·exact C3 q1 m2 (by omega) (fun x hx e=>by rcases e with e|e;have:=(an x e).1;omega;omega)
      ·have h9:Blk w6 w.heap.size #[.string s,ar,.slice ud i V] 206:=(q2.kept (ex:=fun _=>False) (((C0.refl _ _).alloc _).alloc _).drew (fun e=>e)).kept g2 (fun e=>B e.symm);exact h9.set 2 _
      ·rcases e with e|e
       ·exact q5 j Y e
       ·have:=(q3.aX j Y).2;omega
      ·rcases e with e|e
       ·obtain⟨_,u1,_⟩:=q4.row;obtain⟨_,v1,_⟩:=q3.row;obtain⟨_,ad,ao,e',⟨h1,_⟩|⟨g,cur,h1,h2,_⟩⟩:=P0 v1
        ·rw[e',h1]at W;cases W
        ·rw[e',h1]at W;cases(zE W:g=b);exact L0 u1 h2 (by decide) e
       ·have:=(q3.own b W).1;omega
      ·cases(zE e:gg=R2 j);rcases g3 with e'|e'
       ·exact q5 j Y e'
       ·have:=(q3.aX j Y).1.lt;omega
  ·obtain rfl:i=aH:=by omega
   have e0:decide ((i:Int)<(i:Int))=false:=by simp
   have HF:=Hd5 W Z hK hU K;clear W Z hK hU K;go_wp2_with fail;go_ret;obtain⟨a1,a2,a3,a4,a5⟩:=HF.out;exact⟨kv,uv,R,U,rfl,a1,a2,a3,a4,a5⟩
def Ba:List Bool:=List.replicate 120 false
theorem Qz:Ba.length=120:=by simp[Ba]
theorem XK(a:Nat):Ba.getD a false=false:=by unfold Ba;rw[zC,yM];split <;>rfl
theorem AQ(W:World):(Instr.makeSlice 143 (.int .i64 120) (.int .i64 120)).run Tryz.prog W=.ok (.slice (some ⟨W.heap.size,0,none⟩) 120 120) (W.alloc (.cells (Z0 Ba) 4)):=A8 120 (by omega) W
structure Wh(w:World)(xb:Nat)(rs:ByteArray)(f:Nat->Int)(aD:List MT):Prop where
 aO:∃c rv,Blk w xb c 87/\c[0]?=some rv/\c[1]?=some (.int .i64 (J1 (ntL aD):Int))/\w.ownsRow 0 89 1 rv aD.length (Q5 (aD.map MT.aL))
 cQ:AtL w rs f aD
 num:N6 f aD 0
 wf:WfL rs (ntL aD)
 lK:rs.size<=120
 iZ:J1 (ntL aD)<=100000
 bE:aD≠ []
theorem Wh.aA{w w':World}{xb:Nat}{D:ByteArray}{f:Nat->Int}{B:List MT}(h:Wh w xb D f B)(k:Bw w w'):Wh w' xb D f B:=by
 obtain⟨c,U,G,J,K,M⟩:=h.aO;exact⟨⟨c,U,G.aA k,J,K,K0 (ex:=fun _=>False) M (C0.aM k) (fun _ _ e=>e)⟩,AtL.kept (ex:=fun _=>False) (C0.aM k) _ h.cQ (fun _ _ e=>e),h.num,h.wf,h.lK,h.iZ,h.bE⟩
theorem Wh.cells{w:World}{xb:Nat}{V:ByteArray}{f:Nat->Int}{D:List MT}(h:Wh w xb V f D):xb<w.heap.size/\w.cell? ⟨xb,1,none⟩=some (.int .i64 (J1 (ntL D):Int))/\∃g B,w.cell? ⟨xb,0,none⟩=some (.slice (some ⟨g,0,none⟩) D.length B)/\∀i,(K:i<D.length)->w.cell? ⟨g,i,none⟩=some (.pointer (some ⟨D[i].aL,0,none⟩)):=by
 obtain⟨c,X,G,M,U,J⟩:=h.aO;refine⟨G.lt,by rw[G.cell];exact U,?_⟩;obtain⟨_,W,B,rfl,⟨_,e⟩|⟨g,_,rfl,_⟩⟩:=P0 J
 ·exact absurd (yN e) h.bE
 ·exact⟨g,B,by rw[G.cell];exact M,fun i K=>by rw[Y0 J i (by omega)];simp[Q5,K]⟩
theorem UD{l:List MT}{y:MT}(h:y∈l):y∈G5 l:=JE h (MT.sub_self y)
theorem Wh.lO{w:World}{xb:Nat}{D:ByteArray}{f:Nat->Int}{B:List MT}(h:Wh w xb D f B):0<J1 (ntL B):=by
 have G:=Gc B;have J:0<B.length:=List.length_pos_iff.2 h.bE;omega
theorem Az{w':World}{xb:Nat}{rs s:ByteArray}{f:Nat->Int}{D:List MT}{kv uv:Value}{R U:Nat->Nat}{G:Nat}(h:Wh w' xb rs f D)(hW:Blk w' G #[.string s,kv,uv] 206)
  (X:Bq w' G 144 (Ve (s.size+1)) 143 (s.size+1) kv R (J1 (ntL D))) (K:Bq w' G 143 (Z0 (List.replicate (s.size+1) false)) 4 (s.size+1) uv U (J1 (ntL D))) (M:∀j,j<J1 (ntL D)->uv.ownBlock≠some (R j)):
  ∃c:AlC,c.ab=G/\c.s=s/\c.rs=rs/\c.f=f/\c.aD=D/\(∀n,n<c.aH->G<c.U n/\Blk w' (c.U n) (Z0 (List.replicate c.N false)) 4)/\(∀n,n<c.aH->G<c.R n)/\∀A:Nat->Prop,(∀n,n<c.aH->A (c.U n))->G4 c A w':=by
 obtain⟨vs,v1,v2,v3⟩:=X.row;obtain⟨us,u1,u2,u3⟩:=K.row;have a4:=h.lO;obtain⟨_,kd,V,rfl,⟨_,e⟩|⟨bg,kc,rfl,Z,_,_,_,a0⟩⟩:=P0 v1
 ·omega
 obtain⟨_,ud,W,rfl,⟨_,e⟩|⟨wg,uc,rfl,a1,_,_,_,a2⟩⟩:=P0 u1
 ·omega
 refine⟨⟨G,bg,V,wg,W,R,U,s,rs,f,D⟩,rfl,rfl,rfl,rfl,rfl,fun n B=>⟨(K.aX n B).2,(K.aX n B).1⟩,fun n B=>(X.aX n B).2,fun A hA=>?_⟩;refine⟨hW,⟨kc,Z,fun n B=>?_⟩,⟨uc,a1,fun n B=>?_⟩,fun n B=>?_,fun n B=>⟨hA n B,List.replicate (s.size+1) false,by simp[AlC.N],(K.aX n B).1⟩,X.inj,K.inj,fun n B e=>M n B (congrArg some (Eq.symm e)),h.cQ,h.num⟩
 ·have J:=v3 n B;rw[<-a0,List.getElem?_take]at J;rw[if_pos (by have:n<J1 (ntL D):=B;omega)]at J;have Y:kc[n]?=some (.slice (some ⟨R n,0,none⟩) (s.size+1) (s.size+1)):=by simpa using J
  exact Y
 ·have J:=u3 n B;rw[<-a2,List.getElem?_take]at J;rw[if_pos (by have:n<J1 (ntL D):=B;omega)]at J;have Y:uc[n]?=some (.slice (some ⟨U n,0,none⟩) (s.size+1) (s.size+1)):=by simpa using J
  exact Y
 ·refine⟨Ve (s.size+1),(X.aX n B).1,by simp[Ve,AlC.N],fun p hp=>.inl ?_⟩;have a3:p<=s.size:=hp;simp[Ve,show p<s.size+1 by omega]
theorem LO(xb:Nat)(rs s:ByteArray)(f:Nat->Int)(aD:List MT)(w:World)(h:Wh w xb rs f aD)(hs:s.size<=20000):
  Calls Tryz.prog 62 #[.pointer (some ⟨xb,0,none⟩),.string s] w fun e w'=>∃l,e=.returned (.slice (some ⟨w.heap.size,0,none⟩) 120 120)/\l.length=120/\(∀a,l.getD a false=true↔∃T∈aD,T.nt.aY (Q0 s) a)/\Blk w' w.heap.size (Z0 l) 4/\Bw w w':=by
 have au:=AQ;obtain⟨w1,a7⟩:∃w1:World,w.alloc (.cells (Z0 Ba) 4)=w1:=⟨_,rfl⟩;have K:Bw w w1:=by rw[<-a7];exact N0 _ _
 have J:Blk w1 w.heap.size (Z0 Ba) 4:=by rw[<-a7];exact Blk.aR _ _ _
 have D:=h.aA K;obtain⟨zx,c1,_⟩:=D.cells;have ad:=Hd (AC s (J1 (ntL aD)) w1 hs h.iZ);have HH:=Hd3 D K J;have ap:=Hd h;have z1:=J.lt;have ab:=h.iZ;obtain⟨pn,ah⟩:∃pn,J1 (ntL aD)=pn:=⟨_,rfl⟩;rw[ah]at c1 ad;have aq:=Hd ah;clear h D K J ah ab;go_enter Tryz.func62,Tryz.ntmps62;go_upto_region 2 with fail
 try rw[a7]
 clear a7 au;go_wp2_with fail;refine ad.out.mono ?_;rintro e w2 ⟨kv,uv,R,U,rfl,V,aj,ae,af,Z⟩;obtain⟨D,K,J⟩:=HH.out;rw[<-aq.out]at ae af Z;have h2:=D.aA V;obtain⟨c,ak,rfl,rfl,rfl,rfl,cU,cR,cM⟩:=Az h2 aj ae af Z;rw[<-ak];have B:LSt c (fun b=>b=w.heap.size\/∃n,n<c.aH/\b=c.U n) w.heap.size w2 Ba (fun _=>List.replicate c.N false):=by
  refine⟨cM _ (fun n X=>.inr ⟨n,X,rfl⟩),.inl rfl,fun b hb=>?_,Qz,J.aA V,fun n X=>⟨by simp,(cU n X).2⟩,fun n X e=>by have:=(cU n X).1;omega⟩;rcases hb with e|⟨n,X,e⟩
  ·have:=V.size;omega
  ·rw[e];exact(cU n X).2.lt
 have a9:Bw w w2:=K.trans (V.mono (by omega));have HX:Hid (∀W,C0 (fun b=>c.M b\/(b=w.heap.size\/∃n,n<c.aH/\b=c.U n)) w2 W->Bw w W):=Hd (fun W k=>C3 a9 k (by have:=V.size;omega) (fun x hx e=>by
  rcases e with⟨n,X,e⟩|e|⟨n,X,e⟩
  ·have:=cR n X;omega
  ·omega
  ·have:=(cU n X).1;omega))
 have ar:=Hd B;have HZ:=Hd5 hs D.wf D.lK D.iZ D.num;have an:=Hd (Gc c.aD);have ab:=D.iZ;have az:c.aD.length<=100000:=by have:=an.out;omega
 clear V aj ae af Z h2 cU cR cM B a9 D K J ad HH c1 ak;go_wp2_with fail
 go_loopg[7] c.aD.length (fun G rv wr=>∃(r:Nat) (lo:List Bool) (wl:Nat->List Bool),rv=.int .i64 r/\r<=c.aD.length/\G=c.aD.length-r/\LSt c (fun b=>b=w.heap.size\/∃n,n<c.aH/\b=c.U n) w.heap.size wr lo wl/\Ed c wl lo 0 c.aH/\(∀a,lo.getD a false=true↔∃T∈c.aD.take r,PL c T 0 a)/\C0 (fun b=>c.M b\/(b=w.heap.size\/∃n,n<c.aH/\b=c.U n)) w2 wr)
 case atStart=>
  have hr:∀n q,(List.replicate n false).getD q false=false:=fun n q=>by rw[zC,yM];split <;>rfl
  exact⟨0,_,_,rfl,by omega,rfl,ar.out,fun T hT id ay _ _ j hj=>absurd hj (by rw[hr];simp),fun a=>by rw[XK];simp,C0.refl _ _⟩
 case round=>
  obtain⟨r,lo,wl,rfl,hr,rfl,B,a8,a0,hk⟩:=hrel;obtain⟨b0,_,g,ax,c0,cg⟩:=(ap.out.aA (HX.out wr hk)).cells
  by_cases a6:r<c.aD.length
  ·have e0:decide ((r:Int)<(c.aD.length:Int))=true:=by simp;omega
   have cr:=cg r a6;have r0:(0:Int)<=(r:Int):=by omega
   have r1:(r:Int)<(c.aD.length:Int):=by omega
   obtain⟨hs,ao,ac,Y,aa⟩:=HZ.out;obtain⟨ag,am⟩:=Kr aa a6;rw[yX]at ag;have ai:=Hd (QJ c hs ao ac Y c.aD[r] (UD (zG a6)) _ w.heap.size wr lo wl _ 0 ag B (a8.sub (yC _) (by unfold AlC.aH;omega)) (yC _));have HI:=Hd5 B a8 a0 hk am;clear B a8 a0 hk cg hs ao ac Y aa ag am;go_wp2_with fail;refine ai.out.mono ?_;rintro e w3 ⟨rfl,av,aw,D,h2,h3,h4,h5⟩;have HR:=Hd5 D h2 h3 h4 h5;clear D h2 h3 h4 h5 ai;go_wp2_with fail
   go_roundg (c.aD.length- (r+1))
   case measure=>omega
   case rel=>
    obtain⟨D,h2,h3,h4,h5⟩:=HR.out;obtain⟨a1,a2,a3,a4,a5⟩:=HI.out;refine⟨r+1,av,aw,by go_num,by omega,rfl,D,a2.grow h4 (fun a ha=>(h2 a).2 (.inl ha)) h3,fun a=>?_,a4.trans h5 (fun i _ e=>e)⟩;rw[h2 a,a3 a,show c.aD.take (r+1)=c.aD.take r++ [c.aD[r]]from(yL a6).symm];simp only[zQ,zJ];constructor
    ·rintro(⟨T,hT,hp⟩|hp)
     ·exact⟨T,.inl hT,hp⟩
     ·exact⟨_,.inr rfl,hp⟩
    ·rintro⟨T,hT|rfl,hp⟩
     ·exact .inl ⟨T,hT,hp⟩
     ·exact .inr hp
  ·obtain rfl:r=c.aD.length:=by omega
   have e0:decide ((c.aD.length:Int)<(c.aD.length:Int))=false:=by simp
   have HI:=Hd3 B a0 hk;clear B a8 a0 hk cg;go_wp2_with fail;go_ret;obtain⟨a1,a2,a3⟩:=HI.out;refine⟨lo,rfl,a1.len,fun a=>?_,a1.aO,HX.out wr a3⟩;rw[a2 a,zO (zD _)];refine⟨fun⟨T,hT,hp⟩=>⟨T,hT,by have:=hp.2;rwa [xG]at this⟩,fun⟨T,hT,hp⟩=>⟨T,hT,?_⟩⟩;have h9:T.nt.aY ((Q0 c.s).drop 0) a:=by rw[xG];exact hp
   exact⟨PL.lt h9,h9⟩
theorem XR{L:List Nat}{P:List Nat->Prop}:Q8 L P 0 L.length↔P L:=by
 unfold Q8 dY;simp
def WE(f:List MT)(w:List Nat)(r:Int):Prop:=(r= -1/\(w= []\/∀T∈f,¬T.nt.aW w))\/(w≠ []/\∃i,∃h:i<f.length,r=(i:Int)/\f[i].nt.aW w/\∀j,(B:j<i)->¬(f[j]'(by omega)).nt.aW w)
theorem WJ(s:ByteArray):∀n i r,s.size-i=n->r≠ []->ByteArray.toList.loop s i r≠ []
 |0,i,r,h,hr=>by
  unfold ByteArray.toList.loop;rw[if_neg (by omega)];simpa using hr
 |n+1,i,r,h,hr=>by
  unfold ByteArray.toList.loop;rw[if_pos (by omega)];exact WJ s n (i+1) _ (by omega) (by simp)
theorem FT(s:ByteArray)(h:s.size≠0):s.toList.isEmpty=false:=by
 have f:s.toList≠ []:=by
  unfold ByteArray.toList;unfold ByteArray.toList.loop;rw[if_pos (by omega)];exact WJ s _ 1 _ rfl (by simp)
 cases hh:s.toList with
 |nil=>exact absurd hh f
 |cons a b=>rfl
theorem Tf(s:ByteArray)(h:s.size=0):s.toList.isEmpty=true:=by
 unfold ByteArray.toList;unfold ByteArray.toList.loop;rw[if_neg (by omega)];rfl
theorem Np(xb:Nat)(rs s:ByteArray)(f:Nat->Int)(aD:List MT)(w:World)(h:Wh w xb rs f aD)(hs:s.size<=20000):
  Calls Tryz.prog 68 #[.pointer (some ⟨xb,0,none⟩),.string s] w fun e w'=>∃r,e=.returned (.int .i64 r)/\WE aD (Q0 s) r/\Bw w w':=by
 obtain⟨zx,c1,_⟩:=h.cells;have Y:=Hd (AC s (J1 (ntL aD)) w hs h.iZ);have Z:=Hd h;obtain⟨pn,a6⟩:∃pn,J1 (ntL aD)=pn:=⟨_,rfl⟩;rw[a6]at c1 Y;have aj:=Hd a6;clear h a6;go_enter Tryz.func68,Tryz.ntmps68;go_wp2_with fail;refine Y.out.mono ?_;rintro e w2 ⟨kv,uv,R,U,rfl,J,a8,a0,a4,D⟩;have h1:=Z.out;rw[<-aj.out]at a0 a4 D;have h2:=h1.aA J;obtain⟨c,a9,rfl,rfl,rfl,rfl,cU,cR,cM⟩:=Az h2 a8 a0 a4 D;rw[<-a9];have ad:=cM (fun b=>∃n,n<c.aH/\b=c.U n) (fun n hn=>⟨n,hn,rfl⟩);have HX:Hid (∀W,C0 c.M w2 W->Bw w W):=Hd (fun W k=>C3 J k J.size (fun x hx e=>by obtain⟨n,hn,e⟩:=e;have:=cR n hn;omega));have HA:Hid (∀W,C0 c.M w2 W->∀b,(∃n,n<c.aH/\b=c.U n)->b<W.heap.size):=Hd (fun W k b hb=>by obtain⟨n,hn,e⟩:=hb;rw[e];exact yG (cU n hn).2.lt k.size);have HM:=Hd ad;have HZ:=Hd4 hs h1.wf h1.lK h1.iZ;have ab:=Gc c.aD;have af:=h1.iZ;have aq:c.aD.length<=100000:=by omega
 have ar:0<c.aD.length:=List.length_pos_iff.2 h1.bE;clear J a8 a0 a4 D h2 cU cR cM ad h1 Y c1 a9 ab af
 by_cases hz:c.s.size=0
 ·have ez:=Tf c.s hz;have V:Q0 c.s= []:=yN (by rw[I1];exact hz);have ah:=Hd V;clear V;go_wp2_with fail
  go_loopg[6] 1 (fun G rv wr=>rv=.int .i64 0/\wr=w2)
  case atStart=>exact⟨rfl,rfl⟩
  case round=>
   obtain⟨rfl,rfl⟩:=hrel;obtain⟨ap,_,g,ak,c0,cg⟩:=(Z.out.aA (HX.out wr (C0.refl _ _))).cells;have e0:decide ((0:Int)<(c.aD.length:Int))=true:=by simp;omega
   clear cg;go_wp2_with fail;go_ret;exact⟨-1,rfl,.inl ⟨rfl,.inl ah.out⟩,HX.out wr (C0.refl _ _)⟩
 ·have ez:=FT c.s hz;have ae:Q0 c.s≠ []:=fun e=>by have:=congrArg List.length e;rw[I1]at this;exact hz this
  have ai:=Hd ae;clear ae;go_wp2_with fail
  go_loopg[6] c.aD.length (fun G rv wr=>∃r:Nat,rv=.int .i64 r/\r<=c.aD.length/\G=c.aD.length-r/\G4 c (fun b=>∃n,n<c.aH/\b=c.U n) wr/\(∀j,(hj:j<c.aD.length)->j<r->¬c.aD[j].nt.aW (Q0 c.s))/\C0 c.M w2 wr)
  case atStart=>exact⟨0,rfl,by omega,rfl,HM.out,fun j _ hj=>by omega,C0.refl _ _⟩
  case round=>
   obtain⟨r,rfl,hr,rfl,hm,K,hk⟩:=hrel;obtain⟨ap,_,g,ak,c0,cg⟩:=(Z.out.aA (HX.out wr hk)).cells
   by_cases a5:r<c.aD.length
   ·have e0:decide ((r:Int)<(c.aD.length:Int))=true:=by simp;omega
    have cr:=cg r a5;have r0:(0:Int)<=(r:Int):=by omega
    have r1:(r:Int)<(c.aD.length:Int):=by omega
    obtain⟨hs,ag,X,B⟩:=HZ.out;have HE:=Hd (OI c hs ag X B c.aD[r] (UD (zG a5)) _ wr 0 (HA.out wr hk) hm (yC _));have HI:=Hd3 hm K hk;clear hm K hk cg hs ag X B;go_wp2_with fail;refine HE.out.mono ?_;rintro e w3 ⟨b,rfl,an,a7,ac,aa⟩;have ao:c.s.size<c.N:=by unfold AlC.N;omega
    have cb:=a7.cellD c.s.size (by rw[Jc];exact ao);have hw:(Oa (Q0 c.s) c.aD[r].nt.aW 0).getD c.s.size false=true↔c.aD[r].nt.aW (Q0 c.s):=by
     rw[D9];have:=XR (L:=Q0 c.s) (P:=c.aD[r].nt.aW);rw[I1]at this;exact this
    generalize(Oa (Q0 c.s) c.aD[r].nt.aW 0).getD c.s.size false=x at cb hw;have q0:(0:Int)<=(c.s.size:Int):=by omega
    have q1:(c.s.size:Int)<(c.N:Int):=by omega
    have HR:=Hd3 hw ac aa;clear an a7 ac aa hw HE;cases x with
    |true=>
     go_wp2_with fail;go_ret;obtain⟨a1,a2,a3⟩:=HR.out;obtain⟨b1,b2,b3⟩:=HI.out;exact⟨(r:Int),rfl,.inr ⟨ai.out,r,a5,rfl,a1.1 (by simp),fun j hj=>b2 j (by omega) hj⟩,HX.out _ (b3.trans a3 (fun i _ e=>e))⟩
    |false=>
     go_wp2_with fail
     go_roundg (c.aD.length- (r+1))
     case measure=>omega
     case rel=>
      obtain⟨a1,a2,a3⟩:=HR.out;obtain⟨b1,b2,b3⟩:=HI.out;refine⟨r+1,by go_num,by omega,rfl,a2,fun j am hj=>?_,b3.trans a3 (fun i _ e=>e)⟩
      by_cases e:j<r
      ·exact b2 j am e
      ·have:j=r:=by omega
       subst this;exact fun h=>absurd (a1.2 h) (by simp)
   ·obtain rfl:r=c.aD.length:=by omega
    have e0:decide ((c.aD.length:Int)<(c.aD.length:Int))=false:=by simp
    have HI:=Hd2 K hk;clear hm K hk cg;go_wp2_with fail;go_ret;obtain⟨b2,b3⟩:=HI.out;refine⟨-1,rfl,.inl ⟨rfl,.inr fun T hT hW=>?_⟩,HX.out wr b3⟩;obtain⟨j,hj,rfl⟩:=List.getElem_of_mem hT;exact b2 j hj hj hW
theorem QW{l m:List Bool}{n:Nat}(B:l.length=n)(D:m.length=n)(h:∀q,q<n->l.getD q false=m.getD q false):l=m:=by
 refine Qn (B.trans D.symm) fun a=>?_
 by_cases f:a<n
 ·rw[h a f]
 ·simp only[zC];rw[yJ (by omega),yJ (by omega)]
theorem PG(a b n c1 c2:Nat)(l m:List Bool)(w:World)(hl:Blk w a (Z0 l) 4)(hm:Blk w b (Z0 m) 4)(K:l.length=n)(M:m.length=n)(hn:n<=50000):
  Calls Tryz.prog 101 #[.slice (some ⟨a,0,none⟩) n c1,.slice (some ⟨b,0,none⟩) n c2] w fun e w'=>∃x,e=.returned (.bool x)/\(x=true↔l=m)/\Bw w w':=by
 have HL:=Hd4 hl hm K M;clear hl hm K M;go_enter Tryz.func101,Tryz.ntmps101;go_wp2_with fail
 go_loopg[5] n (fun G iv wr=>∃i:Nat,iv=.int .i64 i/\i<=n/\G=n-i/\(∀q,q<i->l.getD q false=m.getD q false)/\Bw w wr)
 case atStart=>exact⟨0,rfl,by omega,rfl,fun q D=>by omega,Below.refl _ _⟩
 case round=>
  obtain⟨i,rfl,hi,rfl,D,f⟩:=hrel;obtain⟨Y,Z,h3,h4⟩:=HL.out
  by_cases a0:i<n
  ·have e0:decide ((i:Int)<(n:Int))=true:=by simp;omega
   have k1:=P2 (Y.aA f) i (by omega);have k2:=P2 (Z.aA f) i (by omega);generalize hx:l.getD i false=x at k1;generalize hy:m.getD i false=y at k2;have i0:(0:Int)<=(i:Int):=by omega
   have i1:(i:Int)<(n:Int):=by omega
   have U:=Hd4 D f hx hy;clear D f hx hy Y Z h3 h4;cases x <;>cases y
   all_goals
    go_upto_region 4 with fail;go_quiet(fail);obtain⟨w0,B⟩:∃w0,wr.drewN nq=w0:=⟨_,rfl⟩;have J:Hid (Bw wr w0):=Hd (by rw[<-B];exact C2 (Below.refl _ _) _);rw[B];clear B;go_wp2_with fail
    first
    |go_ret
     obtain⟨V,h,W,X⟩:=U.out;refine⟨false,rfl,⟨fun e=>(by cases e),fun e=>?_⟩,h.trans (J.out.mono h.size)⟩;rw[e]at W;rw[W]at X;cases X
    |go_roundg (n- (i+1))
     case measure=>omega
     case rel=>
      obtain⟨V,h,W,X⟩:=U.out;refine⟨i+1,by go_num,by omega,rfl,fun q D=>?_,h.trans (J.out.mono h.size)⟩
      by_cases e:q<i
      ·exact V q e
      ·rw[show q=i by omega,W,X]
  ·obtain rfl:i=n:=by omega
   have e0:decide ((i:Int)<(i:Int))=false:=by simp
   have U:=Hd2 D f;clear D f Y Z;go_wp2_with fail;go_ret;obtain⟨V,h⟩:=U.out;exact⟨true,rfl,⟨fun _=>QW h3 h4 V,fun _=>rfl⟩,h⟩
theorem OG(a n Y:Nat)(l:List Bool)(w:World)(V:Blk w a (Z0 l) 4)(D:l.length=n)(hn:n<=50000):
  Calls Tryz.prog 63 #[.slice (some ⟨a,0,none⟩) n Y] w fun e w'=>∃x,e=.returned (.bool x)/\(x=true↔∀q,l.getD q false=false)/\Bw w w':=by
 have X:=Hd2 V D;clear V D;go_enter Tryz.func63,Tryz.ntmps63;go_wp2_with fail
 go_loopg[3] n (fun G iv wr=>∃i:Nat,iv=.int .i64 i/\i<=n/\G=n-i/\(∀q,q<i->l.getD q false=false)/\Bw w wr)
 case atStart=>exact⟨0,rfl,by omega,rfl,fun q h=>by omega,Below.refl _ _⟩
 case round=>
  obtain⟨i,rfl,hi,rfl,h,f⟩:=hrel;obtain⟨U,h3⟩:=X.out
  by_cases a0:i<n
  ·have Z:decide ((i:Int)<(n:Int))=true:=by simp;omega
   have k1:=P2 (U.aA f) i (by omega);generalize W:l.getD i false=x at k1;have i0:(0:Int)<=(i:Int):=by omega
   have i1:(i:Int)<(n:Int):=by omega
   have J:=Hd3 h f W;clear h f W U h3;cases x with
   |true=>
    go_wp2_with fail;go_ret;obtain⟨K,B,M⟩:=J.out;refine⟨false,rfl,⟨fun e=>(by cases e),fun e=>?_⟩,B⟩;rw[e i]at M;cases M
   |false=>
    go_wp2_with fail
    go_roundg (n- (i+1))
    case measure=>omega
    case rel=>
     obtain⟨K,B,M⟩:=J.out;refine⟨i+1,by go_num,by omega,rfl,fun q h=>?_,B⟩
     by_cases e:q<i
     ·exact K q e
     ·rw[show q=i by omega,M]
  ·obtain rfl:i=n:=by omega
   have Z:decide ((i:Int)<(i:Int))=false:=by simp
   have J:=Hd2 h f;clear h f U;go_wp2_with fail;go_ret;obtain⟨K,B⟩:=J.out;refine⟨true,rfl,⟨fun _ q=>?_,fun _=>rfl⟩,B⟩
   by_cases e:q<i
   ·exact K q e
   ·rw[zC,yJ (by omega)];rfl
def slV(N b:Nat):Value:=.slice (some ⟨b,0,none⟩) N N
structure Ac0(w:World)(sv:Value)(S:List (Nat×List Bool)):Prop where
 row:w.ownsRow 0 143 1 sv S.length (S.map (fun p=>slV 120 p.1))
 aX:∀p∈S,Blk w p.1 (Z0 p.2) 4/\p.2.length=120
structure Ac2(w:World)(ov:Value)(To:List (Nat×List Int)):Prop where
 row:w.ownsRow 0 68 1 ov To.length (To.map (fun p=>slV 256 p.1))
 aX:∀p∈To,Blk w p.1 (T3 p.2) 3/\p.2.length=256
structure P3(w:World)(lo fb:Nat)(tv sv ov:Value)(T:List ByteArray)(S:List (Nat×List Bool))(To:List (Nat×List Int)):Prop where
 aO:Blk w fb #[tv,sv,ov] 146
 txt:w.ownsRow 0 9 1 tv T.length (T.map Value.string)
 aI:Ac0 w sv S
 bP:Ac2 w ov To
 own:lo<=fb/\(∀b,tv.ownBlock=some b->lo<=b)/\(∀b,sv.ownBlock=some b->lo<=b)/\(∀b,ov.ownBlock=some b->lo<=b)
theorem P3.aA{w w':World}{D fb:Nat}{K J G:Value}{T:List ByteArray}{S:List (Nat×List Bool)}{B:List (Nat×List Int)}(h:P3 w D fb K J G T S B)(k:Bw w w'):P3 w' D fb K J G T S B:=
 ⟨h.aO.aA k,K0 (ex:=fun _=>False) h.txt (C0.aM k) (fun _ _ e=>e),⟨K0 (ex:=fun _=>False) h.aI.row (C0.aM k) (fun _ _ e=>e),fun p f=>⟨(h.aI.aX p f).1.aA k,(h.aI.aX p f).2⟩⟩,⟨K0 (ex:=fun _=>False) h.bP.row (C0.aM k) (fun _ _ e=>e),fun p f=>⟨(h.bP.aX p f).1.aA k,(h.bP.aX p f).2⟩⟩,h.own⟩
def Ab9(S:List (Nat×List Bool))(m:List Bool)(r:Int):Prop:=(r= -1/\∀i,(h:i<S.length)->0<i->S[i].2≠m)\/∃i,∃h:i<S.length,0<i/\r=(i:Int)/\S[i].2=m
theorem CU(fb b lo:Nat)(tv sv ov:Value)(T:List ByteArray)(S:List (Nat×List Bool))(To:List (Nat×List Int))(m:List Bool)(w:World)(h:P3 w lo fb tv sv ov T S To)(hm:Blk w b (Z0 m) 4)(W:m.length=120)(hS:S.length<=100):
  Calls Tryz.prog 64 #[.pointer (some ⟨fb,0,none⟩),slV 120 b] w fun e w'=>∃r,e=.returned (.int .i64 r)/\Ab9 S m r/\Bw w w':=by
 have HL:=Hd3 h hm W;clear h hm W;unfold slV;go_enter Tryz.func64,Tryz.ntmps64;go_wp2_with fail
 go_loopg[5] 99 (fun G iv wr=>∃i:Nat,iv=.int .i64 i/\0<i/\G=100-i/\(∀j,(V:j<S.length)->0<j->j<i->S[j].2≠m)/\Bw w wr)
 case atStart=>exact⟨1,rfl,by omega,rfl,fun j V h0 h1=>by omega,Below.refl _ _⟩
 case round=>
  obtain⟨i,rfl,hi,rfl,hq,B⟩:=hrel;obtain⟨h1,h2,h3⟩:=HL.out;have D:=h1.aA B;have f:=D.aI.row;obtain⟨_,sd,X,rfl,J⟩:=P0 f;have c1:wr.cell? ⟨fb,1,none⟩=some (.slice sd S.length X):=D.aO.cell 1
  by_cases M:i<S.length
  ·have e0:decide ((i:Int)<(S.length:Int))=true:=by simp;omega
   rcases J with⟨_,e⟩|⟨sg,sc,rfl,a0,_⟩
   ·omega
   have cg:wr.cell? ⟨sg,i,none⟩=some (.slice (some ⟨S[i].1,0,none⟩) 120 120):=by rw[Y0 f i (by omega)];simp[slV,M]
   obtain⟨k1,k2⟩:=D.aI.aX S[i] (zG M);have HE:=Hd (PG S[i].1 b 120 120 120 S[i].2 m wr k1 (h2.aA B) k2 h3 (by omega));have i0:(0:Int)<=(i:Int):=by omega
   have i1:(i:Int)<(S.length:Int):=by omega
   have Y:=Hd2 hq B;clear hq B h1 h2 h3 D f a0 k1 k2;go_wp2_with fail;refine HE.out.mono ?_;rintro e w1 ⟨x,rfl,hx,U⟩;have HX:=Hd2 hx U;clear hx U HE;cases x with
   |true=>
    go_wp2_with fail;go_ret;obtain⟨Z,K⟩:=Y.out;obtain⟨b1,b2⟩:=HX.out;exact⟨(i:Int),rfl,.inr ⟨i,M,hi,rfl,b1.1 (by simp)⟩,K.trans (b2.mono K.size)⟩
   |false=>
    go_wp2_with fail
    go_roundg (100- (i+1))
    case measure=>omega
    case rel=>
     obtain⟨Z,K⟩:=Y.out;obtain⟨b1,b2⟩:=HX.out;refine⟨i+1,by go_num,by omega,rfl,fun j V h0 a3=>?_,K.trans (b2.mono K.size)⟩
     by_cases e:j<i
     ·exact Z j V h0 e
     ·have:j=i:=by omega
      subst this;exact fun e=>by have:=b1.2 e;cases this
  ·have e0:decide ((i:Int)<(S.length:Int))=false:=by simp;omega
   have Y:=Hd2 hq B;clear hq B h1 h2 h3 D f J;go_wp2_with fail;go_ret;obtain⟨Z,K⟩:=Y.out;exact⟨-1,rfl,.inl ⟨rfl,fun j V h0=>Z j V h0 (by omega)⟩,K⟩
end Go.Proofs.YtcckhngbdoiikabGreat
