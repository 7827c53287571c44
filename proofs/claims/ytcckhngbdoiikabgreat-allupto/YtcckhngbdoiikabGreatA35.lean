import Derived.Test.YtcckhngbdoiikabGreatA21
import Derived.Test.YtcckhngbdoiikabGreatA34
set_option maxRecDepth 20000
set_option maxHeartbeats 12800000
set_option linter.unusedVariables false
namespace Go.Proofs.YtcckhngbdoiikabGreat
open Go.RowKit Go.Deep
structure A7 where
 b:Nat
 q:Nat
 deriving DecidableEq,Inhabited
def Ti:List A7->List Value
 | []=>[]
 |x::r=>.string (K1 [x.b])::.int .i64 (x.q:Int)::Ti r
theorem Qo:∀l m:List A7,Ti (l++m)=Ti l++Ti m
 | [],m=>rfl
 |s::r,m=>by simp[Ti,Qo r m]
theorem EA:∀(l:List A7) (k:Nat) (h:k<l.length),(Ti l)[k*2]?=some (.string (K1 [l[k].b]))/\(Ti l)[k*2+1]?=some (.int .i64 (l[k].q:Int))
 |s::r,0,_=>⟨rfl,rfl⟩
 |s::r,k+1,h=>by
  rw[show(k+1)*2=k*2+1+1 by omega];simp only[Ti,List.getElem?_cons_succ,List.getElem_cons_succ];exact EA r k (by simpa using h)
def P4(w:World)(v:Value)(l:List A7):Prop:=w.ownsRow 0 214 2 v l.length (Ti l)
theorem P4.kept{w w':World}{v:Value}{l:List A7}{ex:Nat->Prop}(h:P4 w v l)(k:C0 ex w w')(f:∀b,v.ownBlock=some b->¬ex b):P4 w' v l:=K0 h k f
theorem P4.aA{w w':World}{v:Value}{l:List A7}(h:P4 w v l)(k:Bw w w'):P4 w' v l:=h.kept (ex:=fun _=>False) (C0.aM k) (fun _ _ e=>e)
theorem P4.aV{w:World}{v:Value}{l:List A7}(h:P4 w v l):∃(B:Option Addr) (f:Nat),v=.slice B l.length f/\(l.length=0\/∃g,B=some ⟨g,0,none⟩):=by
 obtain⟨_,B,f,rfl,⟨_,h⟩|⟨g,_,rfl,_⟩⟩:=P0 h
 ·exact⟨B,f,rfl,.inl h⟩
 ·exact⟨_,f,rfl,.inr ⟨g,rfl⟩⟩
theorem P4.cell{w:World}{l:List A7}{g f:Nat}(h:P4 w (.slice (some ⟨g,0,none⟩) l.length f) l)(k:Nat)(G:k<l.length):w.cell? ⟨g,k*2,none⟩=some (.string (K1 [l[k].b]))/\w.cell? ⟨g,k*2+1,none⟩=some (.int .i64 (l[k].q:Int)):=by
 obtain⟨B,D⟩:=EA l k G;exact⟨(Y0 h (k*2) (by omega)).trans B,(Y0 h (k*2+1) (by omega)).trans D⟩
def N8(w:World)(h:TypeId)(P:World->Value->Nat->Prop)(v:Value)(n:Nat):Prop:=∃f:List Value,w.ownsRow 0 h 1 v n f/\f.length=n/\∀i x,f[i]?=some x->P w x i
theorem N8.aV{w:World}{D:TypeId}{P:World->Value->Nat->Prop}{v:Value}{n:Nat}(h:N8 w D P v n):∃(B:Option Addr) (f:Nat),v=.slice B n f/\(n=0\/∃g,B=some ⟨g,0,none⟩):=by
 obtain⟨G,h,_⟩:=h;obtain⟨_,B,f,rfl,⟨_,h⟩|⟨g,_,rfl,_⟩⟩:=P0 h
 ·exact⟨B,f,rfl,.inl h⟩
 ·exact⟨_,f,rfl,.inr ⟨g,rfl⟩⟩
theorem N8.cell{w:World}{K:TypeId}{P:World->Value->Nat->Prop}{g f n:Nat}(h:N8 w K P (.slice (some ⟨g,0,none⟩) n f) n)(i:Nat)(U:i<n):∃x,w.cell? ⟨g,i,none⟩=some x/\P w x i:=by
 obtain⟨B,G,M,J⟩:=h;have D:B[i]?=some B[i]:=zF (by omega);exact⟨B[i],by rw[Y0 G i (by omega)];exact D,J i _ D⟩
theorem N8.kept{w w':World}{f:TypeId}{P:World->Value->Nat->Prop}{v:Value}{n:Nat}{ex:Nat->Prop}(h:N8 w f P v n)(k:C0 ex w w')(K:∀b,v.ownBlock=some b->¬ex b)(J:∀x i,P w x i->P w' x i):N8 w' f P v n:=by
 obtain⟨U,B,D,G⟩:=h;exact⟨U,K0 B k K,D,fun i x M=>J x i (G i x M)⟩
theorem N8.aA{w w':World}{f:TypeId}{P:World->Value->Nat->Prop}{v:Value}{n:Nat}(h:N8 w f P v n)(k:Bw w w')(B:∀x i,P w x i->P w' x i):N8 w' f P v n:=
 h.kept (ex:=fun _=>False) (C0.aM k) (fun _ _ e=>e) B
def Hb(w:World)(v:Value)(ll:List (List A7)):Prop:=N8 w 211 (fun w x i=>P4 w x (ll.getD i [])) v ll.length
def W5(w:World)(v:Value)(ll:List (List Bool)):Prop:=N8 w 143 (fun w x i=>E6 w x (ll.getD i [])) v ll.length
theorem Hb.aA{w w':World}{v:Value}{ll:List (List A7)}(h:Hb w v ll)(k:Bw w w'):Hb w' v ll:=N8.aA h k (fun x i f=>P4.aA f k)
theorem W5.aA{w w':World}{v:Value}{ll:List (List Bool)}(h:W5 w v ll)(k:Bw w w'):W5 w' v ll:=N8.aA h k (fun x i f=>E6.aA f k)
structure K9 where
 aF:List Bool
 aZ:List (List A7)
structure Bj(w:World)(wb:Nat)(x:K9):Prop where
 ex:∃tv sv,Blk w wb #[tv,sv] 189/\E6 w tv x.aF/\Hb w sv x.aZ
theorem Bj.aA{w w':World}{wb:Nat}{x:K9}(h:Bj w wb x)(k:Bw w w'):Bj w' wb x:=by
 obtain⟨J,G,f,B,D⟩:=h.ex;exact⟨J,G,f.aA k,B.aA k,D.aA k⟩
structure Cj(x:K9):Prop where
 len:x.aZ.length=x.aF.length
 cK:∀l∈x.aZ,∀s∈l,s.q<x.aF.length/\s.b<256
 bU:∀l∈x.aZ,l.length<=256
 dW:x.aF.length<=100000
def Gh(l:List A7)(f:List Bool):Option A7:=l.find? (fun s=>f.getD s.q false)
def Aa2(s:A7):Value:=.agg #[.string (K1 [s.b]),.int .i64 (s.q:Int)]
def GQ:Value:=.agg #[.string ⟨#[]⟩,.int .i64 0]
def UW:Option A7->Value
 |none=>.tuple #[GQ,.bool false]
 |some s=>.tuple #[Aa2 s,.bool true]
theorem Tryz.dG:(Tryz.prog.info? 214).map (·.size)=some 2:=by kernel_rfl
theorem SU{s:A7}{D:Array Oper}{rest:List Oper}{o:Oper}{a:Act}{w:World}{Q:Exit->Act->World->Prop}(G:o.guard=none)(p q:Operand)(K:o.op=.store 214 p q)
  (g:Nat) (M:a.eval p=.pointer (some ⟨g,0,none⟩)) (U:a.eval q=Aa2 s) {B:Array Value} (J:Blk w g B 214) (f:B.size=2)
  (h:wpList Tryz.prog D Q rest (a.put o.dst undef) (w.setRow g #[.string (K1 [s.b]),.int .i64 (s.q:Int)])):wpList Tryz.prog D Q (o::rest) a w:=
 wpList_store_row G 214 p q K g _ M U 214 _ J Tryz.dG f (by simp[Value.oneCell']) h
theorem JL{D:Array Oper}{rest:List Oper}{o:Oper}{a:Act}{w:World}{Q:Exit->Act->World->Prop}(G:o.guard=none)(p q:Operand)(K:o.op=.store 214 p q)
  (g:Nat) (M:a.eval p=.pointer (some ⟨g,0,none⟩)) (U:a.eval q=GQ) {B:Array Value} (J:Blk w g B 214) (f:B.size=2)
  (h:wpList Tryz.prog D Q rest (a.put o.dst undef) (w.setRow g #[.string ⟨#[]⟩,.int .i64 0])):wpList Tryz.prog D Q (o::rest) a w:=
 wpList_store_row G 214 p q K g _ M U 214 _ J Tryz.dG f (by simp[Value.oneCell']) h
theorem My(wb:Nat)(x:K9)(k:Nat)(mv:Value)(f:List Bool)(w:World)(h:Bj w wb x)(ho:Cj x)(hk:k<x.aZ.length)(hm:E6 w mv f)(a3:f.length=x.aF.length):
  Calls Tryz.prog 131 #[.pointer (some ⟨wb,0,none⟩),.int .i64 k,mv] w fun e w'=>e=.returned (UW (Gh (x.aZ.getD k []) f))/\Bw w w':=by
 obtain⟨tv,sv,hb,ht,hs⟩:=h.ex;obtain⟨sd,a4,rfl,a1⟩:=hs.aV;rcases a1 with h0|⟨sg,rfl⟩
 ·omega
 obtain⟨rv,c1,hr⟩:=hs.cell k hk;have c0:w.cell? ⟨wb,1,none⟩=some (.slice (some ⟨sg,0,none⟩) x.aZ.length a4):=hb.cell 1;obtain⟨rd,a8,rfl,V⟩:=hr.aV;obtain⟨md,a7,rfl,a0⟩:=hm.aV;have U:x.aZ.getD k []∈x.aZ:=by rw[zC,zF hk];exact zG hk
 have Y:=ho.cK _ U;have a6:=ho.bU _ U;have aa:=ho.dW;generalize x.aZ.getD k []=B at hr Y a6 c1 V;have k0:(0:Int)<=(k:Int):=by omega
 have k1:(k:Int)<(x.aZ.length:Int):=by omega
 have zb:=hb.lt;have zs:sg<w.heap.size:=by obtain⟨vs,h9,_⟩:=hs;exact Q1 h9 sg rfl
 generalize hF:Gh B f=F;unfold Gh at hF;have HF:=Hd hF;have HR:=Hd hr;have HM:=Hd hm;have a5:=Hd Y;have W:=Hd a3;clear hb ht hs h ho U hF hr hm Y a3;go_enter Tryz.func131,Tryz.ntmps131;go_wp2_with fail
 go_loopg[18] B.length (fun G iv wr=>∃i:Nat,iv=.int .i64 i/\i<=B.length/\G=B.length-i/\(B.drop i).find? (fun s=>f.getD s.q false)=F/\Bw w wr/\Blk wr w.heap.size #[.string ⟨#[]⟩,.int .i64 0] 214)
 case atStart=>exact⟨0,rfl,by omega,rfl,HF.out,N0 _ _,Blk.aR _ _ _⟩
 case round=>
  obtain⟨i,rfl,hi,rfl,K,D,J⟩:=hrel;clear HF
  by_cases Z:i<B.length
  ·have e0:decide ((i:Int)<(B.length:Int))=true:=by simp;omega
   rcases V with h0|⟨rg,rfl⟩
   ·omega
   obtain⟨d0,d1⟩:=(HR.out.aA D).cell i Z;obtain⟨hq,a2⟩:=a5.out B[i] (zG Z);rw[yA Z,List.find?_cons]at K;generalize B[i]=st at d0 d1 hq a2 K;obtain⟨sb,sq⟩:=st;simp only at d0 d1 hq a2 K;rcases a0 with h0|⟨mg,rfl⟩
   ·have:=W.out;omega
   have m0:=(HM.out.aA D).cellD sq (by rw[W.out];exact hq);have i0:(0:Int)<=(i:Int):=by omega
   have i1:(i:Int)<(B.length:Int):=by omega
   have q0:(0:Int)<=(sq:Int):=by omega
   have q1:(sq:Int)<(f.length:Int):=by have:=W.out;omega
   have zr:rg<wr.heap.size:=Q1 (HR.out.aA D) rg rfl;have zm:mg<wr.heap.size:=Q1 (HM.out.aA D) mg rfl;have a9:=J.lt;have M:Hid (Bw w wr/\Blk wr w.heap.size #[.string ⟨#[]⟩,.int .i64 0] 214):=⟨D,J⟩;clear D J;cases hmk:f.getD sq false with
   |true=>
    rw[hmk]at m0 K;have X:F=some ⟨sb,sq⟩:=K.symm;subst X;clear K hmk;go_wp2_with(first|refine SU (s:=⟨sb,sq⟩) rfl (.tmp 6) (.tmp 27) rfl w.heap.size rfl rfl (M.out.2.alloc _) rfl ?_);exact bodyPost_ret (G3 Tryz.results131 _ _ w.heap.size 214 #[.string (K1 [sb]),.int .i64 sq] (0,0) _ rfl ((M.out.2.alloc _).setRow _) Tryz.underlying214 rfl Tryz.dG) rfl ⟨rfl,I2 (M.out.1.alloc M.out.1.size _) (zD _) _⟩
   |false=>
    rw[hmk]at m0 K;have HF:=Hd K;clear K hmk;go_wp2_with fail
    go_roundg (B.length- (i+1))
    case measure=>omega
    case rel=>exact⟨i+1,by go_num,by omega,rfl,HF.out,M.out.1.alloc M.out.1.size _,M.out.2.alloc _⟩
  ·have e0:decide ((i:Int)<(B.length:Int))=false:=by simp;omega
   rw[yY (by omega)]at K;have X:F=none:=K.symm;subst X;have M:Hid (Bw w wr/\Blk wr w.heap.size #[.string ⟨#[]⟩,.int .i64 0] 214):=⟨D,J⟩;clear K D J;go_wp2_with(first|refine JL rfl (.tmp 6) (.tmp 29) rfl w.heap.size rfl rfl M.out.2 rfl ?_);exact bodyPost_ret (G3 Tryz.results131 _ _ w.heap.size 214 #[.string ⟨#[]⟩,.int .i64 0] (0,0) _ rfl (M.out.2.setRow _) Tryz.underlying214 rfl Tryz.dG) rfl ⟨rfl,I2 M.out.1 (zD _) _⟩
def G7(kd:Nat->Nat)(g:B0)(s:Nat):Nat->Nat->List Bool->List A7->List A7
  |0,_,_,aS=>aS
  |n+1,b,seen,aS=>
    if b<256 then
      (if X0 kd g (s:Int) (b:Int)= -1\/seen.getD (X0 kd g (s:Int) (b:Int)).toNat false=true then G7 kd g s n (b+1) seen aS
       else G7 kd g s n (b+1) (seen.set (X0 kd g (s:Int) (b:Int)).toNat true) (aS++ [⟨b,(X0 kd g (s:Int) (b:Int)).toNat⟩]))
    else aS
def U6(kd:Nat->Nat)(g:B0)(s:Nat):List A7:=G7 kd g s 257 0 (List.replicate g.aB.length false) []
theorem Tryz.gM:(Tryz.prog.info? 214).map (fun i=>(i.zero,i.size,i.bytes))=some (some (.agg #[.string ⟨#[]⟩,.int .i64 0]),2,24):=by kernel_rfl
def Da(kd:Nat->Nat)(g:B0):Prop:=∀s b,X0 kd g s b= -1\/(0<=X0 kd g s b/\X0 kd g s b<(g.aB.length:Int))
theorem Bn(f:Nat)(kd:Nat->Nat)(g:B0)(w:World)(h:W7 w f kd g):
  Calls Tryz.prog 23 #[.pointer (some ⟨f,0,none⟩)] w fun e w'=>e=.returned (.int .i64 (g.aB.length:Int))/\w'=w:=by
 obtain⟨G,D,B,J⟩:=h;have U:w.cell? ⟨f,256,none⟩=some G:=by rw[B.cell];exact Vp _ _ _
 have V:w.cell? ⟨f,257,none⟩=some D:=by rw[B.cell];exact Wp _ _ _
 obtain⟨M,K,rfl,_⟩:=J.aB.aV;clear B J;go_enter Tryz.func23,Tryz.ntmps23;go_wp2_with fail;go_ret;exact⟨rfl,rfl⟩
theorem RU(pb:Nat)(kd:Nat->Nat)(g:B0)(s:Nat)(w:World)(h:W7 w pb kd g)(ho:N7 kd g)(hi:Da kd g)(hl:g.aB.length<=50000):
  Calls Tryz.prog 130 #[.pointer (some ⟨pb,0,none⟩),.int .i64 s] w fun e w'=>∃v,e=.returned v/\P4 w' v (U6 kd g s)/\(∀b,v.ownBlock=some b->w.heap.size<=b)/\Bw w w':=by
 have HN:=Hd (fun(W:World) (hb:Bw w W) (b:Int)=>Of pb kd g (s:Int) b W (h.aA hb) ho);have ag:=Hd (fun(W:World) (hb:Bw w W)=>Bn pb kd g W (h.aA hb));have HI:=Hd hi;generalize K:U6 kd g s=X;unfold U6 at K;have HX:=Hd K;have aq:=A8 g.aB.length (by omega);clear h ho K hi;go_enter Tryz.func130,Tryz.ntmps130;go_wp2_with fail;refine(ag.out _ (N0 _ _)).mono ?_;rintro e w1 ⟨rfl,rfl⟩;go_wp2_with fail
 go_loopg[5,7] 257 (fun G sv bv wr=>∃(b:Nat) (seen:List Bool) (J:List A7),bv=.int .i64 b/\b<=256/\G=257-b/\seen.length=g.aB.length/\J.length<=b/\G7 kd g s G b seen J=X/\Bw w wr/\Blk wr (w.heap.size+1) (Z0 seen) 4/\P4 wr sv J/\(∀b,sv.ownBlock=some b->w.heap.size<=b/\b≠w.heap.size+1))
 case atStart=>
  refine⟨0,List.replicate g.aB.length false,[],rfl,by omega,rfl,by simp,by simp,HX.out,F6 _ _ _,Blk.dX _ _ _ _,?_,?_⟩
  ·exact J5 (cur:=#[]) (by rfl) ((Blk.aR w #[] 214).alloc _) (zD _) (by unfold maxLen;omega) rfl (by rfl)
  ·intro b e;cases(zE e:w.heap.size=b);omega
 case round=>
  obtain⟨b,seen,J,rfl,hb,rfl,af,ap,K,a5,hS,hA,hO⟩:=hrel;clear HX;obtain⟨Z,B,rfl,ah⟩:=hA.aV
  by_cases ab:b<256
  ·have e0:decide ((b:Int)<256)=true:=by simp;omega
   rw[show 257-b=(257- (b+1))+1 by omega]at K;unfold G7 at K;rw[if_pos ab]at K;have V:Hid (Bw w wr/\Blk wr (w.heap.size+1) (Z0 seen) 4/\P4 wr (.slice Z J.length B) J/\(∀b,(Value.slice Z J.length B).ownBlock=some b->w.heap.size<=b/\b≠w.heap.size+1)):=⟨a5,hS,hA,hO⟩;have a3:=Hd af;clear a5 hS hA hO af;go_wp2_with fail;refine(HN.out wr V.out.1 (b:Int)).mono ?_;rintro e w1 ⟨rfl,a4⟩;have a7:=HI.out (s:Int) (b:Int);generalize X0 kd g (s:Int) (b:Int)=q at K a7;have f:Hid (Bw w w1/\Blk w1 (w.heap.size+1) (Z0 seen) 4/\P4 w1 (.slice Z J.length B) J/\(∀b,(Value.slice Z J.length B).ownBlock=some b->w.heap.size<=b/\b≠w.heap.size+1)):=
    ⟨V.out.1.trans (a4.mono V.out.1.size),V.out.2.1.aA a4,V.out.2.2.1.aA a4,V.out.2.2.2⟩
   clear a4 V
   by_cases hq:q= -1
   ·rw[if_pos (.inl hq)]at K;have e1:(q != -1)=false:=by simp[hq]
    have HX:=Hd K;clear K a7 hq;go_wp2_with fail
    go_roundg (257- (b+1))
    case measure=>omega
    case rel=>exact⟨b+1,seen,J,by go_num,by omega,rfl,a3.out,by omega,HX.out,f.out.1,f.out.2.1,f.out.2.2.1,f.out.2.2.2⟩
   ·have e1:(q != -1)=true:=by simp[hq]
    obtain⟨j,rfl⟩:∃j:Nat,q=(j:Int):=⟨q.toNat,by omega⟩;have hj:j<g.aB.length:=by omega
    have c0:=P2 f.out.2.1 j (by rw[a3.out];exact hj);have f0:=f.out.2.1.frozen j;have j0:(0:Int)<=(j:Int):=by omega
    have j1:(j:Int)<(g.aB.length:Int):=by omega
    have zs:=f.out.2.1.lt;rw[zH]at K;clear a7;cases hsn:seen.getD j false with
    |true=>
     rw[hsn]at c0 K;rw[if_pos (.inr rfl)]at K;have HX:=Hd K;clear K hsn hq;go_wp2_with fail
     go_roundg (257- (b+1))
     case measure=>omega
     case rel=>exact⟨b+1,seen,J,by go_num,by omega,rfl,a3.out,by omega,HX.out,f.out.1,f.out.2.1,f.out.2.2.1,f.out.2.2.2⟩
    |false=>
     rw[hsn]at c0 K;rw[if_neg (by simp[hq])]at K;have HX:=Hd K;clear K hsn hq;obtain⟨U,a1⟩:∃U:World,w1.setCell ⟨w.heap.size+1,j,none⟩ (.bool true)=U:=⟨_,rfl⟩;have aa:C0 (fun x=>x=w.heap.size+1) w1 U:=by rw[<-a1];exact C0.setCell (ex:=fun x=>x=w.heap.size+1) (p:=⟨w.heap.size+1,j,none⟩) (C0.refl _ _) (fun _=>rfl) _
     have Y:Hid (Bw w U/\Blk U (w.heap.size+1) (Z0 (seen.set j true)) 4/\P4 U (.slice Z J.length B) J/\(∀b,(Value.slice Z J.length B).ownBlock=some b->w.heap.size<=b/\b≠w.heap.size+1)):=by
      refine⟨?_,?_,f.out.2.2.1.kept aa (fun b hb e=>(f.out.2.2.2 b hb).2 e),f.out.2.2.2⟩
      ·rw[<-a1];exact f.out.1.setCell (p:=⟨w.heap.size+1,j,none⟩) (by simp) _
      ·rw[<-a1,<-D4];exact f.out.2.1.set j _
     have ai:=Ac8 b (by omega) U;obtain⟨ii,aj,am,an,ao⟩:=info_parts Tryz.gM;have ae:P4 ((U.alloc (.cells #[.int .u8 (b:Int)] 5)).alloc (.cells #[.string (K1 [b]),.int .i64 j] 214)) (.slice Z J.length B) J:=Y.out.2.2.1.aA (F6 _ _ _);have a8:=Hd ae;have zz:=Y.out.1.size;have ar:=Y.out.2.1.lt;have ak:IntKind.u8.wrap (b:Int)=(b:Int):=by simp[IntKind.wrap,IntKind.bits,IntKind.signed];omega
     clear ae aa;go_upto_region 9 with fail
     try rw[a1]
     clear a1 f c0 f0 zs;go_wp2_with(at_builtin;(refine wpList_append_lies _ (by rfl) _ _ _ (by rfl) 0 214 ii _ 2 24 Tryz.underlying211 aj am an ao rfl (by omega) (.slice Z J.length B) J.length (Ti J) (by rfl) a8.out ⟨U.heap.size+1,0,none⟩ 1 1 [.string (K1 [b]),.int .i64 j] (by rfl) (by rfl) (World.news_of_block (cs:=#[.string (K1 [b]),.int .i64 j]) (t:=214) (fr:=(0,0)) (by have:=heap_alloc_new (U.alloc (.cells #[.int .u8 (b:Int)] 5)) (.cells #[.string (K1 [b]),.int .i64 j] 214);simpa using this)) (by simp[Value.oneCell']) (by omega) (by unfold maxLen;omega) (by omega) (by simp) (U.heap.size+1+1) (by simp) ?_));intro gg a9 w6 a0 D a6 ac;have M:C0 (fun x=>(Value.slice Z J.length B).ownBlock=some x) ((U.alloc (.cells #[.int .u8 (b:Int)] 5)).alloc (.cells #[.string (K1 [b]),.int .i64 j] 214)) w6:=⟨D.os,D.tape,D.output,D.size,fun k hk he=>D.block k hk (fun e=>he e.symm)⟩;have a2:Hid (Bw w w6/\Blk w6 (w.heap.size+1) (Z0 (seen.set j true)) 4/\P4 w6 (.slice (some ⟨gg,0,none⟩) (J.length+1) a9) (J++ [⟨b,j⟩])/\(w.heap.size<=gg/\gg≠w.heap.size+1)):=by
      obtain⟨h1,h2,h3,h4⟩:=Y.out;refine⟨?_,((h2.alloc _).alloc _).kept M (fun e=>(h4 _ e).2 rfl),?_,?_⟩
      ·have k1:Bw w ((U.alloc (.cells #[.int .u8 (b:Int)] 5)).alloc (.cells #[.string (K1 [b]),.int .i64 j] 214)):=(h1.alloc h1.size _).alloc (by simp;omega) _;exact k1.trans ⟨M.os,M.tape,M.output,M.size,fun x hx=>M.block x (by simp;omega) (fun e=>by have:=(h4 x e).1;omega)⟩
      ·unfold P4;rw[Qo,zL];exact a0
      ·rcases a6 with e|e
       ·exact h4 gg e
       ·omega
     clear M a0 D a6 ac a8 Y ai ak;go_wp2_with fail
     go_roundg (257- (b+1))
     case measure=>omega
     case rel=>
      refine⟨b+1,seen.set j true,J++ [⟨b,j⟩],by go_num,by omega,rfl,by simp[a3.out],by simp;omega,HX.out,a2.out.1,a2.out.2.1,?_,?_⟩
      ·have:=a2.out.2.2.1;simpa using this
      ·intro x e;cases(zE e:gg=x);exact a2.out.2.2.2
  ·have e0:decide ((b:Int)<256)=false:=by simp;omega
   have hx:J=X:=by
    rw[show 257-b=0+1 by omega]at K;unfold G7 at K;rw[if_neg ab]at K;exact K
   subst hx;have V:Hid (P4 wr (.slice Z J.length B) J/\(∀b,(Value.slice Z J.length B).ownBlock=some b->w.heap.size<=b/\b≠w.heap.size+1)/\Bw w wr):=⟨hA,hO,a5⟩;clear hA hO a5 K hS;go_wp2_with fail;go_ret;exact⟨_,rfl,V.out.1,fun b hb=>(V.out.2.1 b hb).1,V.out.2.2⟩
def Pc(g:B0)(n:Nat):List Bool:=(List.range n).map (fun(s:Nat)=>decide (M0 g (s:Int)≠ -1))
def U5(kd:Nat->Nat)(g:B0)(n:Nat):List (List A7):=(List.range n).map (fun(s:Nat)=>U6 kd g s)
def J0(kd:Nat->Nat)(g:B0):K9:=⟨Pc g g.aB.length,U5 kd g g.aB.length⟩
theorem ZG(kd:Nat->Nat)(g:B0)(n:Nat):U5 kd g (n+1)=U5 kd g n++ [U6 kd g n]:=by simp[U5,List.range_succ]
theorem G6(g:B0)(n:Nat):(Pc g n).length=n:=by simp[Pc]
theorem Z9(kd:Nat->Nat)(g:B0)(n:Nat):(U5 kd g n).length=n:=by simp[U5]
theorem Cz{w:World}{e:TypeId}{f n:Nat}{v:Value}{J:List Value}{b:Nat}(h:w.ownsRow 0 e f v n J)(B:v.ownBlock=some b):∃cur,Blk w b cur e:=by
 obtain⟨_,K,D,rfl,⟨rfl,_⟩|⟨g,cur,rfl,G,_⟩⟩:=P0 h
 ·simp[Value.ownBlock]at B
 ·cases(zE B:g=b);exact⟨cur,G⟩
theorem Vt{w:World}{e K:TypeId}{B f n X:Nat}{v M:Value}{Y J:List Value}(h:w.ownsRow 0 e B v n Y)(U:w.ownsRow 0 K f M X J)(G:e≠K):∀b,v.ownBlock=some b->¬M.ownBlock=some b:=fun b W D=>by
 obtain⟨cur,V⟩:=Cz h W;exact L0 U V G D
theorem Tryz.gL:(Tryz.prog.info? 4).map (fun i=>(i.zero,i.size,i.bytes))=some (some (.bool false),1,1):=by kernel_rfl
theorem Tryz.fV:(Tryz.prog.info? 211).map (fun i=>(i.zero,i.size,i.bytes))=some (some (.slice none 0 0),1,24):=by kernel_rfl
theorem RL(g:B0)(n:Nat):Pc g (n+1)=Pc g n++ [decide (M0 g (n:Int)≠ -1)]:=by simp[Pc,List.range_succ]
theorem DV(pb:Nat)(kd:Nat->Nat)(g:B0)(w:World)(h:W7 w pb kd g)(ho:N7 kd g)(hi:Da kd g)(hl:g.aB.length<=50000):
  Calls Tryz.prog 105 #[.pointer (some ⟨pb,0,none⟩)] w fun e w'=>∃wb,e=.returned (.pointer (some ⟨wb,0,none⟩))/\Bj w' wb (J0 kd g)/\Bw w w':=by
 have HR:=Hd (fun(W:World) (V:Bw w W) (st:Int)=>Ad pb kd g st W (h.aA V));have ak:=Hd (fun(W:World) (V:Bw w W)=>Bn pb kd g W (h.aA V));have az:=Hd (fun(W:World) (V:Bw w W) (s:Nat)=>RU pb kd g s W (h.aA V) ho hi hl);clear h ho hi;go_enter Tryz.func105,Tryz.ntmps105;go_wp2_with fail
 go_loopg[4] g.aB.length (fun G iv wr=>∃(i:Nat) (tv sv:Value),iv=.int .i64 i/\i<=g.aB.length/\G=g.aB.length-i/\Bw w wr/\Blk wr w.heap.size #[tv,sv] 189/\E6 wr tv (Pc g i)/\Hb wr sv (U5 kd g i)/\(∀b,tv.ownBlock=some b->w.heap.size<b)/\(∀b,sv.ownBlock=some b->w.heap.size<b))
 case atStart=>exact⟨0,.slice none 0 0,.slice none 0 0,rfl,by omega,rfl,N0 _ _,Blk.aR _ _ _,World.ownsRow_nil _ _ _ _,⟨[],World.ownsRow_nil _ _ _ _,rfl,fun i x Y=>by simp at Y⟩,fun b h=>by simp[Value.ownBlock]at h,fun b h=>by simp[Value.ownBlock]at h⟩
 case round=>
  obtain⟨i,tv,sv,rfl,hi,rfl,ae,hB,hT,hS,ac,ad⟩:=hrel
  by_cases bd:i<g.aB.length
  ·have e0:decide ((i:Int)<(g.aB.length:Int))=true:=by simp;omega
   obtain⟨td,M,rfl,_⟩:=hT.aV;obtain⟨sd,f,rfl,_⟩:=hS.aV;rw[G6]at hB hT ac;rw[Z9]at hB hS ad;have HH:Hid (Bw w wr/\Blk wr w.heap.size #[.slice td i M,.slice sd i f] 189/\E6 wr (.slice td i M) (Pc g i)/\Hb wr (.slice sd i f) (U5 kd g i)/\(∀b,(Value.slice td i M).ownBlock=some b->w.heap.size<b)/\(∀b,(Value.slice sd i f).ownBlock=some b->w.heap.size<b)):=⟨ae,hB,hT,hS,ac,ad⟩;clear ae hB hT hS ac ad;go_wp2_with fail;refine(ak.out wr HH.out.1).mono ?_;rintro e w0 ⟨rfl,rfl⟩;go_wp2_with fail;refine(HR.out w0 HH.out.1 (i:Int)).mono ?_;rintro e w1 ⟨rfl,rfl⟩;have af:=RL g i;have ai:(M0 g (i:Int) != -1)=decide (M0 g (i:Int)≠ -1):=by
    by_cases e:M0 g (i:Int)= -1
    ·simp[e]
    ·simp[e,bne]
   generalize M0 g (i:Int)=r at af ai;generalize b1:decide (r≠ -1)=br at af ai;have b0:=Hd af;obtain⟨ii,b2,b9,ba,bb⟩:=info_parts Tryz.gL;have a8:(w1.alloc (.cells #[.bool br] 4)).ownsRow 0 4 1 (.slice td i M) i ((Pc g i).map Value.bool):=by
    have h9:=HH.out.2.2.1.aA (N0 w1 (.cells #[.bool br] 4));unfold E6 at h9;rw[G6]at h9;exact h9
   have U:=Hd a8;have c0:=HH.out.2.1.cell 0;have f0:=HH.out.2.1.frozen 0;have zb:=HH.out.2.1.lt;clear a8 af b1;go_wp2_with(at_builtin;(refine wpList_append_lies _ (by rfl) _ _ _ (by rfl) 0 4 ii _ 1 1 Tryz.underlying143 b2 b9 ba bb rfl (by omega) (.slice td i M) i ((Pc g i).map Value.bool) (by rfl) U.out ⟨w1.heap.size,0,none⟩ 1 1 [.bool br] (by rfl) (by rfl) (World.news_of_block (cs:=#[.bool br]) (t:=4) (fr:=(0,0)) (by have:=heap_alloc_new w1 (.cells #[.bool br] 4);simpa using this)) (by simp[Value.oneCell']) (by omega) (by unfold maxLen;omega) (by omega) (by simp) (w1.heap.size+1) (by simp) ?_));intro gg B w6 a9 J ag aw;obtain⟨w7,ab⟩:∃w7:World,w6.setCell ⟨w.heap.size,0,none⟩ (.slice (some ⟨gg,0,none⟩) (i+1) B)=w7:=⟨_,rfl⟩;obtain⟨h1,h2,h3,h4,h5,h6⟩:=HH.out;have a0:C0 (fun x=>(Value.slice td i M).ownBlock=some x) (w1.alloc (.cells #[.bool br] 4)) w6:=⟨J.os,J.tape,J.output,J.size,fun k hk he=>J.block k hk (fun e=>he e.symm)⟩;have a4:Blk w6 w.heap.size #[.slice td i M,.slice sd i f] 189:=(h2.alloc _).kept a0 (fun e=>by have:=h5 _ e;omega);have am:Hb w6 (.slice sd i f) (U5 kd g i):=by
    have h9:=h4.aA (N0 w1 (.cells #[.bool br] 4));obtain⟨vs,g1,g2,g3⟩:=h9;exact⟨vs,K0 g1 a0 (Vt g1 U.out (by decide)),g2,fun k x Y=>(g3 k x Y).kept a0 (Vt (g3 k x Y) U.out (by decide))⟩
   have ao:E6 w6 (.slice (some ⟨gg,0,none⟩) (i+1) B) (Pc g (i+1)):=by
    unfold E6;rw[b0.out,zV,zL,G6];exact a9
   have au:w.heap.size<gg:=by
    rcases ag with e|e
    ·exact h5 gg e
    ·omega
   have aq:Bw w w6:=by
    have k1:Bw w (w1.alloc (.cells #[.bool br] 4)):=h1.alloc h1.size _;exact k1.trans ⟨a0.os,a0.tape,a0.output,a0.size,fun x Y=>a0.block x (by have:=k1.size;omega) (fun e=>by have:=h5 x e;omega)⟩
   have ks:C0 (fun x=>x=w.heap.size) w6 w7:=by rw[<-ab];exact C0.setCell (ex:=fun x=>x=w.heap.size) (p:=⟨w.heap.size,0,none⟩) (C0.refl _ _) (fun _=>rfl) _
   have Z:Hid (Bw w w7/\Blk w7 w.heap.size #[.slice (some ⟨gg,0,none⟩) (i+1) B,.slice sd i f] 189/\E6 w7 (.slice (some ⟨gg,0,none⟩) (i+1) B) (Pc g (i+1))/\Hb w7 (.slice sd i f) (U5 kd g i)/\w.heap.size<gg/\(∀b,(Value.slice sd i f).ownBlock=some b->w.heap.size<b)):=by
    refine⟨by rw[<-ab];exact aq.setCell (p:=⟨w.heap.size,0,none⟩) (zD _) _,by rw[<-ab];exact a4.set 0 _,ao.kept ks (fun b V e=>by cases(zE V:gg=b);omega),?_,au,h6⟩;obtain⟨vs,g1,g2,g3⟩:=am;refine⟨vs,K0 g1 ks (fun b V e=>by have:=h6 b V;omega),g2,fun k x Y=>(g3 k x Y).kept ks (fun b V e=>?_)⟩;subst e;obtain⟨cur,a7⟩:=Cz (g3 k x Y) V;have:=(a7.bX a4).2
    revert this
    decide
   have c6:=a4.cell 0;have f6:=a4.frozen 0;have z6:=a4.lt;clear h1 h2 h3 h4 h5 h6 a0 a4 am ao au aq ks a9 J ag aw U HH c0 f0;go_upto_region 7 with fail
   try rw[ab]
   clear ab c6 f6;go_wp2_with fail;refine(az.out w7 Z.out.1 i).mono ?_;rintro e w8 ⟨nv,rfl,aj,b5,a6⟩;obtain⟨nd,D,rfl,_⟩:=aj.aV;have a2:Hid (Bw w w8/\Blk w8 w.heap.size #[.slice (some ⟨gg,0,none⟩) (i+1) B,.slice sd i f] 189/\E6 w8 (.slice (some ⟨gg,0,none⟩) (i+1) B) (Pc g (i+1))/\Hb w8 (.slice sd i f) (U5 kd g i)/\w.heap.size<gg/\(∀b,(Value.slice sd i f).ownBlock=some b->w.heap.size<b)/\P4 w8 (.slice nd (U6 kd g i).length D) (U6 kd g i)):=
    ⟨Z.out.1.trans (a6.mono Z.out.1.size),Z.out.2.1.aA a6,Z.out.2.2.1.aA a6,Z.out.2.2.2.1.aA a6,Z.out.2.2.2.2.1,Z.out.2.2.2.2.2,aj⟩
   clear aj b5 a6 Z;obtain⟨vs,g1,g2,g3⟩:=a2.out.2.2.2.1;obtain⟨ij,b3,b6,b7,b8⟩:=info_parts Tryz.fV;have a8:(w8.alloc (.cells #[.slice nd (U6 kd g i).length D] 211)).ownsRow 0 211 1 (.slice sd i f) i vs:=by
    have h9:=K0 (ex:=fun _=>False) g1 (C0.aM (N0 w8 (.cells #[.slice nd (U6 kd g i).length D] 211))) (fun _ _ e=>e);rw[Z9]at h9;exact h9
   have U:=Hd a8;have a3:Hid (vs.length=i/\∀k x,vs[k]?=some x->P4 w8 x ((U5 kd g i).getD k [])):=⟨by rw[Z9]at g2;exact g2,g3⟩;have c1:=a2.out.2.1.cell 1;have f1:=a2.out.2.1.frozen 1;have z8:=a2.out.2.1.lt;clear a8 g1 g2 g3;go_wp2_with(at_builtin;(refine wpList_append_lies _ (by rfl) _ _ _ (by rfl) 0 211 ij _ 1 24 Tryz.underlying187 b3 b6 b7 b8 rfl (by omega) (.slice sd i f) i vs (by rfl) U.out ⟨w8.heap.size,0,none⟩ 1 1 [.slice nd (U6 kd g i).length D] (by rfl) (by rfl) (World.news_of_block (cs:=#[.slice nd (U6 kd g i).length D]) (t:=211) (fr:=(0,0)) (by have:=heap_alloc_new w8 (.cells #[.slice nd (U6 kd g i).length D] 211);simpa using this)) (by simp[Value.oneCell']) (by omega) (by unfold maxLen;omega) (by omega) (by simp) (w8.heap.size+1) (by simp) ?_));intro gs a1 w9 aa K ah ax;obtain⟨h1,h2,h3,h4,h5,h6,h7⟩:=a2.out;have X:C0 (fun x=>(Value.slice sd i f).ownBlock=some x) (w8.alloc (.cells #[.slice nd (U6 kd g i).length D] 211)) w9:=⟨K.os,K.tape,K.output,K.size,fun k hk he=>K.block k hk (fun e=>he e.symm)⟩;have a5:Blk w9 w.heap.size #[.slice (some ⟨gg,0,none⟩) (i+1) B,.slice sd i f] 189:=(h2.alloc _).kept X (fun e=>by have:=h6 _ e;omega);have ap:E6 w9 (.slice (some ⟨gg,0,none⟩) (i+1) B) (Pc g (i+1)):=(h3.aA (N0 _ _)).kept X (Vt (h3.aA (N0 _ _)) U.out (by decide));have an:Hb w9 (.slice (some ⟨gs,0,none⟩) (i+1) a1) (U5 kd g (i+1)):=by
    refine⟨vs++ [.slice nd (U6 kd g i).length D],by rw[Z9];exact aa,by rw[Z9];simp[a3.out.1],fun k x Y=>?_⟩;rw[ZG]
    by_cases e:k<i
    ·rw[zR (by rw[a3.out.1];exact e)]at Y;have e9:(U5 kd g i++ [U6 kd g i]).getD k []=(U5 kd g i).getD k []:=by rw[zC,zR (by rw[Z9];exact e),<-zC]
     rw[e9];have h8:=(a3.out.2 k x Y).aA (N0 w8 (.cells #[.slice nd (U6 kd g i).length D] 211));exact h8.kept X (Vt h8 U.out (by decide))
    ·rw[zY (by rw[a3.out.1];omega),a3.out.1]at Y;have b4:k=i:=by
      rcases yE (k-i) 1 with e2|e2
      ·omega
      ·rw[yJ (by simpa using e2)]at Y;cases Y
     subst b4;simp only[yS,List.getElem?_cons_zero,Option.some.injEq]at Y;subst Y;have e9:(U5 kd g k++ [U6 kd g k]).getD k []=U6 kd g k:=by rw[zC,zY (by rw[Z9];omega),Z9];simp
     rw[e9];have h8:=h7.aA (N0 w8 (.cells #[.slice nd (U6 kd g k).length D] 211));exact h8.kept X (Vt h8 U.out (by decide))
   have av:w.heap.size<gs:=by
    rcases ah with e|e
    ·exact h6 gs e
    ·omega
   have ar:Bw w w9:=by
    have k1:Bw w (w8.alloc (.cells #[.slice nd (U6 kd g i).length D] 211)):=h1.alloc h1.size _;exact k1.trans ⟨X.os,X.tape,X.output,X.size,fun x Y=>X.block x (by have:=k1.size;omega) (fun e=>by have:=h6 x e;omega)⟩
   have ay:Hid (Bw w w9/\Blk w9 w.heap.size #[.slice (some ⟨gg,0,none⟩) (i+1) B,.slice sd i f] 189/\E6 w9 (.slice (some ⟨gg,0,none⟩) (i+1) B) (Pc g (i+1))/\Hb w9 (.slice (some ⟨gs,0,none⟩) (i+1) a1) (U5 kd g (i+1))/\w.heap.size<gg/\w.heap.size<gs):=⟨ar,a5,ap,an,h5,av⟩;have c9:=a5.cell 1;have f9:=a5.frozen 1;have z9:=a5.lt;clear h1 h2 h3 h4 h5 h6 h7 X a5 ap an av ar aa K ah ax U a2 c1 f1 a3;go_wp2_with fail
   go_roundg (g.aB.length- (i+1))
   case measure=>omega
   case rel=>
    obtain⟨h1,h2,h3,h4,h5,h6⟩:=ay.out;have ks:C0 (fun x=>x=w.heap.size) w9 (w9.setCell ⟨w.heap.size,1,none⟩ (.slice (some ⟨gs,0,none⟩) (i+1) a1)):=C0.setCell (ex:=fun x=>x=w.heap.size) (p:=⟨w.heap.size,1,none⟩) (C0.refl _ _) (fun _=>rfl) _;refine⟨i+1,.slice (some ⟨gg,0,none⟩) (i+1) B,.slice (some ⟨gs,0,none⟩) (i+1) a1,by go_num,by omega,rfl,h1.setCell (p:=⟨w.heap.size,1,none⟩) (zD _) _,h2.set 1 _,h3.kept ks (fun b V e=>by cases(zE V:gg=b);omega),?_,fun b V=>by cases(zE V:gg=b);exact h5,fun b V=>by cases(zE V:gs=b);exact h6⟩;obtain⟨bc,g1,g2,g3⟩:=h4;refine⟨bc,K0 g1 ks (fun b V e=>by cases(zE V:gs=b);omega),g2,fun k x Y=>(g3 k x Y).kept ks (fun b V e=>?_)⟩;subst e;obtain⟨cur,a7⟩:=Cz (g3 k x Y) V;have:=(a7.bX h2).2
    revert this
    decide
  ·have e0:decide ((i:Int)<(g.aB.length:Int))=false:=by simp;omega
   obtain rfl:i=g.aB.length:=by omega
   have HH:Hid (Bw w wr/\Blk wr w.heap.size #[tv,sv] 189/\E6 wr tv (Pc g g.aB.length)/\Hb wr sv (U5 kd g g.aB.length)):=⟨ae,hB,hT,hS⟩;clear ae hB hT hS ac ad;go_wp2_with fail;refine(ak.out wr HH.out.1).mono ?_;rintro e w0 ⟨rfl,rfl⟩;go_wp2_with fail;go_ret;exact⟨w.heap.size,rfl,⟨tv,sv,HH.out.2.1,HH.out.2.2.1,HH.out.2.2.2⟩,HH.out.1⟩
end Go.Proofs.YtcckhngbdoiikabGreat
