import Derived.Test.YtcckhngbdoiikaaGreatS23
import Derived.Test.YtcckhngbdoiikaaGreatS39
set_option maxRecDepth 20000
set_option maxHeartbeats 12800000
set_option linter.unusedVariables false
namespace Go.Proofs.YtcckhngbdoiikaaGreat
open Go.RowKit Go.Deep
structure Q7 where
 b:Nat
 q:Nat
 deriving DecidableEq,Inhabited
def Ii:List Q7->List Value
 | []=>[]
 |x::r=>.string (K1 [x.b])::.int .i64 (x.q:Int)::Ii r
theorem Wn:∀l m:List Q7,Ii (l++m)=Ii l++Ii m
 | [],m=>rfl
 |s::r,m=>by simp[Ii,Wn r m]
theorem Az:∀(l:List Q7) (k:Nat) (h:k<l.length),(Ii l)[k*2]?=some (.string (K1 [l[k].b]))/\(Ii l)[k*2+1]?=some (.int .i64 (l[k].q:Int))
 |s::r,0,_=>⟨rfl,rfl⟩
 |s::r,k+1,h=>by
  rw[show(k+1)*2=k*2+1+1 by omega];simp only[Ii,List.getElem?_cons_succ,List.getElem_cons_succ];exact Az r k (by simpa using h)
def L4(w:World)(v:Value)(l:List Q7):Prop:=w.ownsRow 0 186 2 v l.length (Ii l)
theorem L4.kept{w w':World}{v:Value}{l:List Q7}{ex:Nat->Prop}(h:L4 w v l)(k:C0 ex w w')(f:∀b,v.ownBlock=some b->¬ex b):L4 w' v l:=J0 h k f
theorem L4.aA{w w':World}{v:Value}{l:List Q7}(h:L4 w v l)(k:Bw w w'):L4 w' v l:=h.kept (ex:=fun _=>False) (C0.aM k) (fun _ _ e=>e)
theorem L4.aT{w:World}{v:Value}{l:List Q7}(h:L4 w v l):∃(B:Option Addr) (f:Nat),v=.slice B l.length f/\(l.length=0\/∃g,B=some ⟨g,0,none⟩):=by
 obtain⟨_,B,f,rfl,⟨_,h⟩|⟨g,_,rfl,_⟩⟩:=L0 h
 ·exact⟨B,f,rfl,.inl h⟩
 ·exact⟨_,f,rfl,.inr ⟨g,rfl⟩⟩
theorem L4.cell{w:World}{l:List Q7}{g f:Nat}(h:L4 w (.slice (some ⟨g,0,none⟩) l.length f) l)(k:Nat)(G:k<l.length):w.cell? ⟨g,k*2,none⟩=some (.string (K1 [l[k].b]))/\w.cell? ⟨g,k*2+1,none⟩=some (.int .i64 (l[k].q:Int)):=by
 obtain⟨B,D⟩:=Az l k G;exact⟨(Y0 h (k*2) (by omega)).trans B,(Y0 h (k*2+1) (by omega)).trans D⟩
def F8(w:World)(h:TypeId)(P:World->Value->Nat->Prop)(v:Value)(n:Nat):Prop:=∃f:List Value,w.ownsRow 0 h 1 v n f/\f.length=n/\∀i x,f[i]?=some x->P w x i
theorem F8.aT{w:World}{D:TypeId}{P:World->Value->Nat->Prop}{v:Value}{n:Nat}(h:F8 w D P v n):∃(B:Option Addr) (f:Nat),v=.slice B n f/\(n=0\/∃g,B=some ⟨g,0,none⟩):=by
 obtain⟨G,h,_⟩:=h;obtain⟨_,B,f,rfl,⟨_,h⟩|⟨g,_,rfl,_⟩⟩:=L0 h
 ·exact⟨B,f,rfl,.inl h⟩
 ·exact⟨_,f,rfl,.inr ⟨g,rfl⟩⟩
theorem F8.cell{w:World}{K:TypeId}{P:World->Value->Nat->Prop}{g f n:Nat}(h:F8 w K P (.slice (some ⟨g,0,none⟩) n f) n)(i:Nat)(U:i<n):∃x,w.cell? ⟨g,i,none⟩=some x/\P w x i:=by
 obtain⟨B,G,M,J⟩:=h;have D:B[i]?=some B[i]:=zF (by omega);exact⟨B[i],by rw[Y0 G i (by omega)];exact D,J i _ D⟩
theorem F8.kept{w w':World}{f:TypeId}{P:World->Value->Nat->Prop}{v:Value}{n:Nat}{ex:Nat->Prop}(h:F8 w f P v n)(k:C0 ex w w')(K:∀b,v.ownBlock=some b->¬ex b)(J:∀x i,P w x i->P w' x i):F8 w' f P v n:=by
 obtain⟨U,B,D,G⟩:=h;exact⟨U,J0 B k K,D,fun i x M=>J x i (G i x M)⟩
theorem F8.aA{w w':World}{f:TypeId}{P:World->Value->Nat->Prop}{v:Value}{n:Nat}(h:F8 w f P v n)(k:Bw w w')(B:∀x i,P w x i->P w' x i):F8 w' f P v n:=
 h.kept (ex:=fun _=>False) (C0.aM k) (fun _ _ e=>e) B
def Ya(w:World)(v:Value)(ll:List (List Q7)):Prop:=F8 w 183 (fun w x i=>L4 w x (ll.getD i [])) v ll.length
def Q5(w:World)(v:Value)(ll:List (List Bool)):Prop:=F8 w 130 (fun w x i=>Y5 w x (ll.getD i [])) v ll.length
theorem Ya.aA{w w':World}{v:Value}{ll:List (List Q7)}(h:Ya w v ll)(k:Bw w w'):Ya w' v ll:=F8.aA h k (fun x i f=>L4.aA f k)
theorem Q5.aA{w w':World}{v:Value}{ll:List (List Bool)}(h:Q5 w v ll)(k:Bw w w'):Q5 w' v ll:=F8.aA h k (fun x i f=>Y5.aA f k)
structure T9 where
 aF:List Bool
 aY:List (List Q7)
structure Si(w:World)(wb:Nat)(x:T9):Prop where
 ex:∃tv sv,Blk w wb #[tv,sv] 145/\Y5 w tv x.aF/\Ya w sv x.aY
theorem Si.aA{w w':World}{wb:Nat}{x:T9}(h:Si w wb x)(k:Bw w w'):Si w' wb x:=by
 obtain⟨J,G,f,B,D⟩:=h.ex;exact⟨J,G,f.aA k,B.aA k,D.aA k⟩
structure Ti(x:T9):Prop where
 len:x.aY.length=x.aF.length
 cY:∀l∈x.aY,∀s∈l,s.q<x.aF.length/\s.b<256
 bV:∀l∈x.aY,l.length<=256
 dW:x.aF.length<=100000
def Wg(l:List Q7)(f:List Bool):Option Q7:=l.find? (fun s=>f.getD s.q false)
def MY(s:Q7):Value:=.agg #[.string (K1 [s.b]),.int .i64 (s.q:Int)]
def CO:Value:=.agg #[.string ⟨#[]⟩,.int .i64 0]
def TU:Option Q7->Value
 |none=>.tuple #[CO,.bool false]
 |some s=>.tuple #[MY s,.bool true]
theorem Tryz.dF:(Tryz.prog.info? 186).map (·.size)=some 2:=by kernel_rfl
theorem GS{s:Q7}{D:Array Oper}{rest:List Oper}{o:Oper}{a:Act}{w:World}{Q:Exit->Act->World->Prop}(G:o.guard=none)(p q:Operand)(K:o.op=.store 186 p q)
  (g:Nat) (M:a.eval p=.pointer (some ⟨g,0,none⟩)) (U:a.eval q=MY s) {B:Array Value} (J:Blk w g B 186) (f:B.size=2)
  (h:wpList Tryz.prog D Q rest (a.put o.dst undef) (w.setRow g #[.string (K1 [s.b]),.int .i64 (s.q:Int)])):wpList Tryz.prog D Q (o::rest) a w:=
 wpList_store_row G 186 p q K g _ M U 186 _ J Tryz.dF f (by simp[Value.oneCell']) h
theorem KJ{D:Array Oper}{rest:List Oper}{o:Oper}{a:Act}{w:World}{Q:Exit->Act->World->Prop}(G:o.guard=none)(p q:Operand)(K:o.op=.store 186 p q)
  (g:Nat) (M:a.eval p=.pointer (some ⟨g,0,none⟩)) (U:a.eval q=CO) {B:Array Value} (J:Blk w g B 186) (f:B.size=2)
  (h:wpList Tryz.prog D Q rest (a.put o.dst undef) (w.setRow g #[.string ⟨#[]⟩,.int .i64 0])):wpList Tryz.prog D Q (o::rest) a w:=
 wpList_store_row G 186 p q K g _ M U 186 _ J Tryz.dF f (by simp[Value.oneCell']) h
theorem Mx(wb:Nat)(x:T9)(k:Nat)(mv:Value)(f:List Bool)(w:World)(h:Si w wb x)(ho:Ti x)(hk:k<x.aY.length)(hm:Y5 w mv f)(a3:f.length=x.aF.length):
  Calls Tryz.prog 102 #[.pointer (some ⟨wb,0,none⟩),.int .i64 k,mv] w fun e w'=>e=.returned (TU (Wg (x.aY.getD k []) f))/\Bw w w':=by
 obtain⟨tv,sv,hb,ht,hs⟩:=h.ex;obtain⟨sd,a4,rfl,a1⟩:=hs.aT;rcases a1 with h0|⟨sg,rfl⟩
 ·omega
 obtain⟨rv,c1,hr⟩:=hs.cell k hk;have c0:w.cell? ⟨wb,1,none⟩=some (.slice (some ⟨sg,0,none⟩) x.aY.length a4):=hb.cell 1;obtain⟨rd,a8,rfl,V⟩:=hr.aT;obtain⟨md,a7,rfl,a0⟩:=hm.aT;have U:x.aY.getD k []∈x.aY:=by rw[zC,zF hk];exact zG hk
 have Y:=ho.cY _ U;have a6:=ho.bV _ U;have aa:=ho.dW;generalize x.aY.getD k []=B at hr Y a6 c1 V;have k0:(0:Int)<=(k:Int):=by omega
 have k1:(k:Int)<(x.aY.length:Int):=by omega
 have zb:=hb.lt;have zs:sg<w.heap.size:=by obtain⟨vs,h9,_⟩:=hs;exact M1 h9 sg rfl
 generalize hF:Wg B f=F;unfold Wg at hF;have HF:=Hd hF;have HR:=Hd hr;have HM:=Hd hm;have a5:=Hd Y;have W:=Hd a3;clear hb ht hs h ho U hF hr hm Y a3;go_enter Tryz.func102,Tryz.ntmps102;go_wp2_with fail
 go_loopg[18] B.length (fun G iv wr=>∃i:Nat,iv=.int .i64 i/\i<=B.length/\G=B.length-i/\(B.drop i).find? (fun s=>f.getD s.q false)=F/\Bw w wr/\Blk wr w.heap.size #[.string ⟨#[]⟩,.int .i64 0] 186)
 case atStart=>exact⟨0,rfl,by omega,rfl,HF.out,P0 _ _,Blk.aQ _ _ _⟩
 case round=>
  obtain⟨i,rfl,hi,rfl,K,D,J⟩:=hrel;clear HF
  by_cases Z:i<B.length
  ·have e0:decide ((i:Int)<(B.length:Int))=true:=by simp;omega
   rcases V with h0|⟨rg,rfl⟩
   ·omega
   obtain⟨d0,d1⟩:=(HR.out.aA D).cell i Z;obtain⟨hq,a2⟩:=a5.out B[i] (zG Z);rw[zY Z,List.find?_cons]at K;generalize B[i]=st at d0 d1 hq a2 K;obtain⟨sb,sq⟩:=st;simp only at d0 d1 hq a2 K;rcases a0 with h0|⟨mg,rfl⟩
   ·have:=W.out;omega
   have m0:=(HM.out.aA D).cellD sq (by rw[W.out];exact hq);have i0:(0:Int)<=(i:Int):=by omega
   have i1:(i:Int)<(B.length:Int):=by omega
   have q0:(0:Int)<=(sq:Int):=by omega
   have q1:(sq:Int)<(f.length:Int):=by have:=W.out;omega
   have zr:rg<wr.heap.size:=M1 (HR.out.aA D) rg rfl;have zm:mg<wr.heap.size:=M1 (HM.out.aA D) mg rfl;have a9:=J.lt;have M:Hid (Bw w wr/\Blk wr w.heap.size #[.string ⟨#[]⟩,.int .i64 0] 186):=⟨D,J⟩;clear D J;cases hmk:f.getD sq false with
   |true=>
    rw[hmk]at m0 K;have X:F=some ⟨sb,sq⟩:=K.symm;subst X;clear K hmk;go_wp2_with(first|refine GS (s:=⟨sb,sq⟩) rfl (.tmp 6) (.tmp 27) rfl w.heap.size rfl rfl (M.out.2.alloc _) rfl ?_);exact bodyPost_ret (C3 Tryz.results102 _ _ w.heap.size 186 #[.string (K1 [sb]),.int .i64 sq] (0,0) _ rfl ((M.out.2.alloc _).setRow _) Tryz.underlying186 rfl Tryz.dF) rfl ⟨rfl,I2 (M.out.1.alloc M.out.1.size _) (zD _) _⟩
   |false=>
    rw[hmk]at m0 K;have HF:=Hd K;clear K hmk;go_wp2_with fail
    go_roundg (B.length- (i+1))
    case measure=>omega
    case rel=>exact⟨i+1,by go_num,by omega,rfl,HF.out,M.out.1.alloc M.out.1.size _,M.out.2.alloc _⟩
  ·have e0:decide ((i:Int)<(B.length:Int))=false:=by simp;omega
   rw[xF (by omega)]at K;have X:F=none:=K.symm;subst X;have M:Hid (Bw w wr/\Blk wr w.heap.size #[.string ⟨#[]⟩,.int .i64 0] 186):=⟨D,J⟩;clear K D J;go_wp2_with(first|refine KJ rfl (.tmp 6) (.tmp 29) rfl w.heap.size rfl rfl M.out.2 rfl ?_);exact bodyPost_ret (C3 Tryz.results102 _ _ w.heap.size 186 #[.string ⟨#[]⟩,.int .i64 0] (0,0) _ rfl (M.out.2.setRow _) Tryz.underlying186 rfl Tryz.dF) rfl ⟨rfl,I2 M.out.1 (zD _) _⟩
def A7(kd:Nat->Nat)(g:B0)(s:Nat):Nat->Nat->List Bool->List Q7->List Q7
  |0,_,_,aR=>aR
  |n+1,b,seen,aR=>
    if b<256 then
      (if X0 kd g (s:Int) (b:Int)= -1\/seen.getD (X0 kd g (s:Int) (b:Int)).toNat false=true then A7 kd g s n (b+1) seen aR
       else A7 kd g s n (b+1) (seen.set (X0 kd g (s:Int) (b:Int)).toNat true) (aR++ [⟨b,(X0 kd g (s:Int) (b:Int)).toNat⟩]))
    else aR
def R6(kd:Nat->Nat)(g:B0)(s:Nat):List Q7:=A7 kd g s 257 0 (List.replicate g.aB.length false) []
theorem Tryz.gF:(Tryz.prog.info? 186).map (fun i=>(i.zero,i.size,i.bytes))=some (some (.agg #[.string ⟨#[]⟩,.int .i64 0]),2,24):=by kernel_rfl
def X9(kd:Nat->Nat)(g:B0):Prop:=∀s b,X0 kd g s b= -1\/(0<=X0 kd g s b/\X0 kd g s b<(g.aB.length:Int))
theorem Jm(f:Nat)(kd:Nat->Nat)(g:B0)(w:World)(h:A9 w f kd g):
  Calls Tryz.prog 20 #[.pointer (some ⟨f,0,none⟩)] w fun e w'=>e=.returned (.int .i64 (g.aB.length:Int))/\w'=w:=by
 obtain⟨G,D,B,J⟩:=h;have U:w.cell? ⟨f,256,none⟩=some G:=by rw[B.cell];exact Cp _ _ _
 have V:w.cell? ⟨f,257,none⟩=some D:=by rw[B.cell];exact Dp _ _ _
 obtain⟨M,K,rfl,_⟩:=J.aB.aT;clear B J;go_enter Tryz.func20,Tryz.ntmps20;go_wp2_with fail;go_ret;exact⟨rfl,rfl⟩
theorem FS(pb:Nat)(kd:Nat->Nat)(g:B0)(s:Nat)(w:World)(h:A9 w pb kd g)(ho:B8 kd g)(hi:X9 kd g)(hl:g.aB.length<=50000):
  Calls Tryz.prog 101 #[.pointer (some ⟨pb,0,none⟩),.int .i64 s] w fun e w'=>∃v,e=.returned v/\L4 w' v (R6 kd g s)/\(∀b,v.ownBlock=some b->w.heap.size<=b)/\Bw w w':=by
 have HN:=Hd (fun(W:World) (hb:Bw w W) (b:Int)=>Ki pb kd g (s:Int) b W (h.aA hb) ho);have ag:=Hd (fun(W:World) (hb:Bw w W)=>Jm pb kd g W (h.aA hb));have HI:=Hd hi;generalize K:R6 kd g s=X;unfold R6 at K;have HX:=Hd K;have aq:=U7 g.aB.length (by omega);clear h ho K hi;go_enter Tryz.func101,Tryz.ntmps101;go_wp2_with fail;refine(ag.out _ (P0 _ _)).mono ?_;rintro e w1 ⟨rfl,rfl⟩;go_wp2_with fail
 go_loopg[5,7] 257 (fun G sv bv wr=>∃(b:Nat) (seen:List Bool) (J:List Q7),bv=.int .i64 b/\b<=256/\G=257-b/\seen.length=g.aB.length/\J.length<=b/\A7 kd g s G b seen J=X/\Bw w wr/\Blk wr (w.heap.size+1) (Z0 seen) 4/\L4 wr sv J/\(∀b,sv.ownBlock=some b->w.heap.size<=b/\b≠w.heap.size+1))
 case atStart=>
  refine⟨0,List.replicate g.aB.length false,[],rfl,by omega,rfl,by simp,by simp,HX.out,Z5 _ _ _,Blk.dX _ _ _ _,?_,?_⟩
  ·exact D5 (cur:=#[]) (by rfl) ((Blk.aQ w #[] 186).alloc _) (zD _) (by unfold maxLen;omega) rfl (by rfl)
  ·intro b e;cases(zE e:w.heap.size=b);omega
 case round=>
  obtain⟨b,seen,J,rfl,hb,rfl,af,ap,K,a5,hS,hA,hO⟩:=hrel;clear HX;obtain⟨Z,B,rfl,ah⟩:=hA.aT
  by_cases ab:b<256
  ·have e0:decide ((b:Int)<256)=true:=by simp;omega
   rw[show 257-b=(257- (b+1))+1 by omega]at K;unfold A7 at K;rw[if_pos ab]at K;have V:Hid (Bw w wr/\Blk wr (w.heap.size+1) (Z0 seen) 4/\L4 wr (.slice Z J.length B) J/\(∀b,(Value.slice Z J.length B).ownBlock=some b->w.heap.size<=b/\b≠w.heap.size+1)):=⟨a5,hS,hA,hO⟩;have a3:=Hd af;clear a5 hS hA hO af;go_wp2_with fail;refine(HN.out wr V.out.1 (b:Int)).mono ?_;rintro e w1 ⟨rfl,a4⟩;have a7:=HI.out (s:Int) (b:Int);generalize X0 kd g (s:Int) (b:Int)=q at K a7;have f:Hid (Bw w w1/\Blk w1 (w.heap.size+1) (Z0 seen) 4/\L4 w1 (.slice Z J.length B) J/\(∀b,(Value.slice Z J.length B).ownBlock=some b->w.heap.size<=b/\b≠w.heap.size+1)):=
    ⟨V.out.1.trans (a4.mono V.out.1.size),V.out.2.1.aA a4,V.out.2.2.1.aA a4,V.out.2.2.2⟩
   clear a4 V
   by_cases hq:q= -1
   ·rw[if_pos (.inl hq)]at K;have e1:(q != -1)=false:=by simp[hq]
    have HX:=Hd K;clear K a7 hq;go_wp2_with fail
    go_roundg (257- (b+1))
    case measure=>omega
    case rel=>exact⟨b+1,seen,J,by go_num,by omega,rfl,a3.out,by omega,HX.out,f.out.1,f.out.2.1,f.out.2.2.1,f.out.2.2.2⟩
   ·have e1:(q != -1)=true:=by simp[hq]
    obtain⟨j,rfl⟩:∃j:Nat,q=(j:Int):=⟨q.toNat,by omega⟩;have hj:j<g.aB.length:=by omega
    have c0:=N2 f.out.2.1 j (by rw[a3.out];exact hj);have f0:=f.out.2.1.frozen j;have j0:(0:Int)<=(j:Int):=by omega
    have j1:(j:Int)<(g.aB.length:Int):=by omega
    have zs:=f.out.2.1.lt;rw[zH]at K;clear a7;cases hsn:seen.getD j false with
    |true=>
     rw[hsn]at c0 K;rw[if_pos (.inr rfl)]at K;have HX:=Hd K;clear K hsn hq;go_wp2_with fail
     go_roundg (257- (b+1))
     case measure=>omega
     case rel=>exact⟨b+1,seen,J,by go_num,by omega,rfl,a3.out,by omega,HX.out,f.out.1,f.out.2.1,f.out.2.2.1,f.out.2.2.2⟩
    |false=>
     rw[hsn]at c0 K;rw[if_neg (by simp[hq])]at K;have HX:=Hd K;clear K hsn hq;obtain⟨U,a1⟩:∃U:World,w1.setCell ⟨w.heap.size+1,j,none⟩ (.bool true)=U:=⟨_,rfl⟩;have aa:C0 (fun x=>x=w.heap.size+1) w1 U:=by rw[<-a1];exact C0.setCell (ex:=fun x=>x=w.heap.size+1) (p:=⟨w.heap.size+1,j,none⟩) (C0.refl _ _) (fun _=>rfl) _
     have Y:Hid (Bw w U/\Blk U (w.heap.size+1) (Z0 (seen.set j true)) 4/\L4 U (.slice Z J.length B) J/\(∀b,(Value.slice Z J.length B).ownBlock=some b->w.heap.size<=b/\b≠w.heap.size+1)):=by
      refine⟨?_,?_,f.out.2.2.1.kept aa (fun b hb e=>(f.out.2.2.2 b hb).2 e),f.out.2.2.2⟩
      ·rw[<-a1];exact f.out.1.setCell (p:=⟨w.heap.size+1,j,none⟩) (by simp) _
      ·rw[<-a1,<-Z3];exact f.out.2.1.set j _
     have ai:=OZ b (by omega) U;obtain⟨ii,aj,am,an,ao⟩:=info_parts Tryz.gF;have ae:L4 ((U.alloc (.cells #[.int .u8 (b:Int)] 5)).alloc (.cells #[.string (K1 [b]),.int .i64 j] 186)) (.slice Z J.length B) J:=Y.out.2.2.1.aA (Z5 _ _ _);have a8:=Hd ae;have zz:=Y.out.1.size;have ar:=Y.out.2.1.lt;have ak:IntKind.u8.wrap (b:Int)=(b:Int):=by simp[IntKind.wrap,IntKind.bits,IntKind.signed];omega
     clear ae aa;go_upto_region 9 with fail
     try rw[a1]
     clear a1 f c0 f0 zs;go_wp2_with(at_builtin;(refine wpList_append_lies _ (by rfl) _ _ _ (by rfl) 0 186 ii _ 2 24 Tryz.underlying183 aj am an ao rfl (by omega) (.slice Z J.length B) J.length (Ii J) (by rfl) a8.out ⟨U.heap.size+1,0,none⟩ 1 1 [.string (K1 [b]),.int .i64 j] (by rfl) (by rfl) (World.news_of_block (cs:=#[.string (K1 [b]),.int .i64 j]) (t:=186) (fr:=(0,0)) (by have:=heap_alloc_new (U.alloc (.cells #[.int .u8 (b:Int)] 5)) (.cells #[.string (K1 [b]),.int .i64 j] 186);simpa using this)) (by simp[Value.oneCell']) (by omega) (by unfold maxLen;omega) (by omega) (by simp) (U.heap.size+1+1) (by simp) ?_));intro gg a9 w6 a0 D a6 ac;have M:C0 (fun x=>(Value.slice Z J.length B).ownBlock=some x) ((U.alloc (.cells #[.int .u8 (b:Int)] 5)).alloc (.cells #[.string (K1 [b]),.int .i64 j] 186)) w6:=⟨D.os,D.tape,D.output,D.size,fun k hk he=>D.block k hk (fun e=>he e.symm)⟩;have a2:Hid (Bw w w6/\Blk w6 (w.heap.size+1) (Z0 (seen.set j true)) 4/\L4 w6 (.slice (some ⟨gg,0,none⟩) (J.length+1) a9) (J++ [⟨b,j⟩])/\(w.heap.size<=gg/\gg≠w.heap.size+1)):=by
      obtain⟨h1,h2,h3,h4⟩:=Y.out;refine⟨?_,((h2.alloc _).alloc _).kept M (fun e=>(h4 _ e).2 rfl),?_,?_⟩
      ·have k1:Bw w ((U.alloc (.cells #[.int .u8 (b:Int)] 5)).alloc (.cells #[.string (K1 [b]),.int .i64 j] 186)):=(h1.alloc h1.size _).alloc (by simp;omega) _;exact k1.trans ⟨M.os,M.tape,M.output,M.size,fun x hx=>M.block x (by simp;omega) (fun e=>by have:=(h4 x e).1;omega)⟩
      ·unfold L4;rw[Wn,zL];exact a0
      ·rcases a6 with e|e
       ·exact h4 gg e
       ·omega
     clear M a0 D a6 ac a8 Y ai ak;go_wp2_with fail
     go_roundg (257- (b+1))
     case measure=>omega
     case rel=>
      refine⟨b+1,seen.set j true,J++ [⟨b,j⟩],by go_num,by omega,rfl,by simp[a3.out],by simp;omega,HX.out,a2.out.1,a2.out.2.1,?_,?_⟩
      ·have:=a2.out.2.2.1;simpa using this
      ·intro x e;cases(zE e:gg=x);exact a2.out.2.2.2
  ·have e0:decide ((b:Int)<256)=false:=by simp;omega
   have hx:J=X:=by
    rw[show 257-b=0+1 by omega]at K;unfold A7 at K;rw[if_neg ab]at K;exact K
   subst hx;have V:Hid (L4 wr (.slice Z J.length B) J/\(∀b,(Value.slice Z J.length B).ownBlock=some b->w.heap.size<=b/\b≠w.heap.size+1)/\Bw w wr):=⟨hA,hO,a5⟩;clear hA hO a5 K hS;go_wp2_with fail;go_ret;exact⟨_,rfl,V.out.1,fun b hb=>(V.out.2.1 b hb).1,V.out.2.2⟩
def Gc(g:B0)(n:Nat):List Bool:=(List.range n).map (fun(s:Nat)=>decide (N0 g (s:Int)≠ -1))
def J6(kd:Nat->Nat)(g:B0)(n:Nat):List (List Q7):=(List.range n).map (fun(s:Nat)=>R6 kd g s)
def U0(kd:Nat->Nat)(g:B0):T9:=⟨Gc g g.aB.length,J6 kd g g.aB.length⟩
theorem EF(kd:Nat->Nat)(g:B0)(n:Nat):J6 kd g (n+1)=J6 kd g n++ [R6 kd g n]:=by simp[J6,List.range_succ]
theorem C7(g:B0)(n:Nat):(Gc g n).length=n:=by simp[Gc]
theorem R9(kd:Nat->Nat)(g:B0)(n:Nat):(J6 kd g n).length=n:=by simp[J6]
theorem Ey{w:World}{e:TypeId}{f n:Nat}{v:Value}{J:List Value}{b:Nat}(h:w.ownsRow 0 e f v n J)(B:v.ownBlock=some b):∃cur,Blk w b cur e:=by
 obtain⟨_,K,D,rfl,⟨rfl,_⟩|⟨g,cur,rfl,G,_⟩⟩:=L0 h
 ·simp[Value.ownBlock]at B
 ·cases(zE B:g=b);exact⟨cur,G⟩
theorem Xs{w:World}{e K:TypeId}{B f n X:Nat}{v M:Value}{Y J:List Value}(h:w.ownsRow 0 e B v n Y)(U:w.ownsRow 0 K f M X J)(G:e≠K):∀b,v.ownBlock=some b->¬M.ownBlock=some b:=fun b W D=>by
 obtain⟨cur,V⟩:=Ey h W;exact K0 U V G D
theorem Tryz.gE:(Tryz.prog.info? 4).map (fun i=>(i.zero,i.size,i.bytes))=some (some (.bool false),1,1):=by kernel_rfl
theorem Tryz.fM:(Tryz.prog.info? 183).map (fun i=>(i.zero,i.size,i.bytes))=some (some (.slice none 0 0),1,24):=by kernel_rfl
theorem RJ(g:B0)(n:Nat):Gc g (n+1)=Gc g n++ [decide (N0 g (n:Int)≠ -1)]:=by simp[Gc,List.range_succ]
theorem WS(pb:Nat)(kd:Nat->Nat)(g:B0)(w:World)(h:A9 w pb kd g)(ho:B8 kd g)(hi:X9 kd g)(hl:g.aB.length<=50000):
  Calls Tryz.prog 58 #[.pointer (some ⟨pb,0,none⟩)] w fun e w'=>∃wb,e=.returned (.pointer (some ⟨wb,0,none⟩))/\Si w' wb (U0 kd g)/\Bw w w':=by
 have HR:=Hd (fun(W:World) (V:Bw w W) (st:Int)=>Hf pb kd g st W (h.aA V));have ak:=Hd (fun(W:World) (V:Bw w W)=>Jm pb kd g W (h.aA V));have az:=Hd (fun(W:World) (V:Bw w W) (s:Nat)=>FS pb kd g s W (h.aA V) ho hi hl);clear h ho hi;go_enter Tryz.func58,Tryz.ntmps58;go_wp2_with fail
 go_loopg[4] g.aB.length (fun G iv wr=>∃(i:Nat) (tv sv:Value),iv=.int .i64 i/\i<=g.aB.length/\G=g.aB.length-i/\Bw w wr/\Blk wr w.heap.size #[tv,sv] 145/\Y5 wr tv (Gc g i)/\Ya wr sv (J6 kd g i)/\(∀b,tv.ownBlock=some b->w.heap.size<b)/\(∀b,sv.ownBlock=some b->w.heap.size<b))
 case atStart=>exact⟨0,.slice none 0 0,.slice none 0 0,rfl,by omega,rfl,P0 _ _,Blk.aQ _ _ _,World.ownsRow_nil _ _ _ _,⟨[],World.ownsRow_nil _ _ _ _,rfl,fun i x Y=>by simp at Y⟩,fun b h=>by simp[Value.ownBlock]at h,fun b h=>by simp[Value.ownBlock]at h⟩
 case round=>
  obtain⟨i,tv,sv,rfl,hi,rfl,ae,hB,hT,hS,ac,ad⟩:=hrel
  by_cases bd:i<g.aB.length
  ·have e0:decide ((i:Int)<(g.aB.length:Int))=true:=by simp;omega
   obtain⟨td,M,rfl,_⟩:=hT.aT;obtain⟨sd,f,rfl,_⟩:=hS.aT;rw[C7]at hB hT ac;rw[R9]at hB hS ad;have HH:Hid (Bw w wr/\Blk wr w.heap.size #[.slice td i M,.slice sd i f] 145/\Y5 wr (.slice td i M) (Gc g i)/\Ya wr (.slice sd i f) (J6 kd g i)/\(∀b,(Value.slice td i M).ownBlock=some b->w.heap.size<b)/\(∀b,(Value.slice sd i f).ownBlock=some b->w.heap.size<b)):=⟨ae,hB,hT,hS,ac,ad⟩;clear ae hB hT hS ac ad;go_wp2_with fail;refine(ak.out wr HH.out.1).mono ?_;rintro e w0 ⟨rfl,rfl⟩;go_wp2_with fail;refine(HR.out w0 HH.out.1 (i:Int)).mono ?_;rintro e w1 ⟨rfl,rfl⟩;have af:=RJ g i;have ai:(N0 g (i:Int) != -1)=decide (N0 g (i:Int)≠ -1):=by
    by_cases e:N0 g (i:Int)= -1
    ·simp[e]
    ·simp[e,bne]
   generalize N0 g (i:Int)=r at af ai;generalize b1:decide (r≠ -1)=br at af ai;have b0:=Hd af;obtain⟨ii,b2,b9,ba,bb⟩:=info_parts Tryz.gE;have a8:(w1.alloc (.cells #[.bool br] 4)).ownsRow 0 4 1 (.slice td i M) i ((Gc g i).map Value.bool):=by
    have h9:=HH.out.2.2.1.aA (P0 w1 (.cells #[.bool br] 4));unfold Y5 at h9;rw[C7]at h9;exact h9
   have U:=Hd a8;have c0:=HH.out.2.1.cell 0;have f0:=HH.out.2.1.frozen 0;have zb:=HH.out.2.1.lt;clear a8 af b1;go_wp2_with(at_builtin;(refine wpList_append_lies _ (by rfl) _ _ _ (by rfl) 0 4 ii _ 1 1 Tryz.underlying130 b2 b9 ba bb rfl (by omega) (.slice td i M) i ((Gc g i).map Value.bool) (by rfl) U.out ⟨w1.heap.size,0,none⟩ 1 1 [.bool br] (by rfl) (by rfl) (World.news_of_block (cs:=#[.bool br]) (t:=4) (fr:=(0,0)) (by have:=heap_alloc_new w1 (.cells #[.bool br] 4);simpa using this)) (by simp[Value.oneCell']) (by omega) (by unfold maxLen;omega) (by omega) (by simp) (w1.heap.size+1) (by simp) ?_));intro gg B w6 a9 J ag aw;obtain⟨w7,ab⟩:∃w7:World,w6.setCell ⟨w.heap.size,0,none⟩ (.slice (some ⟨gg,0,none⟩) (i+1) B)=w7:=⟨_,rfl⟩;obtain⟨h1,h2,h3,h4,h5,h6⟩:=HH.out;have a0:C0 (fun x=>(Value.slice td i M).ownBlock=some x) (w1.alloc (.cells #[.bool br] 4)) w6:=⟨J.os,J.tape,J.output,J.size,fun k hk he=>J.block k hk (fun e=>he e.symm)⟩;have a4:Blk w6 w.heap.size #[.slice td i M,.slice sd i f] 145:=(h2.alloc _).kept a0 (fun e=>by have:=h5 _ e;omega);have am:Ya w6 (.slice sd i f) (J6 kd g i):=by
    have h9:=h4.aA (P0 w1 (.cells #[.bool br] 4));obtain⟨vs,g1,g2,g3⟩:=h9;exact⟨vs,J0 g1 a0 (Xs g1 U.out (by decide)),g2,fun k x Y=>(g3 k x Y).kept a0 (Xs (g3 k x Y) U.out (by decide))⟩
   have ao:Y5 w6 (.slice (some ⟨gg,0,none⟩) (i+1) B) (Gc g (i+1)):=by
    unfold Y5;rw[b0.out,yB,zL,C7];exact a9
   have au:w.heap.size<gg:=by
    rcases ag with e|e
    ·exact h5 gg e
    ·omega
   have aq:Bw w w6:=by
    have k1:Bw w (w1.alloc (.cells #[.bool br] 4)):=h1.alloc h1.size _;exact k1.trans ⟨a0.os,a0.tape,a0.output,a0.size,fun x Y=>a0.block x (by have:=k1.size;omega) (fun e=>by have:=h5 x e;omega)⟩
   have ks:C0 (fun x=>x=w.heap.size) w6 w7:=by rw[<-ab];exact C0.setCell (ex:=fun x=>x=w.heap.size) (p:=⟨w.heap.size,0,none⟩) (C0.refl _ _) (fun _=>rfl) _
   have Z:Hid (Bw w w7/\Blk w7 w.heap.size #[.slice (some ⟨gg,0,none⟩) (i+1) B,.slice sd i f] 145/\Y5 w7 (.slice (some ⟨gg,0,none⟩) (i+1) B) (Gc g (i+1))/\Ya w7 (.slice sd i f) (J6 kd g i)/\w.heap.size<gg/\(∀b,(Value.slice sd i f).ownBlock=some b->w.heap.size<b)):=by
    refine⟨by rw[<-ab];exact aq.setCell (p:=⟨w.heap.size,0,none⟩) (zD _) _,by rw[<-ab];exact a4.set 0 _,ao.kept ks (fun b V e=>by cases(zE V:gg=b);omega),?_,au,h6⟩;obtain⟨vs,g1,g2,g3⟩:=am;refine⟨vs,J0 g1 ks (fun b V e=>by have:=h6 b V;omega),g2,fun k x Y=>(g3 k x Y).kept ks (fun b V e=>?_)⟩;subst e;obtain⟨cur,a7⟩:=Ey (g3 k x Y) V;have:=(a7.bX a4).2
    revert this
    decide
   have c6:=a4.cell 0;have f6:=a4.frozen 0;have z6:=a4.lt;clear h1 h2 h3 h4 h5 h6 a0 a4 am ao au aq ks a9 J ag aw U HH c0 f0;go_upto_region 7 with fail
   try rw[ab]
   clear ab c6 f6;go_wp2_with fail;refine(az.out w7 Z.out.1 i).mono ?_;rintro e w8 ⟨nv,rfl,aj,b5,a6⟩;obtain⟨nd,D,rfl,_⟩:=aj.aT;have a2:Hid (Bw w w8/\Blk w8 w.heap.size #[.slice (some ⟨gg,0,none⟩) (i+1) B,.slice sd i f] 145/\Y5 w8 (.slice (some ⟨gg,0,none⟩) (i+1) B) (Gc g (i+1))/\Ya w8 (.slice sd i f) (J6 kd g i)/\w.heap.size<gg/\(∀b,(Value.slice sd i f).ownBlock=some b->w.heap.size<b)/\L4 w8 (.slice nd (R6 kd g i).length D) (R6 kd g i)):=
    ⟨Z.out.1.trans (a6.mono Z.out.1.size),Z.out.2.1.aA a6,Z.out.2.2.1.aA a6,Z.out.2.2.2.1.aA a6,Z.out.2.2.2.2.1,Z.out.2.2.2.2.2,aj⟩
   clear aj b5 a6 Z;obtain⟨vs,g1,g2,g3⟩:=a2.out.2.2.2.1;obtain⟨ij,b3,b6,b7,b8⟩:=info_parts Tryz.fM;have a8:(w8.alloc (.cells #[.slice nd (R6 kd g i).length D] 183)).ownsRow 0 183 1 (.slice sd i f) i vs:=by
    have h9:=J0 (ex:=fun _=>False) g1 (C0.aM (P0 w8 (.cells #[.slice nd (R6 kd g i).length D] 183))) (fun _ _ e=>e);rw[R9]at h9;exact h9
   have U:=Hd a8;have a3:Hid (vs.length=i/\∀k x,vs[k]?=some x->L4 w8 x ((J6 kd g i).getD k [])):=⟨by rw[R9]at g2;exact g2,g3⟩;have c1:=a2.out.2.1.cell 1;have f1:=a2.out.2.1.frozen 1;have z8:=a2.out.2.1.lt;clear a8 g1 g2 g3;go_wp2_with(at_builtin;(refine wpList_append_lies _ (by rfl) _ _ _ (by rfl) 0 183 ij _ 1 24 Tryz.underlying143 b3 b6 b7 b8 rfl (by omega) (.slice sd i f) i vs (by rfl) U.out ⟨w8.heap.size,0,none⟩ 1 1 [.slice nd (R6 kd g i).length D] (by rfl) (by rfl) (World.news_of_block (cs:=#[.slice nd (R6 kd g i).length D]) (t:=183) (fr:=(0,0)) (by have:=heap_alloc_new w8 (.cells #[.slice nd (R6 kd g i).length D] 183);simpa using this)) (by simp[Value.oneCell']) (by omega) (by unfold maxLen;omega) (by omega) (by simp) (w8.heap.size+1) (by simp) ?_));intro gs a1 w9 aa K ah ax;obtain⟨h1,h2,h3,h4,h5,h6,h7⟩:=a2.out;have X:C0 (fun x=>(Value.slice sd i f).ownBlock=some x) (w8.alloc (.cells #[.slice nd (R6 kd g i).length D] 183)) w9:=⟨K.os,K.tape,K.output,K.size,fun k hk he=>K.block k hk (fun e=>he e.symm)⟩;have a5:Blk w9 w.heap.size #[.slice (some ⟨gg,0,none⟩) (i+1) B,.slice sd i f] 145:=(h2.alloc _).kept X (fun e=>by have:=h6 _ e;omega);have ap:Y5 w9 (.slice (some ⟨gg,0,none⟩) (i+1) B) (Gc g (i+1)):=(h3.aA (P0 _ _)).kept X (Xs (h3.aA (P0 _ _)) U.out (by decide));have an:Ya w9 (.slice (some ⟨gs,0,none⟩) (i+1) a1) (J6 kd g (i+1)):=by
    refine⟨vs++ [.slice nd (R6 kd g i).length D],by rw[R9];exact aa,by rw[R9];simp[a3.out.1],fun k x Y=>?_⟩;rw[EF]
    by_cases e:k<i
    ·rw[zQ (by rw[a3.out.1];exact e)]at Y;have e9:(J6 kd g i++ [R6 kd g i]).getD k []=(J6 kd g i).getD k []:=by rw[zC,zQ (by rw[R9];exact e),<-zC]
     rw[e9];have h8:=(a3.out.2 k x Y).aA (P0 w8 (.cells #[.slice nd (R6 kd g i).length D] 183));exact h8.kept X (Xs h8 U.out (by decide))
    ·rw[zX (by rw[a3.out.1];omega),a3.out.1]at Y;have b4:k=i:=by
      rcases yE (k-i) 1 with e2|e2
      ·omega
      ·rw[yI (by simpa using e2)]at Y;cases Y
     subst b4;simp only[yQ,List.getElem?_cons_zero,Option.some.injEq]at Y;subst Y;have e9:(J6 kd g k++ [R6 kd g k]).getD k []=R6 kd g k:=by rw[zC,zX (by rw[R9];omega),R9];simp
     rw[e9];have h8:=h7.aA (P0 w8 (.cells #[.slice nd (R6 kd g k).length D] 183));exact h8.kept X (Xs h8 U.out (by decide))
   have av:w.heap.size<gs:=by
    rcases ah with e|e
    ·exact h6 gs e
    ·omega
   have ar:Bw w w9:=by
    have k1:Bw w (w8.alloc (.cells #[.slice nd (R6 kd g i).length D] 183)):=h1.alloc h1.size _;exact k1.trans ⟨X.os,X.tape,X.output,X.size,fun x Y=>X.block x (by have:=k1.size;omega) (fun e=>by have:=h6 x e;omega)⟩
   have ay:Hid (Bw w w9/\Blk w9 w.heap.size #[.slice (some ⟨gg,0,none⟩) (i+1) B,.slice sd i f] 145/\Y5 w9 (.slice (some ⟨gg,0,none⟩) (i+1) B) (Gc g (i+1))/\Ya w9 (.slice (some ⟨gs,0,none⟩) (i+1) a1) (J6 kd g (i+1))/\w.heap.size<gg/\w.heap.size<gs):=⟨ar,a5,ap,an,h5,av⟩;have c9:=a5.cell 1;have f9:=a5.frozen 1;have z9:=a5.lt;clear h1 h2 h3 h4 h5 h6 h7 X a5 ap an av ar aa K ah ax U a2 c1 f1 a3;go_wp2_with fail
   go_roundg (g.aB.length- (i+1))
   case measure=>omega
   case rel=>
    obtain⟨h1,h2,h3,h4,h5,h6⟩:=ay.out;have ks:C0 (fun x=>x=w.heap.size) w9 (w9.setCell ⟨w.heap.size,1,none⟩ (.slice (some ⟨gs,0,none⟩) (i+1) a1)):=C0.setCell (ex:=fun x=>x=w.heap.size) (p:=⟨w.heap.size,1,none⟩) (C0.refl _ _) (fun _=>rfl) _;refine⟨i+1,.slice (some ⟨gg,0,none⟩) (i+1) B,.slice (some ⟨gs,0,none⟩) (i+1) a1,by go_num,by omega,rfl,h1.setCell (p:=⟨w.heap.size,1,none⟩) (zD _) _,h2.set 1 _,h3.kept ks (fun b V e=>by cases(zE V:gg=b);omega),?_,fun b V=>by cases(zE V:gg=b);exact h5,fun b V=>by cases(zE V:gs=b);exact h6⟩;obtain⟨bc,g1,g2,g3⟩:=h4;refine⟨bc,J0 g1 ks (fun b V e=>by cases(zE V:gs=b);omega),g2,fun k x Y=>(g3 k x Y).kept ks (fun b V e=>?_)⟩;subst e;obtain⟨cur,a7⟩:=Ey (g3 k x Y) V;have:=(a7.bX h2).2
    revert this
    decide
  ·have e0:decide ((i:Int)<(g.aB.length:Int))=false:=by simp;omega
   obtain rfl:i=g.aB.length:=by omega
   have HH:Hid (Bw w wr/\Blk wr w.heap.size #[tv,sv] 145/\Y5 wr tv (Gc g g.aB.length)/\Ya wr sv (J6 kd g g.aB.length)):=⟨ae,hB,hT,hS⟩;clear ae hB hT hS ac ad;go_wp2_with fail;refine(ak.out wr HH.out.1).mono ?_;rintro e w0 ⟨rfl,rfl⟩;go_wp2_with fail;go_ret;exact⟨w.heap.size,rfl,⟨tv,sv,HH.out.2.1,HH.out.2.2.1,HH.out.2.2.2⟩,HH.out.1⟩
end Go.Proofs.YtcckhngbdoiikaaGreat
