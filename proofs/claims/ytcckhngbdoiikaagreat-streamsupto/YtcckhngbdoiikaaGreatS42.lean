import Derived.Test.YtcckhngbdoiikaaGreatS40
import Derived.Deep.RegionWith
import Derived.BigRegion
set_option maxRecDepth 20000
set_option maxHeartbeats 12800000
set_option linter.unusedVariables false
namespace Go.Proofs.YtcckhngbdoiikaaGreat
open Go.RowKit Go.Deep
def Q8(x:T9)(f:List Bool)(s:Nat):Bool:=(Wg (x.aY.getD s []) f).isSome
def J7(x:T9)(f:List Bool):List Bool:=(List.range x.aF.length).map (fun(s:Nat)=>Q8 x f s && !(x.aF.getD s false))
def F3(x:T9):Nat->List Bool
 |0=>x.aF
 |d+1=>J7 x (F3 x d)
def X1(x:T9)(n:Nat):List (List Bool):=(List.range n).map (F3 x)
theorem Of(x:T9):∀d,(F3 x d).length=x.aF.length
 |0=>rfl
 |d+1=>by simp[F3,J7]
theorem P3(x:T9)(n:Nat):(X1 x n).length=n:=by simp[X1]
theorem KE(x:T9)(n:Nat):X1 x (n+1)=X1 x n++ [F3 x n]:=by simp[X1,List.range_succ]
theorem Ja(x:T9)(n i:Nat)(h:i<n):(X1 x n).getD i []=F3 x i:=by simp[X1,h]
theorem Q5.eC{w:World}{v:Value}{ll:List (List Bool)}{n:Nat}(h:Q5 w v ll)(D:ll.length=n):∃(B:Option Addr) (f:Nat),v=.slice B n f/\(n=0\/∃g,B=some ⟨g,0,none⟩):=by
 subst D;exact F8.aT h
theorem Tryz.iR:(Tryz.prog.info? 130).map (fun i=>(i.zero,i.size,i.bytes))=some (some (.slice none 0 0),1,24):=by kernel_rfl
theorem Ko:TU none=.tuple #[.agg #[.string ⟨#[]⟩,.int .i64 0],.bool false]:=rfl
theorem Vj(b q:Nat):TU (some ⟨b,q⟩)=.tuple #[.agg #[.string (K1 [b]),.int .i64 q],.bool true]:=rfl
theorem Rs{x:T9}{f l:List Bool}{i:Nat}{v:Bool}(B:l.length=x.aF.length)(G:i<x.aF.length)(h:∀j,j<i->l.getD j false=(J7 x f).getD j false)(D:(J7 x f).getD i false=v):
  (l.set i v).length=x.aF.length/\∀j,j<i+1->(l.set i v).getD j false=(J7 x f).getD j false:=by
 refine⟨by simp[B],fun j J=>?_⟩;rw[X6 _ _ _ _ (by omega)];split
 ·rename_i e;rw[e,D]
 ·exact h j (by omega)
theorem PQ{x:T9}{f l:List Bool}(J:l.length=x.aF.length)(h:∀j,j<x.aF.length->l.getD j false=(J7 x f).getD j false):l=J7 x f:=by
 refine List.ext_getElem (by rw[J];simp[J7]) fun j B D=>?_
 have G:=h j (by omega);simpa[B,D]using G
theorem FL(wb:Nat)(x:T9)(f:Nat)(w:World)(h:Si w wb x)(ho:Ti x)(hm:f<=100000):
  Calls Tryz.prog 59 #[.pointer (some ⟨wb,0,none⟩),.int .i64 f] w fun e w'=>∃v,e=.returned v/\Q5 w' v (X1 x (f+1))/\(∀b,v.ownBlock=some b->w.heap.size<=b)/\Bw w w':=by
 have a8:=ho.len;have b8:=ho.dW;have ar:=Hd (fun(W:World) (hb:Bw w W) (k:Nat) (mv:Value) (a6:List Bool)=>Mx wb x k mv a6 W (h.aA hb) ho);obtain⟨tv,sv,hb,ht,hs⟩:=h.ex;obtain⟨td,ab,rfl,ai⟩:=ht.aT;have c0:=hb.cell 0;have zb:=hb.lt;have HT:=Hd ht;have HB:=Hd hb;have b7:=U7 x.aF.length (by omega);have aj:=Hd a8;clear h ho hs hb ht a8;go_enter Tryz.func59,Tryz.ntmps59;go_wp2_with fail
 go_loopg[5,6] f (fun G lv dv wr=>∃d:Nat,dv=.int .i64 d/\1<=d/\d<=f+1/\G=f+1-d/\Bw w wr/\Q5 wr lv (X1 x d)/\(∀b,lv.ownBlock=some b->w.heap.size<=b))
 case atStart=>
  refine⟨1,rfl,by omega,by omega,by omega,P0 _ _,⟨[.slice td x.aF.length ab],?_,rfl,fun i v hv=>?_⟩,fun b e=>?_⟩
  ·exact D5 (cur:=#[.slice td x.aF.length ab]) (by rfl) (Blk.aQ _ _ _) (zD _) (by unfold maxLen;omega) rfl (by rfl)
  ·cases i with
   |zero=>
    simp only[List.getElem?_cons_zero,Option.some.injEq]at hv;subst hv;exact HT.out.aA (P0 _ _)
   |succ i=>simp at hv
  ·cases(zE e:w.heap.size=b);exact zD _
 case round=>
  obtain⟨d,rfl,b4,b5,rfl,Z,hL,hO⟩:=hrel;obtain⟨ld,D,rfl,ah⟩:=hL.eC (P3 x d)
  by_cases b6:d<=f
  ·have e0:decide ((d:Int)<=(f:Int))=true:=by simp;omega
   rcases ah with h0|⟨lg,rfl⟩
   ·omega
   have k0:=(Z.cell (p:=⟨wb,0,none⟩) zb).trans c0;have zw:wb<wr.heap.size:=by have:=Z.size;omega
   obtain⟨pv,p0,hP⟩:=(show F8 wr 130 (fun w v i=>Y5 w v ((X1 x d).getD i [])) (.slice (some ⟨lg,0,none⟩) d D) d by have h9:=hL;unfold Q5 at h9;rw[P3]at h9;exact h9).cell (d-1) (by omega);rw[Ja x d (d-1) (by omega)]at hP;obtain⟨pd,aa,rfl,_⟩:=hP.aT;rw[Of]at hP p0;obtain⟨K,b3⟩:∃K:Nat,(d:Int)-1=(K:Int):=⟨d-1,by omega⟩;have ag:d-1=K:=by omega
   rw[ag]at p0 hP;have q0:(0:Int)<=(K:Int):=by omega
   have q1:(K:Int)<(d:Int):=by omega
   have zl:lg<wr.heap.size:=by obtain⟨vs,h9,_⟩:=hL;exact M1 h9 lg rfl
   have aq:=Hd ag;have Y:Hid (Bw w wr/\Q5 wr (.slice (some ⟨lg,0,none⟩) d D) (X1 x d)/\(∀b,(Value.slice (some ⟨lg,0,none⟩) d D).ownBlock=some b->w.heap.size<=b)/\Y5 wr (.slice pd x.aF.length aa) (F3 x K)):=⟨Z,hL,hO,hP⟩;clear Z hL hO hP ag;obtain⟨J,rfl⟩:∃J:World,J=wr:=⟨_,rfl⟩;go_wp2_with fail
   go_loopg[33] x.aF.length (fun G iv wi=>∃(i:Nat) (l:List Bool),iv=.int .i64 i/\i<=x.aF.length/\G=x.aF.length-i/\l.length=x.aF.length/\(∀j,j<i->l.getD j false=(J7 x (F3 x K)).getD j false)/\Blk wi J.heap.size (Z0 l) 4/\Bw J wi)
   case atStart=>exact⟨0,List.replicate x.aF.length false,rfl,by omega,rfl,by simp,fun j hj=>by omega,Blk.aQ _ _ _,P0 _ _⟩
   case round=>
    obtain⟨i,l,rfl,hi,rfl,a0,a5,hI,M⟩:=hrel
    by_cases V:i<x.aF.length
    ·have e1:decide ((i:Int)<(x.aF.length:Int))=true:=by simp;omega
     rcases ai with h0|⟨tg,rfl⟩
     ·omega
     have a3:Bw w wr:=Y.out.1.trans (M.mono Y.out.1.size);have t0:=(HT.out.aA a3).cellD i V;have i0:(0:Int)<=(i:Int):=by omega
     have i1:(i:Int)<(x.aF.length:Int):=by omega
     have b2:=(M.cell (p:=⟨lg,K,none⟩) zl).trans p0;have a1:=Hd (ar.out wr a3 i (.slice pd x.aF.length aa) (F3 x K) (by rw[aj.out];exact V) (Y.out.2.2.2.aA M) (Of x K));have X:(J7 x (F3 x K)).getD i false=((Wg (x.aY.getD i []) (F3 x K)).isSome && !(x.aF.getD i false)):=by simp[J7,V,Q8]
     generalize au:Wg (x.aY.getD i []) (F3 x K)=F at a1 X;generalize ay:x.aF.getD i false=tk at t0 X;have HI:Hid (l.length=x.aF.length/\(∀j,j<i->l.getD j false=(J7 x (F3 x K)).getD j false)/\Blk wr J.heap.size (Z0 l) 4/\Bw J wr/\(J7 x (F3 x K)).getD i false=(F.isSome && !tk)):=⟨a0,a5,hI,M,X⟩;clear a0 a5 hI M X a3 au ay;go_wp2_with fail;refine a1.out.mono ?_;rintro e w1 ⟨rfl,af⟩;obtain⟨r1,r2,r3,r4,r5⟩:=HI.out;have a2:=r3.aA af;have f0:=a2.frozen i;have cI:=N2 a2 i (by rw[r1];exact V);have zI:=a2.lt;have ad:Hid (l.length=x.aF.length/\(∀j,j<i->l.getD j false=(J7 x (F3 x K)).getD j false)/\Blk w1 J.heap.size (Z0 l) 4/\Bw J w1/\(J7 x (F3 x K)).getD i false=(F.isSome && !tk)):=⟨r1,r2,a2,r4.trans (af.mono r4.size),r5⟩;clear r1 r2 r3 r4 r5 a2 HI a1 af t0 b2;cases F with
     |none=>
      have v0:=Ko;go_wp2_with fail
      go_roundg (x.aF.length- (i+1))
      case measure=>omega
      case rel=>
       obtain⟨r1,r2,r3,r4,r5⟩:=ad.out;obtain⟨s1,s2⟩:=Rs r1 V r2 (show _=false from r5);refine⟨i+1,l.set i false,by go_num,by omega,rfl,s1,s2,?_,?_⟩
       ·rw[<-Z3];exact(r3.set i _).alloc _
       ·exact(r4.setCell (p:=⟨J.heap.size,i,none⟩) (zD _) _).alloc (by simpa using r4.size) _
     |some st=>
      obtain⟨sb,sq⟩:=st;cases tk with
      |true=>
       have v0:=Vj sb sq;go_wp2_with fail
       go_roundg (x.aF.length- (i+1))
       case measure=>omega
       case rel=>
        obtain⟨r1,r2,r3,r4,r5⟩:=ad.out;obtain⟨s1,s2⟩:=Rs r1 V r2 (show _=false from r5);refine⟨i+1,l.set i false,by go_num,by omega,rfl,s1,s2,?_,?_⟩
        ·rw[<-Z3];exact(r3.set i _).alloc _
        ·exact(r4.setCell (p:=⟨J.heap.size,i,none⟩) (zD _) _).alloc (by simpa using r4.size) _
      |false=>
       have v0:=Vj sb sq;go_wp2_with fail
       go_roundg (x.aF.length- (i+1))
       case measure=>omega
       case rel=>
        obtain⟨r1,r2,r3,r4,r5⟩:=ad.out;obtain⟨s1,s2⟩:=Rs r1 V r2 (show _=true from r5);refine⟨i+1,l.set i true,by go_num,by omega,rfl,s1,s2,?_,?_⟩
        ·rw[<-Z3];exact(r3.set i _).alloc _
        ·exact(r4.setCell (p:=⟨J.heap.size,i,none⟩) (zD _) _).alloc (by simpa using r4.size) _
    ·have e1:decide ((i:Int)<(x.aF.length:Int))=false:=by simp;omega
     obtain rfl:i=x.aF.length:=by omega
     have an:=PQ a0 a5;subst an;obtain⟨vs,g1,g2,g3⟩:=(Y.out.2.1.aA M);rw[P3]at g1 g2;obtain⟨ii,aw,az,b0,b1⟩:=info_parts Tryz.iR;have ap:(wr.alloc (.cells #[.slice (some ⟨J.heap.size,0,none⟩) x.aF.length x.aF.length] 130)).ownsRow 0 130 1 (.slice (some ⟨lg,0,none⟩) d D) d vs:=J0 (ex:=fun _=>False) g1 (C0.aM (P0 _ _)) (fun _ _ e=>e);have ae:=Hd ap;have a9:Y5 wr (.slice (some ⟨J.heap.size,0,none⟩) x.aF.length x.aF.length) (J7 x (F3 x K)):=by
      have h9:=Y5.cC hI (by rw[a0];omega);rw[a0]at h9;exact h9
     have HG:Hid (vs.length=d/\(∀k v,vs[k]?=some v->Y5 wr v ((X1 x d).getD k []))/\Y5 wr (.slice (some ⟨J.heap.size,0,none⟩) x.aF.length x.aF.length) (J7 x (F3 x K))/\Bw w wr):=⟨g2,g3,a9,Y.out.1.trans (M.mono Y.out.1.size)⟩;have zz:=M.size;have hO:=Y.out.2.2.1;have HO:=Hd hO;have b9:=Y.out.1.size;clear g1 g2 g3 ap a9 a0 a5 hI M hO Y;go_wp2_with(at_builtin;(refine wpList_append_lies _ (by rfl) _ _ _ (by rfl) 0 130 ii _ 1 24 Tryz.underlying131 aw az b0 b1 rfl (by omega) (.slice (some ⟨lg,0,none⟩) d D) d vs (by rfl) ae.out ⟨wr.heap.size,0,none⟩ 1 1 [.slice (some ⟨J.heap.size,0,none⟩) x.aF.length x.aF.length] (by rfl) (by rfl) (World.news_of_block (cs:=#[.slice (some ⟨J.heap.size,0,none⟩) x.aF.length x.aF.length]) (t:=130) (fr:=(0,0)) (by have:=heap_alloc_new wr (.cells #[.slice (some ⟨J.heap.size,0,none⟩) x.aF.length x.aF.length] 130);simpa using this)) (by simp[Value.oneCell']) (by omega) (by unfold maxLen;omega) (by omega) (by simp) (wr.heap.size+1) (by simp) ?_));intro gg ak w6 a4 B a7 ao;have U:C0 (fun y=>(Value.slice (some ⟨lg,0,none⟩) d D).ownBlock=some y) (wr.alloc (.cells #[.slice (some ⟨J.heap.size,0,none⟩) x.aF.length x.aF.length] 130)) w6:=⟨B.os,B.tape,B.output,B.size,fun k hk he=>B.block k hk (fun e=>he e.symm)⟩;obtain⟨h1,h2,h3,h4⟩:=HG.out;have ac:Hid (Bw w w6/\Q5 w6 (.slice (some ⟨gg,0,none⟩) (d+1) ak) (X1 x (d+1))/\w.heap.size<=gg):=by
      refine⟨?_,⟨vs++ [.slice (some ⟨J.heap.size,0,none⟩) x.aF.length x.aF.length],by rw[P3];exact a4,by rw[P3];simp[h1],fun k v hv=>?_⟩,?_⟩
      ·have k1:Bw w (wr.alloc (.cells #[.slice (some ⟨J.heap.size,0,none⟩) x.aF.length x.aF.length] 130)):=h4.alloc h4.size _;exact k1.trans ⟨U.os,U.tape,U.output,U.size,fun y hy=>U.block y (by have:=k1.size;omega) (fun e=>by have:=HO.out y e;omega)⟩
      ·have am:∀{v':Value} {l':List Bool},Y5 wr v' l'->Y5 w6 v' l':=fun{v'} {l'} av=>by
        have h8:=av.aA (P0 wr (.cells #[.slice (some ⟨J.heap.size,0,none⟩) x.aF.length x.aF.length] 130));exact h8.kept U (Xs h8 ae.out (by decide))
       by_cases e:k<d
       ·rw[zQ (by rw[h1];exact e)]at hv;have h9:=am (h2 k v hv);rw[Ja x d k e]at h9;show Y5 w6 v ((X1 x (d+1)).getD k []);rw[Ja x (d+1) k (by omega)];exact h9
       ·rw[zX (by rw[h1];omega),h1]at hv;have ax:k=d:=by
         rcases yE (k-d) 1 with e2|e2
         ·omega
         ·rw[yI (by simpa using e2)]at hv;cases hv
        subst ax;simp only[yQ,List.getElem?_cons_zero,Option.some.injEq]at hv;subst hv;show Y5 w6 (.slice (some ⟨J.heap.size,0,none⟩) x.aF.length x.aF.length) ((X1 x (k+1)).getD k []);rw[Ja x (k+1) k (by omega)];have e9:F3 x k=J7 x (F3 x K):=by rw[<-aq.out,show k=(k-1)+1 by omega];rfl
        rw[e9];exact am h3
      ·rcases a7 with e|e
       ·exact HO.out gg e
       ·omega
     clear U a4 B a7 ao ae h1 h2 h3 h4 HG HO;go_wp2_with fail
     go_roundg (f+1- (d+1))
     case measure=>omega
     case rel=>
      refine⟨d+1,by go_num,by omega,by omega,rfl,ac.out.1,ac.out.2.1,fun b e=>?_⟩;cases(zE e:gg=b);exact ac.out.2.2
  ·have e0:decide ((d:Int)<=(f:Int))=false:=by simp;omega
   obtain rfl:d=f+1:=by omega
   have Y:Hid (Bw w wr/\Q5 wr (.slice ld (f+1) D) (X1 x (f+1))/\(∀b,(Value.slice ld (f+1) D).ownBlock=some b->w.heap.size<=b)):=⟨Z,hL,hO⟩;clear Z hL hO;go_wp2_with fail;go_ret;exact⟨_,rfl,Y.out.2.1,Y.out.2.2,Y.out.1⟩
theorem F8.take{w:World}{G:TypeId}{P:World->Value->Nat->Prop}{g f n:Nat}(h:F8 w G P (.slice (some ⟨g,0,none⟩) n f) n)(k:Nat)(hk:k<=n):F8 w G P (.slice (some ⟨g,0,none⟩) k f) k:=by
 obtain⟨Y,W,h2,X⟩:=h;refine⟨Y.take k,?_,by simp;omega,fun i x B=>?_⟩
 ·obtain⟨h0,⟨e,_⟩|⟨Z,D,cur,e,J,K,g4,M,U,V⟩⟩:=W
  ·cases e
  ·cases e;refine⟨by simp;omega,.inr ⟨g,f,cur,rfl,J,K,by omega,M,U,?_⟩⟩;rw[<-V,List.take_take]
   congr 1
   omega
 ·rw[List.getElem?_take]at B;split at B
  ·exact X i x B
  ·cases B
def Ib(x:T9)(l:List Bool)(s:Nat):Bool:=Q8 x l s && (x.aF.getD s false || decide (s=0))
def Hc(x:T9)(f:List (List Bool)):Nat->Nat×Nat
 |0=>(0,0)
 |d+1=>match(List.range x.aF.length).find? (Ib x (f.getD d []))with
  |some s=>(s,d+1)
  |none=>Hc x f d
theorem WD(wb:Nat)(x:T9)(lv:Value)(f:List (List Bool))(w:World)(h:Si w wb x)(ho:Ti x)(hL:Q5 w lv f)(aa:∀l∈f,l.length=x.aF.length)(hm:f.length<=100001):
  Calls Tryz.prog 106 #[.pointer (some ⟨wb,0,none⟩),lv] w fun e w'=>e=.returned (.tuple #[.int .i64 ((Hc x f f.length).1:Int),.int .i64 ((Hc x f f.length).2:Int)])/\Bw w w':=by
 have au:=ho.dW;have a8:=Hd ho.len;have ag:=Hd (fun(W:World) (hb:Bw w W) (k:Nat) (mv:Value) (a2:List Bool)=>Mx wb x k mv a2 W (h.aA hb) ho);obtain⟨tv,sv,hb,ht,hs⟩:=h.ex;obtain⟨td,aq,rfl,a7⟩:=ht.aT;obtain⟨ld,ap,rfl,a5⟩:=hL.eC rfl;have c0:=hb.cell 0;have zb:=hb.lt;have HT:=Hd ht;have HL:=Hd hL;have ah:=Hd aa;generalize hX:Hc x f f.length=X;have HX:=Hd hX;clear h ho hs hb ht hL aa hX;go_enter Tryz.func106,Tryz.ntmps106;go_wp2_with fail
 go_loopg[6] f.length (fun G dv wr=>∃d:Nat,dv=.int .i64 d/\d<=f.length/\G=d/\Hc x f d=X/\Bw w wr)
 case atStart=>exact⟨f.length,rfl,zD _,rfl,HX.out,Below.refl _ _⟩
 case round=>
  obtain⟨d,rfl,hd,hG,hX,B⟩:=hrel;clear HX
  by_cases h0:0<d
  ·have e0:decide ((0:Int)<(d:Int))=true:=by simp;omega
   rcases a5 with h9|⟨lg,rfl⟩
   ·omega
   obtain⟨J,rfl⟩:∃J,d=J+1:=⟨d-1,by omega⟩;unfold Hc at hX;obtain⟨pv,p0,hP⟩:=F8.cell (HL.out.aA B) J (by omega);have a3:(f.getD J []).length=x.aF.length:=ah.out _ (by rw[zC,zF (by omega)];exact zG _);obtain⟨pd,ae,rfl,_⟩:=hP.aT;have k0:=(B.cell (p:=⟨wb,0,none⟩) zb).trans c0;have zw:wb<wr.heap.size:=by have:=B.size;omega
   have zl:lg<wr.heap.size:=by obtain⟨vs,h9,_⟩:=HL.out.aA B;exact M1 h9 lg rfl
   have ar:((J+1:Nat):Int)-1=(J:Int):=by omega
   have q0:(0:Int)<=(J:Int):=by omega
   have q1:(J:Int)<(f.length:Int):=by omega
   generalize f.getD J []=row at hP a3 p0 hX;have HP:=Hd hP;have ai:=Hd a3;have HX:=Hd hX;have U:=Hd B;clear hP a3 hX B;obtain⟨wo,rfl⟩:∃wo:World,wo=wr:=⟨_,rfl⟩;go_wp2_with fail
   go_loopg[22] x.aF.length (fun G iv wi=>∃i:Nat,iv=.int .i64 i/\i<=x.aF.length/\G=x.aF.length-i/\(∀j,j<i->Ib x row j=false)/\Bw wo wi)
   case atStart=>exact⟨0,rfl,by omega,rfl,fun j hj=>by omega,Below.refl _ _⟩
   case round=>
    obtain⟨i,rfl,hi,rfl,a0,D⟩:=hrel
    by_cases a6:i<x.aF.length
    ·have e1:decide ((i:Int)<(x.aF.length:Int))=true:=by simp;omega
     rcases a7 with h9|⟨tg,rfl⟩
     ·omega
     have Z:Bw w wr:=U.out.trans (D.mono U.out.size);have t0:=(HT.out.aA Z).cellD i a6;have i0:(0:Int)<=(i:Int):=by omega
     have i1:(i:Int)<(x.aF.length:Int):=by omega
     have ao:=(D.cell (p:=⟨lg,J,none⟩) zl).trans p0;have V:=Hd (ag.out wr Z i (.slice pd row.length ae) row (by rw[a8.out];exact a6) (HP.out.aA D) ai.out);have K:Ib x row i=((Wg (x.aY.getD i []) row).isSome && (x.aF.getD i false || decide (i=0))):=rfl;generalize ak:Wg (x.aY.getD i []) row=F at V K;generalize an:x.aF.getD i false=tk at t0 K;have HI:Hid ((∀j,j<i->Ib x row j=false)/\Bw wo wr/\Ib x row i=(F.isSome && (tk || decide (i=0)))):=⟨a0,D,K⟩;clear a0 D K Z ak an;go_wp2_with fail;refine V.out.mono ?_;rintro e w1 ⟨rfl,a4⟩;obtain⟨r1,r2,r3⟩:=HI.out;have M:Hid ((∀j,j<i->Ib x row j=false)/\Bw wo w1/\Ib x row i=(F.isSome && (tk || decide (i=0)))):=⟨r1,r2.trans (a4.mono r2.size),r3⟩;have av:w.heap.size<=w1.heap.size:=by have:=U.out.size;have:=r2.size;have:=a4.size;omega
     clear r1 r2 r3 HI V a4 t0 ao;cases F with
     |none=>
      have v0:=Ko;go_wp2_with fail
      go_roundg (x.aF.length- (i+1))
      case measure=>omega
      case rel=>
       obtain⟨r1,r2,r3⟩:=M.out;refine⟨i+1,by go_num,by omega,rfl,fun j hj=>?_,r2.alloc r2.size _⟩
       by_cases e:j<i
       ·exact r1 j e
       ·rw[show j=i by omega];exact r3
     |some st=>
      obtain⟨sb,sq⟩:=st;have v0:=Vj sb sq
      by_cases a1:tk=true\/i=0
      ·have ab:X=(i,J+1):=by
        have h9:(List.range x.aF.length).find? (Ib x row)=some i:=by
         rw[List.find?_range_eq_some];refine⟨?_,by simpa using a6,fun j hj=>by simpa using M.out.1 j hj⟩;rw[M.out.2.2];rcases a1 with e|e <;>simp[e]
        have h8:=HX.out;rw[h9]at h8;exact h8.symm
       have a9:=Hd ab;clear ab;rcases a1 with rfl|rfl
       ·go_wp2_with fail
        go_ret2
        have Y:=U.out.trans (M.out.2.1.mono U.out.size);exact⟨by rw[a9.out];rfl,Y.alloc Y.size _⟩
       ·cases tk
        all_goals
         go_wp2_with fail
         go_ret2
         have Y:=U.out.trans (M.out.2.1.mono U.out.size);exact⟨by rw[a9.out];rfl,Y.alloc Y.size _⟩
      ·have ad:tk=false:=by cases tk <;>simp_all
       subst ad;have am:i≠0:=fun e=>a1 (.inr e)
       have e5:((i:Int)==0)=false:=by simp;omega
       clear a1;go_wp2_with fail
       go_roundg (x.aF.length- (i+1))
       case measure=>omega
       case rel=>
        obtain⟨r1,r2,r3⟩:=M.out;refine⟨i+1,by go_num,by omega,rfl,fun j hj=>?_,r2.alloc r2.size _⟩
        by_cases e:j<i
        ·exact r1 j e
        ·rw[show j=i by omega,r3];simp[am]
    ·have e1:decide ((i:Int)<(x.aF.length:Int))=false:=by simp;omega
     obtain rfl:i=x.aF.length:=by omega
     have ac:Hc x f J=X:=by
      have h9:(List.range x.aF.length).find? (Ib x row)=none:=by
       rw[List.find?_range_eq_none];intro j hj;simpa using a0 j hj
      have h8:=HX.out;rw[h9]at h8;exact h8
     have aj:=Hd ac;have af:=Hd (U.out.trans (D.mono U.out.size));clear ac D a0;go_wp2_with fail
     go_roundg J
     case measure=>omega
     case rel=>exact⟨J,by go_num,by omega,rfl,aj.out,af.out⟩
  ·have e0:decide ((0:Int)<(d:Int))=false:=by simp;omega
   obtain rfl:d=0:=by omega
   have hx:(0,0)=X:=hX;subst hx;have U:=Hd B;clear B hX;go_wp2_with fail
   go_ret2
   exact⟨rfl,U.out⟩
def Om(x:T9)(f:List (List Bool)):Nat->Nat->List Nat->ByteArray->List Nat×ByteArray
 |0,_,vis,t=>(vis,t)
 |d+1,bA,vis,t=>match Wg (x.aY.getD bA []) (f.getD d [])with
  |none=>(vis,t)
  |some s=>Om x f d s.q (vis++ [s.q]) (t++K1 [s.b])
def P7(x:T9)(f:List (List Bool))(start:Nat):List Nat×ByteArray:=Om x f f.length start [start] ⟨#[]⟩
theorem JH{x:T9}(G:Ti x){k:Nat}{l:List Bool}{s:Q7}(h:Wg (x.aY.getD k []) l=some s):s.q<x.aF.length/\s.b<256:=by
 have f:=List.mem_of_find?_eq_some h
 by_cases B:k<x.aY.length
 ·have D:x.aY.getD k []∈x.aY:=by rw[zC,zF B];exact zG B
  exact G.cY _ D s f
 ·rw[zC,yI (by omega)]at f;simp at f
theorem Ob(b:Nat):(K1 [b]).size=1:=by rw[Yd];rfl
theorem CD(wb:Nat)(x:T9)(start:Nat)(lv:Value)(K:List (List Bool))(w:World)(h:Si w wb x)(ho:Ti x)(hL:Q5 w lv K)(ah:∀l∈K,l.length=x.aF.length)(hm:K.length<=100001)(hs:start<x.aF.length):
  Calls Tryz.prog 103 #[.pointer (some ⟨wb,0,none⟩),.int .i64 start,lv] w fun e w'=>∃v,e=.returned (.tuple #[v,.string (P7 x K start).2])/\O2 w' v (Ub (P7 x K start).1)/\Bw w w':=by
 have af:=Hd ho.len;have ae:=Hd (fun(k:Nat) (l:List Bool) (s:Q7) (h9:Wg (x.aY.getD k []) l=some s)=>JH ho h9);have an:=Hd (fun(W:World) (hb:Bw w W) (k:Nat) (mv:Value) (a4:List Bool)=>Mx wb x k mv a4 W (h.aA hb) ho);obtain⟨ld,az,rfl,ad⟩:=hL.eC rfl;have HL:=Hd hL;have ao:=Hd ah;generalize hX:P7 x K start=X;unfold P7 at hX;have HX:=Hd hX;clear h ho hL ah hX;go_enter Tryz.func103,Tryz.ntmps103;go_wp2_with fail
 go_loopg[8,9,10,11] K.length (fun G vv tv av dv wr=>∃(d bA:Nat) (z:Int) (f:List Nat) (t:ByteArray),dv=.int .i64 z/\z=(d:Int)-1/\av=.int .i64 bA/\bA<x.aF.length/\tv=.string t/\d<=K.length/\G=d/\t.size+d<=K.length/\f.length+d<=K.length+1/\Om x K d bA f t=X/\Bw w wr/\O2 wr vv (Ub f)/\(∀b,vv.ownBlock=some b->w.heap.size<=b))
 case atStart=>
  refine⟨K.length,start,_,[start],⟨#[]⟩,rfl,rfl,rfl,hs,rfl,zD _,rfl,by show 0+_<=_;omega,by simp;omega,HX.out,P0 _ _,?_,?_⟩
  ·exact D5 (cur:=#[.int .i64 start]) (by rfl) (Blk.aQ _ _ _) (zD _) (by unfold maxLen;omega) rfl (by rfl)
  ·intro b e;cases(zE e:w.heap.size=b);exact zD _
 case round=>
  obtain⟨d,bA,z,f,t,rfl,hz,rfl,ap,rfl,hd,hG,b0,b1,hX,U,hV,hO⟩:=hrel;clear HX;obtain⟨vd,D,rfl,au⟩:=hV.gU
  by_cases h0:0<d
  ·obtain⟨Y,rfl⟩:∃Y,d=Y+1:=⟨d-1,by omega⟩;obtain rfl:z=(Y:Int):=by omega
   have e0:decide ((0:Int)<=(Y:Int))=true:=by simp
   rcases ad with h9|⟨lg,rfl⟩
   ·omega
   unfold Om at hX;obtain⟨pv,p0,hP⟩:=F8.cell (HL.out.aA U) Y (by omega);have aa:(K.getD Y []).length=x.aF.length:=ao.out _ (by rw[zC,zF (by omega)];exact zG _);obtain⟨pd,am,rfl,_⟩:=hP.aT;have q0:(0:Int)<=(Y:Int):=by omega
   have q1:(Y:Int)<(K.length:Int):=by omega
   have a0:=fun s=>ae.out bA (K.getD Y []) s
   generalize K.getD Y []=row at hP aa p0 hX a0;have Z:=Hd (an.out wr U bA (.slice pd row.length am) row (by rw[af.out];exact ap) hP aa);generalize Wg (x.aY.getD bA []) row=F at Z hX a0;have HX:=Hd hX;have HH:Hid (Bw w wr/\O2 wr (.slice vd f.length D) (Ub f)/\(∀b,(Value.slice vd f.length D).ownBlock=some b->w.heap.size<=b)):=⟨U,hV,hO⟩;clear hP aa hX U hV hO hz;go_wp2_with fail;refine Z.out.mono ?_;rintro e w1 ⟨rfl,ac⟩;have a6:Hid (Bw w w1/\O2 w1 (.slice vd f.length D) (Ub f)/\(∀b,(Value.slice vd f.length D).ownBlock=some b->w.heap.size<=b)):=⟨HH.out.1.trans (ac.mono HH.out.1.size),HH.out.2.1.aA ac,HH.out.2.2⟩;clear HH Z ac p0;cases F with
   |none=>
    have v0:=Ko;have hx:(f,t)=X:=HX.out;subst hx;clear a0;go_wp2_with fail
    go_ret2
    obtain⟨r1,r2,r3⟩:=a6.out;exact⟨_,rfl,r2.aA (P0 _ _),r1.alloc r1.size _⟩
   |some st=>
    obtain⟨sb,J⟩:=st;have v0:=Vj sb J;obtain⟨ak,ar⟩:=a0 ⟨sb,J⟩ rfl;simp only at ak ar;have u1:∀W:World,(Op.stringOp .add t (K1 [sb])).run Tryz.prog W=.ok (.string (t++K1 [sb])) W:=fun W=>run_string_add_sum W _ _ (by rw[Ob];omega)
    obtain⟨ii,aq,aw,ax,ay⟩:=info_parts Tryz.cG;obtain⟨V,a2⟩:∃V:World,w1.alloc (.cells #[.string (K1 [sb]),.int .i64 J] 186)=V:=⟨_,rfl⟩;have a3:Blk V w1.heap.size #[.string (K1 [sb]),.int .i64 J] 186:=by rw[<-a2];exact Blk.aQ _ _ _
    have a7:Hid (Bw w V/\O2 V (.slice vd f.length D) (Ub f)/\(∀b,(Value.slice vd f.length D).ownBlock=some b->w.heap.size<=b)/\Blk V w1.heap.size #[.string (K1 [sb]),.int .i64 J] 186):=by
     obtain⟨r1,r2,r3⟩:=a6.out;exact⟨by rw[<-a2];exact r1.alloc r1.size _,by rw[<-a2];exact r2.aA (P0 _ _),r3,a3⟩
    have aj:(V.alloc (.cells #[.int .i64 J] 3)).ownsRow 0 3 1 (.slice vd f.length D) f.length ((Ub f).map (Value.int .i64)):=by
     have h9:=a7.out.2.1.aA (P0 V (.cells #[.int .i64 J] 3));unfold O2 at h9;rw[Ve]at h9;exact h9
    have a9:=Hd aj;have c1:=a3.cell 1;have zS:=a3.lt;clear aj a0 a3 a6;go_upto_region 9 with fail
    try rw[a2]
    clear a2;go_wp2_with(at_builtin;(refine wpList_append_lies _ (by rfl) _ _ _ (by rfl) 0 3 ii _ 1 8 Tryz.underlying60 aq aw ax ay rfl (by omega) (.slice vd f.length D) f.length ((Ub f).map (Value.int .i64)) (by rfl) a9.out ⟨V.heap.size,0,none⟩ 1 1 [.int .i64 J] (by rfl) (by rfl) (World.news_of_block (cs:=#[.int .i64 J]) (t:=3) (fr:=(0,0)) (by have:=heap_alloc_new V (.cells #[.int .i64 J] 3);simpa using this)) (by simp[Value.oneCell']) (by omega) (by unfold maxLen;omega) (by omega) (by simp) (V.heap.size+1) (by simp) ?_));intro gg ag w6 a1 B a5 ai;have M:C0 (fun y=>(Value.slice vd f.length D).ownBlock=some y) (V.alloc (.cells #[.int .i64 J] 3)) w6:=⟨B.os,B.tape,B.output,B.size,fun k hk he=>B.block k hk (fun e=>he e.symm)⟩;obtain⟨r1,r2,r3,r4⟩:=a7.out;have ab:Blk w6 w1.heap.size #[.string (K1 [sb]),.int .i64 J] 186:=(r4.alloc _).kept M (fun e=>K0 a9.out (r4.alloc _) (by decide) e);have a8:Hid (Bw w w6/\O2 w6 (.slice (some ⟨gg,0,none⟩) (f.length+1) ag) (Ub (f++ [J]))/\w.heap.size<=gg):=by
     refine⟨?_,?_,?_⟩
     ·have k1:Bw w (V.alloc (.cells #[.int .i64 J] 3)):=r1.alloc r1.size _;exact k1.trans ⟨M.os,M.tape,M.output,M.size,fun y hy=>M.block y (by have:=k1.size;omega) (fun e=>by have:=r3 y e;omega)⟩
     ·have e9:Ub (f++ [J])=Ub f++ [(J:Int)]:=by simp[Ub]
      unfold O2;rw[e9,yB,zL,Ve];exact a1
     ·rcases a5 with e|e
      ·exact r3 gg e
      ·have:=r1.size;omega
    have c0:=ab.cell 0;have b2:=ab.lt;clear M a1 B a5 ai a9 r1 r2 r3 r4 ab a7 c1;go_wp2_with fail
    go_roundg Y
    case measure=>omega
    case rel=>
     refine⟨Y,J,_,f++ [J],t++K1 [sb],rfl,rfl,rfl,ak,rfl,by omega,rfl,by rw[zR,Ob];omega,by simp;omega,HX.out,a8.out.1,?_,fun b e=>?_⟩
     ·have:=a8.out.2.1;simpa using this
     ·cases(zE e:gg=b);exact a8.out.2.2
  ·obtain rfl:d=0:=by omega
   obtain rfl:z= -1:=by omega
   have hx:(f,t)=X:=hX;subst hx;have HH:Hid (Bw w wr/\O2 wr (.slice vd f.length D) (Ub f)):=⟨U,hV⟩;clear hX U hV hO hz;go_wp2_with fail
   go_ret2
   exact⟨_,rfl,HH.out.2,HH.out.1⟩
def Qm(h:List Nat)(s:Nat):Option Nat:=(List.range s).find? (fun f=>h.getD f 0==h.getD s 0)
def C5(f:List Nat):Nat×Nat:=match(List.range f.length).find? (fun s=>(Qm f s).isSome)with
 |none=>(0,0)
 |some s=>((Qm f s).getD 0,s)
theorem WJ{B:List Nat}{s f:Nat}(h:Qm B s=some f):f<s:=by
 have:=List.mem_of_find?_eq_some h;simpa using this
theorem PM(B:List Nat)(h:0<B.length):(C5 B).1<=(C5 B).2/\(C5 B).2<B.length:=by
 unfold C5;split
 ·exact⟨zD _,h⟩
 ·rename_i s J;have D:=List.mem_of_find?_eq_some J;have G:s<B.length:=by simpa using D
  refine⟨?_,G⟩;cases hw:Qm B s with
  |none=>simp
  |some f=>have:=WJ hw;simp;omega
theorem QM(B:List Nat)(v:Value)(w:World)(h:O2 w v (Ub B))(hl:B.length<=200000):
  Calls Tryz.prog 104 #[v] w fun e w'=>e=.returned (.tuple #[.int .i64 ((C5 B).1:Int),.int .i64 ((C5 B).2:Int)])/\Bw w w':=by
 obtain⟨vd,U,rfl,Z⟩:=h.gU;have HV:=Hd h;clear h;go_enter Tryz.func104,Tryz.ntmps104
 go_wp2_with fail
 go_loopg[10] B.length (fun G sv wr=>∃s:Nat,sv=.int .i64 s/\s<=B.length/\G=B.length-s/\wr=w/\∀j,j<s->Qm B j=none)
 case atStart=>exact⟨0,rfl,by omega,rfl,rfl,fun j X=>by omega⟩
 case round=>
  obtain⟨s,rfl,hs,rfl,rfl,a6⟩:=hrel;have W:=Hd a6;clear a6
  by_cases a4:s<B.length
  ·have e0:decide ((s:Int)<(B.length:Int))=true:=by simp;omega
   rcases Z with h9|⟨vg,rfl⟩
   ·omega
   have c0:=HV.out.cellN s a4;have s0:(0:Int)<=(s:Int):=by omega
   have s1:(s:Int)<(B.length:Int):=by omega
   have a3:B.length<=U:=by
    obtain⟨_,ab,a9,e9,⟨h1,h2⟩|⟨g9,aa,h1,h2,h3,_⟩⟩:=L0 HV.out
    ·rw[Ve]at h2;omega
    ·rw[Ve]at h3
     injection e9 with e1 e2 e3
     omega
   have s2:(s:Int)<=(U:Int):=by omega
   obtain⟨vs,a0⟩:∃vs,B.getD s 0=vs:=⟨_,rfl⟩;rw[a0]at c0;have a2:=Hd a0;clear a3 a0;go_wp2_with fail
   go_loopg[19] s (fun G fv wi=>∃f:Nat,fv=.int .i64 f/\f<=s/\G=s-f/\wi=wr/\∀j,j<f->B.getD j 0≠B.getD s 0)
   case atStart=>exact⟨0,rfl,by omega,rfl,rfl,fun j X=>by omega⟩
   case round=>
    obtain⟨f,rfl,hf,rfl,rfl,a5⟩:=hrel;have V:=Hd a5;clear a5
    by_cases a8:f<s
    ·have e1:decide ((f:Int)<(s:Int))=true:=by simp;omega
     have c1:=HV.out.cellN f (by omega);have f0:(0:Int)<=(f:Int):=by omega
     have f1:(f:Int)<(s:Int):=by omega
     obtain⟨vf,Y⟩:∃vf,B.getD f 0=vf:=⟨_,rfl⟩;rw[Y]at c1;have a1:=Hd Y;clear Y
     by_cases K:vf=vs
     ·have e2:((vf:Int)==(vs:Int))=true:=by rw[K];simp
      have M:Qm B s=some f:=by
       unfold Qm;rw[List.find?_range_eq_some];exact⟨by rw[a1.out,a2.out,K];simp,by simpa using a8,fun j X=>by simpa using V.out j X⟩
      have D:C5 B=(f,s):=by
       have h9:(List.range B.length).find? (fun s=>(Qm B s).isSome)=some s:=by
        rw[List.find?_range_eq_some];exact⟨by rw[M];rfl,by simpa using a4,fun j X=>by rw[W.out j X];rfl⟩
       unfold C5;rw[h9];simp[M]
      have J:=Hd D;clear M D;subst K;go_wp2_with fail
      go_ret2
      exact⟨by rw[J.out];rfl,Below.refl _ _⟩
     ·have e2:((vf:Int)==(vs:Int))=false:=by
       rw[beq_eq_false_iff_ne];intro e;exact K (by omega)
      have a7:=Hd K;go_wp2_with fail
      go_roundg (s- (f+1))
      case measure=>omega
      case rel=>
       refine⟨f+1,by go_num,by omega,rfl,rfl,fun j X=>?_⟩
       by_cases e:j<f
       ·exact V.out j e
       ·rw[show j=f by omega,a1.out,a2.out];exact a7.out
    ·have e1:decide ((f:Int)<(s:Int))=false:=by simp;omega
     obtain rfl:f=s:=by omega
     go_wp2_with fail
     go_roundg (B.length- (f+1))
     case measure=>omega
     case rel=>
      refine⟨f+1,by go_num,by omega,rfl,rfl,fun j X=>?_⟩
      by_cases e:j<f
      ·exact W.out j e
      ·rw[show j=f by omega];unfold Qm;rw[List.find?_range_eq_none];intro i hi;simpa using V.out i hi
  ·have e0:decide ((s:Int)<(B.length:Int))=false:=by simp;omega
   obtain rfl:s=B.length:=by omega
   have D:C5 B=(0,0):=by
    have h9:(List.range B.length).find? (fun s=>(Qm B s).isSome)=none:=by
     rw[List.find?_range_eq_none];intro i hi;rw[W.out i hi];rfl
    unfold C5;rw[h9]
   have J:=Hd D;clear D;go_wp2_with fail
   go_ret2
   exact⟨by rw[J.out];rfl,Below.refl _ _⟩
end Go.Proofs.YtcckhngbdoiikaaGreat
