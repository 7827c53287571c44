import Derived.Test.YtcckhngbdoiikabGreatA35
import Derived.Deep.RegionWith
import Derived.BigRegion
set_option maxRecDepth 20000
set_option maxHeartbeats 12800000
set_option linter.unusedVariables false
namespace Go.Proofs.YtcckhngbdoiikabGreat
open Go.RowKit Go.Deep
def A9(x:K9)(f:List Bool)(s:Nat):Bool:=(Gh (x.aZ.getD s []) f).isSome
def P7(x:K9)(f:List Bool):List Bool:=(List.range x.aF.length).map (fun(s:Nat)=>A9 x f s && !(x.aF.getD s false))
def J3(x:K9):Nat->List Bool
 |0=>x.aF
 |d+1=>P7 x (J3 x d)
def L1(x:K9)(n:Nat):List (List Bool):=(List.range n).map (J3 x)
theorem Uf(x:K9):∀d,(J3 x d).length=x.aF.length
 |0=>rfl
 |d+1=>by simp[J3,P7]
theorem E3(x:K9)(n:Nat):(L1 x n).length=n:=by simp[L1]
theorem BG(x:K9)(n:Nat):L1 x (n+1)=L1 x n++ [J3 x n]:=by simp[L1,List.range_succ]
theorem T8(x:K9)(n i:Nat)(h:i<n):(L1 x n).getD i []=J3 x i:=by simp[L1,h]
theorem W5.eC{w:World}{v:Value}{ll:List (List Bool)}{n:Nat}(h:W5 w v ll)(D:ll.length=n):∃(B:Option Addr) (f:Nat),v=.slice B n f/\(n=0\/∃g,B=some ⟨g,0,none⟩):=by
 subst D;exact N8.aV h
theorem Tryz.iW:(Tryz.prog.info? 143).map (fun i=>(i.zero,i.size,i.bytes))=some (some (.slice none 0 0),1,24):=by kernel_rfl
theorem Cp:UW none=.tuple #[.agg #[.string ⟨#[]⟩,.int .i64 0],.bool false]:=rfl
theorem Fk(b q:Nat):UW (some ⟨b,q⟩)=.tuple #[.agg #[.string (K1 [b]),.int .i64 q],.bool true]:=rfl
theorem Pt{x:K9}{f l:List Bool}{i:Nat}{v:Bool}(B:l.length=x.aF.length)(G:i<x.aF.length)(h:∀j,j<i->l.getD j false=(P7 x f).getD j false)(D:(P7 x f).getD i false=v):
  (l.set i v).length=x.aF.length/\∀j,j<i+1->(l.set i v).getD j false=(P7 x f).getD j false:=by
 refine⟨by simp[B],fun j J=>?_⟩;rw[C7 _ _ _ _ (by omega)];split
 ·rename_i e;rw[e,D]
 ·exact h j (by omega)
theorem TS{x:K9}{f l:List Bool}(J:l.length=x.aF.length)(h:∀j,j<x.aF.length->l.getD j false=(P7 x f).getD j false):l=P7 x f:=by
 refine List.ext_getElem (by rw[J];simp[P7]) fun j B D=>?_
 have G:=h j (by omega);simpa[B,D]using G
theorem FN(wb:Nat)(x:K9)(f:Nat)(w:World)(h:Bj w wb x)(ho:Cj x)(hm:f<=100000):
  Calls Tryz.prog 106 #[.pointer (some ⟨wb,0,none⟩),.int .i64 f] w fun e w'=>∃v,e=.returned v/\W5 w' v (L1 x (f+1))/\(∀b,v.ownBlock=some b->w.heap.size<=b)/\Bw w w':=by
 have a8:=ho.len;have b8:=ho.dW;have ar:=Hd (fun(W:World) (hb:Bw w W) (k:Nat) (mv:Value) (a6:List Bool)=>My wb x k mv a6 W (h.aA hb) ho);obtain⟨tv,sv,hb,ht,hs⟩:=h.ex;obtain⟨td,ab,rfl,ai⟩:=ht.aV;have c0:=hb.cell 0;have zb:=hb.lt;have HT:=Hd ht;have HB:=Hd hb;have b7:=A8 x.aF.length (by omega);have aj:=Hd a8;clear h ho hs hb ht a8;go_enter Tryz.func106,Tryz.ntmps106;go_wp2_with fail
 go_loopg[5,6] f (fun G lv dv wr=>∃d:Nat,dv=.int .i64 d/\1<=d/\d<=f+1/\G=f+1-d/\Bw w wr/\W5 wr lv (L1 x d)/\(∀b,lv.ownBlock=some b->w.heap.size<=b))
 case atStart=>
  refine⟨1,rfl,by omega,by omega,by omega,N0 _ _,⟨[.slice td x.aF.length ab],?_,rfl,fun i v hv=>?_⟩,fun b e=>?_⟩
  ·exact J5 (cur:=#[.slice td x.aF.length ab]) (by rfl) (Blk.aR _ _ _) (zD _) (by unfold maxLen;omega) rfl (by rfl)
  ·cases i with
   |zero=>
    simp only[List.getElem?_cons_zero,Option.some.injEq]at hv;subst hv;exact HT.out.aA (N0 _ _)
   |succ i=>simp at hv
  ·cases(zE e:w.heap.size=b);exact zD _
 case round=>
  obtain⟨d,rfl,b4,b5,rfl,Z,hL,hO⟩:=hrel;obtain⟨ld,D,rfl,ah⟩:=hL.eC (E3 x d)
  by_cases b6:d<=f
  ·have e0:decide ((d:Int)<=(f:Int))=true:=by simp;omega
   rcases ah with h0|⟨lg,rfl⟩
   ·omega
   have k0:=(Z.cell (p:=⟨wb,0,none⟩) zb).trans c0;have zw:wb<wr.heap.size:=by have:=Z.size;omega
   obtain⟨pv,p0,hP⟩:=(show N8 wr 143 (fun w v i=>E6 w v ((L1 x d).getD i [])) (.slice (some ⟨lg,0,none⟩) d D) d by have h9:=hL;unfold W5 at h9;rw[E3]at h9;exact h9).cell (d-1) (by omega);rw[T8 x d (d-1) (by omega)]at hP;obtain⟨pd,aa,rfl,_⟩:=hP.aV;rw[Uf]at hP p0;obtain⟨K,b3⟩:∃K:Nat,(d:Int)-1=(K:Int):=⟨d-1,by omega⟩;have ag:d-1=K:=by omega
   rw[ag]at p0 hP;have q0:(0:Int)<=(K:Int):=by omega
   have q1:(K:Int)<(d:Int):=by omega
   have zl:lg<wr.heap.size:=by obtain⟨vs,h9,_⟩:=hL;exact Q1 h9 lg rfl
   have aq:=Hd ag;have Y:Hid (Bw w wr/\W5 wr (.slice (some ⟨lg,0,none⟩) d D) (L1 x d)/\(∀b,(Value.slice (some ⟨lg,0,none⟩) d D).ownBlock=some b->w.heap.size<=b)/\E6 wr (.slice pd x.aF.length aa) (J3 x K)):=⟨Z,hL,hO,hP⟩;clear Z hL hO hP ag;obtain⟨J,rfl⟩:∃J:World,J=wr:=⟨_,rfl⟩;go_wp2_with fail
   go_loopg[33] x.aF.length (fun G iv wi=>∃(i:Nat) (l:List Bool),iv=.int .i64 i/\i<=x.aF.length/\G=x.aF.length-i/\l.length=x.aF.length/\(∀j,j<i->l.getD j false=(P7 x (J3 x K)).getD j false)/\Blk wi J.heap.size (Z0 l) 4/\Bw J wi)
   case atStart=>exact⟨0,List.replicate x.aF.length false,rfl,by omega,rfl,by simp,fun j hj=>by omega,Blk.aR _ _ _,N0 _ _⟩
   case round=>
    obtain⟨i,l,rfl,hi,rfl,a0,a5,hI,M⟩:=hrel
    by_cases V:i<x.aF.length
    ·have e1:decide ((i:Int)<(x.aF.length:Int))=true:=by simp;omega
     rcases ai with h0|⟨tg,rfl⟩
     ·omega
     have a3:Bw w wr:=Y.out.1.trans (M.mono Y.out.1.size);have t0:=(HT.out.aA a3).cellD i V;have i0:(0:Int)<=(i:Int):=by omega
     have i1:(i:Int)<(x.aF.length:Int):=by omega
     have b2:=(M.cell (p:=⟨lg,K,none⟩) zl).trans p0;have a1:=Hd (ar.out wr a3 i (.slice pd x.aF.length aa) (J3 x K) (by rw[aj.out];exact V) (Y.out.2.2.2.aA M) (Uf x K));have X:(P7 x (J3 x K)).getD i false=((Gh (x.aZ.getD i []) (J3 x K)).isSome && !(x.aF.getD i false)):=by simp[P7,V,A9]
     generalize au:Gh (x.aZ.getD i []) (J3 x K)=F at a1 X;generalize ay:x.aF.getD i false=tk at t0 X;have HI:Hid (l.length=x.aF.length/\(∀j,j<i->l.getD j false=(P7 x (J3 x K)).getD j false)/\Blk wr J.heap.size (Z0 l) 4/\Bw J wr/\(P7 x (J3 x K)).getD i false=(F.isSome && !tk)):=⟨a0,a5,hI,M,X⟩;clear a0 a5 hI M X a3 au ay;go_wp2_with fail;refine a1.out.mono ?_;rintro e w1 ⟨rfl,af⟩;obtain⟨r1,r2,r3,r4,r5⟩:=HI.out;have a2:=r3.aA af;have f0:=a2.frozen i;have cI:=P2 a2 i (by rw[r1];exact V);have zI:=a2.lt;have ad:Hid (l.length=x.aF.length/\(∀j,j<i->l.getD j false=(P7 x (J3 x K)).getD j false)/\Blk w1 J.heap.size (Z0 l) 4/\Bw J w1/\(P7 x (J3 x K)).getD i false=(F.isSome && !tk)):=⟨r1,r2,a2,r4.trans (af.mono r4.size),r5⟩;clear r1 r2 r3 r4 r5 a2 HI a1 af t0 b2;cases F with
     |none=>
      have v0:=Cp;go_wp2_with fail
      go_roundg (x.aF.length- (i+1))
      case measure=>omega
      case rel=>
       obtain⟨r1,r2,r3,r4,r5⟩:=ad.out;obtain⟨s1,s2⟩:=Pt r1 V r2 (show _=false from r5);refine⟨i+1,l.set i false,by go_num,by omega,rfl,s1,s2,?_,?_⟩
       ·rw[<-D4];exact(r3.set i _).alloc _
       ·exact(r4.setCell (p:=⟨J.heap.size,i,none⟩) (zD _) _).alloc (by simpa using r4.size) _
     |some st=>
      obtain⟨sb,sq⟩:=st;cases tk with
      |true=>
       have v0:=Fk sb sq;go_wp2_with fail
       go_roundg (x.aF.length- (i+1))
       case measure=>omega
       case rel=>
        obtain⟨r1,r2,r3,r4,r5⟩:=ad.out;obtain⟨s1,s2⟩:=Pt r1 V r2 (show _=false from r5);refine⟨i+1,l.set i false,by go_num,by omega,rfl,s1,s2,?_,?_⟩
        ·rw[<-D4];exact(r3.set i _).alloc _
        ·exact(r4.setCell (p:=⟨J.heap.size,i,none⟩) (zD _) _).alloc (by simpa using r4.size) _
      |false=>
       have v0:=Fk sb sq;go_wp2_with fail
       go_roundg (x.aF.length- (i+1))
       case measure=>omega
       case rel=>
        obtain⟨r1,r2,r3,r4,r5⟩:=ad.out;obtain⟨s1,s2⟩:=Pt r1 V r2 (show _=true from r5);refine⟨i+1,l.set i true,by go_num,by omega,rfl,s1,s2,?_,?_⟩
        ·rw[<-D4];exact(r3.set i _).alloc _
        ·exact(r4.setCell (p:=⟨J.heap.size,i,none⟩) (zD _) _).alloc (by simpa using r4.size) _
    ·have e1:decide ((i:Int)<(x.aF.length:Int))=false:=by simp;omega
     obtain rfl:i=x.aF.length:=by omega
     have an:=TS a0 a5;subst an;obtain⟨vs,g1,g2,g3⟩:=(Y.out.2.1.aA M);rw[E3]at g1 g2;obtain⟨ii,aw,az,b0,b1⟩:=info_parts Tryz.iW;have ap:(wr.alloc (.cells #[.slice (some ⟨J.heap.size,0,none⟩) x.aF.length x.aF.length] 143)).ownsRow 0 143 1 (.slice (some ⟨lg,0,none⟩) d D) d vs:=K0 (ex:=fun _=>False) g1 (C0.aM (N0 _ _)) (fun _ _ e=>e);have ae:=Hd ap;have a9:E6 wr (.slice (some ⟨J.heap.size,0,none⟩) x.aF.length x.aF.length) (P7 x (J3 x K)):=by
      have h9:=E6.cC hI (by rw[a0];omega);rw[a0]at h9;exact h9
     have HG:Hid (vs.length=d/\(∀k v,vs[k]?=some v->E6 wr v ((L1 x d).getD k []))/\E6 wr (.slice (some ⟨J.heap.size,0,none⟩) x.aF.length x.aF.length) (P7 x (J3 x K))/\Bw w wr):=⟨g2,g3,a9,Y.out.1.trans (M.mono Y.out.1.size)⟩;have zz:=M.size;have hO:=Y.out.2.2.1;have HO:=Hd hO;have b9:=Y.out.1.size;clear g1 g2 g3 ap a9 a0 a5 hI M hO Y;go_wp2_with(at_builtin;(refine wpList_append_lies _ (by rfl) _ _ _ (by rfl) 0 143 ii _ 1 24 Tryz.underlying144 aw az b0 b1 rfl (by omega) (.slice (some ⟨lg,0,none⟩) d D) d vs (by rfl) ae.out ⟨wr.heap.size,0,none⟩ 1 1 [.slice (some ⟨J.heap.size,0,none⟩) x.aF.length x.aF.length] (by rfl) (by rfl) (World.news_of_block (cs:=#[.slice (some ⟨J.heap.size,0,none⟩) x.aF.length x.aF.length]) (t:=143) (fr:=(0,0)) (by have:=heap_alloc_new wr (.cells #[.slice (some ⟨J.heap.size,0,none⟩) x.aF.length x.aF.length] 143);simpa using this)) (by simp[Value.oneCell']) (by omega) (by unfold maxLen;omega) (by omega) (by simp) (wr.heap.size+1) (by simp) ?_));intro gg ak w6 a4 B a7 ao;have U:C0 (fun y=>(Value.slice (some ⟨lg,0,none⟩) d D).ownBlock=some y) (wr.alloc (.cells #[.slice (some ⟨J.heap.size,0,none⟩) x.aF.length x.aF.length] 143)) w6:=⟨B.os,B.tape,B.output,B.size,fun k hk he=>B.block k hk (fun e=>he e.symm)⟩;obtain⟨h1,h2,h3,h4⟩:=HG.out;have ac:Hid (Bw w w6/\W5 w6 (.slice (some ⟨gg,0,none⟩) (d+1) ak) (L1 x (d+1))/\w.heap.size<=gg):=by
      refine⟨?_,⟨vs++ [.slice (some ⟨J.heap.size,0,none⟩) x.aF.length x.aF.length],by rw[E3];exact a4,by rw[E3];simp[h1],fun k v hv=>?_⟩,?_⟩
      ·have k1:Bw w (wr.alloc (.cells #[.slice (some ⟨J.heap.size,0,none⟩) x.aF.length x.aF.length] 143)):=h4.alloc h4.size _;exact k1.trans ⟨U.os,U.tape,U.output,U.size,fun y hy=>U.block y (by have:=k1.size;omega) (fun e=>by have:=HO.out y e;omega)⟩
      ·have am:∀{v':Value} {l':List Bool},E6 wr v' l'->E6 w6 v' l':=fun{v'} {l'} av=>by
        have h8:=av.aA (N0 wr (.cells #[.slice (some ⟨J.heap.size,0,none⟩) x.aF.length x.aF.length] 143));exact h8.kept U (Vt h8 ae.out (by decide))
       by_cases e:k<d
       ·rw[zR (by rw[h1];exact e)]at hv;have h9:=am (h2 k v hv);rw[T8 x d k e]at h9;show E6 w6 v ((L1 x (d+1)).getD k []);rw[T8 x (d+1) k (by omega)];exact h9
       ·rw[zY (by rw[h1];omega),h1]at hv;have ax:k=d:=by
         rcases yE (k-d) 1 with e2|e2
         ·omega
         ·rw[yJ (by simpa using e2)]at hv;cases hv
        subst ax;simp only[yS,List.getElem?_cons_zero,Option.some.injEq]at hv;subst hv;show E6 w6 (.slice (some ⟨J.heap.size,0,none⟩) x.aF.length x.aF.length) ((L1 x (k+1)).getD k []);rw[T8 x (k+1) k (by omega)];have e9:J3 x k=P7 x (J3 x K):=by rw[<-aq.out,show k=(k-1)+1 by omega];rfl
        rw[e9];exact am h3
      ·rcases a7 with e|e
       ·exact HO.out gg e
       ·omega
     clear U a4 B a7 ao ae h1 h2 h3 h4 HG HO;go_wp2_with fail
     go_roundg (f+1- (d+1))
     case measure=>omega
     case rel=>
      refine⟨d+1,by go_num,by omega,by omega,rfl,ac.out.1,ac.out.2.1,fun b e=>?_⟩;cases(zE e:gg=b);exact ac.out.2.2
  ·have e0:decide ((d:Int)<=(f:Int))=false:=by simp;omega
   obtain rfl:d=f+1:=by omega
   have Y:Hid (Bw w wr/\W5 wr (.slice ld (f+1) D) (L1 x (f+1))/\(∀b,(Value.slice ld (f+1) D).ownBlock=some b->w.heap.size<=b)):=⟨Z,hL,hO⟩;clear Z hL hO;go_wp2_with fail;go_ret;exact⟨_,rfl,Y.out.2.1,Y.out.2.2,Y.out.1⟩
theorem N8.take{w:World}{G:TypeId}{P:World->Value->Nat->Prop}{g f n:Nat}(h:N8 w G P (.slice (some ⟨g,0,none⟩) n f) n)(k:Nat)(hk:k<=n):N8 w G P (.slice (some ⟨g,0,none⟩) k f) k:=by
 obtain⟨Y,W,h2,X⟩:=h;refine⟨Y.take k,?_,by simp;omega,fun i x B=>?_⟩
 ·obtain⟨h0,⟨e,_⟩|⟨Z,D,cur,e,J,K,g4,M,U,V⟩⟩:=W
  ·cases e
  ·cases e;refine⟨by simp;omega,.inr ⟨g,f,cur,rfl,J,K,by omega,M,U,?_⟩⟩;rw[<-V,List.take_take]
   congr 1
   omega
 ·rw[List.getElem?_take]at B;split at B
  ·exact X i x B
  ·cases B
def Za(x:K9)(l:List Bool)(s:Nat):Bool:=A9 x l s && (x.aF.getD s false || decide (s=0))
def Na(x:K9)(f:List (List Bool)):Nat->Nat×Nat
 |0=>(0,0)
 |d+1=>match(List.range x.aF.length).find? (Za x (f.getD d []))with
  |some s=>(s,d+1)
  |none=>Na x f d
theorem PF(wb:Nat)(x:K9)(lv:Value)(f:List (List Bool))(w:World)(h:Bj w wb x)(ho:Cj x)(hL:W5 w lv f)(aa:∀l∈f,l.length=x.aF.length)(hm:f.length<=100001):
  Calls Tryz.prog 135 #[.pointer (some ⟨wb,0,none⟩),lv] w fun e w'=>e=.returned (.tuple #[.int .i64 ((Na x f f.length).1:Int),.int .i64 ((Na x f f.length).2:Int)])/\Bw w w':=by
 have au:=ho.dW;have a8:=Hd ho.len;have ag:=Hd (fun(W:World) (hb:Bw w W) (k:Nat) (mv:Value) (a2:List Bool)=>My wb x k mv a2 W (h.aA hb) ho);obtain⟨tv,sv,hb,ht,hs⟩:=h.ex;obtain⟨td,aq,rfl,a7⟩:=ht.aV;obtain⟨ld,ap,rfl,a5⟩:=hL.eC rfl;have c0:=hb.cell 0;have zb:=hb.lt;have HT:=Hd ht;have HL:=Hd hL;have ah:=Hd aa;generalize hX:Na x f f.length=X;have HX:=Hd hX;clear h ho hs hb ht hL aa hX;go_enter Tryz.func135,Tryz.ntmps135;go_wp2_with fail
 go_loopg[6] f.length (fun G dv wr=>∃d:Nat,dv=.int .i64 d/\d<=f.length/\G=d/\Na x f d=X/\Bw w wr)
 case atStart=>exact⟨f.length,rfl,zD _,rfl,HX.out,Below.refl _ _⟩
 case round=>
  obtain⟨d,rfl,hd,hG,hX,B⟩:=hrel;clear HX
  by_cases h0:0<d
  ·have e0:decide ((0:Int)<(d:Int))=true:=by simp;omega
   rcases a5 with h9|⟨lg,rfl⟩
   ·omega
   obtain⟨J,rfl⟩:∃J,d=J+1:=⟨d-1,by omega⟩;unfold Na at hX;obtain⟨pv,p0,hP⟩:=N8.cell (HL.out.aA B) J (by omega);have a3:(f.getD J []).length=x.aF.length:=ah.out _ (by rw[zC,zF (by omega)];exact zG _);obtain⟨pd,ae,rfl,_⟩:=hP.aV;have k0:=(B.cell (p:=⟨wb,0,none⟩) zb).trans c0;have zw:wb<wr.heap.size:=by have:=B.size;omega
   have zl:lg<wr.heap.size:=by obtain⟨vs,h9,_⟩:=HL.out.aA B;exact Q1 h9 lg rfl
   have ar:((J+1:Nat):Int)-1=(J:Int):=by omega
   have q0:(0:Int)<=(J:Int):=by omega
   have q1:(J:Int)<(f.length:Int):=by omega
   generalize f.getD J []=row at hP a3 p0 hX;have HP:=Hd hP;have ai:=Hd a3;have HX:=Hd hX;have U:=Hd B;clear hP a3 hX B;obtain⟨wo,rfl⟩:∃wo:World,wo=wr:=⟨_,rfl⟩;go_wp2_with fail
   go_loopg[22] x.aF.length (fun G iv wi=>∃i:Nat,iv=.int .i64 i/\i<=x.aF.length/\G=x.aF.length-i/\(∀j,j<i->Za x row j=false)/\Bw wo wi)
   case atStart=>exact⟨0,rfl,by omega,rfl,fun j hj=>by omega,Below.refl _ _⟩
   case round=>
    obtain⟨i,rfl,hi,rfl,a0,D⟩:=hrel
    by_cases a6:i<x.aF.length
    ·have e1:decide ((i:Int)<(x.aF.length:Int))=true:=by simp;omega
     rcases a7 with h9|⟨tg,rfl⟩
     ·omega
     have Z:Bw w wr:=U.out.trans (D.mono U.out.size);have t0:=(HT.out.aA Z).cellD i a6;have i0:(0:Int)<=(i:Int):=by omega
     have i1:(i:Int)<(x.aF.length:Int):=by omega
     have ao:=(D.cell (p:=⟨lg,J,none⟩) zl).trans p0;have V:=Hd (ag.out wr Z i (.slice pd row.length ae) row (by rw[a8.out];exact a6) (HP.out.aA D) ai.out);have K:Za x row i=((Gh (x.aZ.getD i []) row).isSome && (x.aF.getD i false || decide (i=0))):=rfl;generalize ak:Gh (x.aZ.getD i []) row=F at V K;generalize an:x.aF.getD i false=tk at t0 K;have HI:Hid ((∀j,j<i->Za x row j=false)/\Bw wo wr/\Za x row i=(F.isSome && (tk || decide (i=0)))):=⟨a0,D,K⟩;clear a0 D K Z ak an;go_wp2_with fail;refine V.out.mono ?_;rintro e w1 ⟨rfl,a4⟩;obtain⟨r1,r2,r3⟩:=HI.out;have M:Hid ((∀j,j<i->Za x row j=false)/\Bw wo w1/\Za x row i=(F.isSome && (tk || decide (i=0)))):=⟨r1,r2.trans (a4.mono r2.size),r3⟩;have av:w.heap.size<=w1.heap.size:=by have:=U.out.size;have:=r2.size;have:=a4.size;omega
     clear r1 r2 r3 HI V a4 t0 ao;cases F with
     |none=>
      have v0:=Cp;go_wp2_with fail
      go_roundg (x.aF.length- (i+1))
      case measure=>omega
      case rel=>
       obtain⟨r1,r2,r3⟩:=M.out;refine⟨i+1,by go_num,by omega,rfl,fun j hj=>?_,r2.alloc r2.size _⟩
       by_cases e:j<i
       ·exact r1 j e
       ·rw[show j=i by omega];exact r3
     |some st=>
      obtain⟨sb,sq⟩:=st;have v0:=Fk sb sq
      by_cases a1:tk=true\/i=0
      ·have ab:X=(i,J+1):=by
        have h9:(List.range x.aF.length).find? (Za x row)=some i:=by
         rw[List.find?_range_eq_some];refine⟨?_,by simpa using a6,fun j hj=>by simpa using M.out.1 j hj⟩;rw[M.out.2.2];rcases a1 with e|e <;>simp[e]
        have h8:=HX.out;rw[h9]at h8;exact h8.symm
       have a9:=Hd ab;clear ab;rcases a1 with rfl|rfl
       ·go_wp2_with fail
        go_ret2
        have Y:=U.out.trans (M.out.2.1.mono U.out.size);exact⟨by rw[a9.out];rfl,Y.alloc Y.size _⟩
       ·cases tk
        all_goals
         go_wp2_with fail
         go_ret2
         have Y:=U.out.trans (M.out.2.1.mono U.out.size);exact⟨by rw[a9.out];rfl,Y.alloc Y.size _⟩
      ·have ad:tk=false:=by cases tk <;>simp_all
       subst ad;have am:i≠0:=fun e=>a1 (.inr e)
       have e5:((i:Int)==0)=false:=by simp;omega
       clear a1;go_wp2_with fail
       go_roundg (x.aF.length- (i+1))
       case measure=>omega
       case rel=>
        obtain⟨r1,r2,r3⟩:=M.out;refine⟨i+1,by go_num,by omega,rfl,fun j hj=>?_,r2.alloc r2.size _⟩
        by_cases e:j<i
        ·exact r1 j e
        ·rw[show j=i by omega,r3];simp[am]
    ·have e1:decide ((i:Int)<(x.aF.length:Int))=false:=by simp;omega
     obtain rfl:i=x.aF.length:=by omega
     have ac:Na x f J=X:=by
      have h9:(List.range x.aF.length).find? (Za x row)=none:=by
       rw[List.find?_range_eq_none];intro j hj;simpa using a0 j hj
      have h8:=HX.out;rw[h9]at h8;exact h8
     have aj:=Hd ac;have af:=Hd (U.out.trans (D.mono U.out.size));clear ac D a0;go_wp2_with fail
     go_roundg J
     case measure=>omega
     case rel=>exact⟨J,by go_num,by omega,rfl,aj.out,af.out⟩
  ·have e0:decide ((0:Int)<(d:Int))=false:=by simp;omega
   obtain rfl:d=0:=by omega
   have hx:(0,0)=X:=hX;subst hx;have U:=Hd B;clear B hX;go_wp2_with fail
   go_ret2
   exact⟨rfl,U.out⟩
def Hn(x:K9)(f:List (List Bool)):Nat->Nat->List Nat->ByteArray->List Nat×ByteArray
 |0,_,vis,t=>(vis,t)
 |d+1,bC,vis,t=>match Gh (x.aZ.getD bC []) (f.getD d [])with
  |none=>(vis,t)
  |some s=>Hn x f d s.q (vis++ [s.q]) (t++K1 [s.b])
def P6(x:K9)(f:List (List Bool))(start:Nat):List Nat×ByteArray:=Hn x f f.length start [start] ⟨#[]⟩
theorem JJ{x:K9}(G:Cj x){k:Nat}{l:List Bool}{s:A7}(h:Gh (x.aZ.getD k []) l=some s):s.q<x.aF.length/\s.b<256:=by
 have f:=yW h
 by_cases B:k<x.aZ.length
 ·have D:x.aZ.getD k []∈x.aZ:=by rw[zC,zF B];exact zG B
  exact G.cK _ D s f
 ·rw[zC,yJ (by omega)]at f;simp at f
theorem Pa(b:Nat):(K1 [b]).size=1:=by rw[Qc];rfl
theorem NE(wb:Nat)(x:K9)(start:Nat)(lv:Value)(K:List (List Bool))(w:World)(h:Bj w wb x)(ho:Cj x)(hL:W5 w lv K)(ah:∀l∈K,l.length=x.aF.length)(hm:K.length<=100001)(hs:start<x.aF.length):
  Calls Tryz.prog 132 #[.pointer (some ⟨wb,0,none⟩),.int .i64 start,lv] w fun e w'=>∃v,e=.returned (.tuple #[v,.string (P6 x K start).2])/\Q2 w' v (Dc (P6 x K start).1)/\Bw w w':=by
 have af:=Hd ho.len;have ae:=Hd (fun(k:Nat) (l:List Bool) (s:A7) (h9:Gh (x.aZ.getD k []) l=some s)=>JJ ho h9);have an:=Hd (fun(W:World) (hb:Bw w W) (k:Nat) (mv:Value) (a4:List Bool)=>My wb x k mv a4 W (h.aA hb) ho);obtain⟨ld,az,rfl,ad⟩:=hL.eC rfl;have HL:=Hd hL;have ao:=Hd ah;generalize hX:P6 x K start=X;unfold P6 at hX;have HX:=Hd hX;clear h ho hL ah hX;go_enter Tryz.func132,Tryz.ntmps132;go_wp2_with fail
 go_loopg[8,9,10,11] K.length (fun G vv tv av dv wr=>∃(d bC:Nat) (z:Int) (f:List Nat) (t:ByteArray),dv=.int .i64 z/\z=(d:Int)-1/\av=.int .i64 bC/\bC<x.aF.length/\tv=.string t/\d<=K.length/\G=d/\t.size+d<=K.length/\f.length+d<=K.length+1/\Hn x K d bC f t=X/\Bw w wr/\Q2 wr vv (Dc f)/\(∀b,vv.ownBlock=some b->w.heap.size<=b))
 case atStart=>
  refine⟨K.length,start,_,[start],⟨#[]⟩,rfl,rfl,rfl,hs,rfl,zD _,rfl,by show 0+_<=_;omega,by simp;omega,HX.out,N0 _ _,?_,?_⟩
  ·exact J5 (cur:=#[.int .i64 start]) (by rfl) (Blk.aR _ _ _) (zD _) (by unfold maxLen;omega) rfl (by rfl)
  ·intro b e;cases(zE e:w.heap.size=b);exact zD _
 case round=>
  obtain⟨d,bC,z,f,t,rfl,hz,rfl,ap,rfl,hd,hG,b0,b1,hX,U,hV,hO⟩:=hrel;clear HX;obtain⟨vd,D,rfl,au⟩:=hV.gZ
  by_cases h0:0<d
  ·obtain⟨Y,rfl⟩:∃Y,d=Y+1:=⟨d-1,by omega⟩;obtain rfl:z=(Y:Int):=by omega
   have e0:decide ((0:Int)<=(Y:Int))=true:=by simp
   rcases ad with h9|⟨lg,rfl⟩
   ·omega
   unfold Hn at hX;obtain⟨pv,p0,hP⟩:=N8.cell (HL.out.aA U) Y (by omega);have aa:(K.getD Y []).length=x.aF.length:=ao.out _ (by rw[zC,zF (by omega)];exact zG _);obtain⟨pd,am,rfl,_⟩:=hP.aV;have q0:(0:Int)<=(Y:Int):=by omega
   have q1:(Y:Int)<(K.length:Int):=by omega
   have a0:=fun s=>ae.out bC (K.getD Y []) s
   generalize K.getD Y []=row at hP aa p0 hX a0;have Z:=Hd (an.out wr U bC (.slice pd row.length am) row (by rw[af.out];exact ap) hP aa);generalize Gh (x.aZ.getD bC []) row=F at Z hX a0;have HX:=Hd hX;have HH:Hid (Bw w wr/\Q2 wr (.slice vd f.length D) (Dc f)/\(∀b,(Value.slice vd f.length D).ownBlock=some b->w.heap.size<=b)):=⟨U,hV,hO⟩;clear hP aa hX U hV hO hz;go_wp2_with fail;refine Z.out.mono ?_;rintro e w1 ⟨rfl,ac⟩;have a6:Hid (Bw w w1/\Q2 w1 (.slice vd f.length D) (Dc f)/\(∀b,(Value.slice vd f.length D).ownBlock=some b->w.heap.size<=b)):=⟨HH.out.1.trans (ac.mono HH.out.1.size),HH.out.2.1.aA ac,HH.out.2.2⟩;clear HH Z ac p0;cases F with
   |none=>
    have v0:=Cp;have hx:(f,t)=X:=HX.out;subst hx;clear a0;go_wp2_with fail
    go_ret2
    obtain⟨r1,r2,r3⟩:=a6.out;exact⟨_,rfl,r2.aA (N0 _ _),r1.alloc r1.size _⟩
   |some st=>
    obtain⟨sb,J⟩:=st;have v0:=Fk sb J;obtain⟨ak,ar⟩:=a0 ⟨sb,J⟩ rfl;simp only at ak ar;have u1:∀W:World,(Op.stringOp .add t (K1 [sb])).run Tryz.prog W=.ok (.string (t++K1 [sb])) W:=fun W=>run_string_add_sum W _ _ (by rw[Pa];omega)
    obtain⟨ii,aq,aw,ax,ay⟩:=info_parts Tryz.cG;obtain⟨V,a2⟩:∃V:World,w1.alloc (.cells #[.string (K1 [sb]),.int .i64 J] 214)=V:=⟨_,rfl⟩;have a3:Blk V w1.heap.size #[.string (K1 [sb]),.int .i64 J] 214:=by rw[<-a2];exact Blk.aR _ _ _
    have a7:Hid (Bw w V/\Q2 V (.slice vd f.length D) (Dc f)/\(∀b,(Value.slice vd f.length D).ownBlock=some b->w.heap.size<=b)/\Blk V w1.heap.size #[.string (K1 [sb]),.int .i64 J] 214):=by
     obtain⟨r1,r2,r3⟩:=a6.out;exact⟨by rw[<-a2];exact r1.alloc r1.size _,by rw[<-a2];exact r2.aA (N0 _ _),r3,a3⟩
    have aj:(V.alloc (.cells #[.int .i64 J] 3)).ownsRow 0 3 1 (.slice vd f.length D) f.length ((Dc f).map (Value.int .i64)):=by
     have h9:=a7.out.2.1.aA (N0 V (.cells #[.int .i64 J] 3));unfold Q2 at h9;rw[Bf]at h9;exact h9
    have a9:=Hd aj;have c1:=a3.cell 1;have zS:=a3.lt;clear aj a0 a3 a6;go_upto_region 9 with fail
    try rw[a2]
    clear a2;go_wp2_with(at_builtin;(refine wpList_append_lies _ (by rfl) _ _ _ (by rfl) 0 3 ii _ 1 8 Tryz.underlying68 aq aw ax ay rfl (by omega) (.slice vd f.length D) f.length ((Dc f).map (Value.int .i64)) (by rfl) a9.out ⟨V.heap.size,0,none⟩ 1 1 [.int .i64 J] (by rfl) (by rfl) (World.news_of_block (cs:=#[.int .i64 J]) (t:=3) (fr:=(0,0)) (by have:=heap_alloc_new V (.cells #[.int .i64 J] 3);simpa using this)) (by simp[Value.oneCell']) (by omega) (by unfold maxLen;omega) (by omega) (by simp) (V.heap.size+1) (by simp) ?_));intro gg ag w6 a1 B a5 ai;have M:C0 (fun y=>(Value.slice vd f.length D).ownBlock=some y) (V.alloc (.cells #[.int .i64 J] 3)) w6:=⟨B.os,B.tape,B.output,B.size,fun k hk he=>B.block k hk (fun e=>he e.symm)⟩;obtain⟨r1,r2,r3,r4⟩:=a7.out;have ab:Blk w6 w1.heap.size #[.string (K1 [sb]),.int .i64 J] 214:=(r4.alloc _).kept M (fun e=>L0 a9.out (r4.alloc _) (by decide) e);have a8:Hid (Bw w w6/\Q2 w6 (.slice (some ⟨gg,0,none⟩) (f.length+1) ag) (Dc (f++ [J]))/\w.heap.size<=gg):=by
     refine⟨?_,?_,?_⟩
     ·have k1:Bw w (V.alloc (.cells #[.int .i64 J] 3)):=r1.alloc r1.size _;exact k1.trans ⟨M.os,M.tape,M.output,M.size,fun y hy=>M.block y (by have:=k1.size;omega) (fun e=>by have:=r3 y e;omega)⟩
     ·have e9:Dc (f++ [J])=Dc f++ [(J:Int)]:=by simp[Dc]
      unfold Q2;rw[e9,zV,zL,Bf];exact a1
     ·rcases a5 with e|e
      ·exact r3 gg e
      ·have:=r1.size;omega
    have c0:=ab.cell 0;have b2:=ab.lt;clear M a1 B a5 ai a9 r1 r2 r3 r4 ab a7 c1;go_wp2_with fail
    go_roundg Y
    case measure=>omega
    case rel=>
     refine⟨Y,J,_,f++ [J],t++K1 [sb],rfl,rfl,rfl,ak,rfl,by omega,rfl,by rw[zN,Pa];omega,by simp;omega,HX.out,a8.out.1,?_,fun b e=>?_⟩
     ·have:=a8.out.2.1;simpa using this
     ·cases(zE e:gg=b);exact a8.out.2.2
  ·obtain rfl:d=0:=by omega
   obtain rfl:z= -1:=by omega
   have hx:(f,t)=X:=hX;subst hx;have HH:Hid (Bw w wr/\Q2 wr (.slice vd f.length D) (Dc f)):=⟨U,hV⟩;clear hX U hV hO hz;go_wp2_with fail
   go_ret2
   exact⟨_,rfl,HH.out.2,HH.out.1⟩
def Kn(h:List Nat)(s:Nat):Option Nat:=(List.range s).find? (fun f=>h.getD f 0==h.getD s 0)
def B5(f:List Nat):Nat×Nat:=match(List.range f.length).find? (fun s=>(Kn f s).isSome)with
 |none=>(0,0)
 |some s=>((Kn f s).getD 0,s)
theorem UL{B:List Nat}{s f:Nat}(h:Kn B s=some f):f<s:=by
 have:=yW h;simpa using this
theorem OO(B:List Nat)(h:0<B.length):(B5 B).1<=(B5 B).2/\(B5 B).2<B.length:=by
 unfold B5;split
 ·exact⟨zD _,h⟩
 ·rename_i s J;have D:=yW J;have G:s<B.length:=by simpa using D
  refine⟨?_,G⟩;cases hw:Kn B s with
  |none=>simp
  |some f=>have:=UL hw;simp;omega
theorem PO(B:List Nat)(v:Value)(w:World)(h:Q2 w v (Dc B))(hl:B.length<=200000):
  Calls Tryz.prog 133 #[v] w fun e w'=>e=.returned (.tuple #[.int .i64 ((B5 B).1:Int),.int .i64 ((B5 B).2:Int)])/\Bw w w':=by
 obtain⟨vd,U,rfl,Z⟩:=h.gZ;have HV:=Hd h;clear h;go_enter Tryz.func133,Tryz.ntmps133
 go_wp2_with fail
 go_loopg[10] B.length (fun G sv wr=>∃s:Nat,sv=.int .i64 s/\s<=B.length/\G=B.length-s/\wr=w/\∀j,j<s->Kn B j=none)
 case atStart=>exact⟨0,rfl,by omega,rfl,rfl,fun j X=>by omega⟩
 case round=>
  obtain⟨s,rfl,hs,rfl,rfl,a6⟩:=hrel;have W:=Hd a6;clear a6
  by_cases a4:s<B.length
  ·have e0:decide ((s:Int)<(B.length:Int))=true:=by simp;omega
   rcases Z with h9|⟨vg,rfl⟩
   ·omega
   have c0:=HV.out.cellN s a4;have s0:(0:Int)<=(s:Int):=by omega
   have s1:(s:Int)<(B.length:Int):=by omega
   have a3:B.length<=U:=by
    obtain⟨_,ab,a9,e9,⟨h1,h2⟩|⟨g9,aa,h1,h2,h3,_⟩⟩:=P0 HV.out
    ·rw[Bf]at h2;omega
    ·rw[Bf]at h3
     injection e9 with e1 e2 e3
     omega
   have s2:(s:Int)<=(U:Int):=by omega
   obtain⟨vs,a0⟩:∃vs,B.getD s 0=vs:=⟨_,rfl⟩;rw[a0]at c0;have a2:=Hd a0;clear a3 a0;go_wp2_with fail
   go_loopg[19] s (fun G fv wi=>∃f:Nat,fv=.int .i64 f/\f<=s/\G=s-f/\wi=wr/\∀j,j<f->B.getD j 0≠B.getD s 0)
   case atStart=>exact⟨0,rfl,by omega,rfl,rfl,fun j X=>by omega⟩
   case round=>
    obtain⟨f,rfl,hf,rfl,rfl,a5⟩:=hrel;have V:=Hd a5;clear a5
    by_cases a8:f<s
    ·have e1:decide ((f:Int)<(s:Int))=true:=by simp;omega
     have c1:=HV.out.cellN f (by omega);have f0:(0:Int)<=(f:Int):=by omega
     have f1:(f:Int)<(s:Int):=by omega
     obtain⟨vf,Y⟩:∃vf,B.getD f 0=vf:=⟨_,rfl⟩;rw[Y]at c1;have a1:=Hd Y;clear Y
     by_cases K:vf=vs
     ·have e2:((vf:Int)==(vs:Int))=true:=by rw[K];simp
      have M:Kn B s=some f:=by
       unfold Kn;rw[List.find?_range_eq_some];exact⟨by rw[a1.out,a2.out,K];simp,by simpa using a8,fun j X=>by simpa using V.out j X⟩
      have D:B5 B=(f,s):=by
       have h9:(List.range B.length).find? (fun s=>(Kn B s).isSome)=some s:=by
        rw[List.find?_range_eq_some];exact⟨by rw[M];rfl,by simpa using a4,fun j X=>by rw[W.out j X];rfl⟩
       unfold B5;rw[h9];simp[M]
      have J:=Hd D;clear M D;subst K;go_wp2_with fail
      go_ret2
      exact⟨by rw[J.out];rfl,Below.refl _ _⟩
     ·have e2:((vf:Int)==(vs:Int))=false:=by
       rw[beq_eq_false_iff_ne];intro e;exact K (by omega)
      have a7:=Hd K;go_wp2_with fail
      go_roundg (s- (f+1))
      case measure=>omega
      case rel=>
       refine⟨f+1,by go_num,by omega,rfl,rfl,fun j X=>?_⟩
       by_cases e:j<f
       ·exact V.out j e
       ·rw[show j=f by omega,a1.out,a2.out];exact a7.out
    ·have e1:decide ((f:Int)<(s:Int))=false:=by simp;omega
     obtain rfl:f=s:=by omega
     go_wp2_with fail
     go_roundg (B.length- (f+1))
     case measure=>omega
     case rel=>
      refine⟨f+1,by go_num,by omega,rfl,rfl,fun j X=>?_⟩
      by_cases e:j<f
      ·exact W.out j e
      ·rw[show j=f by omega];unfold Kn;rw[List.find?_range_eq_none];intro i hi;simpa using V.out i hi
  ·have e0:decide ((s:Int)<(B.length:Int))=false:=by simp;omega
   obtain rfl:s=B.length:=by omega
   have D:B5 B=(0,0):=by
    have h9:(List.range B.length).find? (fun s=>(Kn B s).isSome)=none:=by
     rw[List.find?_range_eq_none];intro i hi;rw[W.out i hi];rfl
    unfold B5;rw[h9]
   have J:=Hd D;clear D;go_wp2_with fail
   go_ret2
   exact⟨by rw[J.out];rfl,Below.refl _ _⟩
end Go.Proofs.YtcckhngbdoiikabGreat
