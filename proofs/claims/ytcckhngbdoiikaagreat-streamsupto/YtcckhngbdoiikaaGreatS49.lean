import Derived.Test.YtcckhngbdoiikaaGreatS38
import Derived.Test.YtcckhngbdoiikaaGreatS47
set_option maxRecDepth 20000
set_option maxHeartbeats 12800000
set_option linter.unusedVariables false
namespace Go.Proofs.YtcckhngbdoiikaaGreat
open Go.RowKit Go.Deep
theorem TM(kd:Nat->Nat)(g:B0)(i b:Nat)(f:b<256):(Em kd g i).take (b+1)=(Em kd g i).take b++ [X0 kd g (i:Int) (b:Int)]:=by
 have h:b<(Em kd g i).length:=by rw[YI];exact f
 rw[yN h]
 congr 2
 simp[Em]
theorem N6.lJ{w:World}{D:Nat}{kd:Nat->Nat}{g:B0}{G:List ByteArray}(h:N6 w D kd g G):D<w.heap.size/\∃B f,w.cell? ⟨D,5,none⟩=some (.slice (some ⟨B,0,none⟩) g.aB.length f)/\∀i:Nat,i<g.aB.length->w.cell? ⟨B,i,none⟩=some (.int .i64 (N0 g (i:Int))):=by
 obtain⟨J,_,_,B,f,K,M⟩:=h.cells;refine⟨J,B,f,K,fun i U=>?_⟩;rw[M i U];unfold N0;rw[if_neg (by omega),zH]
theorem KM(yb:Nat)(kd:Nat->Nat)(g:B0)(TX:List ByteArray)(s:Nat)(w:World)(h:N6 w yb kd g TX)(hf:Fb kd g)(hs:s<g.aB.length):
  Calls Tryz.prog 32 #[.pointer (some ⟨yb,0,none⟩),.int .i64 s] w fun e w'=>∃f,e=.returned (.int .i64 f)/\VW kd g s f/\Bw w w':=by
 have am:=hf.bV;have HF:=Hd2 hf h.nl;have aj:=Hd hf.cY;have HP:=Hd h;obtain⟨zy,⟨tg,ao,c3,_⟩,_⟩:=h.cells;have ar:=U7 g.aB.length (by omega);have s0:(0:Int)<=(s:Int):=by omega
 have s1:(s:Int)<(g.aB.length:Int):=by omega
 have HS:=Hd hs;clear h hf;obtain⟨w1,a5⟩:∃w1:World,w.alloc (.cells (Z0 (List.replicate g.aB.length false)) 4)=w1:=⟨_,rfl⟩;have Y:Blk w1 w.heap.size (Z0 (List.replicate g.aB.length false)) 4:=by rw[<-a5];exact Blk.aQ _ _ _
 have ab:Bw w w1:=by rw[<-a5];exact P0 _ _
 have x0:=N2 Y s (by simp;omega);have xf:=Y.frozen s;have zx:=Y.lt;have aa:=Hd2 Y ab;clear Y ab;go_enter Tryz.func32,Tryz.ntmps32;go_upto_region 3 with fail
 try rw[a5]
 clear a5;go_wp2_with fail
 go_loopg[6,7,8] (g.aB.length+1) (fun G nv fv kv wr=>∃(k bW nb:Nat) (bQ:List Bool),nv=.slice (some ⟨nb,0,none⟩) g.aB.length g.aB.length/\fv=.int .i64 bW/\kv=.int .i64 (((k+1:Nat)):Int)/\k<=g.aB.length+1/\G=g.aB.length+1-k/\QF kd g s k bQ bW/\Blk wr nb (Z0 bQ) 4/\w.heap.size<=nb/\Bw w wr/\(0<k->∃u,Xk kd g (s:Int) k u))
 case atStart=>
  refine⟨0,0,w.heap.size,(List.replicate g.aB.length false).set s true,rfl,rfl,rfl,by omega,rfl,QF.start HS.out,?_,by omega,?_,fun h0=>by omega⟩
  ·rw[<-Z3];exact aa.out.1.set s _
  ·exact aa.out.2.setCell (p:=⟨w.heap.size,s,none⟩) (zD _) _
 case round=>
  obtain⟨k,bW,nb,bQ,rfl,rfl,rfl,hk,rfl,a0,hN,au,a3,hu⟩:=hrel
  by_cases ap:k<=g.aB.length
  ·have e0:decide (((k+1:Nat):Int)<=(g.aB.length:Int)+1)=true:=by simp;omega
   have av:=a0.len;have ai:=Hd a0;have HH:=Hd2 hN a3;have az:=hN.lt;clear a0 hN a3 hu;obtain⟨J,rfl⟩:∃J:World,J=wr:=⟨_,rfl⟩;obtain⟨W,M⟩:∃W:Vv,W=⟨List.replicate g.aB.length false,false,bW⟩:=⟨_,rfl⟩;have a9:=Hd M;have af:W.next=List.replicate g.aB.length false:=by rw[M]
   have ag:W.any=false:=by rw[M]
   have ah:W.bW=bW:=by rw[M]
   have HX:=Hd3 af ag ah;clear M af ag ah;go_wp2_with fail
   go_loopg[7,10,11] g.aB.length (fun G fv sv iv wi=>∃(i:Nat) (st:Vv),fv=.int .i64 (st.bW:Int)/\sv=.bool st.any/\iv=.int .i64 i/\i<=g.aB.length/\G=g.aB.length-i/\(Ke kd g bQ i).foldl (Jb g (k+1)) W=st/\Blk wi J.heap.size (Z0 st.next) 4/\Bw J wi)
   case atStart=>
    obtain⟨x0,x1,x2⟩:=HX.out;refine⟨0,W,by rw[x2],by rw[x1],rfl,by omega,rfl,rfl,?_,P0 _ _⟩;rw[x0];exact Blk.aQ _ _ _
   case round=>
    obtain⟨i,st,rfl,rfl,rfl,hi,rfl,a4,Z,a2⟩:=hrel
    by_cases aq:i<g.aB.length
    ·have e1:decide ((i:Int)<(g.aB.length:Int))=true:=by simp;omega
     have i0:(0:Int)<=(i:Int):=by omega
     have i1:(i:Int)<(g.aB.length:Int):=by omega
     have HI:=Hd3 a4 Z a2;clear a4 Z a2;obtain⟨wm,rfl⟩:∃wm:World,wm=wr:=⟨_,rfl⟩;go_wp2_with fail
     go_loopg[7,10,12] 256 (fun G fv sv bv wj=>∃(b:Nat) (B:Vv),fv=.int .i64 (B.bW:Int)/\sv=.bool B.any/\bv=.int .i64 b/\b<=256/\G=256-b/\((bQ.getD i false=true/\((Em kd g i).take b).foldl (Jb g (k+1)) st=B)\/(bQ.getD i false=false/\B=st/\b=0))/\Blk wj J.heap.size (Z0 B.next) 4/\Bw J wj)
     case atStart=>
      refine⟨0,st,rfl,rfl,rfl,by omega,rfl,?_,HI.out.2.1,HI.out.2.2⟩;cases hh:bQ.getD i false with
      |true=>exact .inl ⟨rfl,rfl⟩
      |false=>exact .inr ⟨rfl,rfl,rfl⟩
     case round=>
      obtain⟨b,B,rfl,rfl,rfl,hb,rfl,D,Z,K⟩:=hrel;have a1:=HH.out.1.aA K;have n0:=N2 a1 i (by omega);have aw:B.next.length=g.aB.length:=by
       have h0:st.next.length=g.aB.length:=by rw[<-HI.out.1,Tj,HX.out.1];simp
       rcases D with⟨_,e⟩|⟨_,e,_⟩
       ·rw[<-e,Tj,h0]
       ·rw[e,h0]
      by_cases ak:b<256
      ·have e2:decide ((b:Int)<256)=true:=by simp;omega
       rcases D with⟨hm,D⟩|⟨hm,rfl,rfl⟩
       ·rw[hm]at n0;have ac:Bw w wr:=HH.out.2.trans (K.mono HH.out.2.size);have a8:=HP.out.aA ac;have a6:=Hd (Rf yb kd g TX (i:Int) (b:Int) wr a8);have ad:=aj.out (i:Int) (b:Int);have ae:=TM kd g i b ak;have HJ:Hid (((Em kd g i).take b).foldl (Jb g (k+1)) st=B/\Blk wr J.heap.size (Z0 B.next) 4/\Bw J wr/\(Em kd g i).take (b+1)=(Em kd g i).take b++ [X0 kd g (i:Int) (b:Int)]/\N6 wr yb kd g TX):=⟨D,Z,K,ae,a8⟩;generalize X0 kd g (i:Int) (b:Int)=u at a6 ad HJ;clear D Z K ae a1 ac a8;go_wp2_with fail;refine a6.out.mono ?_;rintro e w2 ⟨rfl,X⟩;have V:Hid (((Em kd g i).take b).foldl (Jb g (k+1)) st=B/\Blk w2 J.heap.size (Z0 B.next) 4/\Bw J w2/\(Em kd g i).take (b+1)=(Em kd g i).take b++ [u]/\N6 w2 yb kd g TX):=by
         obtain⟨q1,q2,q3,q4,q5⟩:=HJ.out;exact⟨q1,q2.aA X,q3.trans (X.mono q3.size),q4,q5.aA X⟩
        clear X HJ a6 n0;rcases ad with rfl|⟨ax,ay⟩
        ·go_wp2_with fail
         go_roundg (256- (b+1))
         case measure=>omega
         case rel=>
          obtain⟨r1,r2,r3,r4,r5⟩:=V.out;refine⟨b+1,B,rfl,rfl,by go_num,by omega,rfl,.inl ⟨hm,?_⟩,r2,r3⟩;rw[r4,List.foldl_append,r1];rfl
        ·obtain⟨q,rfl⟩:∃q:Nat,u=(q:Int):=⟨u.toNat,by omega⟩;have hq:q<g.aB.length:=by omega
         obtain⟨b0,og,an,c5,co⟩:=V.out.2.2.2.2.lJ;have o0:=co q hq;have u0:(0:Int)<=(q:Int):=by omega
         have u1:(q:Int)<(g.aB.length:Int):=by omega
         have e3:((q:Int)== -1)=false:=by rw[beq_eq_false_iff_ne];omega
         clear co
         by_cases hr:N0 g (q:Int)= -1
         ·have e4:(N0 g (q:Int) != -1)=false:=by simp[hr]
          have U:Jb g (k+1) B (q:Int)=⟨B.next.set q true,true,B.bW⟩:=by
           unfold Jb;rw[if_neg (fun e=>e.2 hr),if_pos u0,zH]
          generalize N0 g (q:Int)=r at o0 e4;have x0:=N2 V.out.2.1 q (by omega);have xf:=V.out.2.1.frozen q;have xz:=V.out.2.1.lt;have a7:=Hd U;clear U hr;go_wp2_with fail
          go_roundg (256- (b+1))
          case measure=>omega
          case rel=>
           obtain⟨r1,r2,r3,r4,r5⟩:=V.out;refine⟨b+1,⟨B.next.set q true,true,B.bW⟩,rfl,rfl,by go_num,by omega,rfl,.inl ⟨hm,?_⟩,?_,?_⟩
           ·rw[r4,List.foldl_append,r1];exact a7.out
           ·show Blk _ _ (Z0 (B.next.set q true)) _;rw[<-Z3];exact r2.set q _
           ·exact r3.setCell (p:=⟨J.heap.size,q,none⟩) (zD _) _
         ·have e4:(N0 g (q:Int) != -1)=true:=by simp[hr]
          have U:Jb g (k+1) B (q:Int)=⟨B.next,B.any,k+1⟩:=by
           unfold Jb;rw[if_pos ⟨u0,hr⟩]
          generalize N0 g (q:Int)=r at o0 e4;have a7:=Hd U;clear U hr;go_wp2_with fail
          go_roundg (256- (b+1))
          case measure=>omega
          case rel=>
           obtain⟨r1,r2,r3,r4,r5⟩:=V.out;refine⟨b+1,⟨B.next,B.any,k+1⟩,rfl,rfl,by go_num,by omega,rfl,.inl ⟨hm,?_⟩,r2,r3⟩;rw[r4,List.foldl_append,r1];exact a7.out
       ·rw[hm]at n0;have HJ:=Hd2 Z K;clear Z K a1;go_wp2_with fail
        go_roundg (g.aB.length- (i+1))
        case measure=>omega
        case rel=>
         refine⟨i+1,B,rfl,rfl,by go_num,by omega,rfl,?_,HJ.out.1,HJ.out.2⟩;rw[Ru,hm,if_neg (by simp),yS];exact HI.out.1
      ·have e2:decide ((b:Int)<256)=false:=by simp;omega
       obtain rfl:b=256:=by omega
       rcases D with⟨hm,D⟩|⟨_,_,h9⟩
       ·have HJ:=Hd3 Z K D;clear Z K a1 D;go_wp2_with fail
        go_roundg (g.aB.length- (i+1))
        case measure=>omega
        case rel=>
         refine⟨i+1,B,rfl,rfl,by go_num,by omega,rfl,?_,HJ.out.1,HJ.out.2.1⟩;rw[Ru,if_pos hm,List.foldl_append,HI.out.1,<-HJ.out.2.2,zN (by rw[YI];exact zD _)]
       ·omega
    ·have e1:decide ((i:Int)<(g.aB.length:Int))=false:=by simp;omega
     obtain rfl:i=g.aB.length:=by omega
     obtain⟨f1,f2,f3⟩:=ai.out.round HF.out.1 HF.out.2 st (by rw[<-a9.out];exact a4);have HI:Hid (Blk wr J.heap.size (Z0 st.next) 4/\Bw J wr/\QF kd g s (k+1) st.next st.bW/\(st.any=false->∀d,Z9 kd g d (s:Int)->d+1<=st.bW)/\(st.any=true->∃u,Xk kd g (s:Int) (k+1) u)):=⟨Z,a2,f1,f2,f3⟩;clear a4 Z a2 f1 f2 f3;cases hsa:st.any with
     |true=>
      go_wp2_with fail
      go_roundg (g.aB.length+1- (k+1))
      case measure=>omega
      case rel=>
       obtain⟨r1,r2,r3,r4,r5⟩:=HI.out;refine⟨k+1,st.bW,J.heap.size,st.next,rfl,rfl,by go_num,by omega,rfl,r3,r1,HH.out.2.size,HH.out.2.trans (r2.mono HH.out.2.size),fun _=>r5 hsa⟩
     |false=>
      go_wp2_with fail;go_ret;obtain⟨r1,r2,r3,r4,r5⟩:=HI.out;refine⟨_,rfl,.inl ⟨st.bW,rfl,?_,r4 hsa,r3.eL⟩,HH.out.2.trans (r2.mono HH.out.2.size)⟩;have:=r3.le;omega
  ·have e0:decide (((k+1:Nat):Int)<=(g.aB.length:Int)+1)=false:=by simp;omega
   obtain rfl:k=g.aB.length+1:=by omega
   have HU:=Hd2 (hu (by omega)) a3;clear hu a3 a0 hN;go_wp2_with fail;go_ret;exact⟨_,rfl,.inr ⟨rfl,HU.out.1⟩,HU.out.2⟩
theorem QI(yb:Nat){R:E0}(kd:Nat->Nat)(g:B0)(TX:List ByteArray)(w:World)(h:N6 w yb kd g TX)(hR:A4 R=some (kd,g))(hf:Fb kd g):
  Calls Tryz.prog 15 #[.pointer (some ⟨yb,0,none⟩)] w fun e w'=>e=.returned (.tuple #[.int .i64 (if(V3 kd g).aW=true then((V3 kd g).k:Int)else 0),.bool (V3 kd g).aW])/\Bw w w':=by
 have ab:=hf.bV;have a9:=Hd (fun(W:World) (hb:Bw w W) (s:Nat) (hs:s<g.aB.length)=>KM yb kd g TX s W (h.aA hb) hf hs);have HP:=Hd h;have HR:=Hd hR;have HF:=Hd hf;clear h hR hf;obtain⟨V,hV⟩:∃V,(if(V3 kd g).aW=true then((V3 kd g).k:Int)else 0)=V:=⟨_,rfl⟩;obtain⟨B,Y⟩:∃B,(V3 kd g).aW=B:=⟨_,rfl⟩;rw[hV,Y];have HV:=Hd2 hV Y;clear hV Y;go_enter Tryz.func15,Tryz.ntmps15;go_wp2_with fail
 go_loopg[4,5] g.aB.length (fun G kv sv wr=>∃(s k:Nat),kv=.int .i64 k/\sv=.int .i64 s/\s<=g.aB.length/\G=g.aB.length-s/\Nk kd g s k/\Bw w wr)
 case atStart=>exact⟨0,0,rfl,rfl,by omega,rfl,Nk.start kd g,Below.refl _ _⟩
 case round=>
  obtain⟨s,k,rfl,rfl,hs,rfl,hG,D⟩:=hrel;obtain⟨zy,⟨tg,ad,c3,_⟩,_⟩:=(HP.out.aA D).cells;have ae:=hG.le
  by_cases K:s<g.aB.length
  ·have e0:decide ((s:Int)<(g.aB.length:Int))=true:=by simp;omega
   obtain⟨_,og,ac,c5,co⟩:=(HP.out.aA D).lJ;have o0:=co s K;have i0:(0:Int)<=(s:Int):=by omega
   have i1:(s:Int)<(g.aB.length:Int):=by omega
   have HH:=Hd2 hG D;have Z:=Hd (a9.out wr D s K);clear hG D co
   by_cases J:0<s/\N0 g (s:Int)= -1
   ·have e1:decide ((0:Int)<(s:Int))=true:=by simp;omega
    have e2:(N0 g (s:Int)== -1)=true:=by simp[J.2]
    have a0:=Hd J;have af:0<s:=J.1;generalize N0 g (s:Int)=r at o0 e2;clear J;go_wp2_with fail
    go_roundg (g.aB.length- (s+1))
    case measure=>omega
    case rel=>exact⟨s+1,k,rfl,by go_num,by omega,rfl,HH.out.1.skip a0.out.1 a0.out.2,HH.out.2⟩
   ·have a7:N0 g (s:Int)≠ -1\/s=0:=by
     by_cases e:s=0
     ·exact .inr e
     ·exact .inl (fun e'=>J ⟨by omega,e'⟩)
    have a2:=Hd a7;have U:(s=0/\decide ((0:Int)<(s:Int))=false)\/(decide ((0:Int)<(s:Int))=true/\(N0 g (s:Int)== -1)=false/\0<s):=by
     by_cases e:s=0
     ·exact .inl ⟨e,by simp[e]⟩
     ·exact .inr ⟨by simp;omega,by simp;exact fun e'=>J ⟨by omega,e'⟩,by omega⟩
    clear J a7;go_upto_region 5 with fail
    go_cut[27] (fun cv wx=>cv=.bool false/\wx=wr)
    case first=>
     rcases U with⟨rfl,e1⟩|⟨e1,e2,e3⟩
     all_goals
      go_wp2_with fail;go_meet;exact⟨rfl,rfl⟩
    case rest=>
     obtain⟨rfl,rfl⟩:=hcut;clear U o0;go_wp2_with fail;refine Z.out.mono ?_;rintro e w1 ⟨f,rfl,aa,a3⟩;have X:Hid (Bw w w1):=Hd (HH.out.2.trans (a3.mono HH.out.2.size));clear a3 Z c3 c5;rcases aa with⟨bW,rfl,h1,h2,h3⟩|⟨rfl,M⟩
     ·have e3:decide ((bW:Int)<0)=false:=by simp
      have a6:=HH.out.1.step K a2.out h1 h2 h3;have a1:=Hd a6;clear a6 h2 h3
      by_cases a5:k<bW
      ·have e4:decide ((k:Int)<(bW:Int))=true:=by simp;omega
       go_wp2_with fail
       go_roundg (g.aB.length- (s+1))
       case measure=>omega
       case rel=>exact⟨s+1,bW,rfl,by go_num,by omega,rfl,by have h9:=a1.out;rw[if_pos a5]at h9;exact h9,X.out⟩
      ·have e4:decide ((k:Int)<(bW:Int))=false:=by simp;omega
       go_wp2_with fail
       go_roundg (g.aB.length- (s+1))
       case measure=>omega
       case rel=>exact⟨s+1,k,rfl,by go_num,by omega,rfl,by have h9:=a1.out;rw[if_neg a5]at h9;exact h9,X.out⟩
     ·have a4:=FQ HR.out HF.out K a2.out M;have a8:=Hd a4;clear a4 M;go_wp2_with fail
      go_ret2
      obtain⟨v1,v2⟩:=HV.out;rw[a8.out]at v1 v2;refine⟨?_,X.out⟩;rw[<-v1,<-v2];rfl
  ·have e0:decide ((s:Int)<(g.aB.length:Int))=false:=by simp;omega
   obtain rfl:s=g.aB.length:=by omega
   obtain⟨d1,d2⟩:=hG.done HR.out HF.out;have HB:=Hd3 D d1 d2;clear hG D d1 d2;go_wp2_with fail
   go_ret2
   obtain⟨v1,v2⟩:=HV.out;rw[HB.out.2.1]at v1 v2;refine⟨?_,HB.out.1⟩;rw[<-v1,<-v2,if_pos rfl,HB.out.2.2];rfl
theorem OU{kd:Nat->Nat}{g:B0}(B:Fb kd g):(V3 kd g).k<=61:=by
 have f:=B.bV;unfold V3;split
 ·show 0<=61;omega
 ·have h:=(Ov (U0 kd g) (X1 (U0 kd g) g.aB.length) (X1 (U0 kd g) g.aB.length).length).1;rw[P3]at h;show(Hc (U0 kd g) (X1 (U0 kd g) g.aB.length) (X1 (U0 kd g) g.aB.length).length).2<=61;rw[P3];omega
def InS(g:B0)(st:Int):Prop:=st= -1\/∃j:Nat,j<g.aB.length/\st=(j:Int)
def Gn(kd:Nat->Nat)(g:B0)(st:Int)(w:ByteArray)(i:Nat):Int:=G3 g st (((Q0 w).take i).map kd)
section
variable{kd:Nat->Nat}{g:B0}{st:Int}{w:ByteArray}{i:Nat}
theorem Vw(w:ByteArray):∀b∈Q0 w,b<256:=fun b h=>by
 obtain⟨k,f,rfl⟩:=List.getElem_of_mem h;exact(Gy w k (by rw[I1]at f;exact f) f).2
theorem WR:Gn kd g st w 0=st:=by unfold Gn;simp[G3]
theorem WX(B:Zh kd g)(J:InS g st)(i:Nat):InS g (Gn kd g st w i):=by
 unfold Gn;rcases J with rfl|⟨j,G,rfl⟩
 ·rw[Fm];exact .inl rfl
 ·rcases BF B ((Q0 w).take i) j (fun b D=>Vw w b (List.mem_of_mem_take D)) G with e|⟨K,f,h⟩
  ·exact .inl e
  ·exact .inr ⟨K,f,h⟩
theorem VR(D:Zh kd g)(K:InS g st)(G:i<w.size):Gn kd g st w (i+1)=X0 kd g (Gn kd g st w i) (F0 w i):=by
 have B:=WX (w:=w) D K i;have f:i<(Q0 w).length:=by rw[I1];exact G
 obtain⟨M,U⟩:=Gy w i G f;have e:Gn kd g st w (i+1)=W0 g (Gn kd g st w i) (kd (Q0 w)[i]):=by
  unfold Gn;rw[yN f,yB,Q9];rfl
 rw[e,M];rcases B with h|⟨j,J,h⟩
 ·rw[h];unfold X0 W0;rw[if_pos (by omega),if_pos (.inl (by omega))]
 ·rw[h,Z7 D J U]
theorem UV:Gn kd g st w w.size=G3 g st ((Q0 w).map kd):=by unfold Gn;rw[zN (by rw[I1];exact zD _)]
theorem UR(h:Gn kd g st w i= -1):G3 g st ((Q0 w).map kd)= -1:=by
 have e:(Q0 w).map kd=((Q0 w).take i).map kd++((Q0 w).drop i).map kd:=by rw[<-yB,yT]
 rw[e,Q9];unfold Gn at h;rw[h,Fm]
end
theorem Ly(yb:Nat)(kd:Nat->Nat)(g:B0)(TX:List ByteArray)(st:Int)(s:ByteArray)(w:World)(h:N6 w yb kd g TX)(hG:Zh kd g)(hs:s.size<=4000000)(U:InS g st):
  Calls Tryz.prog 63 #[.pointer (some ⟨yb,0,none⟩),.int .i64 st,.string s] w fun e w'=>e=.returned (.int .i64 (G3 g st ((Q0 s).map kd)))/\Bw w w':=by
 have HP:=Hd h;have HG:=Hd2 hG U;obtain⟨X,hX⟩:∃X,G3 g st ((Q0 s).map kd)=X:=⟨_,rfl⟩;rw[hX];have HX:=Hd hX;clear h hG U hX;go_enter Tryz.func63,Tryz.ntmps63;go_wp2_with fail
 go_loopg[1,7] s.size (fun G sv iv wr=>∃i:Nat,sv=.int .i64 (Gn kd g st s i)/\iv=.int .i64 i/\i<=s.size/\G=s.size-i/\Bw w wr)
 case atStart=>exact⟨0,by rw[WR],rfl,by omega,rfl,Below.refl _ _⟩
 case round=>
  obtain⟨i,rfl,rfl,hi,rfl,J⟩:=hrel
  by_cases M:i<s.size
  ·have e0:decide ((i:Int)<(s.size:Int))=true:=by simp;omega
   have p0:(0:Int)<=(i:Int):=by omega
   have p1:(i:Int)<(s.size:Int):=by omega
   have B:=VR (kd:=kd) (w:=s) HG.out.1 HG.out.2 M;have V:Hid (Gn kd g st s i= -1->X= -1):=Hd fun h=>by rw[<-HX.out];exact UR h
   have Z:=Hd B;clear B;obtain⟨q,hq⟩:∃q,Gn kd g st s i=q:=⟨_,rfl⟩;rw[hq]at V Z⊢;have HQ:=Hd hq;clear hq
   by_cases D:q= -1
   ·have e1:(q != -1)=false:=by simp[D]
    have f:=Hd2 J (V.out D);clear J Z V;go_wp2_with fail;go_ret;rw[f.out.2];exact⟨by rw[D];rfl,f.out.1⟩
   ·have e1:(q != -1)=true:=by simp[D]
    have Y:=Hd (Rf yb kd g TX q (F0 s i) wr (HP.out.aA J));have f:=Hd J;rw[<-Z.out]at Y;clear J V;go_wp2_with fail;rw[Rm s i M];refine Y.out.mono ?_;rintro e w1 ⟨rfl,K⟩;have W:=Hd (f.out.trans (K.mono f.out.size));clear K Y;go_wp2_with fail
    go_roundg (s.size- (i+1))
    case measure=>omega
    case rel=>exact⟨i+1,rfl,by go_num,by omega,rfl,W.out⟩
  ·have e0:decide ((i:Int)<(s.size:Int))=false:=by rw[decide_eq_false_iff_not];omega
   obtain rfl:i=s.size:=by omega
   have hr:=UV (kd:=kd) (g:=g) (st:=st) (w:=s);rw[hr,HX.out];have f:=Hd J;clear J hr;go_wp2_with fail;go_ret;exact⟨rfl,f.out⟩
section
variable{kd:Nat->Nat}{g:B0}
theorem GL{R:E0}(D:A4 R=some (kd,g))(G:B8 kd g)(s:Int):U5 g s=true↔∃b:Nat,b<256/\X0 kd g s (b:Int)≠ -1:=by
 constructor
 ·intro h;obtain⟨d,b,B,f,_⟩:=Du D h;exact⟨b,B,f⟩
 ·rintro⟨b,_,f⟩;exact Decidable.byContradiction fun e=>f (Wm G (by simpa using e))
theorem Dt(h:Zh kd g):∀(L:List Nat) (st:Int),(∀b∈L,b<256)->InS g st->Mh kd g (L.map (fun b:Nat=>(b:Int))) st=G3 g st (L.map kd)
 | [],st,_,_=>rfl
 |b::L,st,hb,hs=>by
  have f:=hb b (by simp);have J:X0 kd g st (b:Int)=W0 g st (kd b):=by
   rcases hs with rfl|⟨j,B,rfl⟩
   ·rw[ZB];unfold W0;rw[if_pos (by omega)]
   ·exact Z7 h B f
  have G:InS g (W0 g st (kd b)):=by
   rcases hs with rfl|⟨j,B,rfl⟩
   ·left;unfold W0;rw[if_pos (by omega)]
   ·rcases h.step j b B f with e|⟨M,e,D⟩
    ·exact .inl e
    ·exact .inr ⟨M,D,e⟩
  show Mh kd g (L.map (fun b:Nat=>(b:Int))) (X0 kd g st (b:Int))=G3 g (W0 g st (kd b)) (L.map kd);rw[J];exact Dt h L _ (fun x K=>hb x (by simp[K])) G
theorem Ou(x:ByteArray):L1 x 0=(Q0 x).map (fun b:Nat=>(b:Int)):=by unfold L1 Q0;simp
theorem EJ(f:Zh kd g)(x:ByteArray)(p:Nat):G3 g 0 ((Q0 (x.extract p x.size)).map kd)=Mh kd g (L1 x p) 0:=by
 rw[<-Zz,Ou,Dt f _ 0 (Vw _) (.inr ⟨0,f.bF,rfl⟩)]
theorem Ez:∀(L:List Int) (q:Nat) (st:Int) (f:Ih),st≠ -1->Mh kd g L st= -1->(C2 kd g L q st f).2=none
 | [],q,st,f,h,e=>absurd e h
 |b::L,q,st,f,h,e=>by
  rw[E7]
  by_cases B:X0 kd g st b= -1
  ·rw[if_pos B]
  ·rw[if_neg B];exact Ez L _ _ _ B e
theorem QX(x:ByteArray)(p:Nat):fE kd g x p=if Mh kd g (L1 x p) 0= -1 then false else U5 g (Mh kd g (L1 x p) 0):=by
 unfold fE
 by_cases e:Mh kd g (L1 x p) 0= -1
 ·rw[if_pos e,Ez _ _ _ _ (by omega) e];rfl
 ·rw[if_neg e,(Jt (L1 x p) p 0 (Q1 p) e).1];rfl
end
theorem Zq(Z:Nat){R:E0}(kd:Nat->Nat)(g:B0)(TX:List ByteArray)(s:Int)(w:World)(h:N6 w Z kd g TX)(hR:A4 R=some (kd,g))(ho:B8 kd g):
  Calls Tryz.prog 112 #[.pointer (some ⟨Z,0,none⟩),.int .i64 s] w fun e w'=>e=.returned (.bool (U5 g s))/\Bw w w':=by
 have HP:=Hd h;have V:=Hd (GL hR ho s);clear h hR ho;generalize U5 g s=B at V;go_enter Tryz.func112,Tryz.ntmps112;go_wp2_with fail
 go_loopg[5] 256 (fun G bv wr=>∃b:Nat,bv=.int .i64 b/\b<=256/\G=256-b/\(∀c:Nat,c<b->X0 kd g s (c:Int)= -1)/\Bw w wr)
 case atStart=>exact⟨0,rfl,by omega,rfl,fun c hc=>by omega,Below.refl _ _⟩
 case round=>
  obtain⟨b,rfl,hb,rfl,f,M⟩:=hrel
  by_cases X:b<256
  ·have e0:decide ((b:Int)<256)=true:=by simp;omega
   have W:=Hd (Rf Z kd g TX s (b:Int) wr (HP.out.aA M));have J:=Hd2 f M;obtain⟨q,Y⟩:∃q,X0 kd g s (b:Int)=q:=⟨_,rfl⟩;rw[Y]at W;have HQ:=Hd Y;clear f M Y;go_wp2_with fail;refine W.out.mono ?_;rintro e w1 ⟨rfl,U⟩;have K:=Hd (J.out.2.trans (U.mono J.out.2.size));clear U W
   by_cases D:q= -1
   ·have e1:(q != -1)=false:=by simp[D]
    go_wp2_with fail
    go_roundg (256- (b+1))
    case measure=>omega
    case rel=>
     refine⟨b+1,by go_num,by omega,rfl,fun c hc=>?_,K.out⟩
     by_cases e:c<b
     ·exact J.out.1 c e
     ·rw[show c=b by omega,HQ.out];exact D
   ·have e1:(q != -1)=true:=by simp[D]
    go_wp2_with fail;go_ret;refine⟨?_,K.out⟩;rw[V.out.2 ⟨b,X,by rw[HQ.out];exact D⟩];rfl
  ·have e0:decide ((b:Int)<256)=false:=by simp;omega
   have J:=Hd2 f M;clear f M;go_wp2_with fail;go_ret;refine⟨?_,J.out.2⟩;have:B=false:=Bool.eq_false_iff.2 fun e=>by
    obtain⟨c,h1,h2⟩:=V.out.1 e;exact h2 (J.out.1 c (by omega))
   rw[this];rfl
theorem FU{kd:Nat->Nat}{g:B0}{s:ByteArray}{k:Nat}(f:k<(M5 kd g s).length):(M5 kd g s)[k].fr<s.size/\(M5 kd g s)[k].tt<=s.size:=by
 have h:=NO (Ks kd g s) _ (zG f);exact⟨RE (Ks kd g s) _ (zG f),h.2⟩
theorem Ur{α:Type}(q:α->Bool):∀(l:List α) (k:Nat),(∀j,(h:j<l.length)->j<k->q l[j]=true)->k<=l.length->k<=(l.takeWhile q).length
 |l,0,_,_=>yC _
 | [],k+1,_,hk=>by simp at hk
 |a::l,k+1,h,hk=>by
  rw[List.takeWhile_cons,if_pos (show q a=true from h 0 (by simp) (by omega))];have:=Ur q l k (fun j f B=>h (j+1) (by simpa using f) (by omega)) (by simpa using hk);simp;omega
theorem JF{α:Type}(q:α->Bool)(l:List α)(k:Nat)(G:k<l.length)(h:∀j,(h:j<l.length)->j<k->q l[j]=true)(B:q l[k]=false):(l.takeWhile q).length=k:=by
 have e:l=l.take k++(l[k]::l.drop (k+1)):=by rw[List.getElem_cons_drop,yT]
 rw[e,Li q (l.take k) _ (fun t D=>by
  obtain⟨j,f,rfl⟩:=List.getElem_of_mem D;rw[List.getElem_take];rw[List.length_take]at f;exact h j (by omega) (by omega)),List.takeWhile_cons,B]
 simp;omega
theorem Jy(yb:Nat){R:E0}(kd:Nat->Nat)(g:B0)(TX:List ByteArray)(s:ByteArray)(w:World)(h:N6 w yb kd g TX)(hR:A4 R=some (kd,g))(ho:B8 kd g)(hs:s.size<=4000000):
  Calls Tryz.prog 107 #[.pointer (some ⟨yb,0,none⟩),.string s] w fun e w'=>e=.returned (.int .i64 ((Pb kd g s:Nat):Int))/\Bw w w':=by
 have hG:=O6 hR;have Y:=Hd (Dk yb kd g TX s w h hs);have HP:=Hd4 h hG hR ho;have ah:=Xi (kd:=kd) (g:=g) (s:=s);have a5:=Hd (fun k (hk:k<(M5 kd g s).length)=>FU hk);obtain⟨N,hN⟩:∃N,Pb kd g s=N:=⟨_,rfl⟩;rw[hN];unfold Pb at hN;have HN:=Hd hN;obtain⟨L,hL⟩:∃L,M5 kd g s=L:=⟨_,rfl⟩;rw[hL]at Y ah a5 HN;clear h hG hR ho hN hL;go_enter Tryz.func107,Tryz.ntmps107;go_wp2_with fail;refine Y.out.mono ?_;rintro e w1 ⟨v,rfl,hT,hO,a9⟩;obtain⟨ad,ai,rfl,ae⟩:=hT.aT;have Z:=Hd2 hT a9;clear hT hO a9 Y;go_wp2_with fail
 go_loopg[6] L.length (fun G kv wr=>∃k:Nat,kv=.int .i64 k/\k<=L.length/\G=L.length-k/\(∀j,(h:j<L.length)->j<k->fE kd g s L[j].fr=false)/\Bw w1 wr)
 case atStart=>exact⟨0,rfl,by omega,rfl,fun j _ V=>by omega,Below.refl _ _⟩
 case round=>
  obtain⟨k,rfl,hk,rfl,M,hB⟩:=hrel
  by_cases a3:k<L.length
  ·have e0:decide ((k:Int)<(L.length:Int))=true:=by simp;omega
   rcases ae with e|⟨tg,rfl⟩
   ·omega
   obtain⟨g0,g1,g2⟩:=Nd L k a3;have a8:=Z.out.1.aA hB;have c1:=(Y0 a8 (k*3+1) (by omega)).trans g1;obtain⟨f1,f2⟩:=a5.out k a3;have ac:=QX (kd:=kd) (g:=g) s L[k].fr;have K:=Hd ac;have a1:Bw w wr:=Z.out.2.trans (hB.mono Z.out.2.size);obtain⟨p1,p2,p3,p4⟩:=HP.out;have af:=EJ p2 s L[k].fr;have ag:(s.extract L[k].fr s.size).size<=4000000:=by rw[M3];omega
   have J:=Hd (Ly yb kd g TX 0 (s.extract L[k].fr s.size) wr (p1.aA a1) p2 ag (.inr ⟨0,p2.bF,rfl⟩));rw[af]at J;have a6:Hid (∀W q,Bw wr W->Calls Tryz.prog 112 #[.pointer (some ⟨yb,0,none⟩),.int .i64 q] W fun e w'=>e=.returned (.bool (U5 g q))/\Bw W w'):=Hd fun W q kb=>Zq yb kd g TX q W ((p1.aA a1).aA kb) p3 p4
   have k0:(0:Int)<=(k:Int):=by omega
   have k1:(k:Int)<(L.length:Int):=by omega
   have U:=Hd2 M hB;generalize hf:L[k].fr=fr at c1 f1 K J;have HF:=Hd hf;have j0:(0:Int)<=(fr:Int):=by omega
   have j1:(fr:Int)<=(s.size:Int):=by omega
   clear M hB g0 g1 g2 a8 ac a1 p1 p2 p3 p4 af ag hf;generalize Mh kd g (L1 s fr) 0=q at J K;go_wp2_with fail;refine J.out.mono ?_;rintro e w2 ⟨rfl,a0⟩;have X:=Hd (U.out.2.trans (a0.mono U.out.2.size));have D:=Hd (a6.out w2 q a0);clear a0 J a6
   by_cases hq:q= -1
   ·have e1:(q != -1)=false:=by simp[hq]
    go_wp2_with fail
    go_roundg (L.length- (k+1))
    case measure=>omega
    case rel=>
     refine⟨k+1,by go_num,by omega,rfl,fun j V a2=>?_,X.out⟩
     by_cases e:j<k
     ·exact U.out.1 j V e
     ·have:j=k:=by omega
      subst this;rw[HF.out,K.out,if_pos hq]
   ·have e1:(q != -1)=true:=by simp[hq]
    have f:=K.out;rw[if_neg hq]at f;generalize U5 g q=B at D f;have a7:=Hd f;clear f;go_wp2_with fail;refine D.out.mono ?_;rintro e w3 ⟨rfl,aa⟩;have a4:=Hd (X.out.trans (aa.mono X.out.size));clear aa D;cases B with
    |true=>
     go_wp2_with fail;go_ret;refine⟨?_,Z.out.2.trans (a4.out.mono Z.out.2.size)⟩;have ab:=JF (fun t:S4=>!fE kd g s t.fr) L k a3 (fun j V a2=>by rw[U.out.1 j V a2];rfl) (by rw[HF.out,a7.out];rfl);rw[HN.out]at ab;rw[ab];rfl
    |false=>
     go_wp2_with fail
     go_roundg (L.length- (k+1))
     case measure=>omega
     case rel=>
      refine⟨k+1,by go_num,by omega,rfl,fun j V a2=>?_,a4.out⟩
      by_cases e:j<k
      ·exact U.out.1 j V e
      ·have:j=k:=by omega
       subst this;rw[HF.out,a7.out]
  ·have e0:decide ((k:Int)<(L.length:Int))=false:=by simp;omega
   have U:=Hd2 M hB;clear M hB;go_wp2_with fail;go_ret;refine⟨?_,Z.out.2.trans (U.out.2.mono Z.out.2.size)⟩;have h1:=Ur (fun t:S4=>!fE kd g s t.fr) L L.length (fun j V _=>by rw[U.out.1 j V (by omega)];rfl) (zD _);have h2:=(List.takeWhile_prefix (p:=fun t:S4=>!fE kd g s t.fr) (l:=L)).length_le;rw[HN.out]at h1 h2;have:N=L.length:=by omega
   rw[this];rfl
abbrev RV(B:Nat)(r:Sh)(W:ByteArray)(f:Nat)(h:Bool):Array Value:=#[.pointer (some ⟨B,0,none⟩),.int .i64 (r.a:Int),.int .i64 (r.e:Int),.int .i64 (r.l:Int),.string W,.int .i64 f,.bool h]
def I7(w:World)(B D:Nat)(r:Sh)(W:ByteArray)(f:Nat)(h:Bool):Prop:=Blk w B (RV D r W f h) 199
theorem Xu(G yb:Nat)(r:Sh)(W:ByteArray)(X:Nat)(Y:Bool)(p:Nat)(w:World)(h:I7 w G yb r W X Y)(M:r.On p)(he:r.e<=1099511627776)(a0:p<=4000000)(hl:r.l<=61):
  Calls Tryz.prog 110 #[.pointer (some ⟨G,0,none⟩),.int .i64 p] w fun e w'=>e=.returned (.int .i64 ((r.pl p:Nat):Int))/\Bw w w':=by
 obtain⟨a,e,l⟩:=r;have c1:w.cell? ⟨G,1,none⟩=some (.int .i64 a):=h.cell 1;have c2:w.cell? ⟨G,2,none⟩=some (.int .i64 e):=h.cell 2;have c3:w.cell? ⟨G,3,none⟩=some (.int .i64 l):=h.cell 3;have zt:=h.lt;unfold Sh.pl;simp only at he hl⊢;clear h
 by_cases D:p=0
 ·subst D;rw[if_pos rfl];clear M;go_enter Tryz.func110,Tryz.ntmps110;go_wp2_with fail;go_ret;exact⟨rfl,Below.refl _ _⟩
 ·have K:l<=p:=by
   rcases M with J|J
   ·exact absurd J D
   ·exact J
  rw[if_neg D];have e0:((p:Int)==0)=false:=by rw[beq_eq_false_iff_ne];omega
  obtain⟨f,U⟩:∃f:Nat,(e:Int)+(p:Int)=(f:Int):=⟨e+p,by omega⟩;obtain⟨q,V⟩:∃q:Nat,(f:Int)- (l:Int)=(q:Int):=⟨f-l,by omega⟩;have B:e+p-l=q:=by omega
  rw[B];have Z:IntKind.i64.wrap ((e:Int)+(p:Int))=(f:Int):=(Go.IntWalk.i64_left _).trans (by rw[U];unfold wrap64;omega);have b2:IntKind.i64.wrap ((f:Int)- (l:Int))=(q:Int):=(Go.IntWalk.i64_left _).trans (by rw[V];unfold wrap64;omega);have a1:¬p=0:=D;clear M U V B D K;go_enter Tryz.func110,Tryz.ntmps110;go_wp2_with fail;go_quiet(fail);clear Z b2;go_wp2_with fail;go_ret;exact⟨rfl,A2 (Below.refl _ _) _⟩
theorem JA{α β:Type}(f:α->β)(L:List α)(a k:Nat)(h:a<=k)(B:k<L.length):((L.drop a).take (k+1-a)).map f=((L.drop a).take (k-a)).map f++ [f L[k]]:=by
 rw[show k+1-a=(k-a)+1 by omega,yN (show k-a<(L.drop a).length by rw[List.length_drop];omega),yB,List.getElem_drop];simp[show a+(k-a)=k by omega]
theorem QJ(J yb:Nat)(kd:Nat->Nat)(g:B0)(TX:List ByteArray)(r:Sh)(W:ByteArray)(f:Nat)(aS:Bool)(n:Nat)(w:World)(h:I7 w J yb r W f aS)(hy:N6 w yb kd g TX)(hW:W.size<=4000000)(he:r.e<=1099511627776)(hl:r.l<=61)(h1:f<=n)(h2:n<=(M5 kd g W).length)(hv:∀k,(hk:k<(M5 kd g W).length)->f<=k->k<n->r.On (M5 kd g W)[k].fr/\r.l<=(M5 kd g W)[k].tt):
  Calls Tryz.prog 108 #[.pointer (some ⟨J,0,none⟩),.int .i64 n] w fun e w'=>∃v,e=.returned v/\T1 w' v ((((M5 kd g W).drop f).take (n-f)).map r.bN)/\(∀b,v.ownBlock=some b->w.heap.size<=b)/\I7 w' J yb r W n aS/\C0 (fun b=>b=J) w w':=by
 have av:=Xi (kd:=kd) (g:=g) (s:=W);have ab:Hid (∀V,Bw w V->Calls Tryz.prog 80 #[.pointer (some ⟨yb,0,none⟩),.string W] V fun e w'=>∃v,e=.returned v/\T1 w' v (M5 kd g W)/\(∀b,v.ownBlock=some b->V.heap.size<=b)/\Bw V w'):=Hd fun V k=>Dk yb kd g TX W V (hy.aA k) hW
 have af:=Hd (fun k (hk:k<(M5 kd g W).length)=>FU hk);have HV:=Hd hv;clear hv;generalize M5 kd g W=L at ab av af HV h2⊢;have ah:Hid (∀V p,Bw w V->r.On p->p<=4000000->Calls Tryz.prog 110 #[.pointer (some ⟨J,0,none⟩),.int .i64 p] V fun e w'=>e=.returned (.int .i64 ((r.pl p:Nat):Int))/\Bw V w'):=Hd fun V p k hp ax=>Xu J yb r W f aS p V (Blk.aA h k) hp he ax hl
 have HS:=Hd h;have c0:w.cell? ⟨J,0,none⟩=some (.pointer (some ⟨yb,0,none⟩)):=h.cell 0;have c4:w.cell? ⟨J,4,none⟩=some (.string W):=h.cell 4;have zt:=h.lt;clear h hy;go_enter Tryz.func108,Tryz.ntmps108;go_upto_region 1 with fail
 go_cut[5] (fun lv wx=>T1 wx lv L/\Bw w wx)
 case first=>
  go_region_with (go_at_call 80;refine(ab.out _ (Y1 (Below.refl _ _))).mono ?_;rintro e w5 ⟨v5,rfl,ak,au,an⟩;have aj:=Hd2 ak ((Y1 (Below.refl w.heap.size w)).trans (an.mono (zD _)));clear ak au an)
  all_goals
   go_wp2_with fail;go_meet;exact⟨aj.out.1,aj.out.2⟩
 case rest=>
  obtain⟨hT,a6⟩:=hcut;rename_i lv _;obtain⟨ad,b0,rfl,aq⟩:=hT.aT;have HT:=Hd2 hT a6;have c5:wc.cell? ⟨J,5,none⟩=some (.int .i64 f):=(Blk.aA HS.out a6).cell 5;have zc:=(Blk.aA HS.out a6).lt;clear hT a6 c0 c4 ab;go_wp2_with fail
  go_loopg[6,7] (n-f) (fun G ov kv wr=>∃k:Nat,kv=.int .i64 k/\f<=k/\k<=n/\G=n-k/\T1 wr ov (((L.drop f).take (k-f)).map r.bN)/\(∀b,ov.ownBlock=some b->wc.heap.size<=b)/\Bw wc wr)
  case atStart=>exact⟨f,rfl,zD _,h1,rfl,by simp;exact World.ownsRow_nil _ _ _ _,fun b hb=>by simp[Value.ownBlock]at hb,Below.refl _ _⟩
  case round=>
   obtain⟨k,rfl,ao,b1,rfl,hO,Z,hB⟩:=hrel
   by_cases aw:k<n
   ·have e0:decide ((k:Int)<(n:Int))=true:=by simp;omega
    have a7:k<L.length:=by omega
    rcases aq with e|⟨tg,rfl⟩
    ·omega
    obtain⟨g0,g1,g2⟩:=Nd L k a7;have a0:=HT.out.1.aA hB;have d1:=(Y0 a0 (k*3+1) (by omega)).trans g1;have D:Bw w wr:=HT.out.2.trans (hB.mono HT.out.2.size);have HC:Hid (∀V,Bw wr V->V.cell? ⟨tg,k*3,none⟩=some (.int .i64 L[k].aB)/\V.cell? ⟨tg,k*3+2,none⟩=some (.int .i64 (L[k].tt:Int))/\tg<V.heap.size):=Hd fun V q=>by
     have ac:=a0.aA q;exact⟨(Y0 ac (k*3) (by omega)).trans g0,(Y0 ac (k*3+2) (by omega)).trans g2,M1 ac tg rfl⟩
    have b2:=M1 a0 tg rfl;obtain⟨f1,f2⟩:=af.out k a7;obtain⟨v1,v2⟩:=HV.out k a7 ao aw;have U:=JA r.bN L f k ao a7;have ai:=Hd U;have HH:=Hd3 hO Z hB;have k0:(0:Int)<=(k:Int):=by omega
    have k1:(k:Int)<(L.length:Int):=by omega
    have X:=Hd (ah.out wr L[k].fr D v1 (by omega));have Y:Hid (∀V,Bw wr V->Calls Tryz.prog 110 #[.pointer (some ⟨J,0,none⟩),.int .i64 (L[k].tt:Int)] V fun e w'=>e=.returned (.int .i64 ((r.pl L[k].tt:Nat):Int))/\Bw V w'):=Hd fun V q=>ah.out V L[k].tt (D.trans (q.mono D.size)) (.inr v2) (by omega)
    have M:(((L.drop f).take (k-f)).map r.bN).length=k-f:=by rw[yA,List.length_take,List.length_drop];omega
    obtain⟨od,a9,rfl,_⟩:=hO.aT;rw[M]at HH⊢;have ar:=Hd M;generalize L[k]=t at d1 HC f1 f2 v1 v2 ai X Y;obtain⟨tr,tf,tt⟩:=t;simp only at d1 HC f1 f2 v1 v2 X Y;clear hO Z hB g0 g1 g2 a0 D U M;go_wp2_with fail;refine X.out.mono ?_;rintro e w2 ⟨rfl,a5⟩;obtain⟨q1,q2,q3⟩:=HC.out w2 a5;have a8:=Hd (Y.out w2 a5);have aa:=Hd a5;clear a5 X Y d1;go_wp2_with fail;refine a8.out.mono ?_;rintro e w3 ⟨rfl,am⟩;have B:Bw wr w3:=aa.out.trans (am.mono aa.out.size);obtain⟨p1,p2,p3⟩:=HC.out w3 B;have b3:wc.heap.size<=w3.heap.size:=yK HH.out.2.2.size B.size;have HA:Hid (T1 (w3.alloc (.cells (Yk ⟨tr,r.pl tf,r.pl tt⟩) 106)) (.slice od (k-f) a9) (((L.drop f).take (k-f)).map r.bN)):=Hd ((HH.out.1.aA B).aA (P0 _ _));have ae:=Hd (HH.out.2.2.trans (B.mono HH.out.2.2.size));have ag:=Hd HH.out.2.1;have ay:(((L.drop f).take (k-f)).map r.bN).length+1<=4000001:=by rw[ar.out];omega
    clear am B a8 q1 q2 q3 aa p2;go_wp2_with(at_builtin;(refine Mw (la:=((L.drop f).take (k-f)).map r.bN) (ll:=[⟨tr,r.pl tf,r.pl tt⟩]) (va:=.slice od (k-f) a9) (vl:=.slice (some ⟨w3.heap.size,0,none⟩) 1 1) (by rfl) _ _ (by rfl) (by rfl) (by rfl) HA.out (VO w3 ⟨tr,r.pl tf,r.pl tt⟩) wc.heap.size (by simp;omega) ag.out (by simpa using ay) ?_));intro v6 w6 r1 r2 r3;have HR:=Hd3 r1 r2 (Y2 (ae.out.alloc ae.out.size _) r3 (by simp;omega) (fun x hx e=>by have:=ag.out x e;omega));clear r1 r2 r3;go_wp2_with fail
    go_roundg (n- (k+1))
    case measure=>omega
    case rel=>exact⟨k+1,by go_num,by omega,by omega,rfl,by have h9:=HR.out.1;rw[<-List.map_drop,<-List.map_take]at h9;rw[ai.out];exact h9,HR.out.2.1,HR.out.2.2⟩
   ·have e0:decide ((k:Int)<(n:Int))=false:=by simp;omega
    obtain rfl:k=n:=by omega
    have D:Bw w wr:=HT.out.2.trans (hB.mono HT.out.2.size);have K:=Blk.aA HS.out D;have d5:wr.cell? ⟨J,5,none⟩=some (.int .i64 f):=K.cell 5;have f5:=K.frozen 5;have zr:=K.lt;have HH:=Hd4 hO Z D K;clear hO Z hB D K c5;go_wp2_with fail;go_ret;obtain⟨a1,a2,a3,a4⟩:=HH.out;have ap:C0 (fun b=>b=J) wr (wr.setCell ⟨J,5,none⟩ (.int .i64 k)):=C0.setCell (ex:=fun b=>b=J) (p:=⟨J,5,none⟩) (C0.refl _ _) (fun _=>rfl) _;have az:=HT.out.2.size;refine⟨_,rfl,a1.kept ap (fun b hb e=>by have:=a2 b hb;omega),fun b hb=>yK az (a2 b hb),a4.set 5 _,(C0.aM a3).trans ap (fun _ _ e=>e)⟩
theorem Hv(f D:Nat)(r:Sh)(W:ByteArray)(B:Nat)(s:ByteArray)(w:World)(h:I7 w f D r W B true):
  Calls Tryz.prog 67 #[.pointer (some ⟨f,0,none⟩),.string s] w fun e w'=>e=.returned (.tuple #[.slice none 0 0,.int .i64 6])/\w'=w:=by
 have G:w.cell? ⟨f,6,none⟩=some (.bool true):=h.cell 6;have J:=h.lt;clear h;go_enter Tryz.func67,Tryz.ntmps67;go_wp2_with fail
 go_ret2
 exact⟨rfl,rfl⟩
theorem Bt(f D:Nat)(r:Sh)(W:ByteArray)(B:Nat)(w:World)(h:I7 w f D r W B true):
  Calls Tryz.prog 69 #[.pointer (some ⟨f,0,none⟩)] w fun e w'=>e=.returned (.tuple #[.slice none 0 0,.int .i64 6])/\w'=w:=by
 have G:w.cell? ⟨f,6,none⟩=some (.bool true):=h.cell 6;have J:=h.lt;clear h;go_enter Tryz.func69,Tryz.ntmps69;go_wp2_with fail
 go_ret2
 exact⟨rfl,rfl⟩
theorem Lu(f J:Nat){R:E0}(kd:Nat->Nat)(g:B0)(TX:List ByteArray)(r:Sh)(W:ByteArray)(K:Nat)(s:ByteArray)(w:World)(h:I7 w f J r W K false)(hy:N6 w J kd g TX)(hR:A4 R=some (kd,g))(ho:B8 kd g)(hW:W.size+s.size<=4000000)(he:r.e<=1099511627776)(hl:r.l<=61)(ac:r.l<=W.size)
  (h1:K<=Pb kd g (W++s)) (h2:Pb kd g (W++s)<=(M5 kd g (W++s)).length) (hv:∀k,(hk:k<(M5 kd g (W++s)).length)->K<=k->k<Pb kd g (W++s)->r.On (M5 kd g (W++s))[k].fr/\r.l<=(M5 kd g (W++s))[k].tt):
  Calls Tryz.prog 67 #[.pointer (some ⟨f,0,none⟩),.string s] w fun e w'=>
   (1099511627776<r.e+(W.size-r.l)+s.size/\e=.returned (.tuple #[.slice none 0 0,.int .i64 5])/\Bw w w')\/
   (r.e+(W.size-r.l)+s.size<=1099511627776/\∃v,e=.returned (.tuple #[v,.int .i64 0])/\T1 w' v ((((M5 kd g (W++s)).drop K).take (Pb kd g (W++s)-K)).map r.bN)/\(∀b,v.ownBlock=some b->w.heap.size<=b)/\I7 w' f J r (W++s) (Pb kd g (W++s)) false/\C0 (fun b=>b=f) w w'):=by
 have c0:w.cell? ⟨f,0,none⟩=some (.pointer (some ⟨J,0,none⟩)):=h.cell 0;have c2:w.cell? ⟨f,2,none⟩=some (.int .i64 (r.e:Int)):=h.cell 2;have c3:w.cell? ⟨f,3,none⟩=some (.int .i64 (r.l:Int)):=h.cell 3;have c4:w.cell? ⟨f,4,none⟩=some (.string W):=h.cell 4;have c6:w.cell? ⟨f,6,none⟩=some (.bool false):=h.cell 6;have zt:=h.lt;have HS:=Hd h;have ad:(W++s).size=W.size+s.size:=zR;have U:Hid (∀V,I7 V f J r (W++s) K false->N6 V J kd g TX->Calls Tryz.prog 108 #[.pointer (some ⟨f,0,none⟩),.int .i64 ((Pb kd g (W++s):Nat):Int)] V fun e w'=>∃v,e=.returned v/\T1 w' v ((((M5 kd g (W++s)).drop K).take (Pb kd g (W++s)-K)).map r.bN)/\(∀b,v.ownBlock=some b->V.heap.size<=b)/\I7 w' f J r (W++s) (Pb kd g (W++s)) false/\C0 (fun b=>b=f) V w'):=Hd fun V a b=>QJ f J kd g TX r (W++s) K false _ V a b (by omega) he hl h1 h2 hv
 have a0:Hid (∀V,N6 V J kd g TX->Calls Tryz.prog 107 #[.pointer (some ⟨J,0,none⟩),.string (W++s)] V fun e w'=>e=.returned (.int .i64 ((Pb kd g (W++s):Nat):Int))/\Bw V w'):=Hd fun V a=>Jy J kd g TX (W++s) V a hR ho (by omega)
 have HY:=Hd hy;generalize Pb kd g (W++s)=N at U a0;generalize M5 kd g (W++s)=L at U;obtain⟨ra,re,rl⟩:=r;simp only at he hl ac c2 c3;obtain⟨A,hA⟩:∃A:Nat,(1099511627776:Int)- (re:Int)=(A:Int):=⟨1099511627776-re,by omega⟩;obtain⟨B,hB⟩:∃B:Nat,(W.size:Int)- (rl:Int)=(B:Int):=⟨W.size-rl,by omega⟩;obtain⟨D,hD⟩:∃D:Int,(A:Int)- (B:Int)=D:=⟨_,rfl⟩;have b1:IntKind.i64.wrap ((1099511627776:Int)- (re:Int))=(A:Int):=(Go.IntWalk.i64_left _).trans (by rw[hA];unfold wrap64;omega);have b2:IntKind.i64.wrap ((W.size:Int)- (rl:Int))=(B:Int):=(Go.IntWalk.i64_left _).trans (by rw[hB];unfold wrap64;omega);have b3:IntKind.i64.wrap ((A:Int)- (B:Int))=D:=(Go.IntWalk.i64_left _).trans (by rw[hD];unfold wrap64;omega);have a6:Hid ((D<(s.size:Int)↔1099511627776<re+(W.size-rl)+s.size)):=Hd (by constructor <;>intro _ <;>omega);clear h hy hR ho h1 h2 hv hA hB hD
 by_cases a9:D<(s.size:Int)
 ·have e0:decide (D<(s.size:Int))=true:=by simp[a9]
  go_enter Tryz.func67,Tryz.ntmps67;go_wp2_with fail;go_quiet(fail);clear b1 b2 b3;go_wp2_with fail
  go_ret2
  exact .inl ⟨a6.out.1 a9,rfl,A2 (Below.refl _ _) _⟩
 ·have e0:decide (D<(s.size:Int))=false:=by simp;omega
  go_enter Tryz.func67,Tryz.ntmps67;go_wp2_with fail;go_quiet(fail);clear b1 b2 b3;obtain⟨M,a4⟩:∃M:World,w.drewN nq=M:=⟨_,rfl⟩;have X:Bw w M:=by rw[<-a4];exact A2 (Below.refl _ _) _
  rw[a4];have G:=Blk.aA HS.out X;have d4:M.cell? ⟨f,4,none⟩=some (.string W):=G.cell 4;have f4:=G.frozen 4;have z1:=G.lt;have u1:∀V:World,(Op.stringOp .add W s).run Tryz.prog V=.ok (.string (W++s)) V:=fun V=>run_string_add_sum V _ _ (by omega)
  have a1:I7 (M.setCell ⟨f,4,none⟩ (.string (W++s))) f J ⟨ra,re,rl⟩ (W++s) K false:=G.set 4 _;have a3:C0 (fun b=>b=f) w (M.setCell ⟨f,4,none⟩ (.string (W++s))):=C0.setCell (ex:=fun b=>b=f) (p:=⟨f,4,none⟩) (C0.aM X) (fun _=>rfl) _;have a2:N6 (M.setCell ⟨f,4,none⟩ (.string (W++s))) J kd g TX:=by
   have Z:=HY.out.aA X;obtain⟨rv,pn,pv,xt,xo,xf,OX,FX,q1,q2⟩:=Z.x;have kk:C0 (fun b=>b=f) M (M.setCell ⟨f,4,none⟩ (.string (W++s))):=C0.setCell (ex:=fun b=>b=f) (p:=⟨f,4,none⟩) (C0.refl _ _) (fun _=>rfl) _;exact⟨⟨rv,pn,pv,xt,xo,xf,OX,FX,q1.kept kk (q1.aO.ne G (by decide)) (fun b hb e=>by subst e;exact K0 q1.txt G (by decide) hb) (fun b hb e=>by subst e;exact K0 q1.bP.row G (by decide) hb) (fun b hb e=>by subst e;exact K0 q1.of G (by decide) hb) (fun p hp=>(q1.bP.aV p hp).1.ne G (by decide)),q2⟩,Z.tl,Z.bF,Z.nl⟩
  obtain⟨w2,a5⟩:∃w2:World,M.setCell ⟨f,4,none⟩ (.string (W++s))=w2:=⟨_,rfl⟩;rw[a5]at a1 a3 a2;have H2:=Hd3 a1 a3 a2;clear a4 X G a1 a3 a2 c0 c2 c3 c4 c6;go_upto_region 6 with fail
  try rw[a5]
  clear a5 d4 f4 u1;have c0:w2.cell? ⟨f,0,none⟩=some (.pointer (some ⟨J,0,none⟩)):=H2.out.1.cell 0;have c4:w2.cell? ⟨f,4,none⟩=some (.string (W++s)):=H2.out.1.cell 4;have z2:=H2.out.1.lt
  go_cut[6] (fun nv wx=>nv=.int .i64 N/\Bw w2 wx)
  case first=>
   go_region_with (go_at_call 107;refine(a0.out _ (H2.out.2.2.aA (Y1 (Below.refl _ _)))).mono ?_;rintro e w5 ⟨rfl,a7⟩;have aa:Hid (Bw w2 w5):=Hd ((Y1 (Below.refl _ _)).trans (a7.mono (zD _)));clear a7)
   all_goals
    go_wp2_with fail;go_meet;exact⟨rfl,aa.out⟩
  case rest=>
   obtain⟨rfl,Y⟩:=hcut;have HT:=Hd (U.out wc (Blk.aA H2.out.1 Y) (H2.out.2.2.aA Y));have ab:=Hd Y;clear Y c0 c4 U a0;go_wp2_with fail;refine HT.out.mono ?_;rintro e w5 ⟨v5,rfl,t1,t2,t3,t4⟩;have H5:=Hd4 t1 t2 t3 t4;clear t1 t2 t3 t4 HT;go_wp2_with fail
   go_ret2
   obtain⟨t1,t2,t3,t4⟩:=H5.out;have a8:=(H2.out.2.1.aA ab.out);exact .inr ⟨by have:=a6.out;omega,v5,rfl,t1,fun b hb=>yK a8.size (t2 b hb),t3,a8.trans t4 (fun _ _ e=>e)⟩
theorem N6.kP{w w':World}{K J:Nat}{kd:Nat->Nat}{g:B0}{G:List ByteArray}(h:N6 w K kd g G){c:Array Value}(B:Blk w J c 199)(W:C0 (fun b=>b=J) w w'):N6 w' K kd g G:=by
 obtain⟨rv,X,Y,xt,xo,xf,U,M,f,Z⟩:=h.x;exact⟨⟨rv,X,Y,xt,xo,xf,U,M,f.kept W (f.aO.ne B (by decide)) (fun b D e=>by subst e;exact K0 f.txt B (by decide) D) (fun b D e=>by subst e;exact K0 f.bP.row B (by decide) D) (fun b D e=>by subst e;exact K0 f.of B (by decide) D) (fun p V=>(f.bP.aV p V).1.ne B (by decide)),Z⟩,h.tl,h.bF,h.nl⟩
theorem TI(G:Nat){R:E0}(kd:Nat->Nat)(g:B0)(K:List ByteArray)(w:World)(h:N6 w G kd g K)(M:A4 R=some (kd,g))(U:Fb kd g):
  Calls Tryz.prog 73 #[.pointer (some ⟨G,0,none⟩)] w fun e w'=>Bw w w'/\
   (((V3 kd g).aW=false/\e=.returned (.tuple #[.pointer none,.int .i64 4]))\/((V3 kd g).aW=true/\∃J,e=.returned (.tuple #[.pointer (some ⟨J,0,none⟩),.int .i64 0])/\I7 w' J G ⟨0,0,0⟩ ⟨#[]⟩ 0 false/\w.heap.size<=J)):=by
 have D:=Hd (QI G kd g K w h M U);clear h M U;generalize V3 kd g=X at D;obtain⟨xb,xk,W,Y,Z,x4,x5⟩:=X;simp only at D⊢;cases xb with
 |false=>
  go_enter Tryz.func73,Tryz.ntmps73;go_wp2_with fail;refine D.out.mono ?_;rintro e V ⟨rfl,B⟩;have f:=Hd B;clear B D;go_wp2_with fail
  go_ret2
  exact⟨f.out,.inl ⟨trivial,rfl⟩⟩
 |true=>
  go_enter Tryz.func73,Tryz.ntmps73;go_wp2_with fail;refine D.out.mono ?_;rintro e V ⟨rfl,B⟩;have f:=Hd B;clear B D;go_wp2_with fail
  go_ret2
  exact⟨f.out.alloc f.out.size _,.inr ⟨trivial,V.heap.size,rfl,Blk.aQ _ _ _,f.out.size⟩⟩
theorem UE(f D:Nat)(kd:Nat->Nat)(g:B0)(TX:List ByteArray)(r:Sh)(W:ByteArray)(G:Nat)(w:World)(h:I7 w f D r W G false)(hy:N6 w D kd g TX)(hW:W.size<=4000000)(he:r.e<=1099511627776)(hl:r.l<=61)(h1:G<=(M5 kd g W).length)(hv:∀k,(hk:k<(M5 kd g W).length)->G<=k->k<(M5 kd g W).length->r.On (M5 kd g W)[k].fr/\r.l<=(M5 kd g W)[k].tt):
  Calls Tryz.prog 69 #[.pointer (some ⟨f,0,none⟩)] w fun e w'=>∃v,e=.returned (.tuple #[v,.int .i64 0])/\T1 w' v (((M5 kd g W).drop G).map r.bN)/\(∀b,v.ownBlock=some b->w.heap.size<=b)/\I7 w' f D r W (M5 kd g W).length true/\C0 (fun b=>b=f) w w':=by
 have c6:w.cell? ⟨f,6,none⟩=some (.bool false):=h.cell 6;have f6:=h.frozen 6;have zt:=h.lt;have a8:=Xi (kd:=kd) (g:=g) (s:=W);have a4:((M5 kd g W).drop G).take ((M5 kd g W).length-G)=(M5 kd g W).drop G:=zN (by rw[List.length_drop];exact zD _);have Y:Hid (∀V,I7 V f D r W G true->N6 V D kd g TX->Calls Tryz.prog 108 #[.pointer (some ⟨f,0,none⟩),.int .i64 (((M5 kd g W).length:Nat):Int)] V fun e w'=>∃v,e=.returned v/\T1 w' v (((M5 kd g W).drop G).map r.bN)/\(∀b,v.ownBlock=some b->V.heap.size<=b)/\I7 w' f D r W (M5 kd g W).length true/\C0 (fun b=>b=f) V w'):=Hd fun V a b=>by
  have h9:=QJ f D kd g TX r W G true _ V a b hW he hl h1 (zD _) hv;rw[a4]at h9;exact h9
 have X:Hid (∀V,N6 V D kd g TX->Calls Tryz.prog 80 #[.pointer (some ⟨D,0,none⟩),.string W] V fun e w'=>∃v,e=.returned v/\T1 w' v (M5 kd g W)/\(∀b,v.ownBlock=some b->V.heap.size<=b)/\Bw V w'):=Hd fun V k=>Dk D kd g TX W V k hW
 have M:C0 (fun b=>b=f) w (w.setCell ⟨f,6,none⟩ (.bool true)):=C0.setCell (ex:=fun b=>b=f) (p:=⟨f,6,none⟩) (C0.refl _ _) (fun _=>rfl) _;have B:I7 (w.setCell ⟨f,6,none⟩ (.bool true)) f D r W G true:=h.set 6 _;have Z:=hy.kP h M;obtain⟨U,a0⟩:∃U:World,w.setCell ⟨f,6,none⟩ (.bool true)=U:=⟨_,rfl⟩;rw[a0]at M B Z;have H2:=Hd3 B M Z;have d0:U.cell? ⟨f,0,none⟩=some (.pointer (some ⟨D,0,none⟩)):=B.cell 0;have d4:U.cell? ⟨f,4,none⟩=some (.string W):=B.cell 4;have z2:=B.lt;clear hv a4;generalize M5 kd g W=L at Y X a8 h1⊢;clear h hy B M Z;go_enter Tryz.func69,Tryz.ntmps69;go_upto_region 4 with fail
 try rw[a0]
 clear a0 c6 f6
 go_cut[4] (fun lv wx=>∃ad J,lv=.slice ad L.length J/\Bw U wx)
 case first=>
  go_region_with (go_at_call 80;refine(X.out _ (H2.out.2.2.aA (Y1 (Below.refl _ _)))).mono ?_;rintro e w5 ⟨v5,rfl,a1,a7,a2⟩;have a5:Hid (Bw U w5):=Hd ((Y1 (Below.refl _ _)).trans (a2.mono (zD _)));obtain⟨ad,J,rfl,_⟩:=a1.aT;clear a1 a7 a2)
  all_goals
   go_wp2_with fail;go_meet;exact⟨ad,J,rfl,a5.out⟩
 case rest=>
  obtain⟨ad,J,rfl,K⟩:=hcut;have HT:=Hd (Y.out wc (Blk.aA H2.out.1 K) (H2.out.2.2.aA K));have a6:=Hd K;clear K d0 d4 Y X;go_wp2_with fail;refine HT.out.mono ?_;rintro e w5 ⟨v5,rfl,t1,t2,t3,t4⟩;have H5:=Hd4 t1 t2 t3 t4;clear t1 t2 t3 t4 HT;go_wp2_with fail
  go_ret2
  obtain⟨t1,t2,t3,t4⟩:=H5.out;have a3:=(H2.out.2.1.aA a6.out);exact⟨v5,rfl,t1,fun b hb=>yK a3.size (t2 b hb),t3,a3.trans t4 (fun _ _ e=>e)⟩
end Go.Proofs.YtcckhngbdoiikaaGreat
