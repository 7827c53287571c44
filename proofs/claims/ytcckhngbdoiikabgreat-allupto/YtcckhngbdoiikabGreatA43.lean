import Derived.Test.YtcckhngbdoiikabGreatA33
import Derived.Test.YtcckhngbdoiikabGreatA42
set_option maxRecDepth 20000
set_option maxHeartbeats 12800000
set_option linter.unusedVariables false
namespace Go.Proofs.YtcckhngbdoiikabGreat
open Go.RowKit Go.Deep
theorem SO(kd:Nat->Nat)(g:B0)(i b:Nat)(f:b<256):(Wm kd g i).take (b+1)=(Wm kd g i).take b++ [X0 kd g (i:Int) (b:Int)]:=by
 have h:b<(Wm kd g i).length:=by rw[YK];exact f
 rw[yO h]
 congr 2
 simp[Wm]
theorem P5.lJ{w:World}{D:Nat}{kd:Nat->Nat}{g:B0}{G:List ByteArray}(h:P5 w D kd g G):D<w.heap.size/\∃B f,w.cell? ⟨D,5,none⟩=some (.slice (some ⟨B,0,none⟩) g.aB.length f)/\∀i:Nat,i<g.aB.length->w.cell? ⟨B,i,none⟩=some (.int .i64 (M0 g (i:Int))):=by
 obtain⟨J,_,_,B,f,K,M⟩:=h.cells;refine⟨J,B,f,K,fun i U=>?_⟩;rw[M i U];unfold M0;rw[if_neg (by omega),zH]
theorem JO(yb:Nat)(kd:Nat->Nat)(g:B0)(TX:List ByteArray)(s:Nat)(w:World)(h:P5 w yb kd g TX)(hf:K8 kd g)(hs:s<g.aB.length):
  Calls Tryz.prog 81 #[.pointer (some ⟨yb,0,none⟩),.int .i64 s] w fun e w'=>∃f,e=.returned (.int .i64 f)/\QY kd g s f/\Bw w w':=by
 have am:=hf.bU;have HF:=Hd2 hf h.nl;have aj:=Hd hf.cK;have HP:=Hd h;obtain⟨zy,⟨tg,ao,c3,_⟩,_⟩:=h.cells;have ar:=A8 g.aB.length (by omega);have s0:(0:Int)<=(s:Int):=by omega
 have s1:(s:Int)<(g.aB.length:Int):=by omega
 have HS:=Hd hs;clear h hf;obtain⟨w1,a5⟩:∃w1:World,w.alloc (.cells (Z0 (List.replicate g.aB.length false)) 4)=w1:=⟨_,rfl⟩;have Y:Blk w1 w.heap.size (Z0 (List.replicate g.aB.length false)) 4:=by rw[<-a5];exact Blk.aR _ _ _
 have ab:Bw w w1:=by rw[<-a5];exact N0 _ _
 have x0:=P2 Y s (by simp;omega);have xf:=Y.frozen s;have zx:=Y.lt;have aa:=Hd2 Y ab;clear Y ab;go_enter Tryz.func81,Tryz.ntmps81;go_upto_region 3 with fail
 try rw[a5]
 clear a5;go_wp2_with fail
 go_loopg[6,7,8] (g.aB.length+1) (fun G nv fv kv wr=>∃(k bW nb:Nat) (bQ:List Bool),nv=.slice (some ⟨nb,0,none⟩) g.aB.length g.aB.length/\fv=.int .i64 bW/\kv=.int .i64 (((k+1:Nat)):Int)/\k<=g.aB.length+1/\G=g.aB.length+1-k/\KH kd g s k bQ bW/\Blk wr nb (Z0 bQ) 4/\w.heap.size<=nb/\Bw w wr/\(0<k->∃u,Il kd g (s:Int) k u))
 case atStart=>
  refine⟨0,0,w.heap.size,(List.replicate g.aB.length false).set s true,rfl,rfl,rfl,by omega,rfl,KH.start HS.out,?_,by omega,?_,fun h0=>by omega⟩
  ·rw[<-D4];exact aa.out.1.set s _
  ·exact aa.out.2.setCell (p:=⟨w.heap.size,s,none⟩) (zD _) _
 case round=>
  obtain⟨k,bW,nb,bQ,rfl,rfl,rfl,hk,rfl,a0,hN,au,a3,hu⟩:=hrel
  by_cases ap:k<=g.aB.length
  ·have e0:decide (((k+1:Nat):Int)<=(g.aB.length:Int)+1)=true:=by simp;omega
   have av:=a0.len;have ai:=Hd a0;have HH:=Hd2 hN a3;have az:=hN.lt;clear a0 hN a3 hu;obtain⟨J,rfl⟩:∃J:World,J=wr:=⟨_,rfl⟩;obtain⟨W,M⟩:∃W:Rw,W=⟨List.replicate g.aB.length false,false,bW⟩:=⟨_,rfl⟩;have a9:=Hd M;have af:W.next=List.replicate g.aB.length false:=by rw[M]
   have ag:W.any=false:=by rw[M]
   have ah:W.bW=bW:=by rw[M]
   have HX:=Hd3 af ag ah;clear M af ag ah;go_wp2_with fail
   go_loopg[7,10,11] g.aB.length (fun G fv sv iv wi=>∃(i:Nat) (st:Rw),fv=.int .i64 (st.bW:Int)/\sv=.bool st.any/\iv=.int .i64 i/\i<=g.aB.length/\G=g.aB.length-i/\(Pe kd g bQ i).foldl (Qb g (k+1)) W=st/\Blk wi J.heap.size (Z0 st.next) 4/\Bw J wi)
   case atStart=>
    obtain⟨x0,x1,x2⟩:=HX.out;refine⟨0,W,by rw[x2],by rw[x1],rfl,by omega,rfl,rfl,?_,N0 _ _⟩;rw[x0];exact Blk.aR _ _ _
   case round=>
    obtain⟨i,st,rfl,rfl,rfl,hi,rfl,a4,Z,a2⟩:=hrel
    by_cases aq:i<g.aB.length
    ·have e1:decide ((i:Int)<(g.aB.length:Int))=true:=by simp;omega
     have i0:(0:Int)<=(i:Int):=by omega
     have i1:(i:Int)<(g.aB.length:Int):=by omega
     have HI:=Hd3 a4 Z a2;clear a4 Z a2;obtain⟨wm,rfl⟩:∃wm:World,wm=wr:=⟨_,rfl⟩;go_wp2_with fail
     go_loopg[7,10,12] 256 (fun G fv sv bv wj=>∃(b:Nat) (B:Rw),fv=.int .i64 (B.bW:Int)/\sv=.bool B.any/\bv=.int .i64 b/\b<=256/\G=256-b/\((bQ.getD i false=true/\((Wm kd g i).take b).foldl (Qb g (k+1)) st=B)\/(bQ.getD i false=false/\B=st/\b=0))/\Blk wj J.heap.size (Z0 B.next) 4/\Bw J wj)
     case atStart=>
      refine⟨0,st,rfl,rfl,rfl,by omega,rfl,?_,HI.out.2.1,HI.out.2.2⟩;cases hh:bQ.getD i false with
      |true=>exact .inl ⟨rfl,rfl⟩
      |false=>exact .inr ⟨rfl,rfl,rfl⟩
     case round=>
      obtain⟨b,B,rfl,rfl,rfl,hb,rfl,D,Z,K⟩:=hrel;have a1:=HH.out.1.aA K;have n0:=P2 a1 i (by omega);have aw:B.next.length=g.aB.length:=by
       have h0:st.next.length=g.aB.length:=by rw[<-HI.out.1,Dk,HX.out.1];simp
       rcases D with⟨_,e⟩|⟨_,e,_⟩
       ·rw[<-e,Dk,h0]
       ·rw[e,h0]
      by_cases ak:b<256
      ·have e2:decide ((b:Int)<256)=true:=by simp;omega
       rcases D with⟨hm,D⟩|⟨hm,rfl,rfl⟩
       ·rw[hm]at n0;have ac:Bw w wr:=HH.out.2.trans (K.mono HH.out.2.size);have a8:=HP.out.aA ac;have a6:=Hd (Ic yb kd g TX (i:Int) (b:Int) wr a8);have ad:=aj.out (i:Int) (b:Int);have ae:=SO kd g i b ak;have HJ:Hid (((Wm kd g i).take b).foldl (Qb g (k+1)) st=B/\Blk wr J.heap.size (Z0 B.next) 4/\Bw J wr/\(Wm kd g i).take (b+1)=(Wm kd g i).take b++ [X0 kd g (i:Int) (b:Int)]/\P5 wr yb kd g TX):=⟨D,Z,K,ae,a8⟩;generalize X0 kd g (i:Int) (b:Int)=u at a6 ad HJ;clear D Z K ae a1 ac a8;go_wp2_with fail;refine a6.out.mono ?_;rintro e w2 ⟨rfl,X⟩;have V:Hid (((Wm kd g i).take b).foldl (Qb g (k+1)) st=B/\Blk w2 J.heap.size (Z0 B.next) 4/\Bw J w2/\(Wm kd g i).take (b+1)=(Wm kd g i).take b++ [u]/\P5 w2 yb kd g TX):=by
         obtain⟨q1,q2,q3,q4,q5⟩:=HJ.out;exact⟨q1,q2.aA X,q3.trans (X.mono q3.size),q4,q5.aA X⟩
        clear X HJ a6 n0;rcases ad with rfl|⟨ax,ay⟩
        ·go_wp2_with fail
         go_roundg (256- (b+1))
         case measure=>omega
         case rel=>
          obtain⟨r1,r2,r3,r4,r5⟩:=V.out;refine⟨b+1,B,rfl,rfl,by go_num,by omega,rfl,.inl ⟨hm,?_⟩,r2,r3⟩;rw[r4,List.foldl_append,r1];rfl
        ·obtain⟨q,rfl⟩:∃q:Nat,u=(q:Int):=⟨u.toNat,by omega⟩;have hq:q<g.aB.length:=by omega
         obtain⟨b0,og,an,c5,co⟩:=V.out.2.2.2.2.lJ;have o0:=co q hq;have u0:(0:Int)<=(q:Int):=by omega
         have u1:(q:Int)<(g.aB.length:Int):=by omega
         have e3:((q:Int)== -1)=false:=by rw[beq_eq_false_iff_ne];omega
         clear co
         by_cases hr:M0 g (q:Int)= -1
         ·have e4:(M0 g (q:Int) != -1)=false:=by simp[hr]
          have U:Qb g (k+1) B (q:Int)=⟨B.next.set q true,true,B.bW⟩:=by
           unfold Qb;rw[if_neg (fun e=>e.2 hr),if_pos u0,zH]
          generalize M0 g (q:Int)=r at o0 e4;have x0:=P2 V.out.2.1 q (by omega);have xf:=V.out.2.1.frozen q;have xz:=V.out.2.1.lt;have a7:=Hd U;clear U hr;go_wp2_with fail
          go_roundg (256- (b+1))
          case measure=>omega
          case rel=>
           obtain⟨r1,r2,r3,r4,r5⟩:=V.out;refine⟨b+1,⟨B.next.set q true,true,B.bW⟩,rfl,rfl,by go_num,by omega,rfl,.inl ⟨hm,?_⟩,?_,?_⟩
           ·rw[r4,List.foldl_append,r1];exact a7.out
           ·show Blk _ _ (Z0 (B.next.set q true)) _;rw[<-D4];exact r2.set q _
           ·exact r3.setCell (p:=⟨J.heap.size,q,none⟩) (zD _) _
         ·have e4:(M0 g (q:Int) != -1)=true:=by simp[hr]
          have U:Qb g (k+1) B (q:Int)=⟨B.next,B.any,k+1⟩:=by
           unfold Qb;rw[if_pos ⟨u0,hr⟩]
          generalize M0 g (q:Int)=r at o0 e4;have a7:=Hd U;clear U hr;go_wp2_with fail
          go_roundg (256- (b+1))
          case measure=>omega
          case rel=>
           obtain⟨r1,r2,r3,r4,r5⟩:=V.out;refine⟨b+1,⟨B.next,B.any,k+1⟩,rfl,rfl,by go_num,by omega,rfl,.inl ⟨hm,?_⟩,r2,r3⟩;rw[r4,List.foldl_append,r1];exact a7.out
       ·rw[hm]at n0;have HJ:=Hd2 Z K;clear Z K a1;go_wp2_with fail
        go_roundg (g.aB.length- (i+1))
        case measure=>omega
        case rel=>
         refine⟨i+1,B,rfl,rfl,by go_num,by omega,rfl,?_,HJ.out.1,HJ.out.2⟩;rw[Mv,hm,if_neg (by simp),yP];exact HI.out.1
      ·have e2:decide ((b:Int)<256)=false:=by simp;omega
       obtain rfl:b=256:=by omega
       rcases D with⟨hm,D⟩|⟨_,_,h9⟩
       ·have HJ:=Hd3 Z K D;clear Z K a1 D;go_wp2_with fail
        go_roundg (g.aB.length- (i+1))
        case measure=>omega
        case rel=>
         refine⟨i+1,B,rfl,rfl,by go_num,by omega,rfl,?_,HJ.out.1,HJ.out.2.1⟩;rw[Mv,if_pos hm,List.foldl_append,HI.out.1,<-HJ.out.2.2,zO (by rw[YK];exact zD _)]
       ·omega
    ·have e1:decide ((i:Int)<(g.aB.length:Int))=false:=by simp;omega
     obtain rfl:i=g.aB.length:=by omega
     obtain⟨f1,f2,f3⟩:=ai.out.round HF.out.1 HF.out.2 st (by rw[<-a9.out];exact a4);have HI:Hid (Blk wr J.heap.size (Z0 st.next) 4/\Bw J wr/\KH kd g s (k+1) st.next st.bW/\(st.any=false->∀d,Fa kd g d (s:Int)->d+1<=st.bW)/\(st.any=true->∃u,Il kd g (s:Int) (k+1) u)):=⟨Z,a2,f1,f2,f3⟩;clear a4 Z a2 f1 f2 f3;cases hsa:st.any with
     |true=>
      go_wp2_with fail
      go_roundg (g.aB.length+1- (k+1))
      case measure=>omega
      case rel=>
       obtain⟨r1,r2,r3,r4,r5⟩:=HI.out;refine⟨k+1,st.bW,J.heap.size,st.next,rfl,rfl,by go_num,by omega,rfl,r3,r1,HH.out.2.size,HH.out.2.trans (r2.mono HH.out.2.size),fun _=>r5 hsa⟩
     |false=>
      go_wp2_with fail;go_ret;obtain⟨r1,r2,r3,r4,r5⟩:=HI.out;refine⟨_,rfl,.inl ⟨st.bW,rfl,?_,r4 hsa,r3.eL⟩,HH.out.2.trans (r2.mono HH.out.2.size)⟩;have:=r3.le;omega
  ·have e0:decide (((k+1:Nat):Int)<=(g.aB.length:Int)+1)=false:=by simp;omega
   obtain rfl:k=g.aB.length+1:=by omega
   have HU:=Hd2 (hu (by omega)) a3;clear hu a3 a0 hN;go_wp2_with fail;go_ret;exact⟨_,rfl,.inr ⟨rfl,HU.out.1⟩,HU.out.2⟩
theorem Lz(yb:Nat){R:E0}(kd:Nat->Nat)(g:B0)(TX:List ByteArray)(w:World)(h:P5 w yb kd g TX)(hR:N3 R=some (kd,g))(hf:K8 kd g):
  Calls Tryz.prog 50 #[.pointer (some ⟨yb,0,none⟩)] w fun e w'=>e=.returned (.tuple #[.int .i64 (if(V1 kd g).aT=true then((V1 kd g).k:Int)else 0),.bool (V1 kd g).aT])/\Bw w w':=by
 have ab:=hf.bU;have a9:=Hd (fun(W:World) (hb:Bw w W) (s:Nat) (hs:s<g.aB.length)=>JO yb kd g TX s W (h.aA hb) hf hs);have HP:=Hd h;have HR:=Hd hR;have HF:=Hd hf;clear h hR hf;obtain⟨V,hV⟩:∃V,(if(V1 kd g).aT=true then((V1 kd g).k:Int)else 0)=V:=⟨_,rfl⟩;obtain⟨B,Y⟩:∃B,(V1 kd g).aT=B:=⟨_,rfl⟩;rw[hV,Y];have HV:=Hd2 hV Y;clear hV Y;go_enter Tryz.func50,Tryz.ntmps50;go_wp2_with fail
 go_loopg[4,5] g.aB.length (fun G kv sv wr=>∃(s k:Nat),kv=.int .i64 k/\sv=.int .i64 s/\s<=g.aB.length/\G=g.aB.length-s/\Zk kd g s k/\Bw w wr)
 case atStart=>exact⟨0,0,rfl,rfl,by omega,rfl,Zk.start kd g,Below.refl _ _⟩
 case round=>
  obtain⟨s,k,rfl,rfl,hs,rfl,hG,D⟩:=hrel;obtain⟨zy,⟨tg,ad,c3,_⟩,_⟩:=(HP.out.aA D).cells;have ae:=hG.le
  by_cases K:s<g.aB.length
  ·have e0:decide ((s:Int)<(g.aB.length:Int))=true:=by simp;omega
   obtain⟨_,og,ac,c5,co⟩:=(HP.out.aA D).lJ;have o0:=co s K;have i0:(0:Int)<=(s:Int):=by omega
   have i1:(s:Int)<(g.aB.length:Int):=by omega
   have HH:=Hd2 hG D;have Z:=Hd (a9.out wr D s K);clear hG D co
   by_cases J:0<s/\M0 g (s:Int)= -1
   ·have e1:decide ((0:Int)<(s:Int))=true:=by simp;omega
    have e2:(M0 g (s:Int)== -1)=true:=by simp[J.2]
    have a0:=Hd J;have af:0<s:=J.1;generalize M0 g (s:Int)=r at o0 e2;clear J;go_wp2_with fail
    go_roundg (g.aB.length- (s+1))
    case measure=>omega
    case rel=>exact⟨s+1,k,rfl,by go_num,by omega,rfl,HH.out.1.skip a0.out.1 a0.out.2,HH.out.2⟩
   ·have a7:M0 g (s:Int)≠ -1\/s=0:=by
     by_cases e:s=0
     ·exact .inr e
     ·exact .inl (fun e'=>J ⟨by omega,e'⟩)
    have a2:=Hd a7;have U:(s=0/\decide ((0:Int)<(s:Int))=false)\/(decide ((0:Int)<(s:Int))=true/\(M0 g (s:Int)== -1)=false/\0<s):=by
     by_cases e:s=0
     ·exact .inl ⟨e,by simp[e]⟩
     ·exact .inr ⟨by simp;omega,by simp;exact fun e'=>J ⟨by omega,e'⟩,by omega⟩
    clear J a7;go_upto_region 5 with fail
    go_cut[27] (fun cv wx=>cv=.bool false/\wx=wr)
    case first=>
     rcases U with⟨rfl,e1⟩|⟨e1,e2,e3⟩
     all_goals
      go_wp2_with fail;go_meet;exact⟨rfl,rfl⟩
    case rest=>
     obtain⟨rfl,rfl⟩:=hcut;clear U o0;go_wp2_with fail;refine Z.out.mono ?_;rintro e w1 ⟨f,rfl,aa,a3⟩;have X:Hid (Bw w w1):=Hd (HH.out.2.trans (a3.mono HH.out.2.size));clear a3 Z c3 c5;rcases aa with⟨bW,rfl,h1,h2,h3⟩|⟨rfl,M⟩
     ·have e3:decide ((bW:Int)<0)=false:=by simp
      have a6:=HH.out.1.step K a2.out h1 h2 h3;have a1:=Hd a6;clear a6 h2 h3
      by_cases a5:k<bW
      ·have e4:decide ((k:Int)<(bW:Int))=true:=by simp;omega
       go_wp2_with fail
       go_roundg (g.aB.length- (s+1))
       case measure=>omega
       case rel=>exact⟨s+1,bW,rfl,by go_num,by omega,rfl,by have h9:=a1.out;rw[if_pos a5]at h9;exact h9,X.out⟩
      ·have e4:decide ((k:Int)<(bW:Int))=false:=by simp;omega
       go_wp2_with fail
       go_roundg (g.aB.length- (s+1))
       case measure=>omega
       case rel=>exact⟨s+1,k,rfl,by go_num,by omega,rfl,by have h9:=a1.out;rw[if_neg a5]at h9;exact h9,X.out⟩
     ·have a4:=DS HR.out HF.out K a2.out M;have a8:=Hd a4;clear a4 M;go_wp2_with fail
      go_ret2
      obtain⟨v1,v2⟩:=HV.out;rw[a8.out]at v1 v2;refine⟨?_,X.out⟩;rw[<-v1,<-v2];rfl
  ·have e0:decide ((s:Int)<(g.aB.length:Int))=false:=by simp;omega
   obtain rfl:s=g.aB.length:=by omega
   obtain⟨d1,d2⟩:=hG.done HR.out HF.out;have HB:=Hd3 D d1 d2;clear hG D d1 d2;go_wp2_with fail
   go_ret2
   obtain⟨v1,v2⟩:=HV.out;rw[HB.out.2.1]at v1 v2;refine⟨?_,HB.out.1⟩;rw[<-v1,<-v2,if_pos rfl,HB.out.2.2];rfl
theorem MF(x z:ByteArray):(x++z).extract 0 x.size=x:=by
 rw[ByteArray.ext_iff];apply Array.toList_inj.1;have f:x.data.toList.length=x.size:=by simp
 simp only[ByteArray.data_append,ByteArray.data_extract,Array.toList_append,Array.toList_extract,List.extract,xG];rw[List.take_append_of_le_length (by omega),zO (by omega)]
theorem XA(x z:ByteArray):(x++z).extract x.size (x++z).size=z:=by
 rw[ByteArray.ext_iff];apply Array.toList_inj.1;have f:x.data.toList.length=x.size:=by simp
 simp only[ByteArray.data_append,ByteArray.data_extract,Array.toList_append,Array.toList_extract,List.extract,zN];rw[List.drop_append_of_le_length (by omega),yY (by omega),yU,zO (by simp)]
theorem YI{kd:Nat->Nat}{g:B0}(B:K8 kd g):(V1 kd g).k<=61:=by
 have f:=B.bU;unfold V1;split
 ·show 0<=61;omega
 ·have h:=(Kw (J0 kd g) (L1 (J0 kd g) g.aB.length) (L1 (J0 kd g) g.aB.length).length).1;rw[E3]at h;show(Na (J0 kd g) (L1 (J0 kd g) g.aB.length) (L1 (J0 kd g) g.aB.length).length).2<=61;rw[E3];omega
def InS(g:B0)(st:Int):Prop:=st= -1\/∃j:Nat,j<g.aB.length/\st=(j:Int)
def Nh(kd:Nat->Nat)(g:B0)(st:Int)(w:ByteArray)(i:Nat):Int:=A3 g st (((Q0 w).take i).map kd)
section
variable{kd:Nat->Nat}{g:B0}{st:Int}{w:ByteArray}{i:Nat}
theorem Sx(w:ByteArray):∀b∈Q0 w,b<256:=fun b h=>by
 obtain⟨k,f,rfl⟩:=List.getElem_of_mem h;exact(Fz w k (by rw[I1]at f;exact f) f).2
theorem XD:Nh kd g st w 0=st:=by unfold Nh;simp[A3]
theorem VG(B:We kd g)(J:InS g st)(i:Nat):InS g (Nh kd g st w i):=by
 unfold Nh;rcases J with rfl|⟨j,G,rfl⟩
 ·rw[Rj];exact .inl rfl
 ·rcases WG B ((Q0 w).take i) j (fun b D=>Sx w b (List.mem_of_mem_take D)) G with e|⟨K,f,h⟩
  ·exact .inl e
  ·exact .inr ⟨K,f,h⟩
theorem WD(D:We kd g)(K:InS g st)(G:i<w.size):Nh kd g st w (i+1)=X0 kd g (Nh kd g st w i) (F0 w i):=by
 have B:=VG (w:=w) D K i;have f:i<(Q0 w).length:=by rw[I1];exact G
 obtain⟨M,U⟩:=Fz w i G f;have e:Nh kd g st w (i+1)=W0 g (Nh kd g st w i) (kd (Q0 w)[i]):=by
  unfold Nh;rw[yO f,zV,T7];rfl
 rw[e,M];rcases B with h|⟨j,J,h⟩
 ·rw[h];unfold X0 W0;rw[if_pos (by omega),if_pos (.inl (by omega))]
 ·rw[h,G8 D J U]
theorem Vz:Nh kd g st w w.size=A3 g st ((Q0 w).map kd):=by unfold Nh;rw[zO (by rw[I1];exact zD _)]
theorem GU(h:Nh kd g st w i= -1):A3 g st ((Q0 w).map kd)= -1:=by
 have e:(Q0 w).map kd=((Q0 w).take i).map kd++((Q0 w).drop i).map kd:=by rw[<-zV,yV]
 rw[e,T7];unfold Nh at h;rw[h,Rj]
end
theorem Pk(yb:Nat)(kd:Nat->Nat)(g:B0)(TX:List ByteArray)(st:Int)(s:ByteArray)(w:World)(h:P5 w yb kd g TX)(hG:We kd g)(hs:s.size<=4000000)(U:InS g st):
  Calls Tryz.prog 73 #[.pointer (some ⟨yb,0,none⟩),.int .i64 st,.string s] w fun e w'=>e=.returned (.int .i64 (A3 g st ((Q0 s).map kd)))/\Bw w w':=by
 have HP:=Hd h;have HG:=Hd2 hG U;obtain⟨X,hX⟩:∃X,A3 g st ((Q0 s).map kd)=X:=⟨_,rfl⟩;rw[hX];have HX:=Hd hX;clear h hG U hX;go_enter Tryz.func73,Tryz.ntmps73;go_wp2_with fail
 go_loopg[1,7] s.size (fun G sv iv wr=>∃i:Nat,sv=.int .i64 (Nh kd g st s i)/\iv=.int .i64 i/\i<=s.size/\G=s.size-i/\Bw w wr)
 case atStart=>exact⟨0,by rw[XD],rfl,by omega,rfl,Below.refl _ _⟩
 case round=>
  obtain⟨i,rfl,rfl,hi,rfl,J⟩:=hrel
  by_cases M:i<s.size
  ·have e0:decide ((i:Int)<(s.size:Int))=true:=by simp;omega
   have p0:(0:Int)<=(i:Int):=by omega
   have p1:(i:Int)<(s.size:Int):=by omega
   have B:=WD (kd:=kd) (w:=s) HG.out.1 HG.out.2 M;have V:Hid (Nh kd g st s i= -1->X= -1):=Hd fun h=>by rw[<-HX.out];exact GU h
   have Z:=Hd B;clear B;obtain⟨q,hq⟩:∃q,Nh kd g st s i=q:=⟨_,rfl⟩;rw[hq]at V Z⊢;have HQ:=Hd hq;clear hq
   by_cases D:q= -1
   ·have e1:(q != -1)=false:=by simp[D]
    have f:=Hd2 J (V.out D);clear J Z V;go_wp2_with fail;go_ret;rw[f.out.2];exact⟨by rw[D];rfl,f.out.1⟩
   ·have e1:(q != -1)=true:=by simp[D]
    have Y:=Hd (Ic yb kd g TX q (F0 s i) wr (HP.out.aA J));have f:=Hd J;rw[<-Z.out]at Y;clear J V;go_wp2_with fail;rw[Vj s i M];refine Y.out.mono ?_;rintro e w1 ⟨rfl,K⟩;have W:=Hd (f.out.trans (K.mono f.out.size));clear K Y;go_wp2_with fail
    go_roundg (s.size- (i+1))
    case measure=>omega
    case rel=>exact⟨i+1,rfl,by go_num,by omega,rfl,W.out⟩
  ·have e0:decide ((i:Int)<(s.size:Int))=false:=by rw[decide_eq_false_iff_not];omega
   obtain rfl:i=s.size:=by omega
   have hr:=Vz (kd:=kd) (g:=g) (st:=st) (w:=s);rw[hr,HX.out];have f:=Hd J;clear J hr;go_wp2_with fail;go_ret;exact⟨rfl,f.out⟩
theorem EB(yb:Nat)(kd:Nat->Nat)(g:B0)(TX:List ByteArray)(st:Int)(s:ByteArray)(w:World)(h:P5 w yb kd g TX)(hG:We kd g)(hs:s.size<=4000000)(W:InS g st)(hq:∀k,0<k->k<=s.size->∃j:Nat,j<g.aB.length/\Nh kd g st s k=(j:Int)/\M0 g (j:Int)= -1):
  Calls Tryz.prog 77 #[.pointer (some ⟨yb,0,none⟩),.int .i64 st,.string s] w fun e w'=>e=.returned (.bool true)/\Bw w w':=by
 have HP:=Hd h;have Z:=Hd3 hG W hq;clear h hG W hq;go_enter Tryz.func77,Tryz.ntmps77;go_wp2_with fail
 go_loopg[1,7] s.size (fun G sv iv wr=>∃i:Nat,sv=.int .i64 (Nh kd g st s i)/\iv=.int .i64 i/\i<=s.size/\G=s.size-i/\Bw w wr)
 case atStart=>exact⟨0,by rw[XD],rfl,by omega,rfl,Below.refl _ _⟩
 case round=>
  obtain⟨i,rfl,rfl,hi,rfl,K⟩:=hrel
  by_cases V:i<s.size
  ·have e0:decide ((i:Int)<(s.size:Int))=true:=by simp;omega
   have p0:(0:Int)<=(i:Int):=by omega
   have p1:(i:Int)<(s.size:Int):=by omega
   have f:=WD (kd:=kd) (w:=s) Z.out.1 Z.out.2.1 V;obtain⟨j,hj,J,U⟩:=Z.out.2.2 (i+1) (by omega) (by omega);have X:=Hd (Ic yb kd g TX (Nh kd g st s i) (F0 s i) wr (HP.out.aA K));rw[<-f,J]at X;have HJ:=Hd2 J U;have B:=Hd K;clear K f J U;generalize Nh kd g st s i=q at X⊢;go_wp2_with fail;rw[Vj s i V];refine X.out.mono ?_;rintro e w1 ⟨rfl,M⟩;have D:=B.out.trans (M.mono B.out.size);obtain⟨zy,og,a0,c5,co⟩:=(HP.out.aA D).lJ;have o0:=co j hj;rw[HJ.out.2]at o0;have j0:(0:Int)<=(j:Int):=by omega
   have j1:(j:Int)<(g.aB.length:Int):=by omega
   have e1:((j:Int)== -1)=false:=by rw[beq_eq_false_iff_ne];omega
   have Y:=Hd D;clear M D X co;go_wp2_with fail
   go_roundg (s.size- (i+1))
   case measure=>omega
   case rel=>exact⟨i+1,by rw[HJ.out.1],by go_num,by omega,rfl,Y.out⟩
  ·have e0:decide ((i:Int)<(s.size:Int))=false:=by rw[decide_eq_false_iff_not];omega
   have B:=Hd K;clear K;generalize Nh kd g st s i=q;go_wp2_with fail;go_ret;exact⟨rfl,B.out⟩
structure XE(kd:Nat->Nat)(g:B0)(s:Nat)(z:ByteArray):Prop where
 lt:s<g.aB.length
 bE:0<z.size
 gU:∀k,0<k->k<z.size->∃j:Nat,j<g.aB.length/\Nh kd g (s:Int) z k=(j:Int)/\M0 g (j:Int)= -1
 bM:∃j:Nat,j<g.aB.length/\A3 g (s:Int) ((Q0 z).map kd)=(j:Int)/\M0 g (j:Int)≠ -1
theorem Wt{kd:Nat->Nat}{g:B0}(U:We kd g){u z:ByteArray}(h:Ml kd g (Q0 u) (Q0 z))(Z:0<z.size):∃s:Nat,A3 g 0 ((Q0 u).map kd)=(s:Int)/\(u.size=0\/M0 g (s:Int)≠ -1)/\XE kd g s z:=by
 have W:InS g (A3 g 0 ((Q0 u).map kd)):=by
  have:=VG (kd:=kd) (w:=u) U (.inr ⟨0,U.bE,rfl⟩) u.size
  rwa [Vz]at this
 have f:=h.tt;rw[zV,T7]at f;rcases W with e|⟨s,V,e⟩
 ·exfalso
  rw[e,Rj]at f;exact f rfl
 ·rw[e]at f;refine⟨s,e,?_,V,Z,fun k Y X=>?_,?_⟩
  ·rcases h.fr with M|M
   ·left
    have:=congrArg List.length M;rw[I1]at this;exact this
   ·right
    rw[e,<-F7 V]at M;exact M
  ·have J:k<(Q0 z).length:=by rw[I1];exact X
   obtain⟨_,j,D,G⟩:=Dz U h V e k J;refine⟨j,D,G,?_⟩;have:=h.gU k Y J;rw[zV,T7,e,G,<-F7 D]at this;exact this
  ·have B:=VG (kd:=kd) (w:=z) U (.inr ⟨s,V,rfl⟩) z.size;rw[Vz]at B;rcases B with K|⟨j,D,K⟩
   ·rw[K]at f;exact absurd rfl f
   ·rw[K,<-F7 D]at f;exact⟨j,D,K,f⟩
theorem Tr(J:Nat)(kd:Nat->Nat)(g:B0)(TX:List ByteArray)(s:Nat)(z:ByteArray)(w:World)(h:P5 w J kd g TX)(hG:We kd g)(hs:z.size<=4000000)(hn:XE kd g s z):
  Calls Tryz.prog 83 #[.pointer (some ⟨J,0,none⟩),.int .i64 s,.string z] w fun e w'=>e=.returned (.bool true)/\Bw w w':=by
 obtain⟨m,hm⟩:∃m,z.size=m+1:=⟨z.size-1,by have:=hn.bE;omega⟩;have n1:=Ih z (by omega);have e1:((s:Int)== -1)=false:=by rw[beq_eq_false_iff_ne];omega
 have G:InS g (s:Int):=.inr ⟨s,hn.lt,rfl⟩;have a2:(z.extract 0 m).size=m:=by rw[ByteArray.size_extract];omega
 have V:=Hd (EB J kd g TX (s:Int) (z.extract 0 m) w h hG (by omega) G (fun k hk a3=>by
  obtain⟨j,h1,h2,h3⟩:=hn.gU k hk (by omega);refine⟨j,h1,?_,h3⟩;unfold Nh at h2⊢;rw[Xb,xG,Nat.sub_zero,List.take_take,Nat.min_eq_left (by omega)];exact h2))
 have f:Hid (∀W,Bw w W->Calls Tryz.prog 73 #[.pointer (some ⟨J,0,none⟩),.int .i64 s,.string z] W fun e w'=>e=.returned (.int .i64 (A3 g (s:Int) ((Q0 z).map kd)))/\Bw W w'):=Hd fun W k=>Pk J kd g TX (s:Int) z W (h.aA k) hG hs G
 obtain⟨j,hj,Y,Z⟩:=hn.bM;have B:Hid (∀W,Bw w W->Calls Tryz.prog 76 #[.pointer (some ⟨J,0,none⟩),.int .i64 j] W fun e w'=>e=.returned (.int .i64 (M0 g (j:Int)))/\w'=W):=Hd fun W k=>Yf J kd g TX (j:Int) W (h.aA k)
 rw[Y]at f;have e2:(M0 g (j:Int) != -1)=true:=by simp[Z]
 generalize M0 g (j:Int)=r at B e2;have a0:(z.size:Int)-1=(m:Int):=by omega
 have m0:(0:Int)<=(m:Int):=by omega
 have m1:(m:Int)<=(z.size:Int):=by omega
 have a4:m<=z.size:=by omega
 have a5:m<=4000000:=by omega
 have HZ:=Hd a0;clear h hn G a2 Y Z a0 hm;go_enter Tryz.func83,Tryz.ntmps83;go_upto_region 3 with fail;have b1:wrap64 ((z.size:Int)-1)=(m:Int):=by rw[HZ.out];unfold wrap64;omega
 have b2:IntKind.i64.wrap ((z.size:Int)-1)=(m:Int):=(Go.IntWalk.i64_left _).trans b1;go_wp2_with fail;refine V.out.mono ?_;rintro e w1 ⟨rfl,D⟩;have U:=Hd (f.out w1 D);have K:=Hd D;clear D V f b1 b2;go_wp2_with fail;refine U.out.mono ?_;rintro e w2 ⟨rfl,X⟩;have M:=Hd (K.out.trans (X.mono K.out.size));have a1:=Hd (B.out w2 M.out);clear X U B;go_wp2_with fail;refine a1.out.mono ?_;rintro e w3 ⟨rfl,rfl⟩;go_wp2_with fail;go_ret;exact⟨rfl,M.out⟩
theorem Vr(K:Nat)(kd:Nat->Nat)(g:B0)(U:List ByteArray)(s:Nat)(u:ByteArray)(w:World)(h:P5 w K kd g U)(Y:We kd g)(hs:u.size<=4000000)(Z:A3 g 0 ((Q0 u).map kd)=(s:Int))(V:u.size=0\/M0 g (s:Int)≠ -1):
  Calls Tryz.prog 82 #[.pointer (some ⟨K,0,none⟩),.string u] w fun e w'=>e=.returned (.int .i64 s)/\Bw w w':=by
 have B:=Hd (Pk K kd g U 0 u w h Y hs (.inr ⟨0,Y.bE,rfl⟩));rw[Z]at B;have D:Hid (∀W,Bw w W->Calls Tryz.prog 76 #[.pointer (some ⟨K,0,none⟩),.int .i64 s] W fun e w'=>e=.returned (.int .i64 (M0 g (s:Int)))/\w'=W):=Hd fun W k=>Yf K kd g U (s:Int) W (h.aA k)
 clear h Z
 by_cases X:u.size=0
 ·have n1:u.toList.isEmpty=true:=Tf u X;clear V;go_enter Tryz.func82,Tryz.ntmps82;go_wp2_with fail;refine B.out.mono ?_;rintro e w1 ⟨rfl,f⟩;have G:=Hd f;clear f B D;go_wp2_with fail;go_ret;exact⟨rfl,G.out⟩
 ·have n1:=Ih u X;have J:M0 g (s:Int)≠ -1:=by
   rcases V with e|e
   ·exact absurd e X
   ·exact e
  have e2:(M0 g (s:Int)== -1)=false:=by simp[J]
  generalize M0 g (s:Int)=r at D e2;clear V J;go_enter Tryz.func82,Tryz.ntmps82;go_wp2_with fail;refine B.out.mono ?_;rintro e w1 ⟨rfl,f⟩;have M:=Hd (D.out w1 f);have G:=Hd f;clear f B D;go_wp2_with fail;refine M.out.mono ?_;rintro e w2 ⟨rfl,rfl⟩;go_wp2_with fail;go_ret;exact⟨rfl,G.out⟩
section
variable{kd:Nat->Nat}{g:B0}
theorem GN{R:E0}(D:N3 R=some (kd,g))(G:N7 kd g)(s:Int):A6 g s=true↔∃b:Nat,b<256/\X0 kd g s (b:Int)≠ -1:=by
 constructor
 ·intro h;obtain⟨d,b,B,f,_⟩:=Zu D h;exact⟨b,B,f⟩
 ·rintro⟨b,_,f⟩;exact Decidable.byContradiction fun e=>f (Rn G (by simpa using e))
theorem Bu(h:We kd g):∀(L:List Nat) (st:Int),(∀b∈L,b<256)->InS g st->Zh kd g (L.map (fun b:Nat=>(b:Int))) st=A3 g st (L.map kd)
 | [],st,_,_=>rfl
 |b::L,st,hb,hs=>by
  have f:=hb b (by simp);have J:X0 kd g st (b:Int)=W0 g st (kd b):=by
   rcases hs with rfl|⟨j,B,rfl⟩
   ·rw[GD];unfold W0;rw[if_pos (by omega)]
   ·exact G8 h B f
  have G:InS g (W0 g st (kd b)):=by
   rcases hs with rfl|⟨j,B,rfl⟩
   ·left;unfold W0;rw[if_pos (by omega)]
   ·rcases h.step j b B f with e|⟨M,e,D⟩
    ·exact .inl e
    ·exact .inr ⟨M,D,e⟩
  show Zh kd g (L.map (fun b:Nat=>(b:Int))) (X0 kd g st (b:Int))=A3 g (W0 g st (kd b)) (L.map kd);rw[J];exact Bu h L _ (fun x K=>hb x (by simp[K])) G
theorem Jv(x:ByteArray):M1 x 0=(Q0 x).map (fun b:Nat=>(b:Int)):=by unfold M1 Q0;simp
theorem EL(f:We kd g)(x:ByteArray)(p:Nat):A3 g 0 ((Q0 (x.extract p x.size)).map kd)=Zh kd g (M1 x p) 0:=by
 rw[<-IB,Jv,Bu f _ 0 (Sx _) (.inr ⟨0,f.bE,rfl⟩)]
theorem JA:∀(L:List Int) (q:Nat) (st:Int) (f:Vh),st≠ -1->Zh kd g L st= -1->(K2 kd g L q st f).2=none
 | [],q,st,f,h,e=>absurd e h
 |b::L,q,st,f,h,e=>by
  rw[K7]
  by_cases B:X0 kd g st b= -1
  ·rw[if_pos B]
  ·rw[if_neg B];exact JA L _ _ _ B e
theorem GZ(x:ByteArray)(p:Nat):fK kd g x p=if Zh kd g (M1 x p) 0= -1 then false else A6 g (Zh kd g (M1 x p) 0):=by
 unfold fK
 by_cases e:Zh kd g (M1 x p) 0= -1
 ·rw[if_pos e,JA _ _ _ _ (by omega) e];rfl
 ·rw[if_neg e,(Hu (M1 x p) p 0 (Y1 p) e).1];rfl
end
theorem Sr(Z:Nat){R:E0}(kd:Nat->Nat)(g:B0)(TX:List ByteArray)(s:Int)(w:World)(h:P5 w Z kd g TX)(hR:N3 R=some (kd,g))(ho:N7 kd g):
  Calls Tryz.prog 78 #[.pointer (some ⟨Z,0,none⟩),.int .i64 s] w fun e w'=>e=.returned (.bool (A6 g s))/\Bw w w':=by
 have HP:=Hd h;have V:=Hd (GN hR ho s);clear h hR ho;generalize A6 g s=B at V;go_enter Tryz.func78,Tryz.ntmps78;go_wp2_with fail
 go_loopg[5] 256 (fun G bv wr=>∃b:Nat,bv=.int .i64 b/\b<=256/\G=256-b/\(∀c:Nat,c<b->X0 kd g s (c:Int)= -1)/\Bw w wr)
 case atStart=>exact⟨0,rfl,by omega,rfl,fun c hc=>by omega,Below.refl _ _⟩
 case round=>
  obtain⟨b,rfl,hb,rfl,f,M⟩:=hrel
  by_cases X:b<256
  ·have e0:decide ((b:Int)<256)=true:=by simp;omega
   have W:=Hd (Ic Z kd g TX s (b:Int) wr (HP.out.aA M));have J:=Hd2 f M;obtain⟨q,Y⟩:∃q,X0 kd g s (b:Int)=q:=⟨_,rfl⟩;rw[Y]at W;have HQ:=Hd Y;clear f M Y;go_wp2_with fail;refine W.out.mono ?_;rintro e w1 ⟨rfl,U⟩;have K:=Hd (J.out.2.trans (U.mono J.out.2.size));clear U W
   by_cases D:q= -1
   ·have e1:(q != -1)=false:=by simp[D]
    go_wp2_with fail
    go_roundg (256- (b+1))
    case measure=>omega
    case rel=>
     refine⟨b+1,by go_num,by omega,rfl,fun c hc=>?_,K.out⟩
     by_cases e:c<b
     ·exact J.out.1 c e
     ·rw[show c=b by omega,HQ.out];exact D
   ·have e1:(q != -1)=true:=by simp[D]
    go_wp2_with fail;go_ret;refine⟨?_,K.out⟩;rw[V.out.2 ⟨b,X,by rw[HQ.out];exact D⟩];rfl
  ·have e0:decide ((b:Int)<256)=false:=by simp;omega
   have J:=Hd2 f M;clear f M;go_wp2_with fail;go_ret;refine⟨?_,J.out.2⟩;have:B=false:=Bool.eq_false_iff.2 fun e=>by
    obtain⟨c,h1,h2⟩:=V.out.1 e;exact h2 (J.out.1 c (by omega))
   rw[this];rfl
theorem GW{kd:Nat->Nat}{g:B0}{s:ByteArray}{k:Nat}(f:k<(U4 kd g s).length):(U4 kd g s)[k].fr<s.size/\(U4 kd g s)[k].tt<=s.size:=by
 have h:=QQ (It kd g s) _ (zG f);exact⟨KG (It kd g s) _ (zG f),h.2⟩
theorem Ns{α:Type}(q:α->Bool):∀(l:List α) (k:Nat),(∀j,(h:j<l.length)->j<k->q l[j]=true)->k<=l.length->k<=(l.takeWhile q).length
 |l,0,_,_=>yC _
 | [],k+1,_,hk=>by simp at hk
 |a::l,k+1,h,hk=>by
  rw[List.takeWhile_cons,if_pos (show q a=true from h 0 (by simp) (by omega))];have:=Ns q l k (fun j f B=>h (j+1) (by simpa using f) (by omega)) (by simpa using hk);simp;omega
theorem CH{α:Type}(q:α->Bool)(l:List α)(k:Nat)(G:k<l.length)(h:∀j,(h:j<l.length)->j<k->q l[j]=true)(B:q l[k]=false):(l.takeWhile q).length=k:=by
 have e:l=l.take k++(l[k]::l.drop (k+1)):=by rw[List.getElem_cons_drop,yV]
 rw[e,Vi q (l.take k) _ (fun t D=>by
  obtain⟨j,f,rfl⟩:=List.getElem_of_mem D;rw[List.getElem_take];rw[List.length_take]at f;exact h j (by omega) (by omega)),List.takeWhile_cons,B]
 simp;omega
theorem Jz(yb:Nat){R:E0}(kd:Nat->Nat)(g:B0)(TX:List ByteArray)(s:ByteArray)(w:World)(h:P5 w yb kd g TX)(hR:N3 R=some (kd,g))(ho:N7 kd g)(hs:s.size<=4000000):
  Calls Tryz.prog 69 #[.pointer (some ⟨yb,0,none⟩),.string s] w fun e w'=>e=.returned (.int .i64 ((Yb kd g s:Nat):Int))/\Bw w w':=by
 have hG:=I5 hR;have Y:=Hd (Kh yb kd g TX s w h hs);have HP:=Hd4 h hG hR ho;have ah:=Eh (kd:=kd) (g:=g) (s:=s);have a5:=Hd (fun k (hk:k<(U4 kd g s).length)=>GW hk);obtain⟨N,hN⟩:∃N,Yb kd g s=N:=⟨_,rfl⟩;rw[hN];unfold Yb at hN;have HN:=Hd hN;obtain⟨L,hL⟩:∃L,U4 kd g s=L:=⟨_,rfl⟩;rw[hL]at Y ah a5 HN;clear h hG hR ho hN hL;go_enter Tryz.func69,Tryz.ntmps69;go_wp2_with fail;refine Y.out.mono ?_;rintro e w1 ⟨v,rfl,hT,hO,a9⟩;obtain⟨ad,ai,rfl,ae⟩:=hT.aV;have Z:=Hd2 hT a9;clear hT hO a9 Y;go_wp2_with fail
 go_loopg[6] L.length (fun G kv wr=>∃k:Nat,kv=.int .i64 k/\k<=L.length/\G=L.length-k/\(∀j,(h:j<L.length)->j<k->fK kd g s L[j].fr=false)/\Bw w1 wr)
 case atStart=>exact⟨0,rfl,by omega,rfl,fun j _ V=>by omega,Below.refl _ _⟩
 case round=>
  obtain⟨k,rfl,hk,rfl,M,hB⟩:=hrel
  by_cases a3:k<L.length
  ·have e0:decide ((k:Int)<(L.length:Int))=true:=by simp;omega
   rcases ae with e|⟨tg,rfl⟩
   ·omega
   obtain⟨g0,g1,g2⟩:=Vd L k a3;have a8:=Z.out.1.aA hB;have c1:=(Y0 a8 (k*3+1) (by omega)).trans g1;obtain⟨f1,f2⟩:=a5.out k a3;have ac:=GZ (kd:=kd) (g:=g) s L[k].fr;have K:=Hd ac;have a1:Bw w wr:=Z.out.2.trans (hB.mono Z.out.2.size);obtain⟨p1,p2,p3,p4⟩:=HP.out;have af:=EL p2 s L[k].fr;have ag:(s.extract L[k].fr s.size).size<=4000000:=by rw[S3];omega
   have J:=Hd (Pk yb kd g TX 0 (s.extract L[k].fr s.size) wr (p1.aA a1) p2 ag (.inr ⟨0,p2.bE,rfl⟩));rw[af]at J;have a6:Hid (∀W q,Bw wr W->Calls Tryz.prog 78 #[.pointer (some ⟨yb,0,none⟩),.int .i64 q] W fun e w'=>e=.returned (.bool (A6 g q))/\Bw W w'):=Hd fun W q kb=>Sr yb kd g TX q W ((p1.aA a1).aA kb) p3 p4
   have k0:(0:Int)<=(k:Int):=by omega
   have k1:(k:Int)<(L.length:Int):=by omega
   have U:=Hd2 M hB;generalize hf:L[k].fr=fr at c1 f1 K J;have HF:=Hd hf;have j0:(0:Int)<=(fr:Int):=by omega
   have j1:(fr:Int)<=(s.size:Int):=by omega
   clear M hB g0 g1 g2 a8 ac a1 p1 p2 p3 p4 af ag hf;generalize Zh kd g (M1 s fr) 0=q at J K;go_wp2_with fail;refine J.out.mono ?_;rintro e w2 ⟨rfl,a0⟩;have X:=Hd (U.out.2.trans (a0.mono U.out.2.size));have D:=Hd (a6.out w2 q a0);clear a0 J a6
   by_cases hq:q= -1
   ·have e1:(q != -1)=false:=by simp[hq]
    go_wp2_with fail
    go_roundg (L.length- (k+1))
    case measure=>omega
    case rel=>
     refine⟨k+1,by go_num,by omega,rfl,fun j V a2=>?_,X.out⟩
     by_cases e:j<k
     ·exact U.out.1 j V e
     ·have:j=k:=by omega
      subst this;rw[HF.out,K.out,if_pos hq]
   ·have e1:(q != -1)=true:=by simp[hq]
    have f:=K.out;rw[if_neg hq]at f;generalize A6 g q=B at D f;have a7:=Hd f;clear f;go_wp2_with fail;refine D.out.mono ?_;rintro e w3 ⟨rfl,aa⟩;have a4:=Hd (X.out.trans (aa.mono X.out.size));clear aa D;cases B with
    |true=>
     go_wp2_with fail;go_ret;refine⟨?_,Z.out.2.trans (a4.out.mono Z.out.2.size)⟩;have ab:=CH (fun t:V4=>!fK kd g s t.fr) L k a3 (fun j V a2=>by rw[U.out.1 j V a2];rfl) (by rw[HF.out,a7.out];rfl);rw[HN.out]at ab;rw[ab];rfl
    |false=>
     go_wp2_with fail
     go_roundg (L.length- (k+1))
     case measure=>omega
     case rel=>
      refine⟨k+1,by go_num,by omega,rfl,fun j V a2=>?_,a4.out⟩
      by_cases e:j<k
      ·exact U.out.1 j V e
      ·have:j=k:=by omega
       subst this;rw[HF.out,a7.out]
  ·have e0:decide ((k:Int)<(L.length:Int))=false:=by simp;omega
   have U:=Hd2 M hB;clear M hB;go_wp2_with fail;go_ret;refine⟨?_,Z.out.2.trans (U.out.2.mono Z.out.2.size)⟩;have h1:=Ns (fun t:V4=>!fK kd g s t.fr) L L.length (fun j V _=>by rw[U.out.1 j V (by omega)];rfl) (zD _);have h2:=(List.takeWhile_prefix (p:=fun t:V4=>!fK kd g s t.fr) (l:=L)).length_le;rw[HN.out]at h1 h2;have:N=L.length:=by omega
   rw[this];rfl
abbrev UX(B:Nat)(r:Sh)(W:ByteArray)(f:Nat)(h:Bool):Array Value:=#[.pointer (some ⟨B,0,none⟩),.int .i64 (r.a:Int),.int .i64 (r.e:Int),.int .i64 (r.l:Int),.string W,.int .i64 f,.bool h]
def O7(w:World)(B D:Nat)(r:Sh)(W:ByteArray)(f:Nat)(h:Bool):Prop:=Blk w B (UX D r W f h) 157
theorem Sv(G yb:Nat)(r:Sh)(W:ByteArray)(X:Nat)(Y:Bool)(p:Nat)(w:World)(h:O7 w G yb r W X Y)(M:r.On p)(he:r.e<=1099511627776)(a0:p<=4000000)(hl:r.l<=61):
  Calls Tryz.prog 72 #[.pointer (some ⟨G,0,none⟩),.int .i64 p] w fun e w'=>e=.returned (.int .i64 ((r.pl p:Nat):Int))/\Bw w w':=by
 obtain⟨a,e,l⟩:=r;have c1:w.cell? ⟨G,1,none⟩=some (.int .i64 a):=h.cell 1;have c2:w.cell? ⟨G,2,none⟩=some (.int .i64 e):=h.cell 2;have c3:w.cell? ⟨G,3,none⟩=some (.int .i64 l):=h.cell 3;have zt:=h.lt;unfold Sh.pl;simp only at he hl⊢;clear h
 by_cases D:p=0
 ·subst D;rw[if_pos rfl];clear M;go_enter Tryz.func72,Tryz.ntmps72;go_wp2_with fail;go_ret;exact⟨rfl,Below.refl _ _⟩
 ·have K:l<=p:=by
   rcases M with J|J
   ·exact absurd J D
   ·exact J
  rw[if_neg D];have e0:((p:Int)==0)=false:=by rw[beq_eq_false_iff_ne];omega
  obtain⟨f,U⟩:∃f:Nat,(e:Int)+(p:Int)=(f:Int):=⟨e+p,by omega⟩;obtain⟨q,V⟩:∃q:Nat,(f:Int)- (l:Int)=(q:Int):=⟨f-l,by omega⟩;have B:e+p-l=q:=by omega
  rw[B];have Z:IntKind.i64.wrap ((e:Int)+(p:Int))=(f:Int):=(Go.IntWalk.i64_left _).trans (by rw[U];unfold wrap64;omega);have b2:IntKind.i64.wrap ((f:Int)- (l:Int))=(q:Int):=(Go.IntWalk.i64_left _).trans (by rw[V];unfold wrap64;omega);have a1:¬p=0:=D;clear M U V B D K;go_enter Tryz.func72,Tryz.ntmps72;go_wp2_with fail;go_quiet(fail);clear Z b2;go_wp2_with fail;go_ret;exact⟨rfl,C2 (Below.refl _ _) _⟩
theorem RB{α β:Type}(f:α->β)(L:List α)(a k:Nat)(h:a<=k)(B:k<L.length):((L.drop a).take (k+1-a)).map f=((L.drop a).take (k-a)).map f++ [f L[k]]:=by
 rw[show k+1-a=(k-a)+1 by omega,yO (show k-a<(L.drop a).length by rw[List.length_drop];omega),zV,List.getElem_drop];simp[show a+(k-a)=k by omega]
theorem QL(J yb:Nat)(kd:Nat->Nat)(g:B0)(TX:List ByteArray)(r:Sh)(W:ByteArray)(f:Nat)(aU:Bool)(n:Nat)(w:World)(h:O7 w J yb r W f aU)(hy:P5 w yb kd g TX)(hW:W.size<=4000000)(he:r.e<=1099511627776)(hl:r.l<=61)(h1:f<=n)(h2:n<=(U4 kd g W).length)(hv:∀k,(hk:k<(U4 kd g W).length)->f<=k->k<n->r.On (U4 kd g W)[k].fr/\r.l<=(U4 kd g W)[k].tt):
  Calls Tryz.prog 70 #[.pointer (some ⟨J,0,none⟩),.int .i64 n] w fun e w'=>∃v,e=.returned v/\P1 w' v ((((U4 kd g W).drop f).take (n-f)).map r.bM)/\(∀b,v.ownBlock=some b->w.heap.size<=b)/\O7 w' J yb r W n aU/\C0 (fun b=>b=J) w w':=by
 have av:=Eh (kd:=kd) (g:=g) (s:=W);have ab:Hid (∀V,Bw w V->Calls Tryz.prog 48 #[.pointer (some ⟨yb,0,none⟩),.string W] V fun e w'=>∃v,e=.returned v/\P1 w' v (U4 kd g W)/\(∀b,v.ownBlock=some b->V.heap.size<=b)/\Bw V w'):=Hd fun V k=>Kh yb kd g TX W V (hy.aA k) hW
 have af:=Hd (fun k (hk:k<(U4 kd g W).length)=>GW hk);have HV:=Hd hv;clear hv;generalize U4 kd g W=L at ab av af HV h2⊢;have ah:Hid (∀V p,Bw w V->r.On p->p<=4000000->Calls Tryz.prog 72 #[.pointer (some ⟨J,0,none⟩),.int .i64 p] V fun e w'=>e=.returned (.int .i64 ((r.pl p:Nat):Int))/\Bw V w'):=Hd fun V p k hp ax=>Sv J yb r W f aU p V (Blk.aA h k) hp he ax hl
 have HS:=Hd h;have c0:w.cell? ⟨J,0,none⟩=some (.pointer (some ⟨yb,0,none⟩)):=h.cell 0;have c4:w.cell? ⟨J,4,none⟩=some (.string W):=h.cell 4;have zt:=h.lt;clear h hy;go_enter Tryz.func70,Tryz.ntmps70;go_upto_region 1 with fail
 go_cut[5] (fun lv wx=>P1 wx lv L/\Bw w wx)
 case first=>
  go_region_with (go_at_call 48;refine(ab.out _ (T1 (Below.refl _ _))).mono ?_;rintro e w5 ⟨v5,rfl,ak,au,an⟩;have aj:=Hd2 ak ((T1 (Below.refl w.heap.size w)).trans (an.mono (zD _)));clear ak au an)
  all_goals
   go_wp2_with fail;go_meet;exact⟨aj.out.1,aj.out.2⟩
 case rest=>
  obtain⟨hT,a6⟩:=hcut;rename_i lv _;obtain⟨ad,b0,rfl,aq⟩:=hT.aV;have HT:=Hd2 hT a6;have c5:wc.cell? ⟨J,5,none⟩=some (.int .i64 f):=(Blk.aA HS.out a6).cell 5;have zc:=(Blk.aA HS.out a6).lt;clear hT a6 c0 c4 ab;go_wp2_with fail
  go_loopg[6,7] (n-f) (fun G ov kv wr=>∃k:Nat,kv=.int .i64 k/\f<=k/\k<=n/\G=n-k/\P1 wr ov (((L.drop f).take (k-f)).map r.bM)/\(∀b,ov.ownBlock=some b->wc.heap.size<=b)/\Bw wc wr)
  case atStart=>exact⟨f,rfl,zD _,h1,rfl,by simp;exact World.ownsRow_nil _ _ _ _,fun b hb=>by simp[Value.ownBlock]at hb,Below.refl _ _⟩
  case round=>
   obtain⟨k,rfl,ao,b1,rfl,hO,Z,hB⟩:=hrel
   by_cases aw:k<n
   ·have e0:decide ((k:Int)<(n:Int))=true:=by simp;omega
    have a7:k<L.length:=by omega
    rcases aq with e|⟨tg,rfl⟩
    ·omega
    obtain⟨g0,g1,g2⟩:=Vd L k a7;have a0:=HT.out.1.aA hB;have d1:=(Y0 a0 (k*3+1) (by omega)).trans g1;have D:Bw w wr:=HT.out.2.trans (hB.mono HT.out.2.size);have HC:Hid (∀V,Bw wr V->V.cell? ⟨tg,k*3,none⟩=some (.int .i64 L[k].aB)/\V.cell? ⟨tg,k*3+2,none⟩=some (.int .i64 (L[k].tt:Int))/\tg<V.heap.size):=Hd fun V q=>by
     have ac:=a0.aA q;exact⟨(Y0 ac (k*3) (by omega)).trans g0,(Y0 ac (k*3+2) (by omega)).trans g2,Q1 ac tg rfl⟩
    have b2:=Q1 a0 tg rfl;obtain⟨f1,f2⟩:=af.out k a7;obtain⟨v1,v2⟩:=HV.out k a7 ao aw;have U:=RB r.bM L f k ao a7;have ai:=Hd U;have HH:=Hd3 hO Z hB;have k0:(0:Int)<=(k:Int):=by omega
    have k1:(k:Int)<(L.length:Int):=by omega
    have X:=Hd (ah.out wr L[k].fr D v1 (by omega));have Y:Hid (∀V,Bw wr V->Calls Tryz.prog 72 #[.pointer (some ⟨J,0,none⟩),.int .i64 (L[k].tt:Int)] V fun e w'=>e=.returned (.int .i64 ((r.pl L[k].tt:Nat):Int))/\Bw V w'):=Hd fun V q=>ah.out V L[k].tt (D.trans (q.mono D.size)) (.inr v2) (by omega)
    have M:(((L.drop f).take (k-f)).map r.bM).length=k-f:=by rw[yB,List.length_take,List.length_drop];omega
    obtain⟨od,a9,rfl,_⟩:=hO.aV;rw[M]at HH⊢;have ar:=Hd M;generalize L[k]=t at d1 HC f1 f2 v1 v2 ai X Y;obtain⟨tr,tf,tt⟩:=t;simp only at d1 HC f1 f2 v1 v2 X Y;clear hO Z hB g0 g1 g2 a0 D U M;go_wp2_with fail;refine X.out.mono ?_;rintro e w2 ⟨rfl,a5⟩;obtain⟨q1,q2,q3⟩:=HC.out w2 a5;have a8:=Hd (Y.out w2 a5);have aa:=Hd a5;clear a5 X Y d1;go_wp2_with fail;refine a8.out.mono ?_;rintro e w3 ⟨rfl,am⟩;have B:Bw wr w3:=aa.out.trans (am.mono aa.out.size);obtain⟨p1,p2,p3⟩:=HC.out w3 B;have b3:wc.heap.size<=w3.heap.size:=yI HH.out.2.2.size B.size;have HA:Hid (P1 (w3.alloc (.cells (Jl ⟨tr,r.pl tf,r.pl tt⟩) 66)) (.slice od (k-f) a9) (((L.drop f).take (k-f)).map r.bM)):=Hd ((HH.out.1.aA B).aA (N0 _ _));have ae:=Hd (HH.out.2.2.trans (B.mono HH.out.2.2.size));have ag:=Hd HH.out.2.1;have ay:(((L.drop f).take (k-f)).map r.bM).length+1<=4000001:=by rw[ar.out];omega
    clear am B a8 q1 q2 q3 aa p2;go_wp2_with(at_builtin;(refine Kx (la:=((L.drop f).take (k-f)).map r.bM) (ll:=[⟨tr,r.pl tf,r.pl tt⟩]) (va:=.slice od (k-f) a9) (vl:=.slice (some ⟨w3.heap.size,0,none⟩) 1 1) (by rfl) _ _ (by rfl) (by rfl) (by rfl) HA.out (AR w3 ⟨tr,r.pl tf,r.pl tt⟩) wc.heap.size (by simp;omega) ag.out (by simpa using ay) ?_));intro v6 w6 r1 r2 r3;have HR:=Hd3 r1 r2 (C3 (ae.out.alloc ae.out.size _) r3 (by simp;omega) (fun x hx e=>by have:=ag.out x e;omega));clear r1 r2 r3;go_wp2_with fail
    go_roundg (n- (k+1))
    case measure=>omega
    case rel=>exact⟨k+1,by go_num,by omega,by omega,rfl,by have h9:=HR.out.1;rw[<-List.map_drop,<-List.map_take]at h9;rw[ai.out];exact h9,HR.out.2.1,HR.out.2.2⟩
   ·have e0:decide ((k:Int)<(n:Int))=false:=by simp;omega
    obtain rfl:k=n:=by omega
    have D:Bw w wr:=HT.out.2.trans (hB.mono HT.out.2.size);have K:=Blk.aA HS.out D;have d5:wr.cell? ⟨J,5,none⟩=some (.int .i64 f):=K.cell 5;have f5:=K.frozen 5;have zr:=K.lt;have HH:=Hd4 hO Z D K;clear hO Z hB D K c5;go_wp2_with fail;go_ret;obtain⟨a1,a2,a3,a4⟩:=HH.out;have ap:C0 (fun b=>b=J) wr (wr.setCell ⟨J,5,none⟩ (.int .i64 k)):=C0.setCell (ex:=fun b=>b=J) (p:=⟨J,5,none⟩) (C0.refl _ _) (fun _=>rfl) _;have az:=HT.out.2.size;refine⟨_,rfl,a1.kept ap (fun b hb e=>by have:=a2 b hb;omega),fun b hb=>yI az (a2 b hb),a4.set 5 _,(C0.aM a3).trans ap (fun _ _ e=>e)⟩
theorem Dw(f D:Nat)(r:Sh)(W:ByteArray)(B:Nat)(s:ByteArray)(w:World)(h:O7 w f D r W B true):
  Calls Tryz.prog 35 #[.pointer (some ⟨f,0,none⟩),.string s] w fun e w'=>e=.returned (.tuple #[.slice none 0 0,.int .i64 6])/\w'=w:=by
 have G:w.cell? ⟨f,6,none⟩=some (.bool true):=h.cell 6;have J:=h.lt;clear h;go_enter Tryz.func35,Tryz.ntmps35;go_wp2_with fail
 go_ret2
 exact⟨rfl,rfl⟩
theorem Zt(f D:Nat)(r:Sh)(W:ByteArray)(B:Nat)(w:World)(h:O7 w f D r W B true):
  Calls Tryz.prog 37 #[.pointer (some ⟨f,0,none⟩)] w fun e w'=>e=.returned (.tuple #[.slice none 0 0,.int .i64 6])/\w'=w:=by
 have G:w.cell? ⟨f,6,none⟩=some (.bool true):=h.cell 6;have J:=h.lt;clear h;go_enter Tryz.func37,Tryz.ntmps37;go_wp2_with fail
 go_ret2
 exact⟨rfl,rfl⟩
theorem Hv(f J:Nat){R:E0}(kd:Nat->Nat)(g:B0)(TX:List ByteArray)(r:Sh)(W:ByteArray)(K:Nat)(s:ByteArray)(w:World)(h:O7 w f J r W K false)(hy:P5 w J kd g TX)(hR:N3 R=some (kd,g))(ho:N7 kd g)(hW:W.size+s.size<=4000000)(he:r.e<=1099511627776)(hl:r.l<=61)(ac:r.l<=W.size)
  (h1:K<=Yb kd g (W++s)) (h2:Yb kd g (W++s)<=(U4 kd g (W++s)).length) (hv:∀k,(hk:k<(U4 kd g (W++s)).length)->K<=k->k<Yb kd g (W++s)->r.On (U4 kd g (W++s))[k].fr/\r.l<=(U4 kd g (W++s))[k].tt):
  Calls Tryz.prog 35 #[.pointer (some ⟨f,0,none⟩),.string s] w fun e w'=>
   (1099511627776<r.e+(W.size-r.l)+s.size/\e=.returned (.tuple #[.slice none 0 0,.int .i64 5])/\Bw w w')\/
   (r.e+(W.size-r.l)+s.size<=1099511627776/\∃v,e=.returned (.tuple #[v,.int .i64 0])/\P1 w' v ((((U4 kd g (W++s)).drop K).take (Yb kd g (W++s)-K)).map r.bM)/\(∀b,v.ownBlock=some b->w.heap.size<=b)/\O7 w' f J r (W++s) (Yb kd g (W++s)) false/\C0 (fun b=>b=f) w w'):=by
 have c0:w.cell? ⟨f,0,none⟩=some (.pointer (some ⟨J,0,none⟩)):=h.cell 0;have c2:w.cell? ⟨f,2,none⟩=some (.int .i64 (r.e:Int)):=h.cell 2;have c3:w.cell? ⟨f,3,none⟩=some (.int .i64 (r.l:Int)):=h.cell 3;have c4:w.cell? ⟨f,4,none⟩=some (.string W):=h.cell 4;have c6:w.cell? ⟨f,6,none⟩=some (.bool false):=h.cell 6;have zt:=h.lt;have HS:=Hd h;have ad:(W++s).size=W.size+s.size:=zN;have U:Hid (∀V,O7 V f J r (W++s) K false->P5 V J kd g TX->Calls Tryz.prog 70 #[.pointer (some ⟨f,0,none⟩),.int .i64 ((Yb kd g (W++s):Nat):Int)] V fun e w'=>∃v,e=.returned v/\P1 w' v ((((U4 kd g (W++s)).drop K).take (Yb kd g (W++s)-K)).map r.bM)/\(∀b,v.ownBlock=some b->V.heap.size<=b)/\O7 w' f J r (W++s) (Yb kd g (W++s)) false/\C0 (fun b=>b=f) V w'):=Hd fun V a b=>QL f J kd g TX r (W++s) K false _ V a b (by omega) he hl h1 h2 hv
 have a0:Hid (∀V,P5 V J kd g TX->Calls Tryz.prog 69 #[.pointer (some ⟨J,0,none⟩),.string (W++s)] V fun e w'=>e=.returned (.int .i64 ((Yb kd g (W++s):Nat):Int))/\Bw V w'):=Hd fun V a=>Jz J kd g TX (W++s) V a hR ho (by omega)
 have HY:=Hd hy;generalize Yb kd g (W++s)=N at U a0;generalize U4 kd g (W++s)=L at U;obtain⟨ra,re,rl⟩:=r;simp only at he hl ac c2 c3;obtain⟨A,hA⟩:∃A:Nat,(1099511627776:Int)- (re:Int)=(A:Int):=⟨1099511627776-re,by omega⟩;obtain⟨B,hB⟩:∃B:Nat,(W.size:Int)- (rl:Int)=(B:Int):=⟨W.size-rl,by omega⟩;obtain⟨D,hD⟩:∃D:Int,(A:Int)- (B:Int)=D:=⟨_,rfl⟩;have b1:IntKind.i64.wrap ((1099511627776:Int)- (re:Int))=(A:Int):=(Go.IntWalk.i64_left _).trans (by rw[hA];unfold wrap64;omega);have b2:IntKind.i64.wrap ((W.size:Int)- (rl:Int))=(B:Int):=(Go.IntWalk.i64_left _).trans (by rw[hB];unfold wrap64;omega);have b3:IntKind.i64.wrap ((A:Int)- (B:Int))=D:=(Go.IntWalk.i64_left _).trans (by rw[hD];unfold wrap64;omega);have a6:Hid ((D<(s.size:Int)↔1099511627776<re+(W.size-rl)+s.size)):=Hd (by constructor <;>intro _ <;>omega);clear h hy hR ho h1 h2 hv hA hB hD
 by_cases a9:D<(s.size:Int)
 ·have e0:decide (D<(s.size:Int))=true:=by simp[a9]
  go_enter Tryz.func35,Tryz.ntmps35;go_wp2_with fail;go_quiet(fail);clear b1 b2 b3;go_wp2_with fail
  go_ret2
  exact .inl ⟨a6.out.1 a9,rfl,C2 (Below.refl _ _) _⟩
 ·have e0:decide (D<(s.size:Int))=false:=by simp;omega
  go_enter Tryz.func35,Tryz.ntmps35;go_wp2_with fail;go_quiet(fail);clear b1 b2 b3;obtain⟨M,a4⟩:∃M:World,w.drewN nq=M:=⟨_,rfl⟩;have X:Bw w M:=by rw[<-a4];exact C2 (Below.refl _ _) _
  rw[a4];have G:=Blk.aA HS.out X;have d4:M.cell? ⟨f,4,none⟩=some (.string W):=G.cell 4;have f4:=G.frozen 4;have z1:=G.lt;have u1:∀V:World,(Op.stringOp .add W s).run Tryz.prog V=.ok (.string (W++s)) V:=fun V=>run_string_add_sum V _ _ (by omega)
  have a1:O7 (M.setCell ⟨f,4,none⟩ (.string (W++s))) f J ⟨ra,re,rl⟩ (W++s) K false:=G.set 4 _;have a3:C0 (fun b=>b=f) w (M.setCell ⟨f,4,none⟩ (.string (W++s))):=C0.setCell (ex:=fun b=>b=f) (p:=⟨f,4,none⟩) (C0.aM X) (fun _=>rfl) _;have a2:P5 (M.setCell ⟨f,4,none⟩ (.string (W++s))) J kd g TX:=by
   have Z:=HY.out.aA X;obtain⟨rv,pn,pv,xt,xo,xf,OX,FX,q1,q2⟩:=Z.x;have kk:C0 (fun b=>b=f) M (M.setCell ⟨f,4,none⟩ (.string (W++s))):=C0.setCell (ex:=fun b=>b=f) (p:=⟨f,4,none⟩) (C0.refl _ _) (fun _=>rfl) _;exact⟨⟨rv,pn,pv,xt,xo,xf,OX,FX,q1.kept kk (q1.aO.ne G (by decide)) (fun b hb e=>by subst e;exact L0 q1.txt G (by decide) hb) (fun b hb e=>by subst e;exact L0 q1.bP.row G (by decide) hb) (fun b hb e=>by subst e;exact L0 q1.of G (by decide) hb) (fun p hp=>(q1.bP.aX p hp).1.ne G (by decide)),q2⟩,Z.tl,Z.bE,Z.nl⟩
  obtain⟨w2,a5⟩:∃w2:World,M.setCell ⟨f,4,none⟩ (.string (W++s))=w2:=⟨_,rfl⟩;rw[a5]at a1 a3 a2;have H2:=Hd3 a1 a3 a2;clear a4 X G a1 a3 a2 c0 c2 c3 c4 c6;go_upto_region 6 with fail
  try rw[a5]
  clear a5 d4 f4 u1;have c0:w2.cell? ⟨f,0,none⟩=some (.pointer (some ⟨J,0,none⟩)):=H2.out.1.cell 0;have c4:w2.cell? ⟨f,4,none⟩=some (.string (W++s)):=H2.out.1.cell 4;have z2:=H2.out.1.lt
  go_cut[6] (fun nv wx=>nv=.int .i64 N/\Bw w2 wx)
  case first=>
   go_region_with (go_at_call 69;refine(a0.out _ (H2.out.2.2.aA (T1 (Below.refl _ _)))).mono ?_;rintro e w5 ⟨rfl,a7⟩;have aa:Hid (Bw w2 w5):=Hd ((T1 (Below.refl _ _)).trans (a7.mono (zD _)));clear a7)
   all_goals
    go_wp2_with fail;go_meet;exact⟨rfl,aa.out⟩
  case rest=>
   obtain⟨rfl,Y⟩:=hcut;have HT:=Hd (U.out wc (Blk.aA H2.out.1 Y) (H2.out.2.2.aA Y));have ab:=Hd Y;clear Y c0 c4 U a0;go_wp2_with fail;refine HT.out.mono ?_;rintro e w5 ⟨v5,rfl,t1,t2,t3,t4⟩;have H5:=Hd4 t1 t2 t3 t4;clear t1 t2 t3 t4 HT;go_wp2_with fail
   go_ret2
   obtain⟨t1,t2,t3,t4⟩:=H5.out;have a8:=(H2.out.2.1.aA ab.out);exact .inr ⟨by have:=a6.out;omega,v5,rfl,t1,fun b hb=>yI a8.size (t2 b hb),t3,a8.trans t4 (fun _ _ e=>e)⟩
theorem P5.kT{w w':World}{K J:Nat}{kd:Nat->Nat}{g:B0}{G:List ByteArray}(h:P5 w K kd g G){c:Array Value}(B:Blk w J c 157)(W:C0 (fun b=>b=J) w w'):P5 w' K kd g G:=by
 obtain⟨rv,X,Y,xt,xo,xf,U,M,f,Z⟩:=h.x;exact⟨⟨rv,X,Y,xt,xo,xf,U,M,f.kept W (f.aO.ne B (by decide)) (fun b D e=>by subst e;exact L0 f.txt B (by decide) D) (fun b D e=>by subst e;exact L0 f.bP.row B (by decide) D) (fun b D e=>by subst e;exact L0 f.of B (by decide) D) (fun p V=>(f.bP.aX p V).1.ne B (by decide)),Z⟩,h.tl,h.bE,h.nl⟩
theorem UK(G:Nat){R:E0}(kd:Nat->Nat)(g:B0)(K:List ByteArray)(w:World)(h:P5 w G kd g K)(M:N3 R=some (kd,g))(U:K8 kd g):
  Calls Tryz.prog 41 #[.pointer (some ⟨G,0,none⟩)] w fun e w'=>Bw w w'/\
   (((V1 kd g).aT=false/\e=.returned (.tuple #[.pointer none,.int .i64 4]))\/((V1 kd g).aT=true/\∃J,e=.returned (.tuple #[.pointer (some ⟨J,0,none⟩),.int .i64 0])/\O7 w' J G ⟨0,0,0⟩ ⟨#[]⟩ 0 false/\w.heap.size<=J)):=by
 have D:=Hd (Lz G kd g K w h M U);clear h M U;generalize V1 kd g=X at D;obtain⟨xb,xk,W,Y,Z,x4,x5⟩:=X;simp only at D⊢;cases xb with
 |false=>
  go_enter Tryz.func41,Tryz.ntmps41;go_wp2_with fail;refine D.out.mono ?_;rintro e V ⟨rfl,B⟩;have f:=Hd B;clear B D;go_wp2_with fail
  go_ret2
  exact⟨f.out,.inl ⟨trivial,rfl⟩⟩
 |true=>
  go_enter Tryz.func41,Tryz.ntmps41;go_wp2_with fail;refine D.out.mono ?_;rintro e V ⟨rfl,B⟩;have f:=Hd B;clear B D;go_wp2_with fail
  go_ret2
  exact⟨f.out.alloc f.out.size _,.inr ⟨trivial,V.heap.size,rfl,Blk.aR _ _ _,f.out.size⟩⟩
theorem NG(f D:Nat)(kd:Nat->Nat)(g:B0)(TX:List ByteArray)(r:Sh)(W:ByteArray)(G:Nat)(w:World)(h:O7 w f D r W G false)(hy:P5 w D kd g TX)(hW:W.size<=4000000)(he:r.e<=1099511627776)(hl:r.l<=61)(h1:G<=(U4 kd g W).length)(hv:∀k,(hk:k<(U4 kd g W).length)->G<=k->k<(U4 kd g W).length->r.On (U4 kd g W)[k].fr/\r.l<=(U4 kd g W)[k].tt):
  Calls Tryz.prog 37 #[.pointer (some ⟨f,0,none⟩)] w fun e w'=>∃v,e=.returned (.tuple #[v,.int .i64 0])/\P1 w' v (((U4 kd g W).drop G).map r.bM)/\(∀b,v.ownBlock=some b->w.heap.size<=b)/\O7 w' f D r W (U4 kd g W).length true/\C0 (fun b=>b=f) w w':=by
 have c6:w.cell? ⟨f,6,none⟩=some (.bool false):=h.cell 6;have f6:=h.frozen 6;have zt:=h.lt;have a8:=Eh (kd:=kd) (g:=g) (s:=W);have a4:((U4 kd g W).drop G).take ((U4 kd g W).length-G)=(U4 kd g W).drop G:=zO (by rw[List.length_drop];exact zD _);have Y:Hid (∀V,O7 V f D r W G true->P5 V D kd g TX->Calls Tryz.prog 70 #[.pointer (some ⟨f,0,none⟩),.int .i64 (((U4 kd g W).length:Nat):Int)] V fun e w'=>∃v,e=.returned v/\P1 w' v (((U4 kd g W).drop G).map r.bM)/\(∀b,v.ownBlock=some b->V.heap.size<=b)/\O7 w' f D r W (U4 kd g W).length true/\C0 (fun b=>b=f) V w'):=Hd fun V a b=>by
  have h9:=QL f D kd g TX r W G true _ V a b hW he hl h1 (zD _) hv;rw[a4]at h9;exact h9
 have X:Hid (∀V,P5 V D kd g TX->Calls Tryz.prog 48 #[.pointer (some ⟨D,0,none⟩),.string W] V fun e w'=>∃v,e=.returned v/\P1 w' v (U4 kd g W)/\(∀b,v.ownBlock=some b->V.heap.size<=b)/\Bw V w'):=Hd fun V k=>Kh D kd g TX W V k hW
 have M:C0 (fun b=>b=f) w (w.setCell ⟨f,6,none⟩ (.bool true)):=C0.setCell (ex:=fun b=>b=f) (p:=⟨f,6,none⟩) (C0.refl _ _) (fun _=>rfl) _;have B:O7 (w.setCell ⟨f,6,none⟩ (.bool true)) f D r W G true:=h.set 6 _;have Z:=hy.kT h M;obtain⟨U,a0⟩:∃U:World,w.setCell ⟨f,6,none⟩ (.bool true)=U:=⟨_,rfl⟩;rw[a0]at M B Z;have H2:=Hd3 B M Z;have d0:U.cell? ⟨f,0,none⟩=some (.pointer (some ⟨D,0,none⟩)):=B.cell 0;have d4:U.cell? ⟨f,4,none⟩=some (.string W):=B.cell 4;have z2:=B.lt;clear hv a4;generalize U4 kd g W=L at Y X a8 h1⊢;clear h hy B M Z;go_enter Tryz.func37,Tryz.ntmps37;go_upto_region 4 with fail
 try rw[a0]
 clear a0 c6 f6
 go_cut[4] (fun lv wx=>∃ad J,lv=.slice ad L.length J/\Bw U wx)
 case first=>
  go_region_with (go_at_call 48;refine(X.out _ (H2.out.2.2.aA (T1 (Below.refl _ _)))).mono ?_;rintro e w5 ⟨v5,rfl,a1,a7,a2⟩;have a5:Hid (Bw U w5):=Hd ((T1 (Below.refl _ _)).trans (a2.mono (zD _)));obtain⟨ad,J,rfl,_⟩:=a1.aV;clear a1 a7 a2)
  all_goals
   go_wp2_with fail;go_meet;exact⟨ad,J,rfl,a5.out⟩
 case rest=>
  obtain⟨ad,J,rfl,K⟩:=hcut;have HT:=Hd (Y.out wc (Blk.aA H2.out.1 K) (H2.out.2.2.aA K));have a6:=Hd K;clear K d0 d4 Y X;go_wp2_with fail;refine HT.out.mono ?_;rintro e w5 ⟨v5,rfl,t1,t2,t3,t4⟩;have H5:=Hd4 t1 t2 t3 t4;clear t1 t2 t3 t4 HT;go_wp2_with fail
  go_ret2
  obtain⟨t1,t2,t3,t4⟩:=H5.out;have a3:=(H2.out.2.1.aA a6.out);exact⟨v5,rfl,t1,fun b hb=>yI a3.size (t2 b hb),t3,a3.trans t4 (fun _ _ e=>e)⟩
end Go.Proofs.YtcckhngbdoiikabGreat
