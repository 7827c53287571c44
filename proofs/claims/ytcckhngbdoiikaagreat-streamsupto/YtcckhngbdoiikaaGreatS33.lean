import Derived.Test.YtcckhngbdoiikaaGreatS32
set_option maxRecDepth 20000
set_option maxHeartbeats 12800000
set_option linter.unusedVariables false
set_option linter.unusedSimpArgs false
namespace Go.Proofs.YtcckhngbdoiikaaGreat
open Go.RowKit Go.Deep
theorem K3.to{w:World}{M fb:Nat}{W V U:Value}{T:List ByteArray}{S:List (Nat×List Bool)}{B:List (Nat×List Int)}(h:K3 w M fb W V U T S B)(X:0<B.length):∃D f,w.cell? ⟨fb,2,none⟩=some (.slice (some ⟨D,0,none⟩) B.length f)/\∀i,(G:i<B.length)->w.cell? ⟨D,i,none⟩=some (.slice (some ⟨B[i].1,0,none⟩) 256 256)/\∀b,b<256->w.cell? ⟨B[i].1,b,none⟩=some (.int .i64 (B[i].2.getD b 0)):=by
 have J:=h.bP.row;obtain⟨_,od,f,rfl,⟨_,e⟩|⟨D,oc,rfl,_⟩⟩:=L0 J
 ·omega
 refine⟨D,f,h.aO.cell 2,fun i G=>⟨by rw[Y0 J i (by omega)];simp[slV,G],fun b Z=>?_⟩⟩;obtain⟨K,Y⟩:=h.bP.aV B[i] (zG G);exact O5 K b (by omega)
theorem K3.eQ{w:World}{M fb:Nat}{X W V:Value}{T:List ByteArray}{S:List (Nat×List Bool)}{K:List (Nat×List Int)}(h:K3 w M fb X W V T S K)(Y:0<T.length):∃J B,w.cell? ⟨fb,0,none⟩=some (.slice (some ⟨J,0,none⟩) T.length B)/\∀i,(D:i<T.length)->w.cell? ⟨J,i,none⟩=some (.string T[i]):=by
 have G:=h.txt;obtain⟨_,od,f,rfl,⟨_,e⟩|⟨U,Z,rfl,_⟩⟩:=L0 G
 ·omega
 exact⟨U,f,h.aO.cell 0,fun i D=>by rw[Y0 G i (by omega)];simp[D]⟩
theorem TE(xb fb lo:Nat)(rs:ByteArray)(f:Nat->Int)(aD:List MT)(tv sv ov:Value)(T:List ByteArray)(S:List (Nat×List Bool))(To:List (Nat×List Int))(g:B0)(K:Nat)(kd:Nat->Nat)(w:World)(hL:Jh w xb rs f aD)(U:K3 w lo fb tv sv ov T S To)(V:GP T To g K kd aD):
  Calls Tryz.prog 55 #[.pointer (some ⟨xb,0,none⟩),.pointer (some ⟨fb,0,none⟩)] w fun e w'=>∃l,e=.returned (.slice (some ⟨w.heap.size,0,none⟩) T.length T.length)/\Blk w' w.heap.size (Z0 l) 4/\l.length=T.length/\(∀i:Nat,i<T.length->(l.getD i false=true↔M6 g K (i:Int)))/\Bw w w':=by
 have aa:=V.tl;have au:=V.cT;obtain⟨N,hN⟩:∃N,T.length=N:=⟨_,rfl⟩;have ay:N<=61:=by omega
 have b5:0<N:=by omega
 have ap:=U7 N (by omega);obtain⟨tg,ak,c0,ct⟩:=U.eQ (by omega);have zf:=U.aO.lt;have HC:=Hd5 hL U V hN ct;rw[hN]at c0⊢;obtain⟨w1,ab⟩:∃w1:World,w.alloc (.cells (Z0 (List.replicate N false)) 4)=w1:=⟨_,rfl⟩;have ah:Bw w w1:=by rw[<-ab];exact P0 _ _
 have ai:Blk w1 w.heap.size (Z0 (List.replicate N false)) 4:=by rw[<-ab];exact Blk.aQ _ _ _
 have H1:=Hd2 ah ai;clear hL U V hN ct aa au ah ai;go_enter Tryz.func55,Tryz.ntmps55;go_upto_region 2 with fail
 try rw[ab]
 clear ab ap;go_wp2_with fail
 go_loopg[6] N (fun G nv wr=>∃(n:Nat) (l:List Bool),nv=.int .i64 n/\n<=N/\G=N-n/\l.length=N/\(∀i,i<N->l.getD i false=decide (i<n/\g.aB.getD i 0≠ -1))/\Blk wr w.heap.size (Z0 l) 4/\Bw w wr)
 case atStart=>
  refine⟨0,_,rfl,by omega,rfl,by simp,fun i hi=>?_,H1.out.2,H1.out.1⟩;rw[zC,yW];split <;>simp
 case round=>
  obtain⟨n,l,rfl,hn,rfl,hl,Y,B,h⟩:=hrel;have zo:=B.lt;have b8:=h.size
  by_cases b7:n<N
  ·have e0:decide ((n:Int)<(N:Int))=true:=by simp;omega
   obtain⟨hL,U,V,hN,ct⟩:=HC.out;have a9:n<T.length:=by omega
   have am:wr.cell? ⟨fb,0,none⟩=some (.slice (some ⟨tg,0,none⟩) N ak):=by rw[h.cell zf];exact c0
   obtain⟨ax,aw,c9,ag⟩:=(U.aA h).eQ (by omega);have e9:ax=tg:=by rw[am]at c9;injection c9 with e;injection e with e;injection e with e;injection e with e;exact e.symm
   subst e9;have an:=ag n a9;have HT:=Hd (Wo xb rs T[n] f aD wr (hL.aA h) (V.size n a9));have a0:=Hd (V.bN n · a9);generalize T[n]=tn at an HT a0;have n0:(0:Int)<=(n:Int):=by omega
   have n1:(n:Int)<(N:Int):=by omega
   have HI:=Hd4 hl Y B h;clear hL U V hN ct ag c9 a9 hl Y B h;go_wp2_with fail;refine HT.out.mono ?_;rintro e w2 ⟨r,rfl,hr,ae⟩;have aj:=a0.out r hr;obtain⟨x,hx⟩:∃x,(r != -1)=x:=⟨_,rfl⟩;obtain⟨D,M,J,a4⟩:=HI.out;have a7:=J.aA ae;have cb:=N2 a7 n (by omega);generalize l.getD n false=y at cb;have b4:=a7.frozen n;have b9:=a7.lt;have HR:=Hd3 aj ae hx;clear aj ae hr D M J a4 a7 HT a0;go_wp2_with fail
   go_roundg (N- (n+1))
   case measure=>omega
   case rel=>
    obtain⟨D,M,J,a4⟩:=HI.out;obtain⟨b1,b2,b3⟩:=HR.out;refine⟨n+1,l.set n x,by go_num,by omega,rfl,by simp[D],fun i hi=>?_,by rw[<-Z3];exact(J.aA b2).set n _,(a4.trans (b2.mono a4.size)).setCell (zD _) _⟩;rw[X6 _ _ _ _ (by omega)]
    by_cases ei:i=n
    ·subst ei;rw[if_pos rfl,<-b3,b1];generalize g.aB.getD i 0=q
     by_cases e5:q= -1
     ·simp[e5]
     ·simp[e5]
    ·rw[if_neg ei,M i hi];have:(i<n+1/\g.aB.getD i 0≠ -1)↔(i<n/\g.aB.getD i 0≠ -1):=by
      constructor
      ·rintro⟨p,q⟩;exact⟨by omega,q⟩
      ·rintro⟨p,q⟩;exact⟨by omega,q⟩
     simp only[this]
  ·have e0:decide ((n:Int)<(N:Int))=false:=by simp;omega
   have Z:n=N:=by omega
   obtain⟨hL,U,V,hN,ct⟩:=HC.out;have aa:=V.tl;have ac:EP g K kd l 0:=by
    refine⟨by omega,fun i hi hx=>?_,fun i hi hx=>?_,.inr (yC _)⟩
    ·rw[Y i (by omega)]at hx;exact RQ (of_decide_eq_true hx).2
    ·rw[Y i (by omega)];exact decide_eq_true ⟨by omega,hx⟩
   have W:To.length=N:=by have:=V.ol;omega
   have HO:=Hd2 W U;have HN:=Hd (hN.symm.trans aa);have HG:=Hd V;have ad:=Hd3 ac B h;clear hL U V hN ct aa ac hl Y B h Z c0 W HC;go_wp2_with fail
   go_loopg[7] N (fun G kv wr=>∃(k:Nat) (l:List Bool),kv=.int .i64 k/\k<=N/\G=N-k/\EP g K kd l k/\Blk wr w.heap.size (Z0 l) 4/\Bw w wr)
   case atStart=>exact⟨0,l,rfl,by omega,rfl,ad.out.1,ad.out.2.1,ad.out.2.2⟩
   case round=>
    obtain⟨k,l,rfl,hk,rfl,hT,B,h⟩:=hrel
    by_cases b6:k<N
    ·have e1:decide ((k:Int)<(N:Int))=true:=by simp;omega
     have HI:=Hd3 hT B h;clear hT B h;go_wp2_with fail
     go_loopg[8] N (fun G nv wr=>∃(n:Nat) (l2:List Bool),nv=.int .i64 n/\n<=N/\G=N-n/\Mc g K kd l l2 n 0/\Blk wr w.heap.size (Z0 l2) 4/\Bw w wr)
     case atStart=>exact⟨0,l,rfl,by omega,rfl,Mc.start HI.out.1.len HI.out.1.cQ HI.out.1.aR,HI.out.2.1,HI.out.2.2⟩
     case round=>
      obtain⟨n,l2,rfl,hn,rfl,X,B,h⟩:=hrel
      by_cases Z:n<N
      ·have e2:decide ((n:Int)<(N:Int))=true:=by simp;omega
       have HJ:=Hd3 X B h;clear X B h;go_wp2_with fail
       go_loopg[9] 256 (fun G bv wr=>∃(b:Nat) (l3:List Bool),bv=.int .i64 b/\b<=256/\G=256-b/\Mc g K kd l l3 n b/\Blk wr w.heap.size (Z0 l3) 4/\Bw w wr)
       case atStart=>exact⟨0,l2,rfl,by omega,rfl,HJ.out.1,HJ.out.2.1,HJ.out.2.2⟩
       case round=>
        obtain⟨b,l3,rfl,hb,rfl,X,B,h⟩:=hrel
        by_cases a8:b<256
        ·have e3:decide ((b:Int)<256)=true:=by simp;omega
         obtain⟨W,U⟩:=HO.out;obtain⟨og,az,o1,o2⟩:=(U.aA h).to (by omega);obtain⟨p1,p2⟩:=o2 n (by omega);have p3:=p2 b a8;rw[HG.out.step n b (by omega) a8]at p3;rw[W]at o1;generalize To[n].1=ob at p1 p3;have n0:(0:Int)<=(n:Int):=by omega
         have n1:(n:Int)<(N:Int):=by omega
         have b0:(0:Int)<=(b:Int):=by omega
         have b1:(b:Int)<256:=by omega
         have cn:=N2 B n (by rw[X.len,<-HN.out];exact Z);have fn:=B.frozen n;generalize av:l3.getD n false=yn at cn;clear av;have ba:=B.lt;rcases HG.out.leads (i:=n) (b:=b) (by rw[<-HN.out];exact Z) a8 with e|⟨t,ht,e⟩
         ·rw[e]at p3;have HQ:=Hd4 X B h e;clear X B h e U o2 p2 W;go_wp2_with fail
          go_roundg (256- (b+1))
          case measure=>omega
          case rel=>
           obtain⟨D,M,J,a4⟩:=HQ.out;exact⟨b+1,l3,by go_num,by omega,rfl,D.iI (fun t ht=>by rw[a4]at ht;omega),M,J⟩
         ·rw[e]at p3;have ar:t<N:=by rw[HN.out];exact ht
          have t0:(0:Int)<=(t:Int):=by omega
          have t1:(t:Int)<(N:Int):=by omega
          have e5:decide ((0:Int)<=(t:Int))=true:=by simp
          have cy:=N2 B t (by rw[X.len,<-HN.out];exact ar);generalize hy:l3.getD t false=y at cy;have HQ:=Hd6 X B h e hy ht;clear X B h e U o2 p2 W hy ht;cases y with
          |true=>
           go_wp2_with fail
           go_roundg (256- (b+1))
           case measure=>omega
           case rel=>
            obtain⟨D,M,J,a4,a5,a6⟩:=HQ.out;exact⟨b+1,l3.set n true,by go_num,by omega,rfl,D.mark HG.out (by rw[<-HN.out];exact Z) a8 a6 a4 a5,by rw[<-Z3];exact M.set n _,J.setCell (zD _) _⟩
          |false=>
           go_wp2_with fail
           go_roundg (256- (b+1))
           case measure=>omega
           case rel=>
            obtain⟨D,M,J,a4,a5,a6⟩:=HQ.out;exact⟨b+1,l3,by go_num,by omega,rfl,D.iI (fun t' ht=>by rw[a4]at ht;rw[show t'=t by omega];exact a5),M,J⟩
        ·have e3:decide ((b:Int)<256)=false:=by simp;omega
         have af:b=256:=by omega
         have HQ:=Hd3 X B h;clear X B h;go_wp2_with fail
         go_roundg (N- (n+1))
         case measure=>omega
         case rel=>
          obtain⟨D,M,J⟩:=HQ.out;rw[af]at D;exact⟨n+1,l3,by go_num,by omega,rfl,D.row,M,J⟩
      ·have e2:decide ((n:Int)<(N:Int))=false:=by simp;omega
       have aq:n=N:=by omega
       have HQ:=Hd3 X B h;clear X B h;go_wp2_with fail
       go_roundg (N- (k+1))
       case measure=>omega
       case rel=>
        obtain⟨D,M,J⟩:=HQ.out;rw[aq,HN.out]at D;exact⟨k+1,l2,by go_num,by omega,rfl,D.done HI.out.1,M,J⟩
    ·have e1:decide ((k:Int)<(N:Int))=false:=by simp;omega
     have ao:k=N:=by omega
     have HQ:=Hd3 hT B h;clear hT B h;go_wp2_with fail;go_ret;obtain⟨D,M,J⟩:=HQ.out;rw[ao,HN.out]at D;refine⟨l,rfl,M,by rw[D.len];exact HN.out.symm,fun i hi=>D.end HG.out (by rw[<-HN.out];exact hi),J⟩
end Go.Proofs.YtcckhngbdoiikaaGreat

namespace Go.Proofs.YtcckhngbdoiikaaGreat
open Go.RowKit Go.Deep
structure DM(w:World)(db N:Nat)(R:Nat->Nat)(D:Nat->List Bool):Prop where
 aO:∃c,Blk w db c 130/\∀i,i<N->c[i]?=some (.slice (some ⟨R i,0,none⟩) N N)
 aV:∀i,i<N->Blk w (R i) (Z0 (D i)) 4/\(D i).length=N
 inj:∀i j,i<N->j<N->R i=R j->i=j
theorem DM.aA{w w':World}{f N:Nat}{R:Nat->Nat}{D:Nat->List Bool}(h:DM w f N R D)(k:Bw w w'):DM w' f N R D:=by
 obtain⟨c,G,J⟩:=h.aO;exact⟨⟨c,G.aA k,J⟩,fun i B=>⟨(h.aV i B).1.aA k,(h.aV i B).2⟩,h.inj⟩
theorem DM.cells{w:World}{f N:Nat}{R:Nat->Nat}{D:Nat->List Bool}(h:DM w f N R D){i j:Nat}(B:i<N)(U:j<N):w.cell? ⟨f,i,none⟩=some (.slice (some ⟨R i,0,none⟩) N N)/\w.cell? ⟨R i,j,none⟩=some (.bool ((D i).getD j false)):=by
 obtain⟨c,G,J⟩:=h.aO;obtain⟨K,M⟩:=h.aV i B;exact⟨by rw[G.cell];exact J i B,N2 K j (by omega)⟩
def alS(al:List Bool)(s:Int):Bool:=decide (0<=s) && al.getD s.toNat false
def stB(al:List Bool)(D:Nat->List Bool)(s t:Int):Bool:=(alS al s !=alS al t) || (alS al s && alS al t && (D s.toNat).getD t.toNat false)
theorem Tm{T:List ByteArray}{h:List (Nat×List Int)}{g:B0}{K:Nat}{kd:Nat->Nat}{B:List MT}(D:GP T h g K kd B)(al:List Bool){i b:Nat}(J:i<g.aB.length)(G:b<256):(W0 g (i:Int) (kd b)= -1)\/(∃t:Nat,t<g.aB.length/\W0 g (i:Int) (kd b)=(t:Int)/\al.getD t false=false)\/(∃t:Nat,t<g.aB.length/\W0 g (i:Int) (kd b)=(t:Int)/\al.getD t false=true):=by
 rcases D.leads J G with e|⟨t,f,e⟩
 ·exact .inl e
 ·cases hh:al.getD t false with
  |false=>exact .inr (.inl ⟨t,f,e,hh⟩)
  |true=>exact .inr (.inr ⟨t,f,e,hh⟩)
theorem Mb(al:List Bool):alS al (-1)=false:=rfl
theorem Na(al:List Bool)(t:Nat):alS al (t:Int)=al.getD t false:=by unfold alS;simp
theorem YE(fb lo ab db a4 N i j:Nat)(R:Nat->Nat)(D:Nat->List Bool)(al:List Bool)(aD:List MT)(tv sv ov:Value)(T:List ByteArray)(S:List (Nat×List Bool))(To:List (Nat×List Int))(g:B0)(K:Nat)(kd:Nat->Nat)(w:World)(hF:K3 w lo fb tv sv ov T S To)(hG:GP T To g K kd aD)(hN:N=g.aB.length)
  (hA:Blk w ab (Z0 al) 4) (a0:al.length=N) (hD:DM w db N R D) (hi:i<N) (hj:j<N):
  Calls Tryz.prog 98 #[.pointer (some ⟨fb,0,none⟩),.slice (some ⟨ab,0,none⟩) N N,.slice (some ⟨db,0,none⟩) N a4,.int .i64 i,.int .i64 j] w fun e w'=>∃x,e=.returned (.bool x)/\(x=true↔∃b,b<256/\stB al D (W0 g (i:Int) (kd b)) (W0 g (j:Int) (kd b))=true)/\Bw w w':=by
 have ac:N<=61:=by have:=hG.cT;omega
 have HC:=Hd6 hF hG hN hA a0 hD;have i0:(0:Int)<=(i:Int):=by omega
 have i1:(i:Int)<(N:Int):=by omega
 have j0:(0:Int)<=(j:Int):=by omega
 have j1:(j:Int)<(N:Int):=by omega
 clear hF hG hN hA a0 hD;go_enter Tryz.func98,Tryz.ntmps98;go_wp2_with fail
 go_loopg[11] 256 (fun G bv wr=>∃b:Nat,bv=.int .i64 b/\b<=256/\G=256-b/\(∀c,c<b->stB al D (W0 g (i:Int) (kd c)) (W0 g (j:Int) (kd c))=false)/\Bw w wr)
 case atStart=>exact⟨0,rfl,by omega,rfl,fun c hc=>by omega,Below.refl _ _⟩
 case round=>
  obtain⟨b,rfl,hb,rfl,a3,hB⟩:=hrel
  by_cases J:b<256
  ·have e3:decide ((b:Int)<256)=true:=by simp;omega
   obtain⟨hF,hG,hN,hA,a0,hD⟩:=HC.out;have a7:To.length=N:=by rw[hG.ol,hN]
   obtain⟨og,ad,o1,o2⟩:=(hF.aA hB).to (by omega);obtain⟨p1,p2⟩:=o2 i (by omega);obtain⟨r1,r2⟩:=o2 j (by omega);have p3:=p2 b J;have r3:=r2 b J;rw[hG.step i b (by omega) J]at p3;rw[hG.step j b (by omega) J]at r3;rw[a7]at o1;generalize To[i].1=ob at p1 p3;generalize To[j].1=ob2 at r1 r3;have a5:=hA.aA hB;have a6:=hD.aA hB;have b0:(0:Int)<=(b:Int):=by omega
   have b1:(b:Int)<256:=by omega
   have c1:=Tm hG al (i:=i) (b:=b) (by omega) J;have c2:=Tm hG al (i:=j) (b:=b) (by omega) J;have Y:=Hd2 a3 hB;obtain⟨X,M⟩:∃X,stB al D (W0 g (i:Int) (kd b)) (W0 g (j:Int) (kd b))=X:=⟨_,rfl⟩;have U:=Hd M;rw[<-hN]at c1 c2;have a8:∀t,t<N->wr.cell? ⟨ab,t,none⟩=some (.bool (al.getD t false)):=fun t ht=>N2 a5 t (by omega)
   have a9:∀s t,s<N->t<N->_:=fun s t hs ht=>a6.cells hs ht
   have f:=Hd2 a8 a9;clear hF hG hN hA a0 hD a7 o2 p2 r2 a5 a6 a3 hB a8 a9;generalize W0 g (i:Int) (kd b)=s at c1 p3 M;generalize W0 g (j:Int) (kd b)=t at c2 r3 M;rcases c1 with rfl|⟨s,hs,rfl,h⟩|⟨s,hs,rfl,h⟩ <;>rcases c2 with rfl|⟨t,ht,rfl,B⟩|⟨t,ht,rfl,B⟩
   ·simp only[stB,Mb,Na,bne,Bool.true_or,beq_self_eq_true,xE,xA,Bool.false_beq,Bool.true_beq,yZ,Bool.and_false,Bool.or_false]at M;subst M;go_wp2_with fail
    go_roundg (256- (b+1))
    case measure=>omega
    case rel=>
     obtain⟨W,V⟩:=Y.out;refine⟨b+1,by go_num,by omega,rfl,fun c hc=>?_,V⟩
     by_cases e:c<b
     ·exact W c e
     ·rw[show c=b by omega];exact U.out
   ·have t0:(0:Int)<=(t:Int):=by omega
    have t1:(t:Int)<(N:Int):=by omega
    have et:decide ((0:Int)<=(t:Int))=true:=by simp
    have Z:=f.out.1 t ht;rw[B]at Z;simp only[stB,Mb,Na,B,bne,Bool.true_or,beq_self_eq_true,xE,xA,Bool.false_beq,Bool.true_beq,yZ,Bool.and_false,Bool.or_false]at M;subst M;go_wp2_with fail
    go_roundg (256- (b+1))
    case measure=>omega
    case rel=>
     obtain⟨W,V⟩:=Y.out;refine⟨b+1,by go_num,by omega,rfl,fun c hc=>?_,V⟩
     by_cases e:c<b
     ·exact W c e
     ·rw[show c=b by omega];exact U.out
   ·have t0:(0:Int)<=(t:Int):=by omega
    have t1:(t:Int)<(N:Int):=by omega
    have et:decide ((0:Int)<=(t:Int))=true:=by simp
    have Z:=f.out.1 t ht;rw[B]at Z;simp only[stB,Mb,Na,B,bne,Bool.true_or,beq_self_eq_true,xE,xA,Bool.false_beq,Bool.true_beq,yZ,Bool.and_false,Bool.or_false]at M;subst M;go_wp2_with fail;go_ret;obtain⟨W,V⟩:=Y.out;exact⟨true,rfl,⟨fun _=>⟨b,J,U.out⟩,fun _=>rfl⟩,V⟩
   ·have s0:(0:Int)<=(s:Int):=by omega
    have s1:(s:Int)<(N:Int):=by omega
    have es:decide ((0:Int)<=(s:Int))=true:=by simp
    have cs:=f.out.1 s hs;rw[h]at cs;simp only[stB,Mb,Na,h,bne,Bool.true_or,beq_self_eq_true,xE,xA,Bool.false_beq,Bool.true_beq,yZ,Bool.and_false,Bool.or_false]at M;subst M;go_wp2_with fail
    go_roundg (256- (b+1))
    case measure=>omega
    case rel=>
     obtain⟨W,V⟩:=Y.out;refine⟨b+1,by go_num,by omega,rfl,fun c hc=>?_,V⟩
     by_cases e:c<b
     ·exact W c e
     ·rw[show c=b by omega];exact U.out
   ·have s0:(0:Int)<=(s:Int):=by omega
    have s1:(s:Int)<(N:Int):=by omega
    have es:decide ((0:Int)<=(s:Int))=true:=by simp
    have cs:=f.out.1 s hs;rw[h]at cs;have t0:(0:Int)<=(t:Int):=by omega
    have t1:(t:Int)<(N:Int):=by omega
    have et:decide ((0:Int)<=(t:Int))=true:=by simp
    have Z:=f.out.1 t ht;rw[B]at Z;simp only[stB,Mb,Na,h,B,bne,Bool.true_or,beq_self_eq_true,xE,xA,Bool.false_beq,Bool.true_beq,yZ,Bool.and_false,Bool.or_false]at M;subst M;go_wp2_with fail
    go_roundg (256- (b+1))
    case measure=>omega
    case rel=>
     obtain⟨W,V⟩:=Y.out;refine⟨b+1,by go_num,by omega,rfl,fun c hc=>?_,V⟩
     by_cases e:c<b
     ·exact W c e
     ·rw[show c=b by omega];exact U.out
   ·have s0:(0:Int)<=(s:Int):=by omega
    have s1:(s:Int)<(N:Int):=by omega
    have es:decide ((0:Int)<=(s:Int))=true:=by simp
    have cs:=f.out.1 s hs;rw[h]at cs;have t0:(0:Int)<=(t:Int):=by omega
    have t1:(t:Int)<(N:Int):=by omega
    have et:decide ((0:Int)<=(t:Int))=true:=by simp
    have Z:=f.out.1 t ht;rw[B]at Z;simp only[stB,Mb,Na,h,B,bne,Bool.true_or,beq_self_eq_true,xE,xA,Bool.false_beq,Bool.true_beq,yZ,Bool.and_false,Bool.or_false]at M;subst M;go_wp2_with fail;go_ret;obtain⟨W,V⟩:=Y.out;exact⟨true,rfl,⟨fun _=>⟨b,J,U.out⟩,fun _=>rfl⟩,V⟩
   ·have s0:(0:Int)<=(s:Int):=by omega
    have s1:(s:Int)<(N:Int):=by omega
    have es:decide ((0:Int)<=(s:Int))=true:=by simp
    have cs:=f.out.1 s hs;rw[h]at cs;simp only[stB,Mb,Na,h,bne,Bool.true_or,beq_self_eq_true,xE,xA,Bool.false_beq,Bool.true_beq,yZ,Bool.and_false,Bool.or_false]at M;subst M;go_wp2_with fail;go_ret;obtain⟨W,V⟩:=Y.out;exact⟨true,rfl,⟨fun _=>⟨b,J,U.out⟩,fun _=>rfl⟩,V⟩
   ·have s0:(0:Int)<=(s:Int):=by omega
    have s1:(s:Int)<(N:Int):=by omega
    have es:decide ((0:Int)<=(s:Int))=true:=by simp
    have cs:=f.out.1 s hs;rw[h]at cs;have t0:(0:Int)<=(t:Int):=by omega
    have t1:(t:Int)<(N:Int):=by omega
    have et:decide ((0:Int)<=(t:Int))=true:=by simp
    have Z:=f.out.1 t ht;rw[B]at Z;simp only[stB,Mb,Na,h,B,bne,Bool.true_or,beq_self_eq_true,xE,xA,Bool.false_beq,Bool.true_beq,yZ,Bool.and_false,Bool.or_false]at M;subst M;go_wp2_with fail;go_ret;obtain⟨W,V⟩:=Y.out;exact⟨true,rfl,⟨fun _=>⟨b,J,U.out⟩,fun _=>rfl⟩,V⟩
   ·have s0:(0:Int)<=(s:Int):=by omega
    have s1:(s:Int)<(N:Int):=by omega
    have es:decide ((0:Int)<=(s:Int))=true:=by simp
    have cs:=f.out.1 s hs;rw[h]at cs;have t0:(0:Int)<=(t:Int):=by omega
    have t1:(t:Int)<(N:Int):=by omega
    have et:decide ((0:Int)<=(t:Int))=true:=by simp
    have Z:=f.out.1 t ht;rw[B]at Z;obtain⟨ae,aa⟩:=f.out.2 s t hs ht;simp only[stB,Na,h,B,zH,bne_self_eq_false,Bool.false_or,Bool.true_and]at M;rw[M]at aa;clear M;cases X with
    |true=>
     go_wp2_with fail;go_ret;obtain⟨W,V⟩:=Y.out;exact⟨true,rfl,⟨fun _=>⟨b,J,U.out⟩,fun _=>rfl⟩,V⟩
    |false=>
     go_wp2_with fail
     go_roundg (256- (b+1))
     case measure=>omega
     case rel=>
      obtain⟨W,V⟩:=Y.out;refine⟨b+1,by go_num,by omega,rfl,fun c hc=>?_,V⟩
      by_cases e:c<b
      ·exact W c e
      ·rw[show c=b by omega];exact U.out
  ·have e3:decide ((b:Int)<256)=false:=by simp;omega
   have Y:=Hd2 a3 hB;clear a3 hB;go_wp2_with fail;go_ret;obtain⟨W,V⟩:=Y.out;refine⟨false,rfl,⟨fun e=>(by cases e),fun⟨c,h1,h2⟩=>?_⟩,V⟩;rw[W c (by omega)]at h2;cases h2
end Go.Proofs.YtcckhngbdoiikaaGreat

namespace Go.Proofs.YtcckhngbdoiikaaGreat
open Go.RowKit Go.Deep
def Uf(g:B0)(K:Nat)(i j:Int):Prop:=∃f:List Nat,(∀k∈f,k<K)/\V4 g (G3 g i f)≠V4 g (G3 g j f)
theorem NK{g:B0}{K k:Nat}{i j:Int}(J:k<K)(h:Uf g K (W0 g i k) (W0 g j k)):Uf g K i j:=by
 obtain⟨M,B,G⟩:=h;refine⟨k::M,fun x f=>?_,G⟩;rw[zU]at f;rcases f with rfl|f
 ·exact J
 ·exact B x f
theorem IP(g:B0)(f:List Nat):V4 g (G3 g (-1) f)= -1:=by
 rw[I9 g f (-1) (by omega)];have h:V4 g (-1)= -1:=by unfold V4;rw[if_pos (by omega)]
 split <;>exact h
section
variable{T:List ByteArray}{To:List (Nat×List Int)}{g:B0}{K N:Nat}{kd:Nat->Nat}{aD:List MT}{al:List Bool}{D D0:Nat->List Bool}
theorem Um(M:GP T To g K kd aD)(B:∀i:Nat,i<g.aB.length->(al.getD i false=true↔M6 g K (i:Int))){i b:Nat}(V:i<g.aB.length)(U:b<256)(h:alS al (W0 g (i:Int) (kd b))=false)(f:List Nat)(W:∀k∈f,k<K):V4 g (G3 g (W0 g (i:Int) (kd b)) f)= -1:=by
 rcases Tm M al V U with e|⟨t,J,e,G⟩|⟨t,J,e,G⟩
 ·rw[e];exact IP g f
 ·rw[e];refine Decidable.not_not.1 fun X=>?_
  have:=(B t J).2 ⟨f,W,X⟩;rw[G]at this;cases this
 ·rw[e,Na,G]at h;cases h
theorem Vi(G:GP T To g K kd aD){i b:Nat}(M:i<g.aB.length)(J:b<256)(h:alS al (W0 g (i:Int) (kd b))=true):∃t:Nat,t<g.aB.length/\W0 g (i:Int) (kd b)=(t:Int)/\al.getD t false=true:=by
 rcases Tm G al M J with e|⟨t,B,e,f⟩|⟨t,B,e,f⟩
 ·rw[e,Mb]at h;cases h
 ·rw[e,Na,f]at h;cases h
 ·exact⟨t,B,e,f⟩
def Aw(g:B0)(K:Nat)(D:Nat->List Bool):Prop:=∀i j:Nat,i<g.aB.length->j<g.aB.length->(D i).getD j false=true->Uf g K (i:Int) (j:Int)
def PF(g:B0)(D:Nat->List Bool):Prop:=∀i j:Nat,i<g.aB.length->j<g.aB.length->g.aB.getD i 0≠g.aB.getD j 0->(D i).getD j false=true
theorem AW(B:GP T To g K kd aD)(f:∀i:Nat,i<g.aB.length->(al.getD i false=true↔M6 g K (i:Int)))(hs:Aw g K D){i j b:Nat}(W:i<g.aB.length)(X:j<g.aB.length)(G:b<256)(h:stB al D (W0 g (i:Int) (kd b)) (W0 g (j:Int) (kd b))=true):Uf g K (i:Int) (j:Int):=by
 refine NK (B.lF b G) ?_;unfold stB at h;cases h1:alS al (W0 g (i:Int) (kd b)) <;>cases h2:alS al (W0 g (j:Int) (kd b))
 ·rw[h1,h2]at h;simp at h
 ·obtain⟨t,J,e,V⟩:=Vi B X G h2;obtain⟨U,M,Z⟩:=(f t J).1 V;exact⟨U,M,by rw[Um B f W G h1 U M,e];exact fun e'=>Z e'.symm⟩
 ·obtain⟨t,J,e,V⟩:=Vi B W G h1;obtain⟨U,M,Z⟩:=(f t J).1 V;exact⟨U,M,by rw[Um B f X G h2 U M,e];exact Z⟩
 ·obtain⟨s,Y,e,V⟩:=Vi B W G h1;obtain⟨t,J,e2,a0⟩:=Vi B X G h2;rw[h1,h2]at h;simp only[bne_self_eq_false,Bool.false_or,Bool.true_and]at h;rw[e,e2,zH,zH]at h;rw[e,e2];exact hs s t Y J h
theorem Aq(U:GP T To g K kd aD)(J:∀i:Nat,i<g.aB.length->(al.getD i false=true↔M6 g K (i:Int)))(X:PF g D)(Y:∀i j b:Nat,i<g.aB.length->j<g.aB.length->b<256->(D i).getD j false=false->stB al D (W0 g (i:Int) (kd b)) (W0 g (j:Int) (kd b))=false):∀(B:List Nat) (i j:Nat),i<g.aB.length->j<g.aB.length->(∀k∈B,k<K)->(D i).getD j false=false->V4 g (G3 g (i:Int) B)=V4 g (G3 g (j:Int) B)
 | [],i,j,hi,hj,_,h=>by
  show V4 g (i:Int)=V4 g (j:Int);rw[Sm,Sm];refine Decidable.not_not.1 fun hn=>?_
  rw[X i j hi hj hn]at h;cases h
 |k::B,i,j,hi,hj,hk,h=>by
  obtain⟨b,f,rfl⟩:=U.kR k (hk k (by simp));have G:=Y i j b hi hj f h;have M:∀x∈B,x<K:=fun x Z=>hk x (by simp[Z])
  show V4 g (G3 g (W0 g (i:Int) (kd b)) B)=V4 g (G3 g (W0 g (j:Int) (kd b)) B);unfold stB at G;cases h1:alS al (W0 g (i:Int) (kd b)) <;>cases h2:alS al (W0 g (j:Int) (kd b))
  ·rw[Um U J hi f h1 B M,Um U J hj f h2 B M]
  ·rw[h1,h2]at G;simp at G
  ·rw[h1,h2]at G;simp at G
  ·obtain⟨s,V,e,Z⟩:=Vi U hi f h1;obtain⟨t,ht,W,a0⟩:=Vi U hj f h2;rw[h1,h2]at G;simp only[bne_self_eq_false,Bool.false_or,Bool.true_and]at G;rw[e,W,zH,zH]at G;rw[e,W];exact Aq U J X Y B s t V ht M G
theorem AB{p q:Nat->Bool}:∀(L:List Nat),(∀x,p x=true->q x=true)->(∃x∈L,p x=false/\q x=true)->L.countP p<L.countP q
 | [],_,h=>by simp at h
 |x::L,hpq,h=>by
  have M:L.countP p<=L.countP q:=List.countP_mono_left fun y _ f=>hpq y f
  rw[List.countP_cons,List.countP_cons];obtain⟨y,f,G,J⟩:=h;rw[zU]at f;rcases f with rfl|f
  ·rw[if_neg (by rw[G];simp),if_pos J];omega
  ·have U:=AB L hpq ⟨y,f,G,J⟩
   by_cases B:p x=true
   ·rw[if_pos B,if_pos (hpq x B)];omega
   ·rw[if_neg B];split <;>omega
def Mz(N:Nat)(D:Nat->List Bool):Nat:=(List.range (N*N)).countP (fun q=>(D (q / N)).getD (q % N) false)
theorem EX(N:Nat)(D:Nat->List Bool):Mz N D<=N*N:=by have:=List.countP_le_length (p:=fun q=>(D (q / N)).getD (q % N) false) (l:=List.range (N*N));rwa [List.length_range]at this
def MF(D:Nat->List Bool)(i:Nat)(l:List Bool):Nat->List Bool:=fun a=>if a=i then l else D a
theorem Rg(D:Nat->List Bool){i j:Nat}(B:j<(D i).length)(x:Bool)(a c:Nat):(MF D i ((D i).set j x) a).getD c false=if a=i/\c=j then x else(D a).getD c false:=by
 unfold MF
 by_cases e:a=i
 ·subst e;rw[if_pos rfl,X6 _ _ _ _ B]
  by_cases f:c=j
  ·rw[if_pos f,if_pos ⟨rfl,f⟩]
  ·rw[if_neg f,if_neg (fun h=>f h.2)]
 ·rw[if_neg e,if_neg (fun h=>e h.1)]
theorem GX{i j:Nat}(G:i<N)(f:j<N)(B:j<(D i).length)(h:(D i).getD j false=false):Mz N D<Mz N (MF D i ((D i).set j true)):=by
 refine AB _ (fun q J=>?_) ⟨i*N+j,?_,?_,?_⟩
 ·rw[Rg D B];split
  ·rfl
  ·exact J
 ·rw[List.mem_range];have:(i+1)*N<=N*N:=Nat.mul_le_mul_right _ G;rw[Nat.succ_mul]at this;omega
 ·rw[show(i*N+j) / N=i by rw[Nat.mul_comm,Nat.mul_add_div (by omega),Nat.div_eq_of_lt f];omega,show(i*N+j) % N=j by rw[Nat.mul_comm,Nat.mul_add_mod,Nat.mod_eq_of_lt f]];exact h
 ·rw[show(i*N+j) / N=i by rw[Nat.mul_comm,Nat.mul_add_div (by omega),Nat.div_eq_of_lt f];omega,show(i*N+j) % N=j by rw[Nat.mul_comm,Nat.mul_add_mod,Nat.mod_eq_of_lt f],Rg D B,if_pos ⟨rfl,rfl⟩]
structure Oe(g:B0)(K:Nat)(kd:Nat->Nat)(al:List Bool)(D0 D:Nat->List Bool)(more:Bool)(i j:Nat):Prop where
 cQ:Aw g K D
 cW:PF g D
 or:(more=false/\D=D0/\∀a c b:Nat,a<g.aB.length->c<g.aB.length->b<256->(a<i\/(a=i/\c<j))->(D0 a).getD c false=false->stB al D0 (W0 g (a:Int) (kd b)) (W0 g (c:Int) (kd b))=false)\/(more=true/\Mz g.aB.length D0<Mz g.aB.length D)
theorem Oe.start(f:Aw g K D0)(h:PF g D0):Oe g K kd al D0 D0 false 0 0:=⟨f,h,.inl ⟨rfl,rfl,fun a c b B J G M=>by omega⟩⟩
theorem Oe.row{f:Bool}{i:Nat}(h:Oe g K kd al D0 D f i g.aB.length):Oe g K kd al D0 D f (i+1) 0:=⟨h.cQ,h.cW,h.or.imp (fun e=>⟨e.1,e.2.1,fun a c b B J G M=>e.2.2 a c b B J G (by omega)⟩) id⟩
theorem Oe.iI{f:Bool}{i j:Nat}(h:Oe g K kd al D0 D f i j)(B:(D i).getD j false=true\/∀b,b<256->stB al D (W0 g (i:Int) (kd b)) (W0 g (j:Int) (kd b))=false):Oe g K kd al D0 D f i (j+1):=by
 refine⟨h.cQ,h.cW,h.or.imp (fun e=>⟨e.1,e.2.1,fun a c b U V J W G=>?_⟩) id⟩
 by_cases M:a=i/\c=j
 ·obtain⟨rfl,rfl⟩:=M;rw[e.2.1]at B;rcases B with B|B
  ·rw[B]at G;cases G
  ·exact B b J
 ·exact e.2.2 a c b U V J (by omega) G
theorem Oe.mark(Y:GP T To g K kd aD)(M:∀i:Nat,i<g.aB.length->(al.getD i false=true↔M6 g K (i:Int))){G:Bool}{i j:Nat}(h:Oe g K kd al D0 D G i j)(W:i<g.aB.length)(X:j<g.aB.length)(hl:(D i).length=g.aB.length)(hf:(D i).getD j false=false)(hx:∃b,b<256/\stB al D (W0 g (i:Int) (kd b)) (W0 g (j:Int) (kd b))=true):Oe g K kd al D0 (MF D i ((D i).set j true)) true i (j+1):=by
 obtain⟨b,Z,hs⟩:=hx;have U:=AW Y M h.cQ W X Z hs;have hc:=GX W X (by omega) hf;refine⟨fun a c J f B=>?_,fun a c J f B=>?_,.inr ⟨rfl,?_⟩⟩
 ·rw[Rg D (by omega)]at B
  by_cases V:a=i/\c=j
  ·obtain⟨rfl,rfl⟩:=V;exact U
  ·rw[if_neg V]at B;exact h.cQ a c J f B
 ·rw[Rg D (by omega)];split
  ·rfl
  ·exact h.cW a c J f B
 ·rcases h.or with⟨_,e,_⟩|⟨_,e⟩
  ·rw[<-e];exact hc
  ·omega
theorem Oe.more(h:Oe g K kd al D0 D true g.aB.length 0):Mz g.aB.length D0<Mz g.aB.length D:=by
 rcases h.or with⟨e,_⟩|⟨_,e⟩
 ·cases e
 ·exact e
theorem Oe.end(W:GP T To g K kd aD)(f:∀i:Nat,i<g.aB.length->(al.getD i false=true↔M6 g K (i:Int)))(h:Oe g K kd al D0 D false g.aB.length 0):D=D0/\∀i j:Nat,i<g.aB.length->j<g.aB.length->((D i).getD j false=true↔Uf g K (i:Int) (j:Int)):=by
 rcases h.or with⟨_,e,Z⟩|⟨e,_⟩
 ·refine⟨e,fun i j J M=>⟨h.cQ i j J M,fun⟨ks,U,V⟩=>?_⟩⟩;cases hh:(D i).getD j false with
  |true=>rfl
  |false=>exact absurd (Aq W f h.cW (fun a c b B Y X G=>by rw[e]at G⊢;exact Z a c b B Y X (.inl B) G) ks i j J M U hh) V
 ·cases e
end
structure DP(w:World)(lo db N m:Nat)(R:Nat->Nat)(D:Nat->List Bool):Prop where
 aO:∃c,Blk w db c 130/\c.size=N/\∀i,i<m->c[i]?=some (.slice (some ⟨R i,0,none⟩) N N)
 aV:∀i,i<m->Blk w (R i) (Z0 (D i)) 4/\(D i).length=N/\lo<=R i
 inj:∀i j,i<m->j<m->R i=R j->i=j
section
variable{w w':World}{lo db N m:Nat}{R:Nat->Nat}{D:Nat->List Bool}
theorem DP.dm(h:DP w lo db N N R D):DM w db N R D:=by
 obtain⟨c,B,_,G⟩:=h.aO;exact⟨⟨c,B,G⟩,fun i f=>⟨(h.aV i f).1,(h.aV i f).2.1⟩,h.inj⟩
theorem DP.aA(h:DP w lo db N m R D)(k:Bw w w'):DP w' lo db N m R D:=by
 obtain⟨c,B,G⟩:=h.aO;exact⟨⟨c,B.aA k,G⟩,fun i f=>⟨(h.aV i f).1.aA k,(h.aV i f).2⟩,h.inj⟩
theorem DP.set(h:DP w lo db N m R D){i:Nat}(G:i<m)(j:Nat)(x:Bool):DP (w.setCell ⟨R i,j,none⟩ (.bool x)) lo db N m R (MF D i ((D i).set j x)):=by
 have V:C0 (fun b=>b=R i) w (w.setCell ⟨R i,j,none⟩ (.bool x)):=C0.setCell (ex:=fun b=>b=R i) (p:=⟨R i,j,none⟩) (C0.refl _ _) (fun _=>rfl) _;obtain⟨c,f,X⟩:=h.aO;refine⟨⟨c,f.kept V (fun e=>f.ne (h.aV i G).1 (by decide) e),X⟩,fun a B=>?_,h.inj⟩;obtain⟨J,M,U⟩:=h.aV a B;unfold MF
 by_cases e:a=i
 ·subst e;rw[if_pos rfl];exact⟨by rw[<-Z3];exact J.set j _,by simp[M],U⟩
 ·rw[if_neg e];exact⟨J.kept V (fun W=>e (h.inj a i B G W)),M,U⟩
theorem DP.push(h:DP w lo db N m R D)(J:lo<=w.heap.size)(hm:m<N){l:List Bool}(hl:l.length=N):DP ((w.alloc (.cells (Z0 l) 4)).setCell ⟨db,m,none⟩ (.slice (some ⟨w.heap.size,0,none⟩) N N)) lo db N (m+1) (Lv R m w.heap.size) (MF D m l):=by
 have V:C0 (fun b=>b=db) (w.alloc (.cells (Z0 l) 4)) ((w.alloc (.cells (Z0 l) 4)).setCell ⟨db,m,none⟩ (.slice (some ⟨w.heap.size,0,none⟩) N N)):=C0.setCell (ex:=fun b=>b=db) (p:=⟨db,m,none⟩) (C0.refl _ _) (fun _=>rfl) _;obtain⟨c,X,Y,Z⟩:=h.aO;have f:=X.alloc (.cells (Z0 l) 4);have M:=Blk.aQ w (Z0 l) 4;refine⟨⟨_,f.set m _,by simp[Y],fun i hi=>?_⟩,fun a ha=>?_,fun a b ha hb e=>?_⟩
 ·rw[xB];unfold Lv
  by_cases e:i=m
  ·subst e;rw[if_pos rfl,if_pos rfl,if_pos (by omega)]
  ·rw[if_neg (fun W=>e W.symm),if_neg e];exact Z i (by omega)
 ·unfold Lv MF
  by_cases e:a=m
  ·rw[if_pos e,if_pos e];exact⟨M.kept V (fun e=>M.ne f (by decide) e),hl,J⟩
  ·rw[if_neg e,if_neg e];obtain⟨U,k2,k3⟩:=h.aV a (by omega);exact⟨(U.alloc _).kept V (fun e=>(U.alloc _).ne f (by decide) e),k2,k3⟩
 ·unfold Lv at e
  by_cases B:a=m <;>by_cases G:b=m
  ·omega
  ·rw[if_pos B,if_neg G]at e;have:=(h.aV b (by omega)).1.lt;omega
  ·rw[if_neg B,if_pos G]at e;have:=(h.aV a (by omega)).1.lt;omega
  ·rw[if_neg B,if_neg G]at e;exact h.inj a b (by omega) (by omega) e
end
theorem DP.start{w:World}{f N:Nat}(D:Nat)(h:Blk w f (Qe N) 130):DP w D f N 0 (fun _=>0) (fun _=>[]):=⟨⟨_,h,by simp[Qe],fun i B=>by omega⟩,fun i B=>by omega,fun i j B=>by omega⟩
def Oq(N:Nat)(D:Nat->List Bool)(f:Bool):Nat:=2*(N*N-Mz N D)+f.toNat
theorem OL{N:Nat}{D f:Nat->List Bool}(h:Mz N D<Mz N f):Oq N f true<Oq N D true:=by
 have:=EX N f;unfold Oq;omega
theorem SQ(N:Nat)(D:Nat->List Bool):Oq N D false<Oq N D true:=by unfold Oq;simp
theorem Vz(xb fb lo ab N:Nat)(rs:ByteArray)(f:Nat->Int)(aD:List MT)(tv sv ov:Value)(T:List ByteArray)(S:List (Nat×List Bool))(To:List (Nat×List Int))(g:B0)(K:Nat)(kd:Nat->Nat)(al:List Bool)(w:World)(hL:Jh w xb rs f aD)(hF:K3 w lo fb tv sv ov T S To)(hG:GP T To g K kd aD)(hN:N=g.aB.length)
  (hA:Blk w ab (Z0 al) 4) (ac:al.length=N) (X:∀i:Nat,i<g.aB.length->(al.getD i false=true↔M6 g K (i:Int))):
  Calls Tryz.prog 56 #[.pointer (some ⟨xb,0,none⟩),.pointer (some ⟨fb,0,none⟩),.slice (some ⟨ab,0,none⟩) N N] w fun e w'=>∃db R D,e=.returned (.slice (some ⟨db,0,none⟩) N N)/\DM w' db N R D/\(∀i j:Nat,i<N->j<N->((D i).getD j false=true↔Uf g K (i:Int) (j:Int)))/\Bw w w':=by
 have bm:=hG.cT;have aa:T.length=N:=by rw[hG.tl,hN]
 have bp:N<=61:=by omega
 have bu:0<N:=by omega
 have bj:=Fe N (by omega);have ar:=TB N (by omega);have au:=U7 N (by omega);obtain⟨tg,bf,c0,ct⟩:=hF.eQ (by omega);rw[aa]at c0;have zf:=hF.aO.lt;have HC:=Hd8 hL hF hG hN hA ac X aa;obtain⟨w1,ap⟩:∃w1:World,w.alloc (.cells (N3 (List.replicate N 0)) 3)=w1:=⟨_,rfl⟩;have b0:Bw w w1:=by rw[<-ap];exact P0 _ _
 have b5:Blk w1 w.heap.size (N3 (List.replicate N 0)) 3:=by rw[<-ap];exact Blk.aQ _ _ _
 have H1:=Hd2 b0 b5;clear hL hF hG hN ct aa bm b0 b5 hA ac X;go_enter Tryz.func56,Tryz.ntmps56;go_upto_region 3 with fail
 try rw[ap]
 clear ap bj;go_wp2_with fail
 go_loopg[9] N (fun G nv wr=>∃(n:Nat) (l:List Int),nv=.int .i64 n/\n<=N/\G=N-n/\l.length=N/\(∀i,i<n->l.getD i 0=g.aB.getD i 0)/\Blk wr w.heap.size (N3 l) 3/\Bw w wr)
 case atStart=>exact⟨0,_,rfl,by omega,rfl,by simp,fun i hi=>by omega,H1.out.2,H1.out.1⟩
 case round=>
  obtain⟨n,l,rfl,hn,rfl,hl,X,hO,J⟩:=hrel;have zo:=hO.lt;have av:=J.size
  by_cases bv:n<N
  ·have e0:decide ((n:Int)<(N:Int))=true:=by simp;omega
   obtain⟨hL,hF,hG,hN,_,_,_,aa⟩:=HC.out;have ao:n<T.length:=by omega
   have bg:wr.cell? ⟨fb,0,none⟩=some (.slice (some ⟨tg,0,none⟩) N bf):=by rw[J.cell zf];exact c0
   obtain⟨bo,bn,c9,ay⟩:=(hF.aA J).eQ (by omega);have e9:bo=tg:=by rw[bg]at c9;injection c9 with e;injection e with e;injection e with e;injection e with e;exact e.symm
   subst e9;have bh:=ay n ao;have HT:=Hd (Wo xb rs T[n] f aD wr (hL.aA J) (hG.size n ao));have ai:=Hd (hG.bN n · ao);generalize T[n]=tn at bh HT ai;have n0:(0:Int)<=(n:Int):=by omega
   have n1:(n:Int)<(N:Int):=by omega
   have HI:=Hd4 hl X hO J;clear hL hF hG hN ay c9 ao hl X hO J aa ar au;go_wp2_with fail;refine HT.out.mono ?_;rintro e w2 ⟨r,rfl,hr,Z⟩;have bc:=ai.out r hr;obtain⟨W,M,U,Y⟩:=HI.out;have aj:=U.aA Z;have cb:=O5 aj n (by omega);generalize l.getD n 0=y at cb;have bs:=aj.frozen n;have bx:=aj.lt;have HR:=Hd2 bc Z;clear bc Z hr W M U Y aj HT ai;go_wp2_with fail
   go_roundg (N- (n+1))
   case measure=>omega
   case rel=>
    obtain⟨W,M,U,Y⟩:=HI.out;obtain⟨b1,b2⟩:=HR.out;refine⟨n+1,l.set n r,by go_num,by omega,rfl,by simp[W],fun i hi=>?_,by rw[<-U3];exact(U.aA b2).set n _,(Y.trans (b2.mono Y.size)).setCell (zD _) _⟩;rw[Db _ _ _ _ (by omega)]
    by_cases ei:i=n
    ·rw[if_pos ei,ei];exact b1
    ·rw[if_neg ei];exact M i (by omega)
  ·have e0:decide ((n:Int)<(N:Int))=false:=by simp;omega
   obtain⟨db,am⟩:∃db,wr.heap.size=db:=⟨_,rfl⟩;have aq:∀i,i<N->l.getD i 0=g.aB.getD i 0:=fun i hi=>X i (by omega)
   have HI:=Hd5 hl aq hO J am;have b7:w.heap.size<=db:=by omega
   clear hl X aq hO J c0;obtain⟨wo,rfl⟩:∃wo:World,wo=wr:=⟨_,rfl⟩;go_upto_region 8 with fail
   try rw[am]
   have HZ:=Hd am;clear am ar;go_wp2_with fail
   go_loopg[11] N (fun G iv wr=>∃(i:Nat) (R:Nat->Nat) (D:Nat->List Bool),iv=.int .i64 i/\i<=N/\G=N-i/\DP wr w.heap.size db N i R D/\(∀a c,a<i->c<N->(D a).getD c false=(g.aB.getD a 0 !=g.aB.getD c 0))/\Blk wr w.heap.size (N3 l) 3/\Bw w wr)
   case atStart=>
    obtain⟨W,M,U,Y,a5⟩:=HI.out;subst a5;exact⟨0,_,_,rfl,by omega,rfl,DP.start _ (Blk.aQ _ _ _),fun a c ha=>by omega,U.alloc _,Y.alloc Y.size _⟩
   case round=>
    obtain⟨i,R,D,rfl,hi,rfl,V,a0,hO,J⟩:=hrel;have zo:=hO.lt;have av:=J.size
    by_cases an:i<N
    ·have e1:decide ((i:Int)<(N:Int))=true:=by simp;omega
     have i0:(0:Int)<=(i:Int):=by omega
     have i1:(i:Int)<(N:Int):=by omega
     obtain⟨c,b1,b2,b3⟩:=V.aO;have zd:=b1.lt;obtain⟨v9,be⟩:∃v9,c[i]?=some v9:=⟨c[i],by simp[b2,an]⟩;have cd:wr.cell? ⟨db,i,none⟩=some v9:=by rw[b1.cell];exact be
     have fd:=b1.frozen i;have hP:=V.push (l:=List.replicate N false) av an (by simp);have bi:Lv R i wr.heap.size i=wr.heap.size:=by simp[Lv]
     have b4:Blk ((wr.alloc (.cells (Z0 (List.replicate N false)) 4)).setCell ⟨db,i,none⟩ (.slice (some ⟨wr.heap.size,0,none⟩) N N)) w.heap.size (N3 l) 3:=(hO.alloc _).kept (C0.setCell (ex:=fun x=>x=db) (p:=⟨db,i,none⟩) (C0.refl _ _) (fun _=>rfl) _) (fun e=>hO.ne b1 (by decide) e);have az:=(J.alloc av (.cells (Z0 (List.replicate N false)) 4)).setCell (p:=⟨db,i,none⟩) b7 (.slice (some ⟨wr.heap.size,0,none⟩) N N);have HJ:=Hd4 hP a0 b4 az;obtain⟨R2,b6⟩:∃R2,Lv R i wr.heap.size=R2:=⟨_,rfl⟩;rw[b6]at HJ;clear hP a0 hO J b4 az b1 b2 b3 be V b6 bi;go_wp2_with fail
     go_loopg[12] N (fun G jv wr=>∃(j:Nat) (D:Nat->List Bool),jv=.int .i64 j/\j<=N/\G=N-j/\DP wr w.heap.size db N (i+1) R2 D/\(∀a c,a<i->c<N->(D a).getD c false=(g.aB.getD a 0 !=g.aB.getD c 0))/\(∀c,c<j->(D i).getD c false=(g.aB.getD i 0 !=g.aB.getD c 0))/\Blk wr w.heap.size (N3 l) 3/\Bw w wr)
     case atStart=>
      obtain⟨W,M,U,Y⟩:=HJ.out;rw[World.setCell_alloc_past _ _ _ _ zd]at W U Y;exact⟨0,_,rfl,by omega,rfl,W,fun a c ha hc=>by unfold MF;rw[if_neg (by omega)];exact M a c ha hc,fun c hc=>by omega,U,Y⟩
     case round=>
      obtain⟨j,D2,rfl,hj,rfl,V,a0,ak,hO,J⟩:=hrel;have zo:=hO.lt
      by_cases b9:j<N
      ·have e2:decide ((j:Int)<(N:Int))=true:=by simp;omega
       have j0:(0:Int)<=(j:Int):=by omega
       have j1:(j:Int)<(N:Int):=by omega
       obtain⟨c,b1,b2,b3⟩:=V.aO;obtain⟨k1,k2,k3⟩:=V.aV i (by omega);have zd:=b1.lt;have cd:wr.cell? ⟨db,i,none⟩=some (.slice (some ⟨R2 i,0,none⟩) N N):=by rw[b1.cell];exact b3 i (by omega)
       have ci:=O5 hO i (by rw[HI.out.1];exact an);have cj:=O5 hO j (by rw[HI.out.1];exact b9);rw[HI.out.2.1 i an]at ci;rw[HI.out.2.1 j b9]at cj;have cr:=N2 k1 j (by omega);have fr:=k1.frozen j;have zr:=k1.lt;generalize ae:R2 i=rb at cd cr fr zr k3;generalize(D2 i).getD j false=y at cr;obtain⟨x,hx⟩:∃x,(g.aB.getD i 0 !=g.aB.getD j 0)=x:=⟨_,rfl⟩;have HX:=Hd hx;generalize g.aB.getD i 0=ri at ci hx;generalize g.aB.getD j 0=rj at cj hx;have HQ:=Hd8 V a0 ak hO J ae k2 k3;have bk:rb≠w.heap.size:=by rw[<-ae];exact k1.ne hO (by decide)
       clear V a0 ak hO J b1 b2 b3 k1 k2 ae HJ HC H1;go_upto_region 15 with fail;go_region
       all_goals
        go_wp2_with fail
        go_roundg (N- (j+1))
        case measure=>omega
        case rel=>
         obtain⟨W,M,U,Y,a5,a6,a7,a8⟩:=HQ.out;have hs:=(W.aA (B6 wr)).set (i:=i) (by omega) j x;rw[a6]at hs;refine⟨j+1,_,by go_num,by omega,rfl,hs,fun a c ha hc=>?_,fun c hc=>?_,(Y.aA (B6 wr)).kept (C0.setCell (ex:=fun x=>x=rb) (p:=⟨rb,j,none⟩) (C0.refl _ _) (fun _=>rfl) _) (fun e=>bk e.symm),?_⟩
         ·rw[Rg D2 (by omega),if_neg (by omega)];exact M a c ha hc
         ·rw[Rg D2 (by omega)]
          by_cases ec:c=j
          ·rw[if_pos ⟨rfl,ec⟩,ec];exact HX.out.symm
          ·rw[if_neg (fun h=>ec h.2)];exact U c (by omega)
         ·exact(a5.trans ((B6 wr).mono a5.size)).setCell k3 _
      ·have e2:decide ((j:Int)<(N:Int))=false:=by simp;omega
       have HQ:=Hd5 V a0 ak hO J;clear V a0 ak hO J HJ;go_wp2_with fail
       go_roundg (N- (i+1))
       case measure=>omega
       case rel=>
        obtain⟨W,M,U,Y,a5⟩:=HQ.out;refine⟨i+1,R2,D2,by go_num,by omega,rfl,W,fun a c ha hc=>?_,Y,a5⟩
        by_cases ea:a=i
        ·rw[ea];exact U c (by omega)
        ·exact M a c (by omega) hc
    ·have e1:decide ((i:Int)<(N:Int))=false:=by simp;omega
     have b8:i=N:=by omega
     subst b8;obtain⟨hL,hF,hG,hN,hA,ac,X,aa⟩:=HC.out;have ah:Aw g K D:=fun a c ha hc hd=>⟨[],by simp,by
      show V4 g (a:Int)≠V4 g (c:Int);rw[a0 a c (by omega) (by omega)]at hd;rw[Sm,Sm];exact bne_iff_ne.1 hd⟩
     have af:PF g D:=fun a c ha hc hd=>by
      rw[a0 a c (by omega) (by omega)];exact bne_iff_ne.2 hd
     have HJ:=Hd4 V ah af J;clear V a0 hO J ah af hL hF hG hN hA ac X aa au HI HZ zo;go_wp2_with fail
     go_loopg[13] (Oq i D true) (fun G mv wr=>∃(B:Bool) (D:Nat->List Bool),mv=.bool B/\G=Oq i D B/\DP wr w.heap.size db i i R D/\Aw g K D/\PF g D/\(B=false->∀a c:Nat,a<i->c<i->((D a).getD c false=true↔Uf g K (a:Int) (c:Int)))/\Bw w wr)
     case atStart=>
      obtain⟨W,M,U,Y⟩:=HJ.out;exact⟨true,D,rfl,rfl,W,M,U,fun e=>(by cases e),Y⟩
     case round=>
      obtain⟨B,D,rfl,rfl,V,ah,af,bd,J⟩:=hrel;have HK:=Hd5 V ah af bd J;clear V ah af bd J HJ;cases B with
      |false=>
       go_wp2_with fail;go_ret;obtain⟨W,M,U,Y,a5⟩:=HK.out;exact⟨db,rfl,R,D,W.dm,Y (by simp),a5⟩
      |true=>
       go_wp2_with fail
       go_loopg[13,14] i (fun G mv pv wr=>∃(B:Bool) (p:Nat) (E:Nat->List Bool),mv=.bool B/\pv=.int .i64 p/\p<=i/\G=i-p/\DP wr w.heap.size db i i R E/\Oe g K kd al D E B p 0/\Bw w wr)
       case atStart=>
        obtain⟨W,M,U,Y,a5⟩:=HK.out;exact⟨false,0,D,rfl,rfl,by omega,rfl,W,Oe.start M U,a5⟩
       case round=>
        obtain⟨B,p,E,rfl,rfl,hp,rfl,V,hP,J⟩:=hrel
        by_cases ag:p<i
        ·have e2:decide ((p:Int)<(i:Int))=true:=by simp;omega
         have HQ:=Hd3 V hP J;clear V hP J;go_wp2_with fail
         go_loopg[13,15] i (fun G mv qv wr=>∃(B:Bool) (q:Nat) (E:Nat->List Bool),mv=.bool B/\qv=.int .i64 q/\q<=i/\G=i-q/\DP wr w.heap.size db i i R E/\Oe g K kd al D E B p q/\Bw w wr)
         case atStart=>exact⟨B,0,E,rfl,rfl,by omega,rfl,HQ.out.1,HQ.out.2.1,HQ.out.2.2⟩
         case round=>
          obtain⟨ad,q,E2,rfl,rfl,hq,rfl,V,hP,J⟩:=hrel
          by_cases bb:q<i
          ·have e3:decide ((q:Int)<(i:Int))=true:=by simp;omega
           obtain⟨hL,hF,hG,hN,hA,ac,X,aa⟩:=HC.out;obtain⟨d1,d2⟩:=V.dm.cells ag bb;obtain⟨k1,k2,k3⟩:=V.aV p ag;have fr:=k1.frozen q;have zr:=k1.lt;have zd:=V.aO.choose_spec.1.lt;have p0:(0:Int)<=(p:Int):=by omega
           have p1:(p:Int)<(i:Int):=by omega
           have q0:(0:Int)<=(q:Int):=by omega
           have q1:(q:Int)<(i:Int):=by omega
           have ax:=Hd (YE fb lo ab db i i p q R E2 al aD tv sv ov T S To g K kd wr (hF.aA J) hG hN (hA.aA J) ac V.dm ag bb);generalize ae:R p=rb at d1 d2 fr zr k3;generalize hy:(E2 p).getD q false=y at d2;have HV:=Hd9 V hP J hy ae k2 hG hN X;clear hL hF hG hN hA ac X aa V hP J k1 k2 ae hy HK;cases y with
           |true=>
            go_wp2_with fail
            go_roundg (i- (q+1))
            case measure=>omega
            case rel=>
             obtain⟨W,M,U,Y,a5,a6,a7,a8,a9⟩:=HV.out;exact⟨ad,q+1,E2,rfl,by go_num,by omega,rfl,W,M.iI (.inl Y),U⟩
           |false=>
            go_wp2_with fail;refine ax.out.mono ?_;rintro e w2 ⟨x,rfl,hx,Z⟩;have bq:=(Z.cell (p:=⟨db,p,none⟩) zd).trans d1;have br:=(Z.cell (p:=⟨rb,q,none⟩) zr).trans d2;have bw:db<w2.heap.size:=yG zd Z.size;have bz:rb<w2.heap.size:=yG zr Z.size;have bt:w2.frozen? ⟨rb,q,none⟩=false:=by
             have:=((HV.out.1.aV p ag).1.aA Z).frozen q;rw[HV.out.2.2.2.2.1]at this;exact this
            have HX:=Hd2 hx Z;clear hx Z ax d1 d2 fr;cases x with
            |true=>
             go_wp2_with fail
             go_roundg (i- (q+1))
             case measure=>omega
             case rel=>
              obtain⟨W,M,U,Y,a5,a6,a7,a8,a9⟩:=HV.out;obtain⟨x1,x2⟩:=HX.out;have hs:=(W.aA x2).set (i:=p) ag q true;rw[a5]at hs;exact⟨true,q+1,_,rfl,by go_num,by omega,rfl,hs,M.mark a7 a9 (by omega) (by omega) (by omega) Y (x1.1 (by simp)),(U.trans (x2.mono U.size)).setCell k3 _⟩
            |false=>
             go_wp2_with fail
             go_roundg (i- (q+1))
             case measure=>omega
             case rel=>
              obtain⟨W,M,U,Y,a5,a6,a7,a8,a9⟩:=HV.out;obtain⟨x1,x2⟩:=HX.out;refine⟨ad,q+1,E2,rfl,by go_num,by omega,rfl,W.aA x2,M.iI (.inr fun b hb=>?_),U.trans (x2.mono U.size)⟩;refine Bool.eq_false_iff.2 fun hh=>?_
              have:=x1.2 ⟨b,hb,hh⟩;cases this
          ·have e3:decide ((q:Int)<(i:Int))=false:=by simp;omega
           have HV:=Hd3 V hP J;clear V hP J;go_wp2_with fail
           go_roundg (i- (p+1))
           case measure=>omega
           case rel=>
            obtain⟨W,M,U⟩:=HV.out;have bl:q=g.aB.length:=by have:=HC.out.2.2.2.1;omega
            rw[bl]at M;exact⟨ad,p+1,E2,rfl,by go_num,by omega,rfl,W,M.row,U⟩
        ·have e2:decide ((p:Int)<(i:Int))=false:=by simp;omega
         have HV:=Hd3 V hP J;clear V hP J;have ba:p=g.aB.length:=by have:=HC.out.2.2.2.1;omega
         have aw:=Hd ba;clear ba;go_wp2_with fail
         go_roundg (Oq i E B)
         case measure=>
          obtain⟨W,M,U⟩:=HV.out;rw[aw.out]at M;cases B with
          |true=>
           have:=M.more;rw[<-HC.out.2.2.2.1]at this;exact OL this
          |false=>
           have:=(M.end HC.out.2.2.1 HC.out.2.2.2.2.2.2.1).1;rw[this];exact SQ _ _
         case rel=>
          obtain⟨W,M,U⟩:=HV.out;rw[aw.out]at M;refine⟨B,E,rfl,rfl,W,M.cQ,M.cW,fun em=>?_,U⟩;subst em;have h9:=(M.end HC.out.2.2.1 HC.out.2.2.2.2.2.2.1).2;rw[<-HC.out.2.2.2.1]at h9;exact h9
end Go.Proofs.YtcckhngbdoiikaaGreat
