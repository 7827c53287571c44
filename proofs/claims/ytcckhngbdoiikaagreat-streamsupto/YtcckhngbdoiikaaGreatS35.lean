import Derived.Test.YtcckhngbdoiikaaGreatS34
set_option maxRecDepth 20000
set_option maxHeartbeats 12800000
set_option linter.unusedVariables false
namespace Go.Proofs.YtcckhngbdoiikaaGreat
open Go.RowKit Go.Deep
def Lh(F:List Nat):List Int:=F.map Int.ofNat
theorem Sc(F:List Nat):(Lh F).length=F.length:=by simp[Lh]
theorem Zm(F:List Nat){s:Nat}(f:s<F.length):(Lh F).getD s 0=(F[s]:Int):=by simp[Lh,f]
theorem Y1{B:Nat}{a w:World}(h:Below B a w):Below B a w.drew:=⟨h.os,h.tape,h.output,h.size,h.block⟩
def WL(g:B0):B0:=E1 (G0 g) (N1 (G0 g))
def NZ(w w':World)(xb:Nat)(G B D:Value)(T:List ByteArray)(g:B0)(K:Nat)(kd:Nat->Nat):Prop:=∃(F:List Nat) (U M J:Value) (h:List (Nat×List Int)) (f:List Int),Y9 g K F/\XO w w' xb G B D U M J (Lm T F F.length) h f/\SP (fun i b=>W0 (WL g) (i:Int) (kd b)) (fun i=>(WL g).aB.getD i 0) F.length h f
theorem Xz(xb fb lo N:Nat)(rs:ByteArray)(f:Nat->Int)(aD:List MT)(tv sv ov:Value)(T:List ByteArray)(S:List (Nat×List Bool))(To:List (Nat×List Int))(g:B0)(K:Nat)(kd:Nat->Nat)(w:World)(hL:Jh w xb rs f aD)(hF:K3 w lo fb tv sv ov T S To)(hG:GP T To g K kd aD)(hS:Aa g K)(hN:N=g.aB.length)(rv pn pv:Value)(hX:XAt w xb rv pn pv (.slice none 0 0) (.slice none 0 0) (.slice none 0 0) [] [] []):
  Calls Tryz.prog 30 #[.pointer (some ⟨xb,0,none⟩),.pointer (some ⟨fb,0,none⟩)] w fun e w'=>e=.returned (.tuple #[])/\NZ w w' xb rv pn pv T g K kd:=by
 have ew:=Hd hX;clear hX;have fc:=hG.cT;have cq:T.length=N:=by rw[hG.tl,hN]
 have fw:N<=61:=by omega
 have g0:0<N:=by omega
 have f9:=Fe N (by omega);have b9:=Hd (TE xb fb lo rs f aD tv sv ov T S To g K kd w hL hF hG);have HC:=Hd6 hL hF hG hS hN cq;rw[cq]at b9;have zf:=hF.aO.lt;have HN:=Hd hN;clear hL hF hG hS fc cq hN;go_enter Tryz.func30,Tryz.ntmps30;go_wp2_with fail;refine b9.out.mono ?_;rintro e w1 ⟨al,rfl,cu,bd,cv,c1⟩;have dj:=Hd (Vz xb fb lo w.heap.size N rs f aD tv sv ov T S To g K kd al w1 (HC.out.1.aA c1) (HC.out.2.1.aA c1) HC.out.2.2.1 HN.out cu bd (fun i hi=>cv i (by rw[HN.out];exact hi)));have H1:=Hd4 cu bd cv c1;clear cu bd cv c1 b9;go_wp2_with fail;refine dj.out.mono ?_;rintro e X ⟨db,R,D,rfl,hD,aa,cw⟩;obtain⟨a1,a2,a3,a4⟩:=H1.out;have J:Bw w X:=a4.trans (cw.mono a4.size);have cm:=HC.out.2.1.aA J;obtain⟨tg,ee,c0,_⟩:=cm.eQ (by have:=HC.out.2.2.2.2.2;omega);rw[HC.out.2.2.2.2.2]at c0;have bd:=a1.aA cw;have H4:=Hd (fun i (hi:i<N)=>a3 i hi);have H2:=Hd5 hD aa J bd a2;have fu:=cm.aO.lt;obtain⟨w3,cb⟩:∃w3:World,X.alloc (.cells (N3 (List.replicate N 0)) 3)=w3:=⟨_,rfl⟩;have ds:Bw X w3:=by rw[<-cb];exact P0 _ _
 have dw:Blk w3 X.heap.size (N3 (List.replicate N 0)) 3:=by rw[<-cb];exact Blk.aQ _ _ _
 have H3:=Hd2 ds dw;clear hD aa cw a1 a2 a3 a4 J cm bd ds dw dj H1;go_upto_region 3 with fail
 try rw[cb]
 clear cb f9;go_wp2_with fail
 go_loopg[7,8] N (fun G fv nv wr=>∃(n:Nat) (F:List Nat) (st:List Int),nv=.int .i64 n/\n<=N/\G=N-n/\StI g K n F st/\O2 wr fv (Lh F)/\(∀b,fv.ownBlock=some b->X.heap.size<b)/\Blk wr X.heap.size (N3 st) 3/\Bw X wr)
 case atStart=>exact⟨0,[],_,rfl,by omega,rfl,StI.start (by simp;exact HN.out),World.ownsRow_nil _ _ _ _,fun x hx=>by simp[Value.ownBlock]at hx,H3.out.2,H3.out.1⟩
 case round=>
  obtain⟨n,F,st,rfl,hn,rfl,hI,hR,bw,aj,hB⟩:=hrel;have fx:wr.cell? ⟨fb,0,none⟩=some (.slice (some ⟨tg,0,none⟩) N ee):=by rw[hB.cell fu];exact c0
  obtain⟨fd,a0,rfl,cx⟩:=hR.aT;rw[Sc]at cx hR bw⊢
  by_cases ad:n<N
  ·have e0:decide ((n:Int)<(N:Int))=true:=by simp;omega
   have n0:(0:Int)<=(n:Int):=by omega
   have n1:(n:Int)<(N:Int):=by omega
   have cs:=O5 aj n (by rw[hI.len,<-HN.out];exact ad);have fs:=aj.frozen n;generalize st.getD n 0=y0 at cs;have zs:=aj.lt;obtain⟨hD,aa,J,hA,an⟩:=H2.out;have gc:=hA.lt;have ca:=N2 (hA.aA hB) n (by omega);have e8:al.getD n false=true↔M6 g K (n:Int):=H4.out n ad;have HK:=Hd6 hI hR bw aj hB e8;have f1:=hI.bV;clear hI hR bw aj hB hD aa J hA an e8;generalize al.getD n false=x at ca HK;have bp:(0<n/\x=false)\/(n=0\/x=true):=by cases x <;>simp <;>omega
   rcases bp with⟨g7,rfl⟩|bp
   ·have e1:decide ((0:Int)<(n:Int))=true:=by simp;omega
    go_wp2_with fail
    go_roundg (N- (n+1))
    case measure=>omega
    case rel=>
     obtain⟨b1,b2,b3,b4,b5,b6⟩:=HK.out;refine⟨n+1,F,st.set n (-1),by go_num,by omega,rfl,b1.skip (by rw[<-HN.out];exact ad) (fun hg=>?_) _,?_,b3,by rw[<-U3];exact b4.set n _,b5.setCell (zD _) _⟩
     ·rcases hg.2 with e|e
      ·omega
      ·have:=b6.2 e;cases this
     ·exact J0 (ex:=fun x=>x=X.heap.size) b2 (C0.setCell (ex:=fun x=>x=X.heap.size) (p:=⟨X.heap.size,n,none⟩) (C0.refl _ _) (fun _=>rfl) _) (fun b V e=>by have:=b3 b V;omega)
   ·have f5:Hid (Dv g K n):=Hd ⟨by rw[<-HN.out];exact ad,by
     rcases bp with e|e
     ·exact .inl e
     ·exact .inr (HK.out.2.2.2.2.2.1 e)⟩
    have e1:(¬0<n/\decide ((0:Int)<(n:Int))=false)\/(0<n/\decide ((0:Int)<(n:Int))=true/\x=true):=by
     by_cases e:n=0
     ·exact .inl ⟨by omega,by simp;omega⟩
     ·exact .inr ⟨by omega,by simp;omega,by rcases bp with e'|e';exact absurd e' e;exact e'⟩
    clear bp;rcases e1 with⟨hz,e1⟩|⟨hz,e1,rfl⟩
    all_goals
     go_wp2_with fail
     go_loopg[9] F.length (fun G sv wr=>∃(s:Nat) (v:Int),sv=.int .i64 s/\s<=F.length/\G=F.length-s/\((v= -1/\∀s',(h:s'<F.length)->s'<s->Uf g K (F[s']:Int) (n:Int))\/∃s0,∃h:s0<F.length,v=(s0:Int)/\¬Uf g K (F[s0]:Int) (n:Int))/\O2 wr (.slice fd F.length a0) (Lh F)/\Blk wr X.heap.size (N3 (st.set n v)) 3/\Bw X wr)
     case atStart=>
      obtain⟨b1,b2,b3,b4,b5,b6⟩:=HK.out;exact⟨0,-1,rfl,by omega,rfl,.inl ⟨rfl,fun s' _ hs=>by omega⟩,J0 (ex:=fun x=>x=X.heap.size) b2 (C0.setCell (ex:=fun x=>x=X.heap.size) (p:=⟨X.heap.size,n,none⟩) (C0.refl _ _) (fun _=>rfl) _) (fun b V e=>by have:=b3 b V;omega),by rw[<-U3];exact b4.set n _,b5.setCell (zD _) _⟩
     case round=>
      obtain⟨t,v,rfl,ht,rfl,hv,az,a5,av⟩:=hrel;clear hz e1;obtain⟨hD,aa,J,hA,an⟩:=H2.out;have gd:=a5.lt;have a7:n<st.length:=by rw[HK.out.1.len,<-HN.out];exact ad
      have ez:=O5 a5 n (by simp;exact a7);rw[Db _ _ _ _ a7,if_pos rfl]at ez;have fz:=a5.frozen n;have af:∀q,(h:q<F.length)->F[q]<N:=fun q h=>by have:=HK.out.1.lt h;omega
      by_cases d7:v= -1
      ·subst d7;have bz:∀s',(h:s'<F.length)->s'<t->Uf g K (F[s']:Int) (n:Int):=by
        rcases hv with⟨_,h⟩|⟨s0,_,h,_⟩
        ·exact h
        ·omega
       by_cases a6:t<F.length
       ·have e3:decide ((t:Int)<(F.length:Int))=true:=by simp;omega
        rcases cx with e|⟨fg,rfl⟩
        ·omega
        have t0:(0:Int)<=(t:Int):=by omega
        have t1:(t:Int)<(F.length:Int):=by omega
        have cf:wr.cell? ⟨fg,t,none⟩=some (.int .i64 (F[t]:Int)):=by
         rw[<-Zm F a6];have h9:O2 wr (.slice (some ⟨fg,0,none⟩) (Lh F).length a0) (Lh F):=by rw[Sc];exact az
         exact h9.getD t (by rw[Sc];exact a6)
        have bt:=af t a6;obtain⟨d1,d2⟩:=(hD.aA av).cells bt ad;have c7:=aa F[t] n bt ad;have dz:R F[t]≠X.heap.size:=by have:=(hD.aV F[t] bt).1.lt;omega
        generalize e6:F[t]=ft at cf d1 d2 c7 bt dz;have q0:(0:Int)<=(ft:Int):=by omega
        have q1:(ft:Int)<(N:Int):=by omega
        generalize R ft=rb at d1 d2 dz;generalize(D ft).getD n false=y at d2 c7;have HQ:=Hd6 bz az a5 av c7 e6;clear bz az a5 av c7 e6 hD aa J hA an hv af a7;cases y with
        |true=>
         go_wp2_with fail
         go_roundg (F.length- (t+1))
         case measure=>omega
         case rel=>
          obtain⟨b1,b2,b3,b4,b5,b6⟩:=HQ.out;refine⟨t+1,-1,by go_num,by omega,rfl,.inl ⟨rfl,fun s' h hs=>?_⟩,b2,b3,b4⟩
          by_cases e:s'<t
          ·exact b1 s' h e
          ·have:s'=t:=by omega
           subst this;rw[b6];exact b5.1 (by simp)
        |false=>
         go_wp2_with fail
         go_roundg (F.length- (t+1))
         case measure=>omega
         case rel=>
          obtain⟨b1,b2,b3,b4,b5,b6⟩:=HQ.out;refine⟨t+1,(t:Int),by go_num,by omega,rfl,.inr ⟨t,a6,rfl,fun h=>?_⟩,?_,?_,b4.setCell (zD _) _⟩
          ·rw[b6]at h;have:=b5.2 h;cases this
          ·exact J0 (ex:=fun x=>x=X.heap.size) b2 (C0.setCell (ex:=fun x=>x=X.heap.size) (p:=⟨X.heap.size,n,none⟩) (C0.refl _ _) (fun _=>rfl) _) (fun b V e=>by have:=HK.out.2.2.1 b V;omega)
          ·have:=b3.set n (.int .i64 t);rw[U3,List.set_set]at this;exact this
       ·have e3:decide ((t:Int)<(F.length:Int))=false:=by simp;omega
        have ea:∀s',(h:s'<F.length)->¬L5 (G0 g) K (F[s']:Int) (n:Int):=fun s' h hx=>by
         refine((Pt HC.out.2.2.1.ok (a:=F[s']) (b:=n) ?_ ?_).1 hx) (bz s' h (by omega))
         ·have:=af s' h;rw[<-HN.out];exact this
         ·rw[<-HN.out];exact ad
        have ap:=StI.fresh HC.out.2.2.2.1 HK.out.1 f5.out ea;have d0:∀x,(Value.slice fd F.length a0).ownBlock=some x->X.heap.size+1<=x:=fun x hx=>HK.out.2.2.1 x hx
        have dv:wr.ownsRow 0 3 1 (.slice fd F.length a0) (T7 (Lh F)).length (T7 (Lh F)):=O2.lC az;have fa:(T7 (Lh F)).length+1<=4000000:=by rw[Te,Sc];omega
        have dl:=Hd (J0 (ex:=fun x=>x=X.heap.size) dv (C0.setCell (ex:=fun x=>x=X.heap.size) (p:=⟨X.heap.size,n,none⟩) (C0.refl _ _) (fun _=>rfl) (.int .i64 (F.length:Int))) (fun b V e=>by have:=d0 b V;omega));have cp:=a5.set n (.int .i64 (F.length:Int));rw[U3,List.set_set]at cp;have ax:=av.setCell (p:=⟨X.heap.size,n,none⟩) (zD _) (.int .i64 (F.length:Int));have HQ:=Hd4 ap cp ax d0;obtain⟨M,b8⟩:∃M,wr.setCell ⟨X.heap.size,n,none⟩ (.int .i64 (F.length:Int))=M:=⟨_,rfl⟩;rw[b8]at dl HQ;have ge:=HQ.out.2.1.lt;clear ea ap d0 dv cp ax bz az a5 av hD aa J hA an hv af a7;go_upto_region 16 with fail
        try rw[b8]
        clear b8;go_wp2_with(at_builtin;(refine Df Tryz.underlying60 Tryz.cG rfl (by omega) (la:=T7 (Lh F)) (ll:=[.int .i64 n]) (va:=.slice fd F.length a0) (vl:=.slice (some ⟨M.heap.size,0,none⟩) 1 1) (by rfl) _ _ (by rfl) (by rfl) (by rfl) (Dm dl.out _) (Ef M 3 (.int .i64 n)) (fun u hu=>by rw[zJ]at hu;rw[hu];rfl) (X.heap.size+1) (by simp;omega) HQ.out.2.2.2 fa ?_));intro v6 w6 r1 r2 r3;have ep:=Hd3 r1 r2 r3;clear r1 r2 r3;go_wp2_with fail
        go_roundg (N- (n+1))
        case measure=>omega
        case rel=>
         obtain⟨b1,b2,b3,b4⟩:=HQ.out;obtain⟨r1,r2,r3⟩:=ep.out;refine⟨n+1,F++ [n],_,by go_num,by omega,rfl,b1,?_,fun b V=>r2 b V,(b2.alloc _).kept r3 (fun e=>by have:=b4 _ e;omega),Y2 (b3.alloc b3.size _) r3 (by simp;omega) (fun x hx e=>by have:=b4 x e;omega)⟩;have e9:T7 (Lh (F++ [n]))=T7 (Lh F)++ [.int .i64 n]:=by simp[T7,Lh]
         exact O2.fC (by rw[e9];simpa using r1)
      ·obtain⟨s0,eb,fe,cd⟩:∃s0,∃h:s0<F.length,v=(s0:Int)/\¬Uf g K (F[s0]:Int) (n:Int):=by
        rcases hv with⟨e,_⟩|h
        ·exact absurd e d7
        ·exact h
       subst fe;have ap:=HK.out.1.eY (by rw[<-HN.out];exact ad) eb ((Pt HC.out.2.2.1.ok (a:=F[s0]) (b:=n) (by have:=af s0 eb;rw[<-HN.out];exact this) (by rw[<-HN.out];exact ad)).2 cd);have e4:decide ((s0:Int)<0)=false:=by simp
       have HQ:=Hd4 ap az a5 av;clear ap az a5 av hD aa J hA an hv af a7 d7 cd
       by_cases a6:t<F.length
       ·have e3:decide ((t:Int)<(F.length:Int))=true:=by simp;omega
        go_wp2_with fail
        go_roundg (N- (n+1))
        case measure=>omega
        case rel=>
         obtain⟨b1,b2,b3,b4⟩:=HQ.out;exact⟨n+1,F,_,by go_num,by omega,rfl,b1,b2,HK.out.2.2.1,b3,b4⟩
       ·have e3:decide ((t:Int)<(F.length:Int))=false:=by simp;omega
        go_wp2_with fail
        go_roundg (N- (n+1))
        case measure=>omega
        case rel=>
         obtain⟨b1,b2,b3,b4⟩:=HQ.out;exact⟨n+1,F,_,by go_num,by omega,rfl,b1,b2,HK.out.2.2.1,b3,b4⟩
  ·obtain rfl:n=N:=by omega
   have e0:decide ((n:Int)<(n:Int))=false:=by simp
   have f1:=hI.bV;obtain⟨hD,aa,J,hA,an⟩:=H2.out;have be:Bw w wr:=J.trans (hB.mono J.size);have b7:=ew.out.aA be;have f2:=(HC.out.2.1.aA be).aO;have HW:Hid (∀W,C0 (fun b=>b=xb) wr W->K3 W lo fb tv sv ov T S To/\O2 W (.slice fd F.length a0) (Lh F)/\Blk W w.heap.size (Z0 al) 4/\Blk W X.heap.size (N3 st) 3):=Hd fun W k=>⟨(HC.out.2.1.aA be).iC b7.aO k,J0 hR k (fun b V e=>by subst e;exact K0 hR b7.aO (by decide) V),(hA.aA hB).kept k ((hA.aA hB).ne b7.aO (by decide)),aj.kept k (aj.ne b7.aO (by decide))⟩
   have en:Hid (∀W ef ed dr dq dp dc,XO wr W xb rv pn pv ef ed dr dq dp dc->Jh W xb rs f aD):=Hd fun W ef ed dr dq dp dc h=>(HC.out.1.aA be).jB b7 h.kept h.x
   have HI:=Hd3 hI be b7;have a7:st.length=n:=by rw[hI.len,<-HN.out]
   have ce:al.length=n:=an;have af:∀q,(h:q<F.length)->F[q]<n:=fun q h=>hI.lt h
   have em:=Hd af;have b9:=Hd2 a7 ce;clear hI hR bw aj hB hD aa J hA an be b7 f2 a7 ce af;obtain⟨wz,rfl⟩:∃wz:World,wz=wr:=⟨_,rfl⟩;go_wp2_with fail
   go_loopg[10] F.length (fun G sv wr=>∃(s:Nat) (xt xo xf:Value) (OX:List (Nat×List Int)) (FX:List Int),sv=.int .i64 s/\s<=F.length/\G=F.length-s/\XO wz wr xb rv pn pv xt xo xf (Lm T F s) OX FX/\SP (fun i b=>W0 (WL g) (i:Int) (kd b)) (fun i=>(WL g).aB.getD i 0) s OX FX)
   case atStart=>exact⟨0,_,_,_,[],[],rfl,by omega,rfl,⟨HI.out.2.2,C0.refl _ _,fun b V=>by simp[Value.ownBlock]at V,fun b V=>by simp[Value.ownBlock]at V,fun b V=>by simp[Value.ownBlock]at V⟩,SP.start⟩
   case round=>
    obtain⟨s,xt,xo,xf,OX,FX,rfl,hs,rfl,bx,bu⟩:=hrel
    by_cases U:s<F.length
    ·have e1:decide ((s:Int)<(F.length:Int))=true:=by simp;omega
     have g6:=XN;have HX:=Hd2 bx bu;clear bx bu;obtain⟨wo,rfl⟩:∃wo:World,wo=wr:=⟨_,rfl⟩;rcases cx with e|⟨fg,rfl⟩
     ·omega
     obtain⟨fs,cy⟩:∃fs,F[s]=fs:=⟨_,rfl⟩;have c9:fs<n:=by rw[<-cy];exact em.out s U
     have ba:=Hd cy;clear cy;go_wp2_with fail
     go_loopg[12] 256 (fun G bv wr=>∃(b:Nat) (l:List Int),bv=.int .i64 b/\b<=256/\G=256-b/\l.length=256/\(∀c,c<b->l.getD c 0=UC al st (W0 g (fs:Int) (kd c)))/\Blk wr wo.heap.size (N3 l) 3/\Bw wo wr)
     case atStart=>exact⟨0,ZE,rfl,by omega,rfl,Qy,fun c hc=>by omega,Blk.aQ _ _ _,P0 _ _⟩
     case round=>
      obtain⟨b,l,rfl,V,rfl,hl,hv,aw,bb⟩:=hrel;have cn:=HX.out.1.kept.aA bb;obtain⟨bc,bk,bh,bm⟩:=HW.out wr cn
      by_cases aq:b<256
      ·have e2:decide ((b:Int)<256)=true:=by simp;omega
       have cl:=O5 aw b (by rw[hl];exact aq);generalize l.getD b 0=y at cl;have fl:=aw.frozen b;have zl:=aw.lt;have b0:(0:Int)<=(b:Int):=by omega
       have b1:(b:Int)<256:=by omega
       have ax:=aw.set b (.int .i64 (-1));rw[U3]at ax;have bj:=bb.setCell (p:=⟨wo.heap.size,b,none⟩) (zD _) (.int .i64 (-1));obtain⟨w4,d8⟩:∃w4,wr.setCell ⟨wo.heap.size,b,none⟩ (.int .i64 (-1))=w4:=⟨_,rfl⟩;rw[d8]at ax bj;have Y:=Hd4 ax bj hl hv;clear ax bj aw bb cn bc bk bh bm hl hv;go_upto_region 25 with fail
       try rw[d8]
       clear d8 cl fl zl;obtain⟨bc,bk,bh,bm⟩:=HW.out w4 (HX.out.1.kept.aA Y.out.2.1);have a8:=HC.out.2.2.1;have ag:To.length=n:=by rw[a8.ol,HN.out]
       obtain⟨og,ae,c2,co⟩:=bc.to (by rw[ag];omega);rw[ag]at c2;obtain⟨c3,c4⟩:=co fs (by rw[ag];exact c9);have c5:=c4 b aq;rw[a8.step fs b (by rw[ag];exact c9) aq]at c5;have cf:w4.cell? ⟨fg,s,none⟩=some (.int .i64 fs):=by
        have h9:O2 w4 (.slice (some ⟨fg,0,none⟩) (Lh F).length a0) (Lh F):=by rw[Sc];exact bk
        have h8:=h9.getD s (by rw[Sc];exact U);rw[Zm F U,ba.out]at h8;exact h8
       have s0:(0:Int)<=(s:Int):=by omega
       have s1:(s:Int)<(F.length:Int):=by omega
       have q0:(0:Int)<=(fs:Int):=by omega
       have q1:(fs:Int)<(n:Int):=by omega
       have da:=bc.aO.lt;obtain⟨tt,d4⟩:∃tt,W0 g (fs:Int) (kd b)=tt:=⟨_,rfl⟩;have cz:=a8.leads (i:=fs) (b:=b) (by rw[<-HN.out];exact c9) aq;rw[d4]at c5 cz;rw[<-HN.out]at cz;generalize To[fs].1=ob at c3 c5;have ci:=Hd d4;have HM:=Hd2 bh bm;clear d4 a8 ag co c4 bc bk bh bm;go_quiet(fail);obtain⟨M,b8⟩:∃M,w4.drewN nq=M:=⟨_,rfl⟩;have ai:Hid (Bw w4 M):=Hd (by rw[<-b8];exact A2 (Below.refl _ _) _);rw[b8];clear b8 c2 c3 c5 cf;rcases cz with rfl|⟨t,ht,rfl⟩
       ·have e3:decide ((0:Int)<= -1)=false:=by simp
        go_wp2_with fail
        go_roundg (256- (b+1))
        case measure=>omega
        case rel=>
         obtain⟨a1,a2,a3,a4⟩:=Y.out;refine⟨b+1,l.set b (-1),by go_num,by omega,rfl,by rw[xD];exact a3,fun c hc=>?_,a1.aA ai.out,a2.trans (ai.out.mono a2.size)⟩;rw[Db _ _ _ _ (by omega)];split
         ·rename_i e;subst e;rw[ci.out];unfold UC;rw[Mb];rfl
         ·exact a4 c (by omega)
       ·have e3:decide ((0:Int)<=(t:Int))=true:=by simp
        have ca:=N2 (HM.out.1.aA ai.out) t (by have:=b9.out.2;omega);have t0:(0:Int)<=(t:Int):=by omega
        have t1:(t:Int)<(n:Int):=by omega
        generalize hx:al.getD t false=x at ca;have dn:=Hd hx;clear hx;cases x with
        |false=>
         go_wp2_with fail
         go_roundg (256- (b+1))
         case measure=>omega
         case rel=>
          obtain⟨a1,a2,a3,a4⟩:=Y.out;refine⟨b+1,l.set b (-1),by go_num,by omega,rfl,by rw[xD];exact a3,fun c hc=>?_,a1.aA ai.out,a2.trans (ai.out.mono a2.size)⟩;rw[Db _ _ _ _ (by omega)];split
          ·rename_i e;subst e;rw[ci.out];unfold UC;rw[Na,dn.out];rfl
          ·exact a4 c (by omega)
        |true=>
         have cs:=O5 (HM.out.2.aA ai.out) t (by have:=b9.out.1;omega);generalize hy:st.getD t 0=y at cs;have HY:=Hd hy;clear hy;have bi:=Y.out.1.aA ai.out;have cl:=O5 bi b (by rw[xD,Y.out.2.2.1];exact aq);generalize(l.set b (-1)).getD b 0=z at cl;have fl:=bi.frozen b;have zl:=bi.lt;have ei:=Hd bi;clear bi;go_wp2_with fail
         go_roundg (256- (b+1))
         case measure=>omega
         case rel=>
          obtain⟨a1,a2,a3,a4⟩:=Y.out;have h7:=ei.out.set b (.int .i64 y);rw[U3,List.set_set]at h7;refine⟨b+1,l.set b y,by go_num,by omega,rfl,by rw[xD];exact a3,fun c hc=>?_,h7,(a2.trans (ai.out.mono a2.size)).setCell (p:=⟨wo.heap.size,b,none⟩) (zD _) _⟩;rw[Db _ _ _ _ (by omega)];split
          ·rename_i e;subst e;rw[ci.out];unfold UC;rw[Na,dn.out,zH,HY.out];rfl
          ·exact a4 c (by omega)
      ·obtain rfl:b=256:=by omega
       have e2:decide (((256:Nat):Int)<256)=false:=by simp
       have ak:=HX.out.1.aA bb;obtain⟨_,od,ae,e',_⟩:=L0 ak.x.bP.row;have du:=HX.out.2.ol;have c4:wr.cell? ⟨xb,4,none⟩=some (.slice od OX.length ae):=by rw[<-e'];exact ak.x.aO.cell 4
       have HO:Hid (xo=.slice od OX.length ae):=Hd e';have zx:=ak.x.aO.lt;have fo:wz.heap.size<=wr.heap.size:=ak.kept.size;have dx:(OX.map (fun p:Nat×List Int=>slV 256 p.1)).length+1<=4000000:=by rw[yA,du];omega
       have HA:Hid ((wr.alloc (.cells #[slV 256 wo.heap.size] 60)).ownsRow 0 60 1 (.slice od OX.length ae) (OX.map (fun p:Nat×List Int=>slV 256 p.1)).length (OX.map (fun p:Nat×List Int=>slV 256 p.1))):=by rw[<-e',yA];exact Hd (Dm ak.x.bP.row _)
       have di:Hid (∀x,(Value.slice od OX.length ae).ownBlock=some x->wz.heap.size<=x):=by rw[<-e'];exact Hd ak.o2
       have cg:xf.ownBlock≠some wo.heap.size:=fun e=>by have:=M1 HX.out.1.x.of _ e;omega
       have HJ:=Hd6 ak hl hv aw bb cg;clear ak hl hv aw bb cg cn bc bk bh bm e' du;go_wp2_with(at_builtin;(refine Df Tryz.underlying61 Tryz.dP rfl (by omega) (la:=OX.map (fun p:Nat×List Int=>slV 256 p.1)) (ll:=[slV 256 wo.heap.size]) (va:=.slice od OX.length ae) (vl:=.slice (some ⟨wr.heap.size,0,none⟩) 1 1) (by rfl) _ _ (by rfl) (by rfl) (by rfl) HA.out (Ef wr 60 (slV 256 wo.heap.size)) (fun u hu=>by rw[zJ]at hu;rw[hu];rfl) wz.heap.size (by simp;omega) di.out dx ?_));intro v6 w6 r1 r2 r3;obtain⟨d6,m6,a9,rfl⟩:∃d6 m6 a9,v6=.slice d6 m6 a9:=by obtain⟨_,d6,a9,e,_⟩:=L0 r1;exact⟨_,_,_,e⟩
       obtain⟨j1,j2,j3,j4,j5,j6⟩:=HJ.out;have bn:=j1.aA (P0 wr (.cells #[slV 256 wo.heap.size] 60));have b6:Blk w6 xb #[rv,pn,pv,xt,xo,xf] 78:=bn.x.aO.kept r3 (fun e=>by rw[<-HO.out]at e;exact K0 bn.x.bP.row bn.x.aO (by decide) e);have c6:w6.cell? ⟨xb,4,none⟩=some xo:=b6.cell 4;have f6:=b6.frozen 4;have cr:=bn.to (j4.aA (P0 wr (.cells #[slV 256 wo.heap.size] 60))) j2 j6 (by simpa using r1) r2 (by rw[HO.out];exact r3);obtain⟨w7,d9⟩:∃w7,w6.setCell ⟨xb,4,none⟩ (.slice d6 m6 a9)=w7:=⟨_,rfl⟩;rw[d9]at cr;have au:=Hd cr;clear r1 r2 r3 bn b6 cr HA di dx j1 j2 j3 j4 j5 j6;go_upto_region 29 with fail
       try rw[d9]
       clear d9 c6 f6 c4 zx fo;obtain⟨ii,f7,fj,fk,fm⟩:=info_parts Tryz.eV;obtain⟨ij,f8,ff,fh,fi⟩:=info_parts Tryz.cG;obtain⟨ay,bl,_,_⟩:=HW.out w7 au.out.kept;have a8:=HC.out.2.2.1;have a6:T.length=n:=by rw[a8.tl,HN.out]
       obtain⟨g8,fp,t0,tc⟩:=ay.eQ (by rw[a6];omega);rw[a6]at t0;have bo:fs<T.length:=by rw[a6];exact c9
       have ct:=tc fs bo;have ec:=a8.size fs bo;have d3:=fun r=>a8.bN fs r bo
       have d5:T.getD (F.getD s 0) noT=T[fs]:=by
        rw[zC (l:=F),zF U,Option.getD_some,ba.out,zC,zF bo,Option.getD_some]
       obtain⟨tx,bq⟩:∃tx,T[fs]=tx:=⟨_,rfl⟩;rw[bq]at ct ec d3 d5;have ev:=Hd d5;have dm:Hid (T[fs]=tx):=Hd bq;have et:=Hd d3;have cf:w7.cell? ⟨fg,s,none⟩=some (.int .i64 fs):=by
        have h9:O2 w7 (.slice (some ⟨fg,0,none⟩) (Lh F).length a0) (Lh F):=by rw[Sc];exact bl
        have h8:=h9.getD s (by rw[Sc];exact U);rw[Zm F U,ba.out]at h8;exact h8
       have s0:(0:Int)<=(s:Int):=by omega
       have s1:(s:Int)<(F.length:Int):=by omega
       have q0:(0:Int)<=(fs:Int):=by omega
       have q1:(fs:Int)<(n:Int):=by omega
       have da:=ay.aO.lt;obtain⟨_,xd,ar,e',_⟩:=L0 au.out.x.txt;have br:=Yr T F hs;rw[br]at e';subst e';have k3:w7.cell? ⟨xb,3,none⟩=some (.slice xd s ar):=au.out.x.aO.cell 3;have kf:=au.out.x.aO.frozen 3;have zx:=au.out.x.aO.lt;have am:=au.out.aA (w':=(w7.alloc (.cells #[.string tx] 9)).drew) (Y1 (P0 _ _));have ag:=am.x.txt;rw[br]at ag;have dg:=Hd ag;have bf:some xb≠(Value.slice xd s ar).ownBlock:=fun e=>K0 am.x.txt am.x.aO (by decide) e.symm
       have CW:Hid ((w7.alloc (.cells #[.string tx] 9)).drew.cell? ⟨xb,3,none⟩=some (.slice xd s ar)):=Hd (am.x.aO.cell 3);have FW:=Hd (am.x.aO.frozen 3);have de:Hid ((w7.alloc (.cells #[.string tx] 9)).drew.heap[w7.heap.size]?=some (.cells #[.string tx] 9 (0,0))):=Hd (heap_alloc_new w7 (.cells #[.string tx] 9));have ck:Hid (xb<(w7.alloc (.cells #[.string tx] 9)).drew.heap.size):=Hd am.x.aO.lt;have dd:Hid (s+1<=maxLen):=Hd (by unfold maxLen;omega);have ek:Hid ((s+1)*16<=140737488355328):=Hd (by omega);have ej:Hid ((s+1)*8<=140737488355328):=Hd (by omega);have cj:=Hd am;have fn:wz.heap.size<=w7.heap.size:=au.out.kept.size;clear d5 d3 bq a8 a6 tc ay bl br am ag
       go_cut[] (fun wx=>∃bs,XO wz wx xb rv pn pv bs (.slice d6 m6 a9) xf (Lm T F (s+1)) (OX++ [(wo.heap.size,l)]) FX)
       case first=>
        go_region_law ((refine step_append_lies _ (by rfl) _ _ _ (by rfl) 0 9 ii _ 1 16 Tryz.underlying76 f7 fj fk fm rfl (Nat.one_pos) (.slice xd s ar) s ((Lm T F s).map Value.string) (by rfl) dg.out ⟨w7.heap.size,0,none⟩ 1 1 [.string tx] (by rfl) (by rfl) (World.news_of_block (cs:=#[.string tx]) (t:=9) (fr:=(0,0)) de.out) (by simp[Value.oneCell']) (Nat.one_pos) dd.out ek.out (yC _) (w7.heap.size+1) (by simp) ?_;intro gg bg w8 ac B ao e7;have ey:=(B.cell_far ⟨xb,3,none⟩ ck.out bf).trans CW.out;have f0:=(B.frozen_far ⟨xb,3,none⟩ ck.out bf).trans FW.out))
        all_goals
         have ch:=Hd3 ac (W7 (O:=fun b=>(Value.slice xd s ar).ownBlock=some b) B (fun k e=>e)) ao;clear ac B ao;go_wp2_with fail;go_meet;obtain⟨g1,g2,g3⟩:=ch.out;refine⟨.slice (some ⟨gg,0,none⟩) (s+1) bg,?_⟩;rw[OS T F U,ev.out];refine cj.out.text (by simpa[Yr T F hs]using g1) (fun b V=>?_) g2;cases(zE V:gg=b);rcases g3 with e|e
         ·exact cj.out.o1 _ e
         ·omega
       case rest=>
        obtain⟨bs,ab⟩:=hcut;clear dg CW FW de ck cj k3 kf zx t0 ct cf da bf fn;obtain⟨ay,bl,_,_⟩:=HW.out wc ab.kept;have a8:=HC.out.2.2.1;have a6:T.length=n:=by rw[a8.tl,HN.out]
        obtain⟨g9,fq,t0,tc⟩:=ay.eQ (by rw[a6];omega);rw[a6]at t0;have ct:=tc fs bo;rw[dm.out]at ct;have cf:wc.cell? ⟨fg,s,none⟩=some (.int .i64 fs):=by
         have h9:O2 wc (.slice (some ⟨fg,0,none⟩) (Lh F).length a0) (Lh F):=by rw[Sc];exact bl
         have h8:=h9.getD s (by rw[Sc];exact U);rw[Zm F U,ba.out]at h8;exact h8
        have da:=ay.aO.lt;have c8:=HX.out.2.fl;obtain⟨ah,Z,e5,_⟩:=ab.x.of.aT;rw[c8]at e5;subst e5;have k5:wc.cell? ⟨xb,5,none⟩=some (.slice ah s Z):=ab.x.aO.cell 5;have kf:=ab.x.aO.frozen 5;have zx:=ab.x.aO.lt;have dt:=en.out wc _ _ _ _ _ _ ab;have eu:Hid (∀W,Bw wc W->Calls Tryz.prog 57 #[.pointer (some ⟨xb,0,none⟩),.string tx] W fun e w'=>∃r,e=.returned (.int .i64 r)/\LD aD (Q0 tx) r/\Bw W w'):=Hd fun W k=>Wo xb rs tx f aD W (dt.aA k) ec
        have dk:Hid (∀M,Bw wc M->Blk M xb #[rv,pn,pv,bs,.slice d6 m6 a9,.slice ah s Z] 78):=Hd fun M k=>(ab.aA k).x.aO
        have HQ:Hid (∀M r,Bw wc M->XO wz (M.alloc (.cells #[.int .i64 r] 3)) xb rv pn pv bs (.slice d6 m6 a9) (.slice ah s Z) (Lm T F (s+1)) (OX++ [(wo.heap.size,l)]) FX):=Hd fun M r k=>(ab.aA k).aA (P0 _ _)
        have eo:Hid (∀M r,Bw wc M->(M.alloc (.cells #[.int .i64 r] 3)).ownsRow 0 3 1 (.slice ah s Z) s (T7 FX)):=Hd fun M r k=>by
         have h1:=(HQ.out M r k).x.of.lC;rw[Te,c8]at h1;exact h1
        have bf:some xb≠(Value.slice ah s Z).ownBlock:=fun e=>K0 ab.x.of ab.x.aO (by decide) e.symm
        have el:=Hd c8;clear a8 a6 tc ay bl c8 dt ab;go_upto_region 30 with fail
        go_region_law (first
         |(refine step_append_lies _ (by rfl) _ _ _ (by rfl) 0 3 ij _ 1 8 Tryz.underlying60 f8 ff fh fi rfl (Nat.one_pos) (.slice ah s Z) s (T7 FX) (by rfl) dh.out ⟨M.heap.size,0,none⟩ 1 1 [.int .i64 r] (by rfl) (by rfl) (World.news_of_block (cs:=#[.int .i64 r]) (t:=3) (fr:=(0,0)) df.out) (by simp[Value.oneCell']) (Nat.one_pos) dd.out ej.out (yC _) (M.heap.size+1) (by simp) ?_;intro gg bg w8 ac B ao e7;have ey:=(B.cell_far ⟨xb,5,none⟩ cc.out bf).trans eg.out;have f0:=(B.frozen_far ⟨xb,5,none⟩ cc.out bf).trans eh.out)
         |(go_simp;go_wp2_with(go_at_call 57;refine(eu.out _ (Y1 (Below.refl _ _))).mono ?_;rintro e M ⟨r,rfl,hr,dy⟩;have Y:Hid (Bw wc M):=Hd ((Y1 (Below.refl _ _)).trans (dy.mono (zD _)));have fy:M.cell? ⟨xb,5,none⟩=some (.slice ah s Z):=(dk.out M Y.out).cell 5;have ga:xb<M.heap.size:=(dk.out M Y.out).lt;have dh:=Hd (eo.out M r Y.out);have df:Hid ((M.alloc (.cells #[.int .i64 r] 3)).heap[M.heap.size]?=some (.cells #[.int .i64 r] 3 (0,0))):=Hd (heap_alloc_new M (.cells #[.int .i64 r] 3));have cc:=Hd (HQ.out M r Y.out).x.aO.lt;have eg:Hid ((M.alloc (.cells #[.int .i64 r] 3)).cell? ⟨xb,5,none⟩=some (.slice ah s Z)):=Hd ((HQ.out M r Y.out).x.aO.cell 5);have eh:=Hd ((HQ.out M r Y.out).x.aO.frozen 5);have er:=Hd hr;clear hr dy)))
        all_goals
         have ch:=Hd5 ac (W7 (O:=fun b=>(Value.slice ah s Z).ownBlock=some b) B (fun k e=>e)) ao er.out Y.out;clear ac B ao;go_wp2_with fail
         go_roundg (F.length- (s+1))
         case measure=>omega
         case rel=>
          obtain⟨g1,g2,g3,g4,g5⟩:=ch.out;have f4:Y9 g K F:=StI.fJ (by rw[<-HN.out];exact HI.out.1);refine⟨s+1,bs,_,.slice (some ⟨gg,0,none⟩) (s+1) bg,_,FX++ [r],by go_num,by omega,rfl,(HQ.out M r g5).aB ?_ (fun b V=>?_) g2,HX.out.2.next (fun b V=>?_) ?_⟩
          ·refine O2.fC ?_;rw[Te,zL,el.out];simpa[T7]using g1
          ·cases(zE V:gg=b);rcases g3 with e|e
           ·exact .inl e
           ·right;rw[e];simp
          ·have h1:=HJ.out.2.2.1 b V;have h2:=StI.next (al:=al) HC.out.2.2.2.1 (by rw[<-HN.out];exact HI.out.1) (fun i hi=>H4.out i (by rw[HN.out];exact hi)) U (HC.out.2.2.1.lF b V);rw[ba.out]at h2;rw[h1,h2];rfl
          ·have h1:=f4.aB HC.out.2.2.2.1 U;rw[ba.out]at h1;rw[et.out r g4];exact h1.symm
    ·have e1:decide ((s:Int)<(F.length:Int))=false:=by simp;omega
     have HX:=Hd2 bx bu;clear bx bu;go_wp2_with fail
     go_end0
     obtain⟨b1,b2⟩:=HX.out;have es:s=F.length:=by omega
     subst es;obtain⟨q1,q2,q3⟩:=HI.out;have f3:C0 (fun b=>b=xb) w wr:=(C0.aM q2).trans b1.kept (fun _ _ e=>e);refine⟨rfl,F,_,_,_,OX,FX,(StI.fJ (by rw[<-HN.out];exact q1)),⟨b1.x,f3,fun b V=>?_,fun b V=>?_,fun b V=>?_⟩,b2⟩
     ·exact yK q2.size (b1.o1 b V)
     ·exact yK q2.size (b1.o2 b V)
     ·exact yK q2.size (b1.o3 b V)
def Ev(s:ByteArray)(w:World)(b:Nat):Prop:=∀kd g,newF s=.lexer kd g->∃f,N6 w b kd g f/\Lp kd g f
theorem Ev.aA(s:ByteArray)(w w':World)(b:Nat)(h:Ev s w b)(k:Bw w w'):Ev s w' b:=fun kd g G=>by
 obtain⟨f,B,D⟩:=h kd g G;exact⟨f,B.aA k,D⟩
theorem XQ{s:ByteArray}(h:120<s.size):newF s=.bad 1 0:=by unfold newF;rw[if_pos h]
theorem CV{s:ByteArray}(h:s.size<=120)(f:(Pa s).1=false):newF s=.bad 2 (Pa s).2.1:=by unfold newF;rw[if_neg (by omega),if_pos f]
theorem YQ{s:ByteArray}(h:s.size<=120)(f:(Pa s).1=true)(B:E6 (Pa s).2.2 (V0 (Pa s).2.2.aJ 256)=none):newF s=.bad 3 0:=by
 unfold newF;rw[if_neg (by omega),if_neg (by simp[f])];unfold A4;rw[B]
theorem SL{s:ByteArray}{g:B0}(h:s.size<=120)(f:(Pa s).1=true)(B:E6 (Pa s).2.2 (V0 (Pa s).2.2.aJ 256)=some g):newF s=.lexer (Z2 (Pa s).2.2.aJ) (WL g):=by
 unfold newF;rw[if_neg (by omega),if_neg (by simp[f])];unfold A4;rw[B];rfl
theorem SI(s:ByteArray)(h:120<s.size):Mj (Ev s) s:=by
 intro w;rw[XQ h];have f:=Hd (Am s w);have B:decide (s.size<=120)=false:=by simp;omega
 rw[B]at f;clear h B;go_enter Tryz.func12,Tryz.ntmps12;go_wp2_with fail;refine f.out.mono ?_;rintro e D ⟨rfl,rfl⟩;go_wp2_with fail
 go_ret3
 exact⟨Below.refl _ _,rfl⟩
theorem LM(s:ByteArray)(h:s.size<=120)(B:(Pa s).1=false):Mj (Ev s) s:=by
 intro w;rw[CV h B];have D:=Hd (Am s w);have G:decide (s.size<=120)=true:=by simp[h]
 rw[G]at D;have f:=Hd (Ar s w h);rw[EC s,if_neg (by simp[B])]at f;generalize(Pa s).2.1=p at f⊢;have M:decide ((0:Int)<=(p:Int))=true:=by simp
 clear h G B;go_enter Tryz.func12,Tryz.ntmps12;go_wp2_with fail;refine D.out.mono ?_;rintro e K ⟨rfl,rfl⟩;go_wp2_with fail;refine f.out.mono ?_;rintro e K ⟨rfl,J⟩;go_wp2_with fail
 go_ret3
 exact⟨J,rfl⟩
theorem RI(s:ByteArray)(hs:s.size<=120)(h2:(Pa s).1=true):Mj (Ev s) s:=by
 intro w;obtain⟨X,hX⟩:∃X,newF s=X:=⟨_,rfl⟩;rw[hX];have b5:=Hd hX;clear hX;have HF:=Hd (Am s w);have e0:decide (s.size<=120)=true:=by simp[hs]
 rw[e0]at HF;have HP:=Hd (Ar s w hs);rw[EC s,if_pos h2]at HP;obtain⟨ts,a5,am⟩:=VX h2 hs;have B:=RSp.bU ts 0 a5.sp (yC _);have bb:=Hd (fun w=>XE s ts w hs a5.sp);have HS:=Hd5 hs h2 a5 am B;have e1:decide ((0:Int)<= -1)=false:=by simp
 clear hs h2 e0 a5 am B;go_enter Tryz.func12,Tryz.ntmps12;go_wp2_with fail;refine HF.out.mono ?_;rintro e w0 ⟨rfl,c9⟩;obtain rfl:=c9.symm;go_wp2_with fail;refine HP.out.mono ?_;rintro e w1 ⟨rfl,Z⟩;have an:=Hd (bb.out w1);clear bb HP HF;go_wp2_with fail;refine an.out.mono ?_;rintro e h ⟨v,f,rfl,V,a1,az,cc⟩;obtain⟨_,vd,D,rfl,c8⟩:=L0 V.row;have cf:J1 (ntL f)<=1000:=by rw[a1];have:=HS.out.2.2.2.2;have:=HS.out.1;omega
 have J:f≠ []:=by
  intro e;subst e;have:=HS.out.2.2.1.sp;have e2:ts= []:=by simpa[ntL]using a1.symm
  rw[e2]at this;exact this
 have cb:0<f.length:=List.length_pos_iff.2 J;rcases c8 with⟨_,e⟩|⟨vg,vc,rfl,_⟩
 ·omega
 have ae:WfL s (ntL f):=by rw[a1];exact RSp.wf ts 0 HS.out.2.2.1.sp
 have bk:Bw w1 h:=az;have ay:Bw w h:=Z.trans (az.mono Z.size);have bh:NI h.heap.size (h.alloc (.cells #[.slice (some ⟨vg,0,none⟩) f.length D,.int .i64 0,.slice none 0 0,.slice none 0 0,.slice none 0 0,.slice none 0 0] 78)) s h.heap.size (.slice (some ⟨vg,0,none⟩) f.length D) (.slice none 0 0) f 0 0:=
  ⟨Blk.aQ _ _ _,Dm V.row _,AtL.kept (ex:=fun _=>False) (C0.aM (P0 _ _)) _ V.cZ (fun _ _ e=>e),World.ownsRow_nil _ _ _ _,fun x hx=>AtL.lt _ V.cZ x hx,fun x hx=>M1 V.row x hx,zD _,fun x hx=>by simp[Value.ownBlock]at hx⟩
 have bu:Hid (∀x,Pd f x->w.heap.size<=x):=Hd fun x hx=>yK Z.size (V.own x hx).1
 have av:w.heap.size<=h.heap.size:=ay.size;have M:=Hd6 bh ay ae V.bR a1 J;clear bh ay ae a1 J V Z az bk an;go_wp2_with fail
 go_loopg[8] f.length (fun G rv wr=>∃(r:Nat) (pv:Value),rv=.int .i64 r/\r<=f.length/\G=f.length-r/\NI h.heap.size wr s h.heap.size (.slice (some ⟨vg,0,none⟩) f.length D) pv f r r/\Bw w wr)
 case atStart=>exact⟨0,_,rfl,by omega,rfl,M.out.1,M.out.2.1.alloc M.out.2.1.size _⟩
 case round=>
  obtain⟨r,pv,rfl,hr,rfl,hI,hB⟩:=hrel;have c0:wr.cell? ⟨h.heap.size,0,none⟩=some (.slice (some ⟨vg,0,none⟩) f.length D):=hI.aO.cell 0;have zx:=hI.aO.lt
  by_cases a0:r<f.length
  ·have e2:decide ((r:Int)<(f.length:Int))=true:=by simp;omega
   have cg:wr.cell? ⟨vg,r,none⟩=some (.pointer (some ⟨f[r].aL,0,none⟩)):=by rw[Y0 hI.row r (by omega)];simp[K5,a0]
   have r0:(0:Int)<=(r:Int):=by omega
   have r1:(r:Int)<(f.length:Int):=by omega
   have c1:wr.cell? ⟨h.heap.size,1,none⟩=some (.int .i64 ((J1 (ntL (f.take r)):Nat):Int)):=hI.aO.cell 1;have f1:=hI.aO.frozen 1;have c5:J1 (ntL (f.take (r+1)))=J1 (ntL (f.take r))+f[r].nt.aH:=by rw[show f.take (r+1)=f.take r++ [f[r]]from(yJ a0).symm,Xl]
   have ab:J1 (ntL (f.take (r+1)))<=J1 (ntL f):=by
    have:=F7 (ntL (f.take (r+1))) (ntL (f.drop (r+1)));have e:ntL f=ntL (f.take (r+1))++ntL (f.drop (r+1)):=by rw[Lb,Lb,Lb,<-yB,yT]
    rw[e,this];omega
   have aa:=zG a0;have ah:Hid (∀W,Bw wr W->Calls Tryz.prog 26 #[.pointer (some ⟨f[r].aL,0,none⟩),.int .i64 ((J1 (ntL (f.take r)):Nat):Int)] W fun e w'=>e=.returned (.int .i64 ((J1 (ntL (f.take r))+f[r].nt.aH:Nat):Int))/\(∀U:MT,U.At W s (Bg (f.take r) 0 C9)->U.At w' s (f[r].num (J1 (ntL (f.take r))) (Bg (f.take r) 0 C9)))/\C0 (fun x=>x∈f[r].blks) W w'):=
    Hd fun W k=>EO f[r] W s _ _ ((Tc f).1 (hI.aA k).cL _ aa) (by omega)
   have c4:J1 (ntL (f.take r))+f[r].nt.aH<=1000:=by omega
   have HI:=Hd2 hI hB;have a6:Hid (∀w5,C0 (fun x=>x∈f[r].blks) wr.drew w5->Blk w5 h.heap.size #[.slice (some ⟨vg,0,none⟩) f.length D,.int .i64 ((J1 (ntL (f.take r)):Nat):Int),pv,.slice none 0 0,.slice none 0 0,.slice none 0 0] 78):=Hd fun w5 k=>(hI.aA (B6 wr)).aO.kept k (fun hx=>by
    have:=hI.jF _ ((Oc f _).2 ⟨f[r],aa,MT.cJ _ _ hx⟩);omega)
   clear hI hB c5 ab;obtain⟨rt,br⟩:∃rt,f[r].aL=rt:=⟨_,rfl⟩;obtain⟨pn,a2⟩:∃pn,J1 (ntL (f.take r))=pn:=⟨_,rfl⟩;obtain⟨pm,ad⟩:∃pm,f[r].nt.aH=pm:=⟨_,rfl⟩;have ba:=Hd a2;have b9:=Hd ad;rw[a2]at c1 a6;rw[a2,ad]at ah c4;rw[br]at ah cg;clear a2 ad br;go_upto_region 11 with fail
   go_cut[] (fun wx=>NI h.heap.size wx s h.heap.size (.slice (some ⟨vg,0,none⟩) f.length D) pv f (r+1) r/\Bw w wx)
   case first=>
    go_region_with (go_at_call 26;refine(ah.out _ (Y1 (Below.refl _ _))).mono ?_;rintro e w5 ⟨rfl,bi,a9⟩;have q1:w5.cell? ⟨h.heap.size,1,none⟩=some (.int .i64 pn):=(a6.out w5 a9).cell 1;have q2:=(a6.out w5 a9).frozen 1;have q3:=(a6.out w5 a9).lt;have bw:=Hd2 bi a9;clear bi a9)
    all_goals
     go_wp2_with fail;go_meet;obtain⟨u1,u2⟩:=bw.out;have u3:=(HI.out.1.aA (B6 wr)).num a0 (by rw[ba.out];exact u1) u2;rw[ba.out,b9.out]at u3;refine⟨u3,(Y2 (Y1 HI.out.2) u2 HI.out.2.size (fun x hx hb=>?_)).setCell (p:=⟨h.heap.size,1,none⟩) av _⟩;have:=bu.out x ((Oc f x).2 ⟨f[r],aa,MT.cJ _ _ hb⟩);omega
   case rest=>
    obtain⟨Y,bd⟩:=hcut;clear ah a6 c1 f1 cg c0 zx HI;have c0:wc.cell? ⟨h.heap.size,0,none⟩=some (.slice (some ⟨vg,0,none⟩) f.length D):=Y.aO.cell 0;have zx:=Y.aO.lt;have cg:wc.cell? ⟨vg,r,none⟩=some (.pointer (some ⟨f[r].aL,0,none⟩)):=by rw[Y0 Y.row r (by omega)];simp[K5,a0]
    have ak:=MT.gC f[r] ((OD (ntL f)).1 M.out.2.2.1 _ (by rw[Lb];exact List.mem_map_of_mem aa));have bl:(match f[r]with|.place ..=>True|.node _ _ k _=>0<k):=by
     cases hh:f[r]with
     |place=>trivial
     |node b v k l=>rw[hh]at ak;simp only[MT.KindOk]at ak;show 0<k;omega
    have b7:=Hd (MV f[r] ak wc s _ ((Tc f).1 Y.cL _ aa) bl (by rw[b9.out];omega));obtain⟨_,pd,a3,e',_⟩:=L0 Y.bL;subst e';have bt:(plL (f.take r)).length+f[r].pl.length<=1000:=by
     have h1:=Xq f;have e:f=f.take (r+1)++f.drop (r+1):=(yT _ _).symm;have c7:plL (f.take (r+1))=plL (f.take r)++f[r].pl:=by rw[(yJ a0).symm,Ye];simp[plL]
     rw[e,Ye,c7]at h1;rw[<-e]at h1;simp only[zL]at h1;omega
    have ax:=Hd2 Y bd;clear Y bd ak bl;go_wp2_with fail;refine b7.out.mono ?_;rintro e w5 ⟨v1,rfl,q1,q2,q3⟩;have a4:=ax.out.1.aA q3;have be:Bw w w5:=ax.out.2.trans (q3.mono ax.out.2.size);have c2:w5.cell? ⟨h.heap.size,2,none⟩=some (.slice pd (plL (f.take r)).length a3):=a4.aO.cell 2;have z5:=a4.aO.lt;have bj:w5.ownsRow 0 80 1 (.slice pd (plL (f.take r)).length a3) ((plL (f.take r)).map MT.aL).length (K5 ((plL (f.take r)).map MT.aL)):=by rw[yA];exact a4.bL
    have Z:w5.ownsRow 0 80 1 v1 (f[r].pl.map MT.aL).length (K5 (f[r].pl.map MT.aL)):=by rw[yA];exact q1
    have au:((plL (f.take r)).map MT.aL).length+(f[r].pl.map MT.aL).length<=4000000:=by rw[yA,yA];omega
    have bm:h.heap.size<=w5.heap.size:=by omega
    have af:=Hd3 bj Z a4.kG;have H5:=Hd2 a4 be;clear bj Z a4 be q1 q2 q3 b7 cg c0;generalize aq:(plL (f.take r)).length=pll at c2 af bt H5;have b8:=Hd aq;clear aq;go_wp2_with(at_builtin;(refine VA (la:=(plL (f.take r)).map MT.aL) (ll:=f[r].pl.map MT.aL) (va:=.slice pd pll a3) (vl:=v1) (by rfl) _ _ (by rfl) (by rfl) (by rfl) af.out.1 af.out.2.1 h.heap.size bm af.out.2.2 au ?_));intro v6 w6 r1 r2 r3;obtain⟨d6,m6,a7,e6,ce⟩:∃d6 m6 a7,v6=.slice d6 m6 a7/\m6<=1000:=by
     obtain⟨_,d6,a7,e,_⟩:=L0 r1;exact⟨_,_,_,e,by rw[b8.out];exact bt⟩
    subst e6;have b6:=H5.out.1.aO.kept r3 (fun e=>K0 H5.out.1.bL H5.out.1.aO (by decide) e);have c6:w6.cell? ⟨h.heap.size,2,none⟩=some (.slice pd pll a3):=b6.cell 2;have f6:=b6.frozen 2;have z6:=b6.lt;have HR:=Hd2 (H5.out.1.lE a0 (by simpa using r1) r2 r3) (Y2 H5.out.2 r3 H5.out.2.size (fun x hx e=>by have:=H5.out.1.kG x e;omega));clear r1 r2 r3 b6 au;go_wp2_with fail
    go_roundg (f.length- (r+1))
    case measure=>omega
    case rel=>exact⟨r+1,_,by go_num,by omega,rfl,HR.out.1,HR.out.2.setCell (p:=⟨h.heap.size,2,none⟩) av _⟩
  ·obtain rfl:r=f.length:=by omega
   have e2:decide ((f.length:Int)<(f.length:Int))=false:=by simp
   obtain⟨k1,k2,ae,bo,a1,J⟩:=M.out;obtain⟨hs,h2,a5,am,B⟩:=HS.out;obtain⟨l1,l2,l3⟩:=hI.gH bo ae hs (by omega) J;have bq:(Yq s f).length<=1000:=by rw[LI];have:=Xq f;omega
   have b4:=Hd (ML (Yq s f) h.heap.size wr l2 bq);have HL:=Hd3 l1 l3 hB;clear hI hB l1 l2 l3 k1 k2 ae bo a1 J hs h2 a5 am B bq;go_wp2_with fail;refine b4.out.mono ?_;rintro e w3 ⟨v3,ca,rfl,ar,ao,ap,_,b0⟩;have bg:FT w3 h.heap.size s _ f ts _ v3 ca:=⟨HL.out.1.aA b0,M.out.2.2.2.2.1,HS.out.2.2.1,ar,ao,fun b hb=>by
    obtain⟨k,q1,q2⟩:=ap b hb;exact⟨k,q1,AZ M.out.2.2.2.2.1 HS.out.2.2.2.1 q2⟩⟩
   have aw:=Hd (PI _ _ _ _ _ _ _ _ _ bg);have ag:=Hd b0;clear ar ao ap b0 bg b4;go_wp2_with fail;refine aw.out.mono ?_;rintro e w4 ⟨v4,rfl,bp,a8⟩;have ai:Bw w w4:=(HL.out.2.2.trans (ag.out.mono HL.out.2.2.size)).trans (a8.mono (yK HL.out.2.2.size ag.out.size));rcases bp with⟨rfl,ac⟩|⟨fb,tv,sv,ov,T,S,To,PS,g,rfl,bf,aj,K⟩
   ·have HE:=Hd2 ac ai;clear ac ai a8 aw;go_wp2_with fail
    go_ret3
    rw[<-b5.out,YQ HS.out.1 HS.out.2.1 HE.out.1];exact⟨HE.out.2,rfl⟩
   ·have b1:=aj.gp HS.out.2.2.1 M.out.2.2.2.2.1 K;have b3:=aj.kY K;have bc:=Hd (Xz h.heap.size fb _ _ s _ f tv sv ov T S To g _ _ w4 ((HL.out.1.aA ag.out).aA a8) bf b1 b3 rfl _ _ _ ((HL.out.2.1.aA ag.out).aA a8));have HE:=Hd5 K ai b3 b1 aj;clear K ai a8 aw b1 b3 bf aj;go_wp2_with fail;refine bc.out.mono ?_;rintro e w5 ⟨rfl,bs⟩;have bv:=Hd bs;clear bs bc;go_wp2_with fail
    go_ret3
    obtain⟨F,xt,xo,xf,OX,FX,o1,o2,o3⟩:=bv.out;obtain⟨d1,d2,d3,d4,d5⟩:=HE.out;have b2:=SL HS.out.1 HS.out.2.1 d1;have ab:=o1.len d3;have c3:=Po b2;refine⟨Y2 d2 o2.kept d2.size (fun x hx e=>by omega),?_⟩;rw[<-b5.out,b2];refine⟨h.heap.size,rfl,fun ch g' bn=>?_⟩;rw[b2]at bn
    injection bn with n1 n2
    subst n1 n2;refine⟨Lm T F F.length,⟨⟨_,_,_,_,_,_,OX,FX,o2.x,?_⟩,?_,?_,c3.2⟩,d5.bO o1 d3 rfl d4.tl.symm⟩
    ·have e9:(WL g).aB.length=F.length:=ab.symm;rw[e9];exact o3
    ·rw[Yr T F (zD _)];exact ab
    ·have e9:(WL g).aB.length=F.length:=ab.symm;rw[e9];have bz:0∈F:=(o1.mem 0).2 ⟨⟨d4.cT.1,.inl rfl⟩,fun b hb=>by omega⟩;have cd:=Pg g.aB.length F (o1.bJ.imp (fun bx=>Nat.ne_of_lt bx)) (fun x hx=>((o1.mem x).1 hx).1.1);have:=d4.cT.2;exact⟨List.length_pos_of_mem bz,by omega⟩
theorem Ky(s:ByteArray):Mj (Ev s) s:=by
 by_cases h:120<s.size
 ·exact SI s h
 ·by_cases f:(Pa s).1=true
  ·exact RI s (by omega) f
  ·exact LM s (by omega) (by simpa using f)
structure QY(w:World)(pb xb yb:Nat)(kd:Nat->Nat)(g:B0)(TX:List ByteArray):Prop where
 aO:Blk w pb #[.pointer (some ⟨xb,0,none⟩),.pointer (some ⟨yb,0,none⟩)] 33
 gH:A9 w xb kd g
 ok:B8 kd g
 iV:N6 w yb kd g TX
 txt:Lp kd g TX
theorem NQ(w:World):Calls Tryz.prog 5 #[] w fun e w'=>e=.returned (.bool true)/\Bw w w':=KX (Ev Sf) (Ev.aA Sf) (Ky Sf) w
def JZ(w':World)(e:Ending):CP->Prop
 |.bad c a=>e=.returned (.tuple #[.pointer none,.bool true])
 |.lexer kd g=>∃f xb B h,e=.returned (.tuple #[.pointer (some ⟨f,0,none⟩),.bool true])/\QY w' f xb B kd g h
theorem YU(s:ByteArray)(V:s.size<=maxLen)(w:World):Calls Tryz.prog 6 #[.string s] w fun e w'=>Bw w w'/\JZ w' e (newF s):=
 (ZU (Ev s) (Ev.aA s) s V (Ky s) w).mono fun e w' h=>by
  refine⟨h.1,?_⟩;have f:=h.2;cases hX:newF s with
  |bad c a=>rw[hX]at f;exact f
  |lexer kd g=>
   rw[hX]at f;obtain⟨W,xb,X,D,G,J,K⟩:=f;obtain⟨B,M,U⟩:=K kd g hX;exact⟨W,xb,X,B,D,G,J,(Po hX).1,M,U⟩
end Go.Proofs.YtcckhngbdoiikaaGreat
