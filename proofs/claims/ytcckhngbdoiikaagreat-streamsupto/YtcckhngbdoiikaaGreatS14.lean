import Derived.Test.YtcckhngbdoiikaaGreatS13
set_option maxRecDepth 20000
set_option maxHeartbeats 12800000
set_option linter.unusedVariables false
namespace Go.Proofs.YtcckhngbdoiikaaGreat
open Go.RowKit Go.Deep
theorem Xe(g:B0)(al:List Bool):∀k,(L6 g al k).1.length=al.length
 |0=>rfl
 |k+1=>by unfold L6;split;rw[xD];exact Xe g al k;exact Xe g al k
def Zw(al:List Bool):Nat:=(al.filter (fun b=>!b)).length
theorem ON(al:List Bool):Zw al<=al.length:=List.length_filter_le _ _
theorem OG:∀(al:List Bool) (k:Nat),k<al.length->al.getD k false=false->Zw (al.set k true)+1=Zw al
 |b::r,0,_,h=>by
  simp at h;subst h;simp[Zw]
 |b::r,k+1,hk,h=>by
  have f:=OG r k (by simpa using hk) (by simpa using h);unfold Zw at f⊢;cases b <;>simp at f⊢ <;>omega
theorem Ro(g:B0)(al:List Bool):∀k,k<=al.length->Zw (L6 g al k).1<=Zw al/\((L6 g al k).2=true->Zw (L6 g al k).1<Zw al)
 |0,_=>by simp[L6]
 |k+1,h=>by
  have B:=Ro g al k (by omega);have D:=Xe g al k;unfold L6;split
  ·rename_i f;have:=OG (L6 g al k).1 k (by omega) f.1;exact⟨by simp;omega,fun _=>by simp;omega⟩
  ·exact B
def Ic(f:List Int)(n:Nat):List Bool:=(f.take n).map (fun r=>r != -1)++List.replicate (f.length-n) false
theorem ZG(f:List Int)(n:Nat)(h:n<=f.length):(Ic f n).length=f.length:=by simp[Ic];omega
theorem AE(f:List Int)(n:Nat)(h:n<f.length):Ic f (n+1)=(Ic f n).set n (f[n] != -1):=by
 unfold Ic;have B:((f.take n).map (fun r=>r != -1)).length=n:=by simp;omega
 rw[List.set_append_right _ _ (by omega),B,yQ,show f.length-n=(f.length- (n+1))+1 by omega,List.replicate_succ,List.set_cons_zero,yN h,yB,yF];rfl
theorem KP(rv nv:Value)(g:B0)(K:Nat)(w:World)(hg:U6 w rv nv g)(ho:GOk g K)(hn:g.aB.length<=1000)(hK:K<=1000):
  Calls Tryz.prog 88 #[.agg #[rv,nv]] w fun e w'=>∃ab,e=.returned (.slice (some ⟨ab,0,none⟩) g.aB.length g.aB.length)/\Y5 w' (.slice (some ⟨ab,0,none⟩) g.aB.length g.aB.length) (Oa g)/\(Oa g).length=g.aB.length/\Bw w w':=by
 obtain⟨B,hN,a3,ao⟩:=hg.next;have a2:=hg.aB;obtain⟨rd,D,rfl,ac⟩:=hg.aB.aT;obtain⟨nd,f,rfl,a9⟩:=hN.aT;have a4:=ho.len;have aq:=Hd ao;have HN:=Hd hN;have ap:=Hd a2;have HO:=Hd ho;have az:B.length<=g.aB.length:=by omega
 have ax:g.aB.length<=B.length:=by omega
 have aw:=Hd a4;have ag:=Hd a3;clear ao hN a2 ho hg a4 a3;generalize hF:Oa g=F;unfold Oa at hF;have HF:=Hd hF;clear hF;have ay:=U7 g.aB.length (by omega);go_enter Tryz.func88,Tryz.ntmps88;go_wp2_with fail
 go_loopg[16] g.aB.length (fun G i wr=>∃n:Nat,n<=g.aB.length/\G=g.aB.length-n/\i=.int .i64 n/\Bw w wr/\
  Blk wr w.heap.size #[.slice rd g.aB.length D,.slice nd B.length f] 63/\Blk wr (w.heap.size+1) (Z0 (Ic g.aB n)) 4)
 case atStart=>
  refine⟨0,by omega,rfl,rfl,Z5 _ _ _,(Blk.aQ w _ _).alloc _,?_⟩;have e0:Ic g.aB 0=List.replicate g.aB.length false:=by simp[Ic]
  rw[e0];exact Blk.dX w _ _ _
 case round=>
  obtain⟨n,au,rfl,rfl,V,W,M⟩:=hrel;have aj:=ZG g.aB n (by omega)
  by_cases a1:n<g.aB.length
  ·have e0:decide ((n:Int)<(g.aB.length:Int))=true:=by simp;omega
   rcases ac with h0|⟨rg,rfl⟩
   ·omega
   have r0:=(ap.out.aA V).cell n a1;have c0:=Gl M n (by omega);generalize(Ic g.aB n)[n]'(by omega)=old at c0;have f0:=M.frozen n;have i0:(0:Int)<=(n:Int):=by omega
   have i1:(n:Int)<(g.aB.length:Int):=by omega
   have HH:Hid (Bw w wr/\Blk wr w.heap.size #[.slice (some ⟨rg,0,none⟩) g.aB.length D,.slice nd B.length f] 63/\Blk wr (w.heap.size+1) (Z0 (Ic g.aB n)) 4):=⟨V,W,M⟩;clear V W M aj HF;go_wp2_with fail
   go_roundg (g.aB.length- (n+1))
   case measure=>omega
   case rel=>
    obtain⟨V,W,M⟩:=HH.out;refine⟨n+1,by omega,rfl,by go_num,V.setCell (by simp) _,W.aG (by simp) _,?_⟩;rw[AE g.aB n a1,<-Z3];exact M.set n _
  ·have e0:decide ((n:Int)<(g.aB.length:Int))=false:=by simp;omega
   obtain rfl:n=g.aB.length:=by omega
   have ae:Hid (Bw w wr/\Blk wr w.heap.size #[.slice rd g.aB.length D,.slice nd B.length f] 63/\Blk wr (w.heap.size+1) (Z0 (Ic g.aB g.aB.length)) 4):=⟨V,W,M⟩;clear V W M aj au a1;obtain⟨wo,rfl⟩:∃wo:World,wo=wr:=⟨_,rfl⟩;go_wp2_with fail
   go_loopg[6] (g.aB.length+2) (fun G c wr=>∃(al:List Bool) (ch:Bool),c=.bool ch/\al.length=g.aB.length/\(ch=true->Zw al+1<G/\Ba g (G-1) al=F)/\(ch=false->al=F)/\Bw w wr/\
    Blk wr w.heap.size #[.slice rd g.aB.length D,.slice nd B.length f] 63/\Blk wr (w.heap.size+1) (Z0 al) 4)
   case atStart=>
    obtain⟨Y,Z,X⟩:=ae.out;have e1:Ic g.aB g.aB.length=g.aB.map (fun r=>r != -1):=by simp[Ic]
    rw[e1]at X;refine⟨_,true,rfl,by simp,fun _=>⟨?_,HF.out⟩,(fun h=>by cases h),Y,Z,X⟩;have:=ON (g.aB.map (fun r=>r != -1));simp at this;omega
   case round=>
    obtain⟨al,ch,rfl,U,a7,a8,V,W,M⟩:=hrel;clear ae HF;cases ch with
    |false=>
     have ai:=a8 rfl;have HH:Hid (Bw w wr/\Blk wr (w.heap.size+1) (Z0 al) 4/\al.length=g.aB.length/\al=F):=⟨V,M,U,ai⟩;clear V W M U a7 a8 ai;go_wp2_with fail;go_ret;obtain⟨Y,Z,X,rfl⟩:=HH.out;have:=Y5.cC Z (by omega);rw[X]at this;exact⟨_,rfl,this,X,Y⟩
    |true=>
     obtain⟨hd,hl⟩:=a7 rfl;have am:gk-1=(gk-2)+1:=by omega
     rw[am]at hl;unfold Ba at hl;have HL:=Hd hl;have g1:wr.cell? ⟨w.heap.size,1,none⟩=some (.slice nd B.length f):=W.cell 1;have HH:Hid (Bw w wr/\Blk wr w.heap.size #[.slice rd g.aB.length D,.slice nd B.length f] 63/\Blk wr (w.heap.size+1) (Z0 al) 4):=⟨V,W,M⟩;have ad:=Hd U;clear V W M hl a8 a7 am U;obtain⟨w2,rfl⟩:∃wo:World,wo=wr:=⟨_,rfl⟩;go_wp2_with fail
     go_loopg[6,31] B.length (fun G c i wr=>∃(k:Nat),k<=B.length/\G=B.length-k/\i=.int .i64 k/\c=.bool (L6 g al k).2/\Bw w wr/\
      Blk wr w.heap.size #[.slice rd g.aB.length D,.slice nd B.length f] 63/\Blk wr (w.heap.size+1) (Z0 (L6 g al k).1) 4)
     case atStart=>
      obtain⟨Y,Z,X⟩:=HH.out;exact⟨0,by omega,rfl,rfl,rfl,Y,Z,X⟩
     case round=>
      obtain⟨k,hk,rfl,rfl,rfl,V,W,M⟩:=hrel;clear HH g1
      by_cases a1:k<B.length
      ·have e1:decide ((k:Int)<(B.length:Int))=true:=by simp;omega
       rcases a9 with h0|⟨ng,rfl⟩
       ·omega
       have aa:=Xe g al k;have U:=ad.out;have n0:=(HN.out.aA V).cell k a1;have a5:=(aq.out k B[k] (zF _)).aA V;have an:=HO.out.row k (by have:=ag.out;omega);have ah:=Y5.cC M (by omega);have a0:=QQ B[k] _ (g.next.getD k []) (L6 g al k).1 wr a5 ah (by omega) (by omega) (by rw[aa,U];exact an.2);rw[aa,U]at a0;have c0:=Gl M k (by omega);have ak:(L6 g al k).1.getD k false=(L6 g al k).1[k]'(by omega):=by simp[show k<(L6 g al k).1.length by omega]
       have f0:=M.frozen k;have i0:(0:Int)<=(k:Int):=by omega
       have i1:(k:Int)<(B.length:Int):=by omega
       have i2:(k:Int)<(g.aB.length:Int):=by omega
       generalize B[k]=vk at n0 a0;have J:L6 g al (k+1)=if(L6 g al k).1.getD k false=false/\Zf (g.next.getD k []) (L6 g al k).1=true then((L6 g al k).1.set k true,true)else L6 g al k:=by
        conv=>lhs;unfold L6
       rw[ak]at J;generalize Zf (g.next.getD k []) (L6 g al k).1=ld at a0 J;generalize ar:(L6 g al k).1[k]'(by omega)=b0 at c0 J;have af:=Hd a0;have a6:=Hd J;have HH:Hid (Bw w wr/\Blk wr w.heap.size #[.slice rd g.aB.length D,.slice (some ⟨ng,0,none⟩) B.length f] 63/\Blk wr (w.heap.size+1) (Z0 (L6 g al k).1) 4):=⟨V,W,M⟩;clear V W M aa U a5 an ah a0 ak ar J HL;cases b0 with
       |true=>
        go_wp2_with fail
        go_roundg (B.length- (k+1))
        case measure=>omega
        case rel=>
         obtain⟨Y,Z,X⟩:=HH.out;have hs:=a6.out;rw[if_neg (by simp)]at hs;exact⟨k+1,by omega,rfl,by go_num,by rw[hs],Y,Z,by rw[hs];exact X⟩
       |false=>
        cases ld with
        |false=>
         go_wp2_with fail;refine af.out.mono ?_;rintro e w5 ⟨rfl,rfl⟩;go_wp2_with fail
         go_roundg (B.length- (k+1))
         case measure=>omega
         case rel=>
          obtain⟨Y,Z,X⟩:=HH.out;have hs:=a6.out;rw[if_neg (by simp)]at hs;exact⟨k+1,by omega,rfl,by go_num,by rw[hs],Y,Z,by rw[hs];exact X⟩
        |true=>
         go_wp2_with fail;refine af.out.mono ?_;rintro e w5 ⟨rfl,rfl⟩;go_wp2_with fail
         go_roundg (B.length- (k+1))
         case measure=>omega
         case rel=>
          obtain⟨Y,Z,X⟩:=HH.out;have hs:=a6.out;rw[if_pos (by simp)]at hs;exact⟨k+1,by omega,rfl,by go_num,by rw[hs],Y.setCell (by simp) _,Z.aG (by simp) _,by rw[hs,<-Z3];exact X.set k _⟩
      ·have e1:decide ((k:Int)<(B.length:Int))=false:=by simp;omega
       obtain rfl:k=B.length:=by omega
       have HH:Hid (Bw w wr/\Blk wr w.heap.size #[.slice rd g.aB.length D,.slice nd B.length f] 63/\Blk wr (w.heap.size+1) (Z0 (L6 g al B.length).1) 4):=⟨V,W,M⟩;clear V W M;go_wp2_with fail
       go_roundg (gk-1)
       case measure=>omega
       case rel=>
        obtain⟨Y,Z,X⟩:=HH.out;have hl:=HL.out;have a3:=ag.out;have U:=ad.out;rw[<-a3]at hl;have av:=Ro g al B.length (by omega);refine⟨_,_,rfl,by rw[Xe];exact U,fun e=>?_,fun e=>?_,Y,Z,X⟩
        ·rw[if_pos e]at hl;have:=av.2 e;exact⟨by omega,by rw[show gk-1-1=gk-2 by omega];exact hl⟩
        ·rw[if_neg (by simp[e])]at hl;exact hl
def keptAt(al:List Bool)(f:List Int)(k:Nat):List Int:=N4 al (f.take k)++List.replicate (f.length-k) 0
theorem BL(al:List Bool)(f:List Int)(k:Nat)(h:k<=f.length):(keptAt al f k).length=f.length:=by simp[keptAt,N4];omega
theorem OH(al:List Bool)(f:List Int)(k:Nat)(h:k<f.length):keptAt al f (k+1)=(keptAt al f k).set k (if f[k] != -1 && al.getD f[k].toNat false then f[k]else -1):=by
 unfold keptAt;have B:(N4 al (f.take k)).length=k:=by simp[N4];omega
 rw[List.set_append_right _ _ (by omega),B,yQ,show f.length-k=(f.length- (k+1))+1 by omega,List.replicate_succ,List.set_cons_zero,yN h];unfold N4;rw[yB,yF];rfl
theorem AL(al:List Bool)(f:List Int):keptAt al f f.length=N4 al f:=by simp[keptAt]
theorem LR(rv nv:Value)(g:B0)(K:Nat)(w:World)(hg:U6 w rv nv g)(ho:GOk g K)(hn:g.aB.length<=1000)(hK:K<=1000):
  Calls Tryz.prog 46 #[.agg #[rv,nv]] w fun e w'=>∃pv,e=.returned (.agg #[rv,pv])/\U6 w' rv pv (G0 g)/\Bw w w':=by
 have hA:=fun(W:World) (V:Bw w W)=>KP rv nv g K W (hg.aA V) ho hn hK
 obtain⟨Y,hN,ad,bx⟩:=hg.next;have ac:=hg.aB;obtain⟨rd,D,rfl,ce⟩:=hg.aB.aT;obtain⟨nd,a4,rfl,b4⟩:=hN.aT;have ao:=ho.len;have c8:=Hd bx;have HN:=Hd hN;have bc:=Hd ac;have HO:=Hd ho;have HA:=Hd hA;have cy:Y.length<=1000:=by omega
 have cj:=Hd ao;have bd:=Hd ad;clear bx hN ac ho hg ao ad hA;generalize bk:Oa g=al;have b6:=Hd bk;clear bk;go_enter Tryz.func46,Tryz.ntmps46;go_wp2_with fail;refine(HA.out _ (Z5 _ _ _)).mono ?_;rw[b6.out];rintro e B ⟨ab,rfl,bf,U,am⟩;have ah:=((Blk.aQ w #[.slice rd g.aB.length D,.slice nd Y.length a4] 63).alloc (.cells #[.slice none 0 0,.slice none 0 0] 63)).aA am;have ax:=(Blk.dX w (.cells #[.slice rd g.aB.length D,.slice nd Y.length a4] 63) #[.slice none 0 0,.slice none 0 0] 63).aA am;have bl:Bw w B:=(Z5 w _ _).trans (am.mono (by simp;omega));have g0:B.cell? ⟨w.heap.size,0,none⟩=some (.slice rd g.aB.length D):=ah.cell 0;have g1:B.cell? ⟨w.heap.size,1,none⟩=some (.slice nd Y.length a4):=ah.cell 1;have z1:w.heap.size+1<B.heap.size:=ax.lt;have z0:w.heap.size<B.heap.size:=by omega
 have b7:=Hd U;have b8:=Hd bf;have b9:Hid (Bw w B/\Blk B w.heap.size #[.slice rd g.aB.length D,.slice nd Y.length a4] 63/\Blk B (w.heap.size+1) #[.slice none 0 0,.slice none 0 0] 63):=⟨bl,ah,ax⟩;clear bl ah ax am bf U;go_wp2_with fail
 go_loopg[18] Y.length (fun G i wr=>∃(n:Nat) (O:Nat->Prop) (pv:Value),n<=Y.length/\G=Y.length-n/\i=.int .i64 n/\Bw B wr/\
  Blk wr B.heap.size #[.slice rd g.aB.length D,pv] 63/\U4 wr O pv ((g.next.take n).map (N4 al))/\∀k,O k->B.heap.size<k)
 case atStart=>
  exact⟨0,fun _=>False,.slice none 0 0,by omega,rfl,rfl,P0 _ _,Blk.aQ _ _ _,by simpa using U4.nil _,fun k h=>h.elim⟩
 case round=>
  obtain⟨n,O,pv,cr,rfl,rfl,V,hP,hR,hO⟩:=hrel
  by_cases cb:n<Y.length
  ·have e0:decide ((n:Int)<(Y.length:Int))=true:=by simp;omega
   rcases b4 with h0|⟨ng,rfl⟩
   ·omega
   have ay:Bw w wr:=b9.out.1.trans (V.mono (by omega));have ad:=bd.out;have n0:=(HN.out.aA ay).cell n cb;have X:=c8.out n Y[n] (zF _);have bt:=HO.out.row n (by omega);generalize Y[n]=vn at n0 X;have b0:g.next[n]?=some (g.next.getD n []):=by simp[show n<g.next.length by omega]
   generalize cf:g.next.getD n []=f at X bt b0;obtain⟨ed,ck,rfl,az⟩:=X.aT;have i0:(0:Int)<=(n:Int):=by omega
   have i1:(n:Int)<(Y.length:Int):=by omega
   have zr:B.heap.size<wr.heap.size:=hP.lt;have cw:f.length<=1000:=by omega
   have cq:=Fe f.length (by omega);obtain⟨bu,ap⟩:=bt;have c6:=Hd ap;have bb:=Hd X;have c3:=Hd b0;have HH:Hid (Bw B wr/\Blk wr B.heap.size #[.slice rd g.aB.length D,pv] 63/\U4 wr O pv ((g.next.take n).map (N4 al))/\∀k,O k->B.heap.size<k):=⟨V,hP,hR,hO⟩;have c2:=Hd ay;clear V hP hR hO ad bu ap X b0 cf ay g0 g1;obtain⟨M,rfl⟩:∃M:World,M=wr:=⟨_,rfl⟩;go_wp2_with fail
   go_loopg[27] f.length (fun G i wr=>∃(k:Nat),k<=f.length/\G=f.length-k/\i=.int .i64 k/\Bw M wr/\Blk wr M.heap.size (N3 (keptAt al f k)) 3)
   case atStart=>
    refine⟨0,by omega,rfl,rfl,P0 _ _,?_⟩;have e1:keptAt al f 0=List.replicate f.length 0:=by simp[keptAt,N4]
    rw[e1];exact Blk.aQ _ _ _
   case round=>
    obtain⟨k,hk,rfl,rfl,V,hI⟩:=hrel;have b1:=BL al f k hk
    by_cases b2:k<f.length
    ·have e1:decide ((k:Int)<(f.length:Int))=true:=by simp;omega
     rcases az with h0|⟨eg,rfl⟩
     ·omega
     have a9:Bw w wr:=c2.out.trans (V.mono (by omega));have r0:=(bb.out.aA a9).cell k b2;have b5:=c6.out f[k] (zG b2);have a1:=OH al f k b2;have c0:=U9 hI k (by omega);generalize(keptAt al f k)[k]'(by omega)=old at c0;have f0:=hI.frozen k;have i2:(0:Int)<=(k:Int):=by omega
     have i3:(k:Int)<(f.length:Int):=by omega
     generalize f[k]=to at r0 b5 a1;have ar:=b8.out.aA (V.mono (zD _) |>fun h=>(HH.out.1.trans (h.mono (by omega))));have U:=b7.out
     by_cases b3:to= -1
     ·subst b3;have ag:=Hd a1;have ae:Hid (Bw M wr/\Blk wr M.heap.size (N3 (keptAt al f k)) 3):=⟨V,hI⟩;clear a1 V hI a9 b5 ar U b1;go_wp2_with fail
      go_roundg (f.length- (k+1))
      case measure=>omega
      case rel=>
       obtain⟨q1,q2⟩:=ae.out;refine⟨k+1,by omega,rfl,by go_num,q1.setCell (zD _) _,?_⟩;have hs:=ag.out;simp only[bne_self_eq_false,yZ,zV,if_false]at hs;rw[hs,<-U3];exact q2.set k _
     ·have e2:(to != -1)=true:=by simp[b3]
      obtain⟨j,rfl⟩:∃j:Nat,to=(j:Int):=⟨to.toNat,by omega⟩;have hj:j<al.length:=by omega
      have m0:wr.cell? ⟨ab,j,none⟩=some (.bool al[j]):=by
       have an:=ar;rw[<-U]at an;exact an.cell j hj
      have bq:al.getD j false=al[j]:=by simp[hj]
      simp only[zH,bq,e2,Bool.true_and]at a1;have j0:(0:Int)<=(j:Int):=by omega
      have j1:(j:Int)<(g.aB.length:Int):=by omega
      have cz:ab<B.heap.size:=M1 b8.out ab rfl;have cd:ab≠M.heap.size:=by omega
      generalize al[j]=aj at m0 a1;have ag:=Hd a1;have ae:Hid (Bw M wr/\Blk wr M.heap.size (N3 (keptAt al f k)) 3):=⟨V,hI⟩;clear a1 V hI a9 b5 ar U b1 bq b3;cases aj with
      |true=>
       go_wp2_with fail
       go_roundg (f.length- (k+1))
       case measure=>omega
       case rel=>
        obtain⟨q1,q2⟩:=ae.out;refine⟨k+1,by omega,rfl,by go_num,(q1.setCell (zD _) _).setCell (zD _) _,?_⟩;have hs:=ag.out;simp only[if_true]at hs;have q3:=(q2.set k (.int .i64 (-1))).set k (.int .i64 j);rw[U3,U3,List.set_set]at q3;rw[hs];exact q3
      |false=>
       go_wp2_with fail
       go_roundg (f.length- (k+1))
       case measure=>omega
       case rel=>
        obtain⟨q1,q2⟩:=ae.out;refine⟨k+1,by omega,rfl,by go_num,q1.setCell (zD _) _,?_⟩;have hs:=ag.out;simp only[zV,if_false]at hs;rw[hs,<-U3];exact q2.set k _
    ·have e1:decide ((k:Int)<(f.length:Int))=false:=by simp;omega
     obtain rfl:k=f.length:=by omega
     rw[AL]at hI;obtain⟨bm,bg,av,au⟩:=HH.out;have a7:=bg.aA V;have aw:=av.aA V;obtain⟨us,a5,a8,ak⟩:=aw.ex;have bw:(N4 al f).length=f.length:=by simp[N4]
     have a0:=O2.cC hI (by omega);rw[bw]at a0;obtain⟨pd,J,rfl,_⟩:=a5.aT;have c1:wr.cell? ⟨B.heap.size,1,none⟩=some (.slice pd us.length J):=a7.cell 1;have f1:=a7.frozen 1;have cx:us.length<=1000:=by rw[a8];simp;omega
     obtain⟨ii,hi,cg,ch,ci⟩:=info_parts Tryz.dP;have bv:=a5.aA (P0 wr (.cells #[.slice (some ⟨M.heap.size,0,none⟩) f.length f.length] 60));have zw:B.heap.size<wr.heap.size:=a7.lt;have zz:M.heap.size<wr.heap.size:=hI.lt;have cc:¬O M.heap.size:=fun e=>by have:=av.olt _ e;omega
     have bs:¬O B.heap.size:=fun e=>by have:=au _ e;omega
     have bh:=aw.alloc (.cells #[.slice (some ⟨M.heap.size,0,none⟩) f.length f.length] 60);have aq:=Hd bv;have HU:=Hd2 a8 ak;have ba:Hid (Bw M wr/\Bw B M/\Blk wr B.heap.size #[.slice rd g.aB.length D,.slice pd us.length J] 63/\O2 wr (.slice (some ⟨M.heap.size,0,none⟩) f.length f.length) (N4 al f)/\∀k,O k->B.heap.size<k):=⟨V,bm,a7,a0,au⟩;have af:=Hd bh;clear V hI bm bg av au a7 aw a5 a8 ak a0 bv bh bw b1 HH;go_wp2_with(at_builtin;(refine wpList_append_lies _ (by rfl) _ _ _ (by rfl) 0 60 ii _ 1 24 Tryz.underlying61 hi cg ch ci rfl (by omega) (.slice pd us.length J) us.length us (by rfl) aq.out ⟨wr.heap.size,0,none⟩ 1 1 [.slice (some ⟨M.heap.size,0,none⟩) f.length f.length] (by rfl) (by rfl) (World.news_of_block (cs:=#[.slice (some ⟨M.heap.size,0,none⟩) f.length f.length]) (t:=60) (fr:=(0,0)) (heap_alloc_new wr _)) (by simp[Value.oneCell']) (by omega) (by unfold maxLen;omega) (by omega) (by simp) (wr.heap.size+1) (by simp) ?_));intro gg be w6 aa a3 a2 br;obtain⟨q1,bz,q2,q3,q4⟩:=ba.out;obtain⟨bi,Z⟩:=U4.push af.out aq.out HU.out.1 (fun i v hv=>⟨((HU.out.2 i v hv).1).aA (P0 _ _),(HU.out.2 i v hv).2⟩) (q3.aA (P0 _ _)) cc aa a3 (by simpa using a2) br;have ai:=(q2.alloc (.cells #[.slice (some ⟨M.heap.size,0,none⟩) f.length f.length] 60)).kept Z bs;have c7:w6.cell? ⟨B.heap.size,1,none⟩=some (.slice pd us.length J):=ai.cell 1;have f7:=ai.frozen 1;have ca:gg≠B.heap.size:=by
      intro e;subst e;rcases a2 with e|e
      ·exact bs (af.out.ob _ e)
      ·omega
     have cl:B.heap.size<gg:=by
      rcases a2 with e|e
      ·exact q4 _ (af.out.ob _ e)
      ·omega
     have bp:Bw B w6:=by
      have h1:Bw B wr:=bz.trans (q1.mono (by omega));refine(h1.alloc (by omega) _).trans ⟨Z.os,Z.tape,Z.output,Z.size,fun k hk=>Z.block k (by simp;omega) (fun e=>by have:=q4 _ e;omega)⟩
     have c5:Hid (U4 w6 (fun k=>O k\/k=gg\/k=M.heap.size) (.slice (some ⟨gg,0,none⟩) (us.length+1) be) ((g.next.take n).map (N4 al)++ [N4 al f])/\Blk w6 B.heap.size #[.slice rd g.aB.length D,.slice pd us.length J] 63/\Bw B w6/\∀k,O k->B.heap.size<k):=⟨bi,ai,bp,q4⟩;clear bi Z ai bp q1 bz q2 q3 q4 aa a3 a2 ba af HU aq c1 f1;go_wp2_with fail
     go_roundg (Y.length- (n+1))
     case measure=>omega
     case rel=>
      obtain⟨q1,q2,q3,q4⟩:=c5.out;refine⟨n+1,(fun k=>O k\/k=gg\/k=M.heap.size),_,by omega,rfl,by go_num,q3.setCell (zD _) _,q2.set 1 _,?_,?_⟩
      ·have e9:(g.next.take (n+1)).map (N4 al)=(g.next.take n).map (N4 al)++ [N4 al f]:=by
        rw[List.take_add_one,c3.out,yB];rfl
       rw[e9];exact q1.setCell (fun e=>by rcases e with e|e|e;exact absurd (q4 _ e) (by simp);exact ca e.symm;simp at e;omega) _
      ·intro k e;rcases e with e|e|e
       ·exact q4 k e
       ·omega
       ·omega
  ·have e0:decide ((n:Int)<(Y.length:Int))=false:=by simp;omega
   obtain rfl:n=Y.length:=by omega
   obtain⟨bn,c9,bj⟩:=b9.out;have a6:=bj.aA V;have cm:wr.cell? ⟨B.heap.size,0,none⟩=some (.slice rd g.aB.length D):=hP.cell 0;obtain⟨us,a5,a8,ak⟩:=hR.ex;obtain⟨pd,J,rfl,_⟩:=a5.aT;have cn:wr.cell? ⟨B.heap.size,1,none⟩=some (.slice pd us.length J):=hP.cell 1;have ct:wr.cell? ⟨w.heap.size+1,0,none⟩=some (.slice none 0 0):=a6.cell 0;have cu:wr.cell? ⟨w.heap.size+1,1,none⟩=some (.slice none 0 0):=a6.cell 1;have co:=a6.frozen 0;have cp:=a6.frozen 1;have c4:Hid (Bw w B/\Bw B wr/\Blk wr (w.heap.size+1) #[.slice none 0 0,.slice none 0 0] 63/\U4 wr O (.slice pd us.length J) ((g.next.take Y.length).map (N4 al))/\∀k,O k->B.heap.size<k):=⟨bn,V,a6,hR,hO⟩;clear bn c9 bj V a6 hR hO hP a5 a8 ak;go_wp2_with fail;obtain⟨q1,q2,q3,q4,q5⟩:=c4.out;have ad:=bd.out;rw[zN (by omega)]at q4;have q6:Bw w wr:=q1.trans (q2.mono (by omega));have q7:=q4.setCell (a:=⟨w.heap.size+1,0,none⟩) (fun e=>by have:=q5 _ e;simp at this;omega) (.slice rd g.aB.length D);have q8:=q7.setCell (a:=⟨w.heap.size+1,1,none⟩) (fun e=>by have:=q5 _ e;simp at this;omega) (.slice pd us.length J);have cv:=((bc.out.aA q6).aA (w':=wr) (Below.refl _ _));have bo:=(q6.setCell (p:=⟨w.heap.size+1,0,none⟩) (by simp) (.slice rd g.aB.length D)).setCell (p:=⟨w.heap.size+1,1,none⟩) (by simp) (.slice pd us.length J);refine bodyPost_ret (Cr Tryz.results46 _ rfl rfl ((q3.set 0 _).set 1 _)) rfl ⟨_,rfl,?_,bo⟩;have e5:G0 g=⟨g.aB,g.next.map (N4 al)⟩:=by unfold G0;rw[b6.out]
   rw[e5];exact U4.fU (g:=⟨g.aB,g.next.map (N4 al)⟩) q8 (bc.out.aA bo)
end Go.Proofs.YtcckhngbdoiikaaGreat
