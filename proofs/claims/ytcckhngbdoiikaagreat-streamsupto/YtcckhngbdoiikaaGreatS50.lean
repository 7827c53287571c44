import Derived.Test.YtcckhngbdoiikaaGreatS49
import Derived.Test.YtcckhngbdoiikaaGreatS48
set_option maxRecDepth 20000
set_option maxHeartbeats 12800000
set_option linter.unusedVariables false
namespace Go.Proofs.YtcckhngbdoiikaaGreat
open Go.RowKit Go.Deep
section
variable{kd:Nat->Nat}{g:B0}
theorem Zn:∀(L:List Int) (q:Nat) (st:Int) (f:Ih),(C2 kd g L q st f).1=f\/∃k,0<k/\k<=L.length/\(C2 kd g L q st f).1.1=q+k/\(C2 kd g L q st f).1.2.2=Mh kd g (L.take k) st
 | [],q,st,f=>.inl rfl
 |b::L,q,st,f=>by
  rw[E7]
  by_cases h:X0 kd g st b= -1
  ·rw[if_pos h];exact .inl rfl
  ·rw[if_neg h];rcases Zn L (q+1) (X0 kd g st b) (if N0 g (X0 kd g st b)= -1 then f else(q+1,N0 g (X0 kd g st b),X0 kd g st b))with e|⟨k,J,K,D,G⟩
   ·rw[e]
    by_cases B:N0 g (X0 kd g st b)= -1
    ·rw[if_pos B];exact .inl rfl
    ·rw[if_neg B];exact .inr ⟨1,by omega,by simp,rfl,rfl⟩
   ·exact .inr ⟨k+1,by omega,by simp;omega,by rw[D];omega,by rw[G];rfl⟩
theorem RM(W:ByteArray)(p q:Nat)(h:q<=W.size):L1 (W.extract p q) 0=(L1 W p).take (q-p):=by
 have f:W.data.toList.length=W.size:=by simp
 unfold L1;rw[<-List.map_take]
 congr 1
 simp only[ByteArray.data_extract,Array.toList_extract,List.extract,List.drop_zero]
theorem GJ(f:Zh kd g){W:ByteArray}{p q:Nat}(V:p<W.size)(J:q<=W.size)(G:p<q)(h:(C2 kd g (L1 W p) p 0 (Q1 p)).1.1=q):G3 g 0 ((Q0 (W.extract p q)).map kd)=(C2 kd g (L1 W p) p 0 (Q1 p)).1.2.2:=by
 rcases Zn (kd:=kd) (g:=g) (L1 W p) p 0 (Q1 p)with e|⟨k,K,M,U,B⟩
 ·rw[e]at h;have:p=q:=h;omega
 ·have D:k=q-p:=by omega
  rw[B,D,<-RM W p q J,Ou,Dt f _ 0 (Vw _) (.inr ⟨0,f.bF,rfl⟩)]
end
theorem Iv(f J:Nat)(r:Sh)(W:ByteArray)(G:Nat)(w:World)(h:I7 w f J r W G true):
  Calls Tryz.prog 71 #[.pointer (some ⟨f,0,none⟩)] w fun e w'=>e=.returned (.tuple #[Jr ⟨0,0,0,0,⟨#[]⟩⟩,.int .i64 6])/\Bw w w':=by
 have K:w.cell? ⟨f,6,none⟩=some (.bool true):=h.cell 6;have M:=h.lt;clear h;have D:Blk (w.alloc (.cells Nc 49)) w.heap.size Nc 49:=Blk.aQ _ _ _;have B:=Hd D;clear D;go_enter Tryz.func71,Tryz.ntmps71;go_wp2_with(first|refine Eh (x:=⟨0,0,0,0,⟨#[]⟩⟩) rfl (.tmp 2) (.tmp 16) rfl w.heap.size rfl rfl B.out rfl ?_);exact bodyPost_ret (Cd (x:=⟨0,0,0,0,⟨#[]⟩⟩) Tryz.results71 _ rfl (B.out.setRow _)) rfl ⟨rfl,I2 (P0 _ _) (zD _) _⟩
theorem UI(tb yb:Nat)(kd:Nat->Nat)(g:B0)(TX:List ByteArray)(r:Sh)(W:ByteArray)(J:Nat)(x:D3)(w:World)(h:I7 w tb yb r W J false)(hy:N6 w yb kd g TX)(hG:Zh kd g)(hW:W.size<=4000000)(he:r.e<=1099511627776)(hl:r.l<=61)(hb:Eb kd g r W J x):
  Calls Tryz.prog 71 #[.pointer (some ⟨tb,0,none⟩)] w fun e w'=>e=.returned (.tuple #[Jr x,.int .i64 0])/\Bw w w':=by
 obtain⟨b1,b2,b3,b4⟩:=hb.iL;have b7:=Xi (kd:=kd) (g:=g) (s:=W);obtain⟨w1,ab⟩:∃w1:World,w.alloc (.cells Nc 49)=w1:=⟨_,rfl⟩;have a2:Bw w w1:=by rw[<-ab];exact P0 _ _
 have an:Blk w1 w.heap.size Nc 49:=by rw[<-ab];exact Blk.aQ _ _ _
 have af:Hid (∀V,Bw w V->Calls Tryz.prog 80 #[.pointer (some ⟨yb,0,none⟩),.string W] V fun e w'=>∃v,e=.returned v/\T1 w' v (M5 kd g W)/\(∀b,v.ownBlock=some b->V.heap.size<=b)/\Bw V w'):=Hd fun V k=>Dk yb kd g TX W V (hy.aA k) hW
 have a0:Hid (∀V p,Bw w V->r.On p->p<=4000000->Calls Tryz.prog 110 #[.pointer (some ⟨tb,0,none⟩),.int .i64 p] V fun e w'=>e=.returned (.int .i64 ((r.pl p:Nat):Int))/\Bw V w'):=Hd fun V p k hp ba=>Xu tb yb r W J false p V (Blk.aA h k) hp he ba hl
 have a5:Hid (∀V p,Bw w V->p<=W.size->Calls Tryz.prog 109 #[.pointer (some ⟨yb,0,none⟩),.string W,.int .i64 p] V fun e w'=>e=.returned (.tuple #[.int .i64 (Q3 kd g W p).aB,.int .i64 ((Q3 kd g W p).tt:Int)])/\Bw V w'):=Hd fun V p k hp=>Bm yb kd g TX W p V (hy.aA k) hW hp
 have a9:Hid (∀V (s:ByteArray),Bw w V->s.size<=4000000->Calls Tryz.prog 63 #[.pointer (some ⟨yb,0,none⟩),.int .i64 0,.string s] V fun e w'=>e=.returned (.int .i64 (G3 g 0 ((Q0 s).map kd)))/\Bw V w'):=Hd fun V s k hs=>Ly yb kd g TX 0 s V (hy.aA k) hG hs (.inr ⟨0,hG.bF,rfl⟩)
 have HS:=Hd h;have HG:=Hd hG;have c6:w1.cell? ⟨tb,6,none⟩=some (.bool false):=(Blk.aA h a2).cell 6;have c0:w1.cell? ⟨tb,0,none⟩=some (.pointer (some ⟨yb,0,none⟩)):=(Blk.aA h a2).cell 0;have c4:w1.cell? ⟨tb,4,none⟩=some (.string W):=(Blk.aA h a2).cell 4;have zt:=(Blk.aA h a2).lt;have a1:Hid (J≠0->∃hk:J-1<(M5 kd g W).length,(M5 kd g W)[J-1].tt=M4 kd g W J):=Hd fun h0=>by
  have hk:J-1<(M5 kd g W).length:=by omega
  refine⟨hk,?_⟩;unfold M4;rw[if_neg h0,zC,zF hk];rfl
 have a6:Hid (J=0->M4 kd g W J=0):=Hd fun h0=>by unfold M4;rw[if_pos h0]
 generalize M4 kd g W J=P at b2 b3 b4 a1 a6;have a7:=Hd b4;have a3:=Hd2 a2 an;clear h hy hG hb b4 a2 an;generalize M5 kd g W=L at af b7 b1 a1;go_enter Tryz.func71,Tryz.ntmps71;go_upto_region 3 with fail
 try rw[ab]
 clear ab c6
 go_cut[4] (fun lv wx=>T1 wx lv L/\Bw w wx/\Blk wx w.heap.size Nc 49)
 case first=>
  go_region_with (go_at_call 80;refine(af.out _ (Y1 a3.out.1)).mono ?_;rintro e w5 ⟨v5,rfl,ap,b5,D⟩;have ax:=Hd3 ap ((Y1 a3.out.1).trans (D.mono a3.out.1.size)) (Blk.aA (Blk.drew a3.out.2) D);clear ap b5 D)
  all_goals
   go_wp2_with fail;go_meet;exact ax.out
 case rest=>
  obtain⟨hT,ai,ao⟩:=hcut;obtain⟨ad,bb,e',ac⟩:=hT.aT;subst e';have K:=Blk.aA HS.out ai;have d5:wc.cell? ⟨tb,5,none⟩=some (.int .i64 J):=K.cell 5;have d4:wc.cell? ⟨tb,4,none⟩=some (.string W):=K.cell 4;have d0:wc.cell? ⟨tb,0,none⟩=some (.pointer (some ⟨yb,0,none⟩)):=K.cell 0;have zc:=K.lt;have HT:=Hd3 hT ai ao;clear hT ai ao K c0 c4 af a3;go_upto_if 30 with fail
  go_cut[5] (fun pv wx=>pv=.int .i64 P/\Bw w wx/\Blk wx w.heap.size Nc 49)
  case first=>
   by_cases h0:J=0
   ·have e0:decide ((0:Int)<(J:Int))=false:=by simp;omega
    have aw:=Hd (a6.out h0);clear a6 a1;go_wp2_with fail;go_meet;exact⟨by rw[aw.out];rfl,HT.out.2.1,HT.out.2.2⟩
   ·have e0:decide ((0:Int)<(J:Int))=true:=by simp;omega
    obtain⟨hk,aq⟩:=a1.out h0;rcases ac with e|⟨tg,rfl⟩
    ·omega
    obtain⟨_,_,g2⟩:=Nd L (J-1) hk;have M:=(Y0 HT.out.1 ((J-1)*3+2) (by omega)).trans g2;rw[aq]at M;obtain⟨t1,au⟩:∃t1,J-1=t1:=⟨_,rfl⟩;rw[au]at M;have e1:(J:Int)-1=(t1:Int):=by omega
    have b9:IntKind.i64.wrap ((J:Int)-1)=(t1:Int):=(Go.IntWalk.i64_left _).trans (by rw[e1];unfold wrap64;omega);have b8:wrap64 ((J:Int)-1)=(t1:Int):=by rw[e1];unfold wrap64;omega
    have k0:(0:Int)<=(t1:Int):=by omega
    have k1:(t1:Int)<(L.length:Int):=by omega
    have zg:=M1 HT.out.1 tg rfl;clear a6 a1 g2 aq au e1;go_wp2_with fail;go_meet;exact⟨rfl,HT.out.2.1,HT.out.2.2⟩
  case rest=>
   obtain⟨rfl,M,q3⟩:=hcut;clear a1 a6 d5 d4 d0 zc HT ac;have K:=Blk.aA HS.out M;have d4:wc.cell? ⟨tb,4,none⟩=some (.string W):=K.cell 4;have d0:wc.cell? ⟨tb,0,none⟩=some (.pointer (some ⟨yb,0,none⟩)):=K.cell 0;have zc:=K.lt;have ag:P<=4000000:=by omega
   have p0:(0:Int)<=(P:Int):=by omega
   have p1:(P:Int)<=(W.size:Int):=by omega
   have HQ:=Hd2 M q3;clear M q3 K;rcases a7.out with⟨hP,hx⟩|⟨hP,hr,hx⟩|⟨hP,hr,aj,st,hx,ar,av⟩
   ·have e0:decide ((P:Int)<(W.size:Int))=false:=by rw[decide_eq_false_iff_not];omega
    have bd:¬P<W.size:=by omega
    have Y:=Hd (a0.out wc P HQ.out.1 b3 ag);subst hx;clear a7 a5 a9 a0 hP;go_wp2_with fail;refine Y.out.mono ?_;rintro e w6 ⟨rfl,G⟩;have f:=HQ.out.1.trans (G.mono HQ.out.1.size);have az:w6.cell? ⟨tb,4,none⟩=some (.string W):=(Blk.aA HS.out f).cell 4;have z6:=(Blk.aA HS.out f).lt;have B:=Hd2 f (HQ.out.2.aA G);clear G Y d4 d0 f;go_wp2_with(first|refine Eh (x:=⟨r.pl P,r.pl P,-1,0,W.extract P W.size⟩) rfl (.tmp 2) (.tmp 75) rfl w.heap.size rfl rfl B.out.2 rfl ?_);exact bodyPost_ret (Cd (x:=⟨r.pl P,r.pl P,-1,0,W.extract P W.size⟩) Tryz.results71 _ rfl (B.out.2.setRow _)) rfl ⟨rfl,I2 B.out.1 (zD _) _⟩
   ·have e0:decide ((P:Int)<(W.size:Int))=true:=by rw[decide_eq_true_iff];omega
    have X:Hid (∀V,Bw w V->Calls Tryz.prog 109 #[.pointer (some ⟨yb,0,none⟩),.string W,.int .i64 P] V fun e w'=>e=.returned (.tuple #[.int .i64 (-1),.int .i64 ((Q3 kd g W P).tt:Int)])/\Bw V w'):=Hd fun V k=>by have h9:=a5.out V P k (by omega);rw[hr]at h9;exact h9
    generalize(Q3 kd g W P).tt=Q at X;subst hx;clear a7 a5 a9 hr;go_upto_region 10 with fail
    go_cut[6,7] (fun rv qv wx=>rv=.int .i64 (-1)/\qv=.int .i64 Q/\Bw w wx/\Blk wx w.heap.size Nc 49)
    case first=>
     go_region_with (go_at_call 109;refine(X.out _ (Y1 HQ.out.1)).mono ?_;rintro e w5 ⟨rfl,D⟩;have U:Hid (Bw wc w5):=Hd ((Y1 (Below.refl _ _)).trans (D.mono (zD _)));clear D)
     all_goals
      go_wp2_with fail;go_meet;exact⟨rfl,rfl,HQ.out.1.trans (U.out.mono HQ.out.1.size),HQ.out.2.aA U.out⟩
    case rest=>
     obtain⟨rfl,rfl,M,q3⟩:=hcut;have Y:=Hd (a0.out wc P M b3 ag);have Z:=Hd2 M q3;clear M q3 d4 d0 zc X a0 HQ;go_wp2_with fail;refine Y.out.mono ?_;rintro e w6 ⟨rfl,G⟩;have f:=Z.out.1.trans (G.mono Z.out.1.size);have az:w6.cell? ⟨tb,4,none⟩=some (.string W):=(Blk.aA HS.out f).cell 4;have z6:=(Blk.aA HS.out f).lt;have B:=Hd2 f (Z.out.2.aA G);clear G Y f;go_wp2_with(first|refine Eh (x:=⟨r.pl P,r.pl P,-1,0,W.extract P W.size⟩) rfl (.tmp 2) (.tmp 75) rfl w.heap.size rfl rfl B.out.2 rfl ?_);exact bodyPost_ret (Cd (x:=⟨r.pl P,r.pl P,-1,0,W.extract P W.size⟩) Tryz.results71 _ rfl (B.out.2.setRow _)) rfl ⟨rfl,I2 B.out.1 (zD _) _⟩
   ·have e0:decide ((P:Int)<(W.size:Int))=true:=by rw[decide_eq_true_iff];omega
    obtain⟨t1,t2,t3⟩:=Vb kd g W P hP;have ak:=GJ HG.out hP t2 t1 av;rw[<-ar]at ak;have X:Hid (∀V,Bw w V->Calls Tryz.prog 109 #[.pointer (some ⟨yb,0,none⟩),.string W,.int .i64 P] V fun e w'=>e=.returned (.tuple #[.int .i64 (Q3 kd g W P).aB,.int .i64 ((Q3 kd g W P).tt:Int)])/\Bw V w'):=Hd fun V k=>a5.out V P k (by omega)
    have a8:Hid (∀V,Bw w V->Calls Tryz.prog 63 #[.pointer (some ⟨yb,0,none⟩),.int .i64 0,.string (W.extract P (Q3 kd g W P).tt)] V fun e w'=>e=.returned (.int .i64 st)/\Bw V w'):=Hd fun V k=>by
     have h9:=a9.out V (W.extract P (Q3 kd g W P).tt) k (by rw[ByteArray.size_extract];omega);rw[ak]at h9;exact h9
    have e1:((Q3 kd g W P).aB== -1)=false:=by simp[hr]
    clear ar av ak hr t3;generalize Q3 kd g W P=tk at X a8 e1 aj hx t1 t2;obtain⟨tr,tf,tt⟩:=tk;simp only at X a8 e1 aj hx t1 t2;subst hx;have b6:tt<=4000000:=by omega
    have j0:(0:Int)<=(tt:Int):=by omega
    have j1:(P:Int)<=(tt:Int):=by omega
    have j2:(tt:Int)<=(W.size:Int):=by omega
    clear a7 a5 a9;go_upto_region 10 with fail
    go_cut[6,7] (fun rv qv wx=>rv=.int .i64 tr/\qv=.int .i64 tt/\Bw w wx/\Blk wx w.heap.size Nc 49)
    case first=>
     go_region_with (go_at_call 109;refine(X.out _ (Y1 HQ.out.1)).mono ?_;rintro e w5 ⟨rfl,D⟩;have U:Hid (Bw wc w5):=Hd ((Y1 (Below.refl _ _)).trans (D.mono (zD _)));clear D)
     all_goals
      go_wp2_with fail;go_meet;exact⟨rfl,rfl,HQ.out.1.trans (U.out.mono HQ.out.1.size),HQ.out.2.aA U.out⟩
    case rest=>
     obtain⟨rfl,rfl,M,q3⟩:=hcut;have Y:=Hd (a0.out wc P M b3 ag);have Z:=Hd2 M q3;clear M q3 d4 d0 zc X HQ;go_wp2_with fail;refine Y.out.mono ?_;rintro e w6 ⟨rfl,G⟩;have f:=Z.out.1.trans (G.mono Z.out.1.size);have B:=Hd2 f (Z.out.2.aA G);have am:=Hd (a0.out w6 tt f (.inr aj) b6);clear G Y f a0 Z;go_wp2_with fail;refine am.out.mono ?_;rintro e w7 ⟨rfl,ah⟩;have f:=B.out.1.trans (ah.mono B.out.1.size);have a4:=Hd2 f (B.out.2.aA ah);have aa:=Blk.aA HS.out f;have b0:w7.cell? ⟨tb,4,none⟩=some (.string W):=aa.cell 4;have ay:w7.cell? ⟨tb,0,none⟩=some (.pointer (some ⟨yb,0,none⟩)):=aa.cell 0;have z7:=aa.lt;clear ah am B f aa;go_upto_region 16 with fail
     go_cut[11] (fun sv wx=>sv=.int .i64 st/\Bw w wx/\Blk wx w.heap.size Nc 49)
     case first=>
      go_region_with (go_at_call 63;refine(a8.out _ (Y1 a4.out.1)).mono ?_;rintro e w5 ⟨rfl,D⟩;have U:Hid (Bw w7 w5):=Hd ((Y1 (Below.refl _ _)).trans (D.mono (zD _)));clear D)
      all_goals
       go_wp2_with fail;go_meet;exact⟨rfl,a4.out.1.trans (U.out.mono a4.out.1.size),a4.out.2.aA U.out⟩
     case rest=>
      obtain⟨rfl,M,q3⟩:=hcut;have bc:wc.cell? ⟨tb,4,none⟩=some (.string W):=(Blk.aA HS.out M).cell 4;have z8:=(Blk.aA HS.out M).lt;have ae:=Hd2 M q3;clear M q3 b0 ay a8 a4;go_wp2_with(first|refine Eh (x:=⟨r.pl P,r.pl tt,tr,st,W.extract tt W.size⟩) rfl (.tmp 2) (.tmp 104) rfl w.heap.size rfl rfl ae.out.2 rfl ?_);exact bodyPost_ret (Cd (x:=⟨r.pl P,r.pl tt,tr,st,W.extract tt W.size⟩) Tryz.results71 _ rfl (ae.out.2.setRow _)) rfl ⟨rfl,I2 ae.out.1 (zD _) _⟩
theorem EV{kd:Nat->Nat}{g:B0}(h:Zh kd g)(s b:Int):X0 kd g s b= -1\/∃j:Nat,j<g.aB.length/\X0 kd g s b=(j:Int):=by
 by_cases K:s<0\/(g.next.length:Int)<=s\/b<0\/256<=b
 ·left;unfold X0;rw[if_pos K]
 ·obtain⟨i,G⟩:∃i:Nat,s=(i:Int):=⟨s.toNat,by omega⟩;obtain⟨c,D⟩:∃c:Nat,b=(c:Int):=⟨b.toNat,by omega⟩;subst G D;have M:=h.len;have B:i<g.aB.length:=by omega
  have f:c<256:=by omega
  rw[Z7 h B f];rcases h.step i c B f with e|⟨j,e,J⟩
  ·exact .inl e
  ·exact .inr ⟨j,J,e⟩
theorem My(yb:Nat)(kd:Nat->Nat)(g:B0)(TX:List ByteArray)(st:Int)(s:ByteArray)(w:World)(h:N6 w yb kd g TX)(hG:Zh kd g)(hs:s.size<=4000000):
  Calls Tryz.prog 65 #[.pointer (some ⟨yb,0,none⟩),.int .i64 st,.string s] w fun e w'=>e=.returned (.bool (Gf kd g (L1 s 0) st))/\Bw w w':=by
 have HP:=Hd h;have HG:=Hd (EV hG);clear h hG;obtain⟨A0,W⟩:∃A0,Gf kd g (L1 s 0) st=A0:=⟨_,rfl⟩;rw[W];have HS:=Hd W;clear W;go_enter Tryz.func65,Tryz.ntmps65;go_wp2_with fail
 go_loopg[1,7] s.size (fun G sv iv wr=>∃(i:Nat) (q:Int),sv=.int .i64 q/\iv=.int .i64 i/\i<=s.size/\G=s.size-i/\A0=Gf kd g (L1 s i) q/\Bw w wr)
 case atStart=>exact⟨0,st,rfl,rfl,by omega,rfl,HS.out.symm,Below.refl _ _⟩
 case round=>
  obtain⟨i,q,rfl,rfl,hi,rfl,V,hB⟩:=hrel
  by_cases a0:i<s.size
  ·have e0:decide ((i:Int)<(s.size:Int))=true:=by simp;omega
   have p0:(0:Int)<=(i:Int):=by omega
   have p1:(i:Int)<(s.size:Int):=by omega
   have HN:=Hd (Rf yb kd g TX q (F0 s i) wr (HP.out.aA hB));have J:=HG.out q (F0 s i);rw[Yo a0]at V;unfold Gf at V;generalize X0 kd g q (F0 s i)=n at HN J V;have Z:=Hd V;have M:=Hd hB;clear hB V;go_wp2_with fail;rw[Rm s i a0];refine HN.out.mono ?_;rintro e w1 ⟨rfl,U⟩;have D:=M.out.trans (U.mono M.out.size)
   by_cases X:n= -1
   ·have e1:(n== -1)=true:=by simp[X]
    have B:=Z.out;rw[if_pos X]at B;have f:=Hd B;have K:=Hd D;clear B Z U D HN J X;go_wp2_with fail;go_ret;exact⟨by rw[f.out];rfl,K.out⟩
   ·obtain⟨j,hj,rfl⟩:∃j:Nat,j<g.aB.length/\n=(j:Int):=by
     rcases J with e|e
     ·exact absurd e X
     ·exact e
    have B:=Z.out;rw[if_neg X]at B;obtain⟨zy,og,a1,c5,co⟩:=(HP.out.aA D).lJ;have o0:=co j hj;clear co;have j0:(0:Int)<=(j:Int):=by omega
    have j1:(j:Int)<(g.aB.length:Int):=by omega
    have e1:((j:Int)== -1)=false:=by rw[beq_eq_false_iff_ne];omega
    generalize N0 g (j:Int)=u at B o0;have K:=Hd D
    by_cases Y:u= -1
    ·have e2:(u != -1)=false:=by simp[Y]
     rw[if_pos Y]at B;have f:=Hd B;clear B Z U D HN J X Y;go_wp2_with fail
     go_roundg (s.size- (i+1))
     case measure=>omega
     case rel=>exact⟨i+1,(j:Int),rfl,by go_num,by omega,rfl,f.out,K.out⟩
    ·have e2:(u != -1)=true:=by simp[Y]
     rw[if_neg Y]at B;have f:=Hd B;clear B Z U D HN J X Y;go_wp2_with fail;go_ret;exact⟨by rw[f.out];rfl,K.out⟩
  ·have e0:decide ((i:Int)<(s.size:Int))=false:=by rw[decide_eq_false_iff_not];omega
   rw[Ze (by omega)]at V;have B:A0=true:=V;have M:=Hd hB;have f:=Hd B;clear hB V B;go_wp2_with fail;go_ret;exact⟨by rw[f.out];rfl,M.out⟩
theorem Oy{t:ByteArray}:L1 t 0= []↔t.size=0:=by
 have:=V7 t 0;constructor
 ·intro h;rw[h]at this;simp at this;omega
 ·intro h;exact yM (by omega)
theorem MP{R:E0}{kd:Nat->Nat}{g:B0}(K:A4 R=some (kd,g))(U:B8 kd g){a e s:Int}{t:ByteArray}(M:a<=e):Zk kd g a e s t↔(Gf kd g (L1 t 0) s=true/\¬(t.size=0/\a<e/\U5 g s=false)):=by
 unfold Zk;rw[Rn K U (L1 t 0) s (Xo t 0)]
 by_cases B:t.size=0
 ·have G:=Oy.2 B;rw[if_pos G,G];have J:Gf kd g [] s=true:=rfl;rw[J]
  by_cases D:e=a
  ·exact⟨fun _=>⟨rfl,fun h=>by omega⟩,fun _=>.inl ⟨B,D⟩⟩
  ·constructor
   ·rintro(h|h)
    ·exact absurd h.2 D
    ·exact⟨rfl,fun f=>by rw[h.2]at f;exact absurd f.2.2 (by simp)⟩
   ·intro h;refine .inr ⟨fun f=>D f.2,?_⟩;cases hl:U5 g s with
    |true=>rfl
    |false=>exact absurd ⟨B,by omega,hl⟩ h.2
 ·rw[if_neg (fun h=>B (Oy.1 h))];constructor
  ·rintro(h|h)
   ·exact absurd h.1 B
   ·exact⟨h.2,fun f=>B f.1⟩
  ·intro h;exact .inr ⟨fun f=>B f.1,h.1⟩
theorem QL{g:B0}{a e r s:Int}(f:0<g.aB.length)(h:Jp g a e r s):∃st:Nat,st<g.aB.length/\s=(st:Int):=by
 rcases h with⟨_,_,rfl⟩|⟨_,h,_⟩
 ·exact⟨0,f,rfl⟩
 ·unfold N0 at h;split at h
  ·exact absurd rfl h
  ·exact⟨s.toNat,by omega,by omega⟩
def UF(G:Nat)(kd:Nat->Nat)(g:B0)(f:List ByteArray)(a e r s:Int)(t:ByteArray)(w:World)(z:Ending)(w':World):Prop:=
 Bw w w'/\(((V3 kd g).aW=false/\z=.returned (.tuple #[.pointer none,.int .i64 4]))\/
  ((V3 kd g).aW=true/\¬SvP kd g a e r s t/\z=.returned (.tuple #[.pointer none,.int .i64 7]))\/
  ((V3 kd g).aW=true/\SvP kd g a e r s t/\∃(h B D st:Nat) (J:st<f.length),a=(B:Int)/\e=(D:Int)/\s=(st:Int)/\z=.returned (.tuple #[.pointer (some ⟨h,0,none⟩),.int .i64 0])/\I7 w' h G ⟨B,D,f[st].size⟩ (f[st]++t) 0 false/\w.heap.size<=h))
theorem Wz(yb:Nat){R:E0}(kd:Nat->Nat)(g:B0)(J:List ByteArray)(a e r s:Int)(t:ByteArray)(w:World)(h:N6 w yb kd g J)(hR:A4 R=some (kd,g))(hf:Fb kd g)(hG:Zh kd g)(av:∀i,(hi:i<J.length)->J[i].size<=61)(ha:I64 a)(he:I64 e)(hz:t.size<=4000000):
  Calls Tryz.prog 77 #[.pointer (some ⟨yb,0,none⟩),Nh a e r s t] w (UF yb kd g J a e r s t w):=by
 have HK:=Hd (fun(W:World) (hb:Bw w W)=>QI yb kd g J W (h.aA hb) hR hf);have ae:=Hd (fun(W:World) (hb:Bw w W)=>My yb kd g J s t W (h.aA hb) hG hz);have ad:=Hd (fun(W:World) (hb:Bw w W)=>Zq yb kd g J s W (h.aA hb) hR hf.ok);have a4:Hid (∀(W:World),Bw w W->Calls Tryz.prog 64 #[.pointer (some ⟨yb,0,none⟩),.int .i64 s] W fun e w'=>e=.returned (.int .i64 (N0 g s))/\w'=W):=Hd (fun W hb=>Mu yb kd g J s W (h.aA hb));have b7:Hid (∀(W:World),Bw w W->yb<W.heap.size/\(∃tg ab,W.cell? ⟨yb,3,none⟩=some (.slice (some ⟨tg,0,none⟩) g.aB.length ab)/\∀i,(hi:i<J.length)->W.cell? ⟨tg,i,none⟩=some (.string J[i]))):=Hd (fun W hb=>⟨(h.aA hb).cells.1,(h.aA hb).cells.2.1⟩);have Z:=Hd (fun(b8:a<=e)=>MP (s:=s) (t:=t) hR hf.ok b8);have an:=Hd4 h.tl hf.bF hf.bV av;have am:=Hd (fun(hn:Jp g a e r s)=>QL hf.bF hn);clear h hR hf hG av;unfold I64 at ha he;unfold UF;generalize V3 kd g=X at HK;obtain⟨xb,xk,x1,x2,x3,x4,x5⟩:=X;simp only at HK⊢;obtain⟨w0,a8⟩:∃w0:World,w.alloc (.cells (Ga a e r s t) 49)=w0:=⟨_,rfl⟩;have ar:Bw w w0:=by rw[<-a8];exact P0 _ _
 have ap:Blk w0 w.heap.size (Ga a e r s t) 49:=by rw[<-a8];exact Blk.aQ _ _ _
 have a5:=Hd2 ar ap;clear ar ap;go_enter Tryz.func77,Tryz.ntmps77;go_wp2_with fail
 try rw[a8]
 clear a8;refine(HK.out _ a5.out.1).mono ?_;rintro z w1 ⟨rfl,ag⟩;have B:Hid (Bw w w1/\Blk w1 w.heap.size (Ga a e r s t) 49):=⟨a5.out.1.trans (ag.mono a5.out.1.size),a5.out.2.aA ag⟩;clear ag a5 HK;cases xb with
 |false=>
  go_wp2_with fail
  go_ret2
  first|exact⟨B.out.1,.inl ⟨rfl,rfl⟩⟩|exact⟨B.out.1,.inl ⟨trivial,rfl⟩⟩|exact⟨B.out.1,rfl⟩
 |true=>
 have k0:=B.out.2.cell 0;have k1:=B.out.2.cell 1;have k2:=B.out.2.cell 2;have k3:=B.out.2.cell 3;have k4:=B.out.2.cell 4
 by_cases D:Bl a e t
 case neg=>
  have HN:Hid (¬SvP kd g a e r s t):=Hd fun hs=>D hs.iX
  unfold Bl at D
  by_cases h1:a<0
  ·have e1:decide (a<0)=true:=by simp[h1]
   go_wp2_with fail
   go_ret2
   exact⟨B.out.1,.inl ⟨HN.out,rfl⟩⟩
  ·have e1:decide (a<0)=false:=by simp;omega
   by_cases U:e<a
   ·have e2:decide (e<a)=true:=by simp[U]
    go_wp2_with fail
    go_ret2
    exact⟨B.out.1,.inl ⟨HN.out,rfl⟩⟩
   ·have e2:decide (e<a)=false:=by simp;omega
    by_cases Y:1099511627776<e
    ·have e3:decide (1099511627776<e)=true:=by simp[Y]
     go_wp2_with fail
     go_ret2
     exact⟨B.out.1,.inl ⟨HN.out,rfl⟩⟩
    ·have e3:decide (1099511627776<e)=false:=by simp;omega
     obtain⟨d,hd⟩:∃d:Int,1099511627776-e=d:=⟨_,rfl⟩;have b1:IntKind.i64.wrap (1099511627776-e)=d:=(Go.IntWalk.i64_left _).trans (by rw[hd];unfold wrap64;omega);have b2:wrap64 (1099511627776-e)=d:=by rw[hd];unfold wrap64;omega
     have e4:decide (d<(t.size:Int))=true:=by simp;omega
     clear D hd;go_wp2_with fail
     go_ret2
     exact⟨B.out.1,.inl ⟨HN.out,rfl⟩⟩
 have b4:=Hd D;unfold Bl at D;have e1:decide (a<0)=false:=by simp;omega
 have e2:decide (e<a)=false:=by simp;omega
 have e3:decide (1099511627776<e)=false:=by simp;omega
 obtain⟨d,hd⟩:∃d:Int,1099511627776-e=d:=⟨_,rfl⟩;have b1:IntKind.i64.wrap (1099511627776-e)=d:=(Go.IntWalk.i64_left _).trans (by rw[hd];unfold wrap64;omega);have b2:wrap64 (1099511627776-e)=d:=by rw[hd];unfold wrap64;omega
 have e4:decide (d<(t.size:Int))=false:=by simp;omega
 have af:a<=e:=by omega
 obtain⟨xa,ax⟩:∃xa:Nat,a=(xa:Int):=⟨a.toNat,by omega⟩;obtain⟨xe,ay⟩:∃xe:Nat,e=(xe:Int):=⟨e.toNat,by omega⟩;have ao:=Z.out af;have b0:=Hd2 ax ay;have ba:=Hd af;clear D hd ax ay Z af ha he;have Z:=Hd ao;clear ao;go_upto_if 46 with fail;clear e1 e2 e3 e4 b1 b2
 by_cases f:Jp g a e r s
 case neg=>
  have HN:Hid (¬SvP kd g a e r s t):=Hd fun hs=>f hs.name
  unfold Jp at f
  by_cases h1:e=a
  ·have e1:(e==a)=true:=by simp[h1]
   by_cases U:r= -1
   ·have e2:(r != -1)=false:=by simp[U]
    by_cases Y:s=0
    ·exact absurd (.inl ⟨h1,U,Y⟩) f
    ·have e3:(s !=0)=true:=by simp[Y]
     clear f h1 U Y;go_wp2_with fail
     go_ret2
     exact⟨B.out.1,.inl ⟨HN.out,rfl⟩⟩
   ·have e2:(r != -1)=true:=by simp[U]
    clear f h1 U;go_wp2_with fail
    go_ret2
    exact⟨B.out.1,.inl ⟨HN.out,rfl⟩⟩
  ·have e1:(e==a)=false:=by simp[h1]
   have HW:=Hd2 h1 f;clear h1 f;generalize N0 g s=q at a4 HW
   by_cases U:q= -1
   ·have e2:(q== -1)=true:=by simp[U]
    clear U;go_upto_region 9 with fail;go_quiet((go_at_call 64;exact Calls.quiet_of_same (a4.out _ (A2 B.out.1 _))));go_wp2_with fail
    go_ret2
    exact⟨A2 B.out.1 _,.inl ⟨HN.out,rfl⟩⟩
   ·have e2:(q== -1)=false:=by simp[U]
    have Y:q≠r:=fun Y=>HW.out.2 (.inr ⟨HW.out.1,U,Y⟩)
    have e3:(q !=r)=true:=by simp[Y]
    clear U Y;go_upto_region 9 with fail;go_quiet((go_at_call 64;exact Calls.quiet_of_same (a4.out _ (A2 B.out.1 _))));go_wp2_with fail
    go_ret2
    exact⟨A2 B.out.1 _,.inl ⟨HN.out,rfl⟩⟩
 have b3:=Hd f;obtain⟨st,a7,aa⟩:=am.out f;have b5:=Hd2 a7 aa;clear am a7 aa;unfold Jp at f
 go_cut[4] (fun pv wx=>pv=.pointer none/\Bw w wx/\Blk wx w.heap.size (Ga a e r s t) 49)
 case first=>
  rcases f with⟨h1,U,Y⟩|⟨h1,U,Y⟩
  ·have e1:(e==a)=true:=by simp[h1]
   have e2:(r != -1)=false:=by simp[U]
   have e3:(s !=0)=false:=by simp[Y]
   clear h1 U Y;go_wp2_with fail;go_meet;exact⟨rfl,B.out.1,B.out.2⟩
  ·have e1:(e==a)=false:=by simp[h1]
   generalize N0 g s=q at a4 U Y;have e2:(q== -1)=false:=by simp[U]
   have e3:(q !=r)=false:=by simp[Y]
   clear h1 U Y;go_upto_region 9 with fail;go_quiet((go_at_call 64;exact Calls.quiet_of_same (a4.out _ (A2 B.out.1 _))));go_wp2_with fail;go_meet;exact⟨rfl,A2 B.out.1 _,Blk.drewN B.out.2 _⟩
 case rest=>
  obtain⟨rfl,aq,a1⟩:=hcut;clear k0 k1 k2 k3 k4 f B a4;have k3:=a1.cell 3;have k4:=a1.cell 4;have a6:=Hd2 aq a1;clear aq a1;generalize Gf kd g (L1 t 0) s=Q at ae Z;generalize U5 g s=M at ad Z;go_wp2_with fail;refine(ae.out _ a6.out.1).mono ?_;rintro z w3 ⟨rfl,ah⟩;have a3:Hid (Bw w w3/\Blk w3 w.heap.size (Ga a e r s t) 49):=⟨a6.out.1.trans (ah.mono a6.out.1.size),a6.out.2.aA ah⟩;clear ah k3 k4 a6 ae;have k3:=a3.out.2.cell 3;go_wp2_with fail;refine(ad.out _ a3.out.1).mono ?_;rintro z w4 ⟨rfl,ai⟩;have G:Hid (Bw w w4/\Blk w4 w.heap.size (Ga a e r s t) 49):=⟨a3.out.1.trans (ai.mono a3.out.1.size),a3.out.2.aA ai⟩;clear ai k3 a3 ad;have k0:=G.out.2.cell 0;have k1:=G.out.2.cell 1;have k3:=G.out.2.cell 3;have k4:=G.out.2.cell 4;go_upto_region 13 with fail
  by_cases K:Zk kd g a e s t
  case neg=>
   have HN:Hid (¬SvP kd g a e r s t):=Hd fun hs=>K hs.gQ
   have V:=fun h=>K (Z.out.2 h)
   cases Q with
   |false=>
    clear K V;go_wp2_with fail
    go_ret2
    exact⟨G.out.1,.inl ⟨HN.out,rfl⟩⟩
   |true=>
    have az:t.size=0/\a<e/\M=false:=Decidable.byContradiction fun h=>V ⟨rfl,h⟩
    obtain⟨y1,y2,rfl⟩:=az;have e1:=Gq t y1;have e2:decide (a<e)=true:=by simp[y2]
    clear K V y1 y2;go_wp2_with fail
    go_ret2
    exact⟨G.out.1,.inl ⟨HN.out,rfl⟩⟩
  have hQ:=Z.out.1 K;have b6:Hid (SvP kd g a e r s t):=Hd ⟨b4.out,b3.out,K⟩;obtain⟨rfl,V⟩:=hQ
  go_cut[96] (fun cv wx=>cv=.bool false/\wx=w4)
  case first=>
   by_cases y1:t.size=0
   ·have e1:=Gq t y1
    by_cases y2:a<e
    ·have e2:decide (a<e)=true:=by simp[y2]
     have y3:M=true:=by cases M with|true=>rfl|false=>exact absurd ⟨y1,y2,rfl⟩ V
     subst y3;clear V y1 y2 K;go_wp2_with fail;go_meet;exact⟨rfl,rfl⟩
    ·have e2:decide (a<e)=false:=by simp;omega
     clear V y1 y2 K;go_wp2_with fail;go_meet;exact⟨rfl,rfl⟩
   ·have e1:=Dy t y1;clear V y1 K;go_wp2_with fail;go_meet;exact⟨rfl,rfl⟩
  case rest=>
   obtain⟨rfl,rfl⟩:=hcut;obtain⟨zy,tg,ab,c3,ct⟩:=b7.out wc G.out.1;obtain⟨a7,rfl⟩:=b5.out;have a2:st<J.length:=by rw[an.out.1];exact a7
   have t0:=ct st a2;have hq:J[st].size<=61:=an.out.2.2.2 st a2;have s0:(0:Int)<=(st:Int):=by omega
   have s1:(st:Int)<(g.aB.length:Int):=by omega
   obtain⟨T,hT⟩:∃T,J[st]=T:=⟨_,rfl⟩;obtain⟨rfl,rfl⟩:=b0.out;have ak:Hid (∃hs:st<J.length,J[st]=T):=Hd ⟨a2,hT⟩;rw[hT]at t0 hq;have bb:(T++t).size=T.size+t.size:=zR;have au:∀n,Bw w (wc.drewN n)/\Blk (wc.drewN n) w.heap.size (Ga (xa:Int) (xe:Int) r (st:Int) t) 49:=fun n=>⟨A2 G.out.1 n,Blk.drewN G.out.2 n⟩
   have aj:=Hd au;clear hT ct K V a2 au;go_upto_region 15 with fail;go_quiet(fail);obtain⟨w5,aw⟩:∃w5:World,wc.drewN nq=w5:=⟨_,rfl⟩;have a0:=Hd (aj.out nq);rw[aw]at a0⊢;clear aw k0 k1 k3 k4 c3 t0 s0 s1 aj G;have k0:=a0.out.2.cell 0;have k1:=a0.out.2.cell 1;have k4:=a0.out.2.cell 4;go_wp2_with fail;obtain⟨b9,rfl⟩:=ak.out;have a9:Bw w (w5.alloc (.cells (RV yb ⟨xa,xe,J[st].size⟩ (J[st]++t) 0 false) 199))/\I7 (w5.alloc (.cells (RV yb ⟨xa,xe,J[st].size⟩ (J[st]++t) 0 false) 199)) w5.heap.size yb ⟨xa,xe,J[st].size⟩ (J[st]++t) 0 false/\w.heap.size<=w5.heap.size:=⟨a0.out.1.alloc a0.out.1.size _,Blk.aQ _ _ _,a0.out.1.size⟩;have ac:=Hd a9;clear a9
   go_ret2
   exact⟨ac.out.1,.inr ⟨b6.out,w5.heap.size,xa,rfl,xe,rfl,st,rfl,rfl,⟨b9,ac.out.2.1⟩,ac.out.2.2⟩⟩
end Go.Proofs.YtcckhngbdoiikaaGreat
