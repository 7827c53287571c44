import Derived.Test.YtcckhngbdoiikabGreatA43
set_option maxRecDepth 20000
set_option maxHeartbeats 12800000
set_option linter.unusedVariables false
namespace Go.Proofs.YtcckhngbdoiikabGreat
open Go.RowKit Go.Deep
section
variable{kd:Nat->Nat}{g:B0}
theorem Uo:∀(L:List Int) (q:Nat) (st:Int) (f:Vh),(K2 kd g L q st f).1=f\/∃k,0<k/\k<=L.length/\(K2 kd g L q st f).1.1=q+k/\(K2 kd g L q st f).1.2.2=Zh kd g (L.take k) st
 | [],q,st,f=>.inl rfl
 |b::L,q,st,f=>by
  rw[K7]
  by_cases h:X0 kd g st b= -1
  ·rw[if_pos h];exact .inl rfl
  ·rw[if_neg h];rcases Uo L (q+1) (X0 kd g st b) (if M0 g (X0 kd g st b)= -1 then f else(q+1,M0 g (X0 kd g st b),X0 kd g st b))with e|⟨k,J,K,D,G⟩
   ·rw[e]
    by_cases B:M0 g (X0 kd g st b)= -1
    ·rw[if_pos B];exact .inl rfl
    ·rw[if_neg B];exact .inr ⟨1,by omega,by simp,rfl,rfl⟩
   ·exact .inr ⟨k+1,by omega,by simp;omega,by rw[D];omega,by rw[G];rfl⟩
theorem QO(W:ByteArray)(p q:Nat)(h:q<=W.size):M1 (W.extract p q) 0=(M1 W p).take (q-p):=by
 have f:W.data.toList.length=W.size:=by simp
 unfold M1;rw[<-List.map_take]
 congr 1
 simp only[ByteArray.data_extract,Array.toList_extract,List.extract,xG]
theorem FL(f:We kd g){W:ByteArray}{p q:Nat}(V:p<W.size)(J:q<=W.size)(G:p<q)(h:(K2 kd g (M1 W p) p 0 (Y1 p)).1.1=q):A3 g 0 ((Q0 (W.extract p q)).map kd)=(K2 kd g (M1 W p) p 0 (Y1 p)).1.2.2:=by
 rcases Uo (kd:=kd) (g:=g) (M1 W p) p 0 (Y1 p)with e|⟨k,K,M,U,B⟩
 ·rw[e]at h;have:p=q:=h;omega
 ·have D:k=q-p:=by omega
  rw[B,D,<-QO W p q J,Jv,Bu f _ 0 (Sx _) (.inr ⟨0,f.bE,rfl⟩)]
end
theorem Ew(f J:Nat)(r:Sh)(W:ByteArray)(G:Nat)(w:World)(h:O7 w f J r W G true):
  Calls Tryz.prog 39 #[.pointer (some ⟨f,0,none⟩)] w fun e w'=>e=.returned (.tuple #[Es ⟨0,0,0,0,⟨#[]⟩⟩,.int .i64 6])/\Bw w w':=by
 have K:w.cell? ⟨f,6,none⟩=some (.bool true):=h.cell 6;have M:=h.lt;clear h;have D:Blk (w.alloc (.cells Tb 27)) w.heap.size Tb 27:=Blk.aR _ _ _;have B:=Hd D;clear D;go_enter Tryz.func39,Tryz.ntmps39;go_wp2_with(first|refine Qh (x:=⟨0,0,0,0,⟨#[]⟩⟩) rfl (.tmp 2) (.tmp 16) rfl w.heap.size rfl rfl B.out rfl ?_);exact bodyPost_ret (Ld (x:=⟨0,0,0,0,⟨#[]⟩⟩) Tryz.results39 _ rfl (B.out.setRow _)) rfl ⟨rfl,I2 (N0 _ _) (zD _) _⟩
theorem VK(tb yb:Nat)(kd:Nat->Nat)(g:B0)(TX:List ByteArray)(r:Sh)(W:ByteArray)(J:Nat)(x:F3)(w:World)(h:O7 w tb yb r W J false)(hy:P5 w yb kd g TX)(hG:We kd g)(hW:W.size<=4000000)(he:r.e<=1099511627776)(hl:r.l<=61)(hb:Nb kd g r W J x):
  Calls Tryz.prog 39 #[.pointer (some ⟨tb,0,none⟩)] w fun e w'=>e=.returned (.tuple #[Es x,.int .i64 0])/\Bw w w':=by
 obtain⟨b1,b2,b3,b4⟩:=hb.iQ;have b7:=Eh (kd:=kd) (g:=g) (s:=W);obtain⟨w1,ab⟩:∃w1:World,w.alloc (.cells Tb 27)=w1:=⟨_,rfl⟩;have a2:Bw w w1:=by rw[<-ab];exact N0 _ _
 have an:Blk w1 w.heap.size Tb 27:=by rw[<-ab];exact Blk.aR _ _ _
 have af:Hid (∀V,Bw w V->Calls Tryz.prog 48 #[.pointer (some ⟨yb,0,none⟩),.string W] V fun e w'=>∃v,e=.returned v/\P1 w' v (U4 kd g W)/\(∀b,v.ownBlock=some b->V.heap.size<=b)/\Bw V w'):=Hd fun V k=>Kh yb kd g TX W V (hy.aA k) hW
 have a0:Hid (∀V p,Bw w V->r.On p->p<=4000000->Calls Tryz.prog 72 #[.pointer (some ⟨tb,0,none⟩),.int .i64 p] V fun e w'=>e=.returned (.int .i64 ((r.pl p:Nat):Int))/\Bw V w'):=Hd fun V p k hp ba=>Sv tb yb r W J false p V (Blk.aA h k) hp he ba hl
 have a5:Hid (∀V p,Bw w V->p<=W.size->Calls Tryz.prog 71 #[.pointer (some ⟨yb,0,none⟩),.string W,.int .i64 p] V fun e w'=>e=.returned (.tuple #[.int .i64 (V3 kd g W p).aB,.int .i64 ((V3 kd g W p).tt:Int)])/\Bw V w'):=Hd fun V p k hp=>Tm yb kd g TX W p V (hy.aA k) hW hp
 have a9:Hid (∀V (s:ByteArray),Bw w V->s.size<=4000000->Calls Tryz.prog 73 #[.pointer (some ⟨yb,0,none⟩),.int .i64 0,.string s] V fun e w'=>e=.returned (.int .i64 (A3 g 0 ((Q0 s).map kd)))/\Bw V w'):=Hd fun V s k hs=>Pk yb kd g TX 0 s V (hy.aA k) hG hs (.inr ⟨0,hG.bE,rfl⟩)
 have HS:=Hd h;have HG:=Hd hG;have c6:w1.cell? ⟨tb,6,none⟩=some (.bool false):=(Blk.aA h a2).cell 6;have c0:w1.cell? ⟨tb,0,none⟩=some (.pointer (some ⟨yb,0,none⟩)):=(Blk.aA h a2).cell 0;have c4:w1.cell? ⟨tb,4,none⟩=some (.string W):=(Blk.aA h a2).cell 4;have zt:=(Blk.aA h a2).lt;have a1:Hid (J≠0->∃hk:J-1<(U4 kd g W).length,(U4 kd g W)[J-1].tt=Q4 kd g W J):=Hd fun h0=>by
  have hk:J-1<(U4 kd g W).length:=by omega
  refine⟨hk,?_⟩;unfold Q4;rw[if_neg h0,zC,zF hk];rfl
 have a6:Hid (J=0->Q4 kd g W J=0):=Hd fun h0=>by unfold Q4;rw[if_pos h0]
 generalize Q4 kd g W J=P at b2 b3 b4 a1 a6;have a7:=Hd b4;have a3:=Hd2 a2 an;clear h hy hG hb b4 a2 an;generalize U4 kd g W=L at af b7 b1 a1;go_enter Tryz.func39,Tryz.ntmps39;go_upto_region 3 with fail
 try rw[ab]
 clear ab c6
 go_cut[4] (fun lv wx=>P1 wx lv L/\Bw w wx/\Blk wx w.heap.size Tb 27)
 case first=>
  go_region_with (go_at_call 48;refine(af.out _ (T1 a3.out.1)).mono ?_;rintro e w5 ⟨v5,rfl,ap,b5,D⟩;have ax:=Hd3 ap ((T1 a3.out.1).trans (D.mono a3.out.1.size)) (Blk.aA (Blk.drew a3.out.2) D);clear ap b5 D)
  all_goals
   go_wp2_with fail;go_meet;exact ax.out
 case rest=>
  obtain⟨hT,ai,ao⟩:=hcut;obtain⟨ad,bb,e',ac⟩:=hT.aV;subst e';have K:=Blk.aA HS.out ai;have d5:wc.cell? ⟨tb,5,none⟩=some (.int .i64 J):=K.cell 5;have d4:wc.cell? ⟨tb,4,none⟩=some (.string W):=K.cell 4;have d0:wc.cell? ⟨tb,0,none⟩=some (.pointer (some ⟨yb,0,none⟩)):=K.cell 0;have zc:=K.lt;have HT:=Hd3 hT ai ao;clear hT ai ao K c0 c4 af a3;go_upto_if 30 with fail
  go_cut[5] (fun pv wx=>pv=.int .i64 P/\Bw w wx/\Blk wx w.heap.size Tb 27)
  case first=>
   by_cases h0:J=0
   ·have e0:decide ((0:Int)<(J:Int))=false:=by simp;omega
    have aw:=Hd (a6.out h0);clear a6 a1;go_wp2_with fail;go_meet;exact⟨by rw[aw.out];rfl,HT.out.2.1,HT.out.2.2⟩
   ·have e0:decide ((0:Int)<(J:Int))=true:=by simp;omega
    obtain⟨hk,aq⟩:=a1.out h0;rcases ac with e|⟨tg,rfl⟩
    ·omega
    obtain⟨_,_,g2⟩:=Vd L (J-1) hk;have M:=(Y0 HT.out.1 ((J-1)*3+2) (by omega)).trans g2;rw[aq]at M;obtain⟨t1,au⟩:∃t1,J-1=t1:=⟨_,rfl⟩;rw[au]at M;have e1:(J:Int)-1=(t1:Int):=by omega
    have b9:IntKind.i64.wrap ((J:Int)-1)=(t1:Int):=(Go.IntWalk.i64_left _).trans (by rw[e1];unfold wrap64;omega);have b8:wrap64 ((J:Int)-1)=(t1:Int):=by rw[e1];unfold wrap64;omega
    have k0:(0:Int)<=(t1:Int):=by omega
    have k1:(t1:Int)<(L.length:Int):=by omega
    have zg:=Q1 HT.out.1 tg rfl;clear a6 a1 g2 aq au e1;go_wp2_with fail;go_meet;exact⟨rfl,HT.out.2.1,HT.out.2.2⟩
  case rest=>
   obtain⟨rfl,M,q3⟩:=hcut;clear a1 a6 d5 d4 d0 zc HT ac;have K:=Blk.aA HS.out M;have d4:wc.cell? ⟨tb,4,none⟩=some (.string W):=K.cell 4;have d0:wc.cell? ⟨tb,0,none⟩=some (.pointer (some ⟨yb,0,none⟩)):=K.cell 0;have zc:=K.lt;have ag:P<=4000000:=by omega
   have p0:(0:Int)<=(P:Int):=by omega
   have p1:(P:Int)<=(W.size:Int):=by omega
   have HQ:=Hd2 M q3;clear M q3 K;rcases a7.out with⟨hP,hx⟩|⟨hP,hr,hx⟩|⟨hP,hr,aj,st,hx,ar,av⟩
   ·have e0:decide ((P:Int)<(W.size:Int))=false:=by rw[decide_eq_false_iff_not];omega
    have bd:¬P<W.size:=by omega
    have Y:=Hd (a0.out wc P HQ.out.1 b3 ag);subst hx;clear a7 a5 a9 a0 hP;go_wp2_with fail;refine Y.out.mono ?_;rintro e w6 ⟨rfl,G⟩;have f:=HQ.out.1.trans (G.mono HQ.out.1.size);have az:w6.cell? ⟨tb,4,none⟩=some (.string W):=(Blk.aA HS.out f).cell 4;have z6:=(Blk.aA HS.out f).lt;have B:=Hd2 f (HQ.out.2.aA G);clear G Y d4 d0 f;go_wp2_with(first|refine Qh (x:=⟨r.pl P,r.pl P,-1,0,W.extract P W.size⟩) rfl (.tmp 2) (.tmp 75) rfl w.heap.size rfl rfl B.out.2 rfl ?_);exact bodyPost_ret (Ld (x:=⟨r.pl P,r.pl P,-1,0,W.extract P W.size⟩) Tryz.results39 _ rfl (B.out.2.setRow _)) rfl ⟨rfl,I2 B.out.1 (zD _) _⟩
   ·have e0:decide ((P:Int)<(W.size:Int))=true:=by rw[decide_eq_true_iff];omega
    have X:Hid (∀V,Bw w V->Calls Tryz.prog 71 #[.pointer (some ⟨yb,0,none⟩),.string W,.int .i64 P] V fun e w'=>e=.returned (.tuple #[.int .i64 (-1),.int .i64 ((V3 kd g W P).tt:Int)])/\Bw V w'):=Hd fun V k=>by have h9:=a5.out V P k (by omega);rw[hr]at h9;exact h9
    generalize(V3 kd g W P).tt=Q at X;subst hx;clear a7 a5 a9 hr;go_upto_region 10 with fail
    go_cut[6,7] (fun rv qv wx=>rv=.int .i64 (-1)/\qv=.int .i64 Q/\Bw w wx/\Blk wx w.heap.size Tb 27)
    case first=>
     go_region_with (go_at_call 71;refine(X.out _ (T1 HQ.out.1)).mono ?_;rintro e w5 ⟨rfl,D⟩;have U:Hid (Bw wc w5):=Hd ((T1 (Below.refl _ _)).trans (D.mono (zD _)));clear D)
     all_goals
      go_wp2_with fail;go_meet;exact⟨rfl,rfl,HQ.out.1.trans (U.out.mono HQ.out.1.size),HQ.out.2.aA U.out⟩
    case rest=>
     obtain⟨rfl,rfl,M,q3⟩:=hcut;have Y:=Hd (a0.out wc P M b3 ag);have Z:=Hd2 M q3;clear M q3 d4 d0 zc X a0 HQ;go_wp2_with fail;refine Y.out.mono ?_;rintro e w6 ⟨rfl,G⟩;have f:=Z.out.1.trans (G.mono Z.out.1.size);have az:w6.cell? ⟨tb,4,none⟩=some (.string W):=(Blk.aA HS.out f).cell 4;have z6:=(Blk.aA HS.out f).lt;have B:=Hd2 f (Z.out.2.aA G);clear G Y f;go_wp2_with(first|refine Qh (x:=⟨r.pl P,r.pl P,-1,0,W.extract P W.size⟩) rfl (.tmp 2) (.tmp 75) rfl w.heap.size rfl rfl B.out.2 rfl ?_);exact bodyPost_ret (Ld (x:=⟨r.pl P,r.pl P,-1,0,W.extract P W.size⟩) Tryz.results39 _ rfl (B.out.2.setRow _)) rfl ⟨rfl,I2 B.out.1 (zD _) _⟩
   ·have e0:decide ((P:Int)<(W.size:Int))=true:=by rw[decide_eq_true_iff];omega
    obtain⟨t1,t2,t3⟩:=Ec kd g W P hP;have ak:=FL HG.out hP t2 t1 av;rw[<-ar]at ak;have X:Hid (∀V,Bw w V->Calls Tryz.prog 71 #[.pointer (some ⟨yb,0,none⟩),.string W,.int .i64 P] V fun e w'=>e=.returned (.tuple #[.int .i64 (V3 kd g W P).aB,.int .i64 ((V3 kd g W P).tt:Int)])/\Bw V w'):=Hd fun V k=>a5.out V P k (by omega)
    have a8:Hid (∀V,Bw w V->Calls Tryz.prog 73 #[.pointer (some ⟨yb,0,none⟩),.int .i64 0,.string (W.extract P (V3 kd g W P).tt)] V fun e w'=>e=.returned (.int .i64 st)/\Bw V w'):=Hd fun V k=>by
     have h9:=a9.out V (W.extract P (V3 kd g W P).tt) k (by rw[ByteArray.size_extract];omega);rw[ak]at h9;exact h9
    have e1:((V3 kd g W P).aB== -1)=false:=by simp[hr]
    clear ar av ak hr t3;generalize V3 kd g W P=tk at X a8 e1 aj hx t1 t2;obtain⟨tr,tf,tt⟩:=tk;simp only at X a8 e1 aj hx t1 t2;subst hx;have b6:tt<=4000000:=by omega
    have j0:(0:Int)<=(tt:Int):=by omega
    have j1:(P:Int)<=(tt:Int):=by omega
    have j2:(tt:Int)<=(W.size:Int):=by omega
    clear a7 a5 a9;go_upto_region 10 with fail
    go_cut[6,7] (fun rv qv wx=>rv=.int .i64 tr/\qv=.int .i64 tt/\Bw w wx/\Blk wx w.heap.size Tb 27)
    case first=>
     go_region_with (go_at_call 71;refine(X.out _ (T1 HQ.out.1)).mono ?_;rintro e w5 ⟨rfl,D⟩;have U:Hid (Bw wc w5):=Hd ((T1 (Below.refl _ _)).trans (D.mono (zD _)));clear D)
     all_goals
      go_wp2_with fail;go_meet;exact⟨rfl,rfl,HQ.out.1.trans (U.out.mono HQ.out.1.size),HQ.out.2.aA U.out⟩
    case rest=>
     obtain⟨rfl,rfl,M,q3⟩:=hcut;have Y:=Hd (a0.out wc P M b3 ag);have Z:=Hd2 M q3;clear M q3 d4 d0 zc X HQ;go_wp2_with fail;refine Y.out.mono ?_;rintro e w6 ⟨rfl,G⟩;have f:=Z.out.1.trans (G.mono Z.out.1.size);have B:=Hd2 f (Z.out.2.aA G);have am:=Hd (a0.out w6 tt f (.inr aj) b6);clear G Y f a0 Z;go_wp2_with fail;refine am.out.mono ?_;rintro e w7 ⟨rfl,ah⟩;have f:=B.out.1.trans (ah.mono B.out.1.size);have a4:=Hd2 f (B.out.2.aA ah);have aa:=Blk.aA HS.out f;have b0:w7.cell? ⟨tb,4,none⟩=some (.string W):=aa.cell 4;have ay:w7.cell? ⟨tb,0,none⟩=some (.pointer (some ⟨yb,0,none⟩)):=aa.cell 0;have z7:=aa.lt;clear ah am B f aa;go_upto_region 16 with fail
     go_cut[11] (fun sv wx=>sv=.int .i64 st/\Bw w wx/\Blk wx w.heap.size Tb 27)
     case first=>
      go_region_with (go_at_call 73;refine(a8.out _ (T1 a4.out.1)).mono ?_;rintro e w5 ⟨rfl,D⟩;have U:Hid (Bw w7 w5):=Hd ((T1 (Below.refl _ _)).trans (D.mono (zD _)));clear D)
      all_goals
       go_wp2_with fail;go_meet;exact⟨rfl,a4.out.1.trans (U.out.mono a4.out.1.size),a4.out.2.aA U.out⟩
     case rest=>
      obtain⟨rfl,M,q3⟩:=hcut;have bc:wc.cell? ⟨tb,4,none⟩=some (.string W):=(Blk.aA HS.out M).cell 4;have z8:=(Blk.aA HS.out M).lt;have ae:=Hd2 M q3;clear M q3 b0 ay a8 a4;go_wp2_with(first|refine Qh (x:=⟨r.pl P,r.pl tt,tr,st,W.extract tt W.size⟩) rfl (.tmp 2) (.tmp 104) rfl w.heap.size rfl rfl ae.out.2 rfl ?_);exact bodyPost_ret (Ld (x:=⟨r.pl P,r.pl tt,tr,st,W.extract tt W.size⟩) Tryz.results39 _ rfl (ae.out.2.setRow _)) rfl ⟨rfl,I2 ae.out.1 (zD _) _⟩
theorem GX{kd:Nat->Nat}{g:B0}(h:We kd g)(s b:Int):X0 kd g s b= -1\/∃j:Nat,j<g.aB.length/\X0 kd g s b=(j:Int):=by
 by_cases K:s<0\/(g.next.length:Int)<=s\/b<0\/256<=b
 ·left;unfold X0;rw[if_pos K]
 ·obtain⟨i,G⟩:∃i:Nat,s=(i:Int):=⟨s.toNat,by omega⟩;obtain⟨c,D⟩:∃c:Nat,b=(c:Int):=⟨b.toNat,by omega⟩;subst G D;have M:=h.len;have B:i<g.aB.length:=by omega
  have f:c<256:=by omega
  rw[G8 h B f];rcases h.step i c B f with e|⟨j,e,J⟩
  ·exact .inl e
  ·exact .inr ⟨j,J,e⟩
theorem Nz(yb:Nat)(kd:Nat->Nat)(g:B0)(TX:List ByteArray)(st:Int)(s:ByteArray)(w:World)(h:P5 w yb kd g TX)(hG:We kd g)(hs:s.size<=4000000):
  Calls Tryz.prog 77 #[.pointer (some ⟨yb,0,none⟩),.int .i64 st,.string s] w fun e w'=>e=.returned (.bool (Nf kd g (M1 s 0) st))/\Bw w w':=by
 have HP:=Hd h;have HG:=Hd (GX hG);clear h hG;obtain⟨A0,W⟩:∃A0,Nf kd g (M1 s 0) st=A0:=⟨_,rfl⟩;rw[W];have HS:=Hd W;clear W;go_enter Tryz.func77,Tryz.ntmps77;go_wp2_with fail
 go_loopg[1,7] s.size (fun G sv iv wr=>∃(i:Nat) (q:Int),sv=.int .i64 q/\iv=.int .i64 i/\i<=s.size/\G=s.size-i/\A0=Nf kd g (M1 s i) q/\Bw w wr)
 case atStart=>exact⟨0,st,rfl,rfl,by omega,rfl,HS.out.symm,Below.refl _ _⟩
 case round=>
  obtain⟨i,q,rfl,rfl,hi,rfl,V,hB⟩:=hrel
  by_cases a0:i<s.size
  ·have e0:decide ((i:Int)<(s.size:Int))=true:=by simp;omega
   have p0:(0:Int)<=(i:Int):=by omega
   have p1:(i:Int)<(s.size:Int):=by omega
   have HN:=Hd (Ic yb kd g TX q (F0 s i) wr (HP.out.aA hB));have J:=HG.out q (F0 s i);rw[Qp a0]at V;unfold Nf at V;generalize X0 kd g q (F0 s i)=n at HN J V;have Z:=Hd V;have M:=Hd hB;clear hB V;go_wp2_with fail;rw[Vj s i a0];refine HN.out.mono ?_;rintro e w1 ⟨rfl,U⟩;have D:=M.out.trans (U.mono M.out.size)
   by_cases X:n= -1
   ·have e1:(n== -1)=true:=by simp[X]
    have B:=Z.out;rw[if_pos X]at B;have f:=Hd B;have K:=Hd D;clear B Z U D HN J X;go_wp2_with fail;go_ret;exact⟨by rw[f.out];rfl,K.out⟩
   ·obtain⟨j,hj,rfl⟩:∃j:Nat,j<g.aB.length/\n=(j:Int):=by
     rcases J with e|e
     ·exact absurd e X
     ·exact e
    have B:=Z.out;rw[if_neg X]at B;obtain⟨zy,og,a1,c5,co⟩:=(HP.out.aA D).lJ;have o0:=co j hj;clear co;have j0:(0:Int)<=(j:Int):=by omega
    have j1:(j:Int)<(g.aB.length:Int):=by omega
    have e1:((j:Int)== -1)=false:=by rw[beq_eq_false_iff_ne];omega
    generalize M0 g (j:Int)=u at B o0;have K:=Hd D
    by_cases Y:u= -1
    ·have e2:(u != -1)=false:=by simp[Y]
     rw[if_pos Y]at B;have f:=Hd B;clear B Z U D HN J X Y;go_wp2_with fail
     go_roundg (s.size- (i+1))
     case measure=>omega
     case rel=>exact⟨i+1,(j:Int),rfl,by go_num,by omega,rfl,f.out,K.out⟩
    ·have e2:(u != -1)=true:=by simp[Y]
     rw[if_neg Y]at B;have f:=Hd B;clear B Z U D HN J X Y;go_wp2_with fail;go_ret;exact⟨by rw[f.out];rfl,K.out⟩
  ·have e0:decide ((i:Int)<(s.size:Int))=false:=by rw[decide_eq_false_iff_not];omega
   rw[Ff (by omega)]at V;have B:A0=true:=V;have M:=Hd hB;have f:=Hd B;clear hB V B;go_wp2_with fail;go_ret;exact⟨by rw[f.out];rfl,M.out⟩
theorem Pz{t:ByteArray}:M1 t 0= []↔t.size=0:=by
 have:=B8 t 0;constructor
 ·intro h;rw[h]at this;simp at this;omega
 ·intro h;exact yN (by omega)
theorem MR{R:E0}{kd:Nat->Nat}{g:B0}(K:N3 R=some (kd,g))(U:N7 kd g){a e s:Int}{t:ByteArray}(M:a<=e):Kl kd g a e s t↔(Nf kd g (M1 t 0) s=true/\¬(t.size=0/\a<e/\A6 g s=false)):=by
 unfold Kl;rw[Lo K U (M1 t 0) s (Pp t 0)]
 by_cases B:t.size=0
 ·have G:=Pz.2 B;rw[if_pos G,G];have J:Nf kd g [] s=true:=rfl;rw[J]
  by_cases D:e=a
  ·exact⟨fun _=>⟨rfl,fun h=>by omega⟩,fun _=>.inl ⟨B,D⟩⟩
  ·constructor
   ·rintro(h|h)
    ·exact absurd h.2 D
    ·exact⟨rfl,fun f=>by rw[h.2]at f;exact absurd f.2.2 (by simp)⟩
   ·intro h;refine .inr ⟨fun f=>D f.2,?_⟩;cases hl:A6 g s with
    |true=>rfl
    |false=>exact absurd ⟨B,by omega,hl⟩ h.2
 ·rw[if_neg (fun h=>B (Pz.1 h))];constructor
  ·rintro(h|h)
   ·exact absurd h.1 B
   ·exact⟨h.2,fun f=>B f.1⟩
  ·intro h;exact .inr ⟨fun f=>B f.1,h.1⟩
theorem PN{g:B0}{a e r s:Int}(f:0<g.aB.length)(h:Cq g a e r s):∃st:Nat,st<g.aB.length/\s=(st:Int):=by
 rcases h with⟨_,_,rfl⟩|⟨_,h,_⟩
 ·exact⟨0,f,rfl⟩
 ·unfold M0 at h;split at h
  ·exact absurd rfl h
  ·exact⟨s.toNat,by omega,by omega⟩
def OH(G:Nat)(kd:Nat->Nat)(g:B0)(f:List ByteArray)(a e r s:Int)(t:ByteArray)(w:World)(z:Ending)(w':World):Prop:=
 Bw w w'/\(((V1 kd g).aT=false/\z=.returned (.tuple #[.pointer none,.int .i64 4]))\/
  ((V1 kd g).aT=true/\¬SvP kd g a e r s t/\z=.returned (.tuple #[.pointer none,.int .i64 7]))\/
  ((V1 kd g).aT=true/\SvP kd g a e r s t/\∃(h B D st:Nat) (J:st<f.length),a=(B:Int)/\e=(D:Int)/\s=(st:Int)/\z=.returned (.tuple #[.pointer (some ⟨h,0,none⟩),.int .i64 0])/\O7 w' h G ⟨B,D,f[st].size⟩ (f[st]++t) 0 false/\w.heap.size<=h))
theorem DB(yb:Nat){R:E0}(kd:Nat->Nat)(g:B0)(J:List ByteArray)(a e r s:Int)(t:ByteArray)(w:World)(h:P5 w yb kd g J)(hR:N3 R=some (kd,g))(hf:K8 kd g)(hG:We kd g)(av:∀i,(hi:i<J.length)->J[i].size<=61)(ha:I64 a)(he:I64 e)(hz:t.size<=4000000):
  Calls Tryz.prog 45 #[.pointer (some ⟨yb,0,none⟩),Ai a e r s t] w (OH yb kd g J a e r s t w):=by
 have HK:=Hd (fun(W:World) (hb:Bw w W)=>Lz yb kd g J W (h.aA hb) hR hf);have ae:=Hd (fun(W:World) (hb:Bw w W)=>Nz yb kd g J s t W (h.aA hb) hG hz);have ad:=Hd (fun(W:World) (hb:Bw w W)=>Sr yb kd g J s W (h.aA hb) hR hf.ok);have a4:Hid (∀(W:World),Bw w W->Calls Tryz.prog 76 #[.pointer (some ⟨yb,0,none⟩),.int .i64 s] W fun e w'=>e=.returned (.int .i64 (M0 g s))/\w'=W):=Hd (fun W hb=>Yf yb kd g J s W (h.aA hb));have b7:Hid (∀(W:World),Bw w W->yb<W.heap.size/\(∃tg ab,W.cell? ⟨yb,3,none⟩=some (.slice (some ⟨tg,0,none⟩) g.aB.length ab)/\∀i,(hi:i<J.length)->W.cell? ⟨tg,i,none⟩=some (.string J[i]))):=Hd (fun W hb=>⟨(h.aA hb).cells.1,(h.aA hb).cells.2.1⟩);have Z:=Hd (fun(b8:a<=e)=>MR (s:=s) (t:=t) hR hf.ok b8);have an:=Hd4 h.tl hf.bE hf.bU av;have am:=Hd (fun(hn:Cq g a e r s)=>PN hf.bE hn);clear h hR hf hG av;unfold I64 at ha he;unfold OH;generalize V1 kd g=X at HK;obtain⟨xb,xk,x1,x2,x3,x4,x5⟩:=X;simp only at HK⊢;obtain⟨w0,a8⟩:∃w0:World,w.alloc (.cells (La a e r s t) 27)=w0:=⟨_,rfl⟩;have ar:Bw w w0:=by rw[<-a8];exact N0 _ _
 have ap:Blk w0 w.heap.size (La a e r s t) 27:=by rw[<-a8];exact Blk.aR _ _ _
 have a5:=Hd2 ar ap;clear ar ap;go_enter Tryz.func45,Tryz.ntmps45;go_wp2_with fail
 try rw[a8]
 clear a8;refine(HK.out _ a5.out.1).mono ?_;rintro z w1 ⟨rfl,ag⟩;have B:Hid (Bw w w1/\Blk w1 w.heap.size (La a e r s t) 27):=⟨a5.out.1.trans (ag.mono a5.out.1.size),a5.out.2.aA ag⟩;clear ag a5 HK;cases xb with
 |false=>
  go_wp2_with fail
  go_ret2
  first|exact⟨B.out.1,.inl ⟨rfl,rfl⟩⟩|exact⟨B.out.1,.inl ⟨trivial,rfl⟩⟩|exact⟨B.out.1,rfl⟩
 |true=>
 have k0:=B.out.2.cell 0;have k1:=B.out.2.cell 1;have k2:=B.out.2.cell 2;have k3:=B.out.2.cell 3;have k4:=B.out.2.cell 4
 by_cases D:Nl a e t
 case neg=>
  have HN:Hid (¬SvP kd g a e r s t):=Hd fun hs=>D hs.jB
  unfold Nl at D
  by_cases h1:a<0
  ·have e1:decide (a<0)=true:=by simp[h1]
   go_wp2_with fail
   go_ret2
   exact⟨B.out.1,.inl ⟨HN.out,rfl⟩⟩
  ·have e1:decide (a<0)=false:=by simp;omega
   by_cases U:e<a
   ·have e2:decide (e<a)=true:=by simp[U]
    go_wp2_with fail
    go_ret2
    exact⟨B.out.1,.inl ⟨HN.out,rfl⟩⟩
   ·have e2:decide (e<a)=false:=by simp;omega
    by_cases Y:1099511627776<e
    ·have e3:decide (1099511627776<e)=true:=by simp[Y]
     go_wp2_with fail
     go_ret2
     exact⟨B.out.1,.inl ⟨HN.out,rfl⟩⟩
    ·have e3:decide (1099511627776<e)=false:=by simp;omega
     obtain⟨d,hd⟩:∃d:Int,1099511627776-e=d:=⟨_,rfl⟩;have b1:IntKind.i64.wrap (1099511627776-e)=d:=(Go.IntWalk.i64_left _).trans (by rw[hd];unfold wrap64;omega);have b2:wrap64 (1099511627776-e)=d:=by rw[hd];unfold wrap64;omega
     have e4:decide (d<(t.size:Int))=true:=by simp;omega
     clear D hd;go_wp2_with fail
     go_ret2
     exact⟨B.out.1,.inl ⟨HN.out,rfl⟩⟩
 have b4:=Hd D;unfold Nl at D;have e1:decide (a<0)=false:=by simp;omega
 have e2:decide (e<a)=false:=by simp;omega
 have e3:decide (1099511627776<e)=false:=by simp;omega
 obtain⟨d,hd⟩:∃d:Int,1099511627776-e=d:=⟨_,rfl⟩;have b1:IntKind.i64.wrap (1099511627776-e)=d:=(Go.IntWalk.i64_left _).trans (by rw[hd];unfold wrap64;omega);have b2:wrap64 (1099511627776-e)=d:=by rw[hd];unfold wrap64;omega
 have e4:decide (d<(t.size:Int))=false:=by simp;omega
 have af:a<=e:=by omega
 obtain⟨xa,ax⟩:∃xa:Nat,a=(xa:Int):=⟨a.toNat,by omega⟩;obtain⟨xe,ay⟩:∃xe:Nat,e=(xe:Int):=⟨e.toNat,by omega⟩;have ao:=Z.out af;have b0:=Hd2 ax ay;have ba:=Hd af;clear D hd ax ay Z af ha he;have Z:=Hd ao;clear ao;go_upto_if 46 with fail;clear e1 e2 e3 e4 b1 b2
 by_cases f:Cq g a e r s
 case neg=>
  have HN:Hid (¬SvP kd g a e r s t):=Hd fun hs=>f hs.name
  unfold Cq at f
  by_cases h1:e=a
  ·have e1:(e==a)=true:=by simp[h1]
   by_cases U:r= -1
   ·have e2:(r != -1)=false:=by simp[U]
    by_cases Y:s=0
    ·exact absurd (.inl ⟨h1,U,Y⟩) f
    ·have e3:(s !=0)=true:=by simp[Y]
     clear f h1 U Y;go_wp2_with fail
     go_ret2
     exact⟨B.out.1,.inl ⟨HN.out,rfl⟩⟩
   ·have e2:(r != -1)=true:=by simp[U]
    clear f h1 U;go_wp2_with fail
    go_ret2
    exact⟨B.out.1,.inl ⟨HN.out,rfl⟩⟩
  ·have e1:(e==a)=false:=by simp[h1]
   have HW:=Hd2 h1 f;clear h1 f;generalize M0 g s=q at a4 HW
   by_cases U:q= -1
   ·have e2:(q== -1)=true:=by simp[U]
    clear U;go_upto_region 9 with fail;go_quiet((go_at_call 76;exact Calls.quiet_of_same (a4.out _ (C2 B.out.1 _))));go_wp2_with fail
    go_ret2
    exact⟨C2 B.out.1 _,.inl ⟨HN.out,rfl⟩⟩
   ·have e2:(q== -1)=false:=by simp[U]
    have Y:q≠r:=fun Y=>HW.out.2 (.inr ⟨HW.out.1,U,Y⟩)
    have e3:(q !=r)=true:=by simp[Y]
    clear U Y;go_upto_region 9 with fail;go_quiet((go_at_call 76;exact Calls.quiet_of_same (a4.out _ (C2 B.out.1 _))));go_wp2_with fail
    go_ret2
    exact⟨C2 B.out.1 _,.inl ⟨HN.out,rfl⟩⟩
 have b3:=Hd f;obtain⟨st,a7,aa⟩:=am.out f;have b5:=Hd2 a7 aa;clear am a7 aa;unfold Cq at f
 go_cut[4] (fun pv wx=>pv=.pointer none/\Bw w wx/\Blk wx w.heap.size (La a e r s t) 27)
 case first=>
  rcases f with⟨h1,U,Y⟩|⟨h1,U,Y⟩
  ·have e1:(e==a)=true:=by simp[h1]
   have e2:(r != -1)=false:=by simp[U]
   have e3:(s !=0)=false:=by simp[Y]
   clear h1 U Y;go_wp2_with fail;go_meet;exact⟨rfl,B.out.1,B.out.2⟩
  ·have e1:(e==a)=false:=by simp[h1]
   generalize M0 g s=q at a4 U Y;have e2:(q== -1)=false:=by simp[U]
   have e3:(q !=r)=false:=by simp[Y]
   clear h1 U Y;go_upto_region 9 with fail;go_quiet((go_at_call 76;exact Calls.quiet_of_same (a4.out _ (C2 B.out.1 _))));go_wp2_with fail;go_meet;exact⟨rfl,C2 B.out.1 _,Blk.drewN B.out.2 _⟩
 case rest=>
  obtain⟨rfl,aq,a1⟩:=hcut;clear k0 k1 k2 k3 k4 f B a4;have k3:=a1.cell 3;have k4:=a1.cell 4;have a6:=Hd2 aq a1;clear aq a1;generalize Nf kd g (M1 t 0) s=Q at ae Z;generalize A6 g s=M at ad Z;go_wp2_with fail;refine(ae.out _ a6.out.1).mono ?_;rintro z w3 ⟨rfl,ah⟩;have a3:Hid (Bw w w3/\Blk w3 w.heap.size (La a e r s t) 27):=⟨a6.out.1.trans (ah.mono a6.out.1.size),a6.out.2.aA ah⟩;clear ah k3 k4 a6 ae;have k3:=a3.out.2.cell 3;go_wp2_with fail;refine(ad.out _ a3.out.1).mono ?_;rintro z w4 ⟨rfl,ai⟩;have G:Hid (Bw w w4/\Blk w4 w.heap.size (La a e r s t) 27):=⟨a3.out.1.trans (ai.mono a3.out.1.size),a3.out.2.aA ai⟩;clear ai k3 a3 ad;have k0:=G.out.2.cell 0;have k1:=G.out.2.cell 1;have k3:=G.out.2.cell 3;have k4:=G.out.2.cell 4;go_upto_region 13 with fail
  by_cases K:Kl kd g a e s t
  case neg=>
   have HN:Hid (¬SvP kd g a e r s t):=Hd fun hs=>K hs.gW
   have V:=fun h=>K (Z.out.2 h)
   cases Q with
   |false=>
    clear K V;go_wp2_with fail
    go_ret2
    exact⟨G.out.1,.inl ⟨HN.out,rfl⟩⟩
   |true=>
    have az:t.size=0/\a<e/\M=false:=Decidable.byContradiction fun h=>V ⟨rfl,h⟩
    obtain⟨y1,y2,rfl⟩:=az;have e1:=Yq t y1;have e2:decide (a<e)=true:=by simp[y2]
    clear K V y1 y2;go_wp2_with fail
    go_ret2
    exact⟨G.out.1,.inl ⟨HN.out,rfl⟩⟩
  have hQ:=Z.out.1 K;have b6:Hid (SvP kd g a e r s t):=Hd ⟨b4.out,b3.out,K⟩;obtain⟨rfl,V⟩:=hQ
  go_cut[96] (fun cv wx=>cv=.bool false/\wx=w4)
  case first=>
   by_cases y1:t.size=0
   ·have e1:=Yq t y1
    by_cases y2:a<e
    ·have e2:decide (a<e)=true:=by simp[y2]
     have y3:M=true:=by cases M with|true=>rfl|false=>exact absurd ⟨y1,y2,rfl⟩ V
     subst y3;clear V y1 y2 K;go_wp2_with fail;go_meet;exact⟨rfl,rfl⟩
    ·have e2:decide (a<e)=false:=by simp;omega
     clear V y1 y2 K;go_wp2_with fail;go_meet;exact⟨rfl,rfl⟩
   ·have e1:=Ih t y1;clear V y1 K;go_wp2_with fail;go_meet;exact⟨rfl,rfl⟩
  case rest=>
   obtain⟨rfl,rfl⟩:=hcut;obtain⟨zy,tg,ab,c3,ct⟩:=b7.out wc G.out.1;obtain⟨a7,rfl⟩:=b5.out;have a2:st<J.length:=by rw[an.out.1];exact a7
   have t0:=ct st a2;have hq:J[st].size<=61:=an.out.2.2.2 st a2;have s0:(0:Int)<=(st:Int):=by omega
   have s1:(st:Int)<(g.aB.length:Int):=by omega
   obtain⟨T,hT⟩:∃T,J[st]=T:=⟨_,rfl⟩;obtain⟨rfl,rfl⟩:=b0.out;have ak:Hid (∃hs:st<J.length,J[st]=T):=Hd ⟨a2,hT⟩;rw[hT]at t0 hq;have bb:(T++t).size=T.size+t.size:=zN;have au:∀n,Bw w (wc.drewN n)/\Blk (wc.drewN n) w.heap.size (La (xa:Int) (xe:Int) r (st:Int) t) 27:=fun n=>⟨C2 G.out.1 n,Blk.drewN G.out.2 n⟩
   have aj:=Hd au;clear hT ct K V a2 au;go_upto_region 15 with fail;go_quiet(fail);obtain⟨w5,aw⟩:∃w5:World,wc.drewN nq=w5:=⟨_,rfl⟩;have a0:=Hd (aj.out nq);rw[aw]at a0⊢;clear aw k0 k1 k3 k4 c3 t0 s0 s1 aj G;have k0:=a0.out.2.cell 0;have k1:=a0.out.2.cell 1;have k4:=a0.out.2.cell 4;go_wp2_with fail;obtain⟨b9,rfl⟩:=ak.out;have a9:Bw w (w5.alloc (.cells (UX yb ⟨xa,xe,J[st].size⟩ (J[st]++t) 0 false) 157))/\O7 (w5.alloc (.cells (UX yb ⟨xa,xe,J[st].size⟩ (J[st]++t) 0 false) 157)) w5.heap.size yb ⟨xa,xe,J[st].size⟩ (J[st]++t) 0 false/\w.heap.size<=w5.heap.size:=⟨a0.out.1.alloc a0.out.1.size _,Blk.aR _ _ _,a0.out.1.size⟩;have ac:=Hd a9;clear a9
   go_ret2
   exact⟨ac.out.1,.inr ⟨b6.out,w5.heap.size,xa,rfl,xe,rfl,st,rfl,rfl,⟨b9,ac.out.2.1⟩,ac.out.2.2⟩⟩
structure QE(kd:Nat->Nat)(g:B0)(k:Nat)(gf gt gl gp ga:ByteArray):Prop where
 e1:gl.size=0
 e2:gp.size=0
 e3:ga.size=0
 zero:k=0->gf.size=0/\gt.size=0
 some:0<k->gf.size<=g.aB.length/\∃(z:ByteArray) (s:Nat),z.size=k/\gt=gf++z/\A3 g 0 ((Q0 gf).map kd)=(s:Int)/\(gf.size=0\/M0 g (s:Int)≠ -1)/\XE kd g s z
abbrev Te(gb:Bool)(B:Nat)(h J D G f:ByteArray):Array Value:=#[.bool gb,.int .i64 B,.string h,.string J,.string D,.string G,.string f]
theorem Iz(yb:Nat)(kd:Nat->Nat)(g:B0)(TX:List ByteArray)(k:Nat)(f D gl gp ga:ByteArray)(w:World)(h:P5 w yb kd g TX)(hG:We kd g)(hk:k<=61)(hb:QE kd g k f D gl gp ga):
  Calls Tryz.prog 51 #[.pointer (some ⟨yb,0,none⟩),.agg (Te true k f D gl gp ga),.int .i64 k] w fun e w'=>e=.returned (.bool true)/\Bw w w':=by
 have h1:=Tf gl hb.e1;have h2:=Tf gp hb.e2;have h3:=Tf ga hb.e3;have kk:((k:Int) !=(k:Int))=false:=by simp
 by_cases U:k=0
 ·have hz:=hb.zero U;have h4:=Tf f hz.1;have h5:=Tf D hz.2;subst U;clear hb hz h hG;go_enter Tryz.func51,Tryz.ntmps51;go_wp2_with fail;go_ret;exact⟨rfl,N0 _ _⟩
 ·obtain⟨aj,z,s,z1,z2,z3,z4,z5⟩:=hb.some (by omega);have k2:((k:Int)==0)=false:=by rw[beq_eq_false_iff_ne];omega
  have af:D.size=f.size+k:=by rw[z2,zN,z1]
  have ag:=h.bE.2;have a6:D.extract 0 f.size=f:=by rw[z2];exact MF _ _
  have ab:D.extract f.size D.size=z:=by rw[z2];exact XA _ _
  have m1:((D.extract 0 f.size).toList !=f.toList)=false:=by rw[a6];simp
  have an:((D.extract 0 f.size).toList==f.toList)=true:=by rw[a6];simp
  obtain⟨zy,⟨tg,ah,c3,_⟩,_⟩:=h.cells;obtain⟨Z,V⟩:∃Z:World,w.alloc (.cells (Te true k f D gl gp ga) 113)=Z:=⟨_,rfl⟩;have M:Bw w Z:=by rw[<-V];exact N0 _ _
  have B:Blk Z w.heap.size (Te true k f D gl gp ga) 113:=by rw[<-V];exact Blk.aR _ _ _
  have a9:Hid (∀W,Bw w W->Calls Tryz.prog 82 #[.pointer (some ⟨yb,0,none⟩),.string f] W fun e w'=>e=.returned (.int .i64 s)/\Bw W w'):=Hd fun W q=>Vr yb kd g TX s f W (h.aA q) hG (by omega) z3 z4
  have a8:Hid (∀W,Bw w W->Calls Tryz.prog 83 #[.pointer (some ⟨yb,0,none⟩),.int .i64 s,.string (D.extract f.size D.size)] W fun e w'=>e=.returned (.bool true)/\Bw W w'):=Hd fun W q=>by rw[ab];exact Tr yb kd g TX s z W (h.aA q) hG (by omega) z5
  have e1:decide ((g.aB.length:Int)<(f.size:Int))=false:=by rw[decide_eq_false_iff_not];omega
  have ai:¬g.aB.length<f.size:=by omega
  have j0:(0:Int)<=(f.size:Int):=by omega
  have j1:(f.size:Int)<=(D.size:Int):=by omega
  obtain⟨q,hq⟩:∃q:Nat,(f.size:Int)+(k:Int)=(q:Int):=⟨f.size+k,by omega⟩;have m2:((D.size:Int) !=(q:Int))=false:=by rw[bne_eq_false_iff_eq];omega
  have ae:D.size=q:=by omega
  have am:q<=200:=by omega
  have b1:IntKind.i64.wrap ((f.size:Int)+(k:Int))=(q:Int):=(Go.IntWalk.i64_left _).trans (by rw[hq];unfold wrap64;omega);have a0:=Hd2 M B;have ak:¬k=0:=U;have g0:=B.cell 0;have g1:=B.cell 1;have g2:=B.cell 2;have g3:=B.cell 3;have g4:=B.cell 4;have g5:=B.cell 5;have g6:=B.cell 6;have ad:=(M.cell (p:=⟨yb,3,none⟩) zy).trans c3;have zg:=B.lt;have aq:yb<Z.heap.size:=by have:=M.size;omega
  clear af a6 ab z1 z2 z3 z4 z5 hb h hG U hq ae M B c3;go_enter Tryz.func51,Tryz.ntmps51;go_upto_region 6 with fail
  try rw[V]
  clear V;go_quiet(fail);obtain⟨w2,a5⟩:∃w2:World,Z.drewN nq=w2:=⟨_,rfl⟩;have a3:Bw Z w2:=by rw[<-a5];exact C2 (Below.refl _ _) _
  try rw[a5]
  clear a5 b1 m2 g0 g1 g2 g3 g4 g5 g6 ad;have K:=a0.out.2.aA a3;have G:=a0.out.1.trans (a3.mono a0.out.1.size);have g2:=K.cell 2;have ao:=K.lt;have a1:=Hd2 G K;have Y:=Hd (a9.out w2 G);clear a3 K G a9;go_wp2_with fail;refine Y.out.mono ?_;rintro e w3 ⟨rfl,a4⟩;have a2:=a1.out.2.aA a4;have J:=a1.out.1.trans (a4.mono a1.out.1.size);have g3:=a2.cell 3;have ap:=a2.lt;have X:=Hd (a8.out w3 J);have a7:=Hd J;clear a4 a2 J a8 Y g2;go_wp2_with fail;refine X.out.mono ?_;rintro e w4 ⟨rfl,aa⟩;have ac:=Hd (a7.out.trans (aa.mono a7.out.size));clear aa X;go_wp2_with fail;go_ret;exact⟨rfl,ac.out⟩
structure Ct(kd:Nat->Nat)(g:B0)(gf gt gl gp ga:ByteArray):Prop where
 e3:gt.size=0
 p1:0<gp.size
 p2:0<ga.size
 l1:gf.size<=g.aB.length
 l2:gl.size<=g.aB.length
 l3:gp.size<=g.aB.length
 l4:ga.size<=g.aB.length
 next:∃s:Nat,A3 g 0 ((Q0 gf).map kd)=(s:Int)/\(gf.size=0\/M0 g (s:Int)≠ -1)/\∀i,XE kd g s (Ma gl gp i++ga)
theorem Kz(yb:Nat)(kd:Nat->Nat)(g:B0)(TX:List ByteArray)(V gt D f J:ByteArray)(w:World)(h:P5 w yb kd g TX)(hG:We kd g)(Z:Ct kd g V gt D f J):
  Calls Tryz.prog 52 #[.pointer (some ⟨yb,0,none⟩),.agg (Te false 0 V gt D f J)] w fun e w'=>e=.returned (.bool true)/\Bw w w':=by
 have n3:=Tf gt Z.e3;have n1:=Ih f (by have:=Z.p1;omega);have n2:=Ih J (by have:=Z.p2;omega);have ab:=h.bE.2;have l1:=Z.l1;have l2:=Z.l2;have l3:=Z.l3;have l4:=Z.l4;obtain⟨s,z3,z4,z5⟩:=Z.next;obtain⟨zy,⟨tg,aj,c3,_⟩,_⟩:=h.cells;obtain⟨n,hn⟩:∃n,g.aB.length=n:=⟨_,rfl⟩;have a5:∀i,i<=n+2->(Ma D f i).size<=4000/\(Ma D f i++J).size<=4000:=fun i hi=>by
  have h1:=Uv D f i;have h2:i*f.size<=63*61:=Nat.mul_le_mul (by omega) (by omega);rw[zN];omega
 have aa:=Hd a5;have a9:Hid (∀W,Bw w W->Calls Tryz.prog 82 #[.pointer (some ⟨yb,0,none⟩),.string V] W fun e w'=>e=.returned (.int .i64 s)/\Bw W w'):=Hd fun W q=>Vr yb kd g TX s V W (h.aA q) hG (by omega) z3 z4
 have ac:Hid (∀W i,i<=n+2->Bw w W->Calls Tryz.prog 83 #[.pointer (some ⟨yb,0,none⟩),.int .i64 s,.string (Ma D f i++J)] W fun e w'=>e=.returned (.bool true)/\Bw W w'):=Hd fun W i hi q=>Tr yb kd g TX s _ W (h.aA q) hG (by have:=(a5 i hi).2;omega) (z5 i)
 rw[hn]at c3 l1 l2 l3 l4 ab;have e3:decide ((n:Int)<(V.size:Int))=false:=by rw[decide_eq_false_iff_not];omega
 have e4:decide ((n:Int)<(D.size:Int))=false:=by rw[decide_eq_false_iff_not];omega
 have e5:decide ((n:Int)<(f.size:Int))=false:=by rw[decide_eq_false_iff_not];omega
 have e6:decide ((n:Int)<(J.size:Int))=false:=by rw[decide_eq_false_iff_not];omega
 have af:¬n<V.size:=by omega
 have ag:¬n<D.size:=by omega
 have ah:¬n<f.size:=by omega
 have ai:¬n<J.size:=by omega
 obtain⟨w1,a0⟩:∃w1:World,w.alloc (.cells (Te false 0 V gt D f J) 113)=w1:=⟨_,rfl⟩;have M:Bw w w1:=by rw[<-a0];exact N0 _ _
 have B:Blk w1 w.heap.size (Te false 0 V gt D f J) 113:=by rw[<-a0];exact Blk.aR _ _ _
 have U:=Hd2 M B;have a1:=Hd (a9.out w1 M);have g0:=B.cell 0;have g1:=B.cell 1;have g2:=B.cell 2;have g3:=B.cell 3;have g4:=B.cell 4;have g5:=B.cell 5;have g6:=B.cell 6;have ad:=(M.cell (p:=⟨yb,3,none⟩) zy).trans c3;have zg:=B.lt;have ap:yb<w1.heap.size:=by have:=M.size;omega
 clear Z h hG z3 z4 z5 a5 a9 hn M B c3;go_enter Tryz.func52,Tryz.ntmps52;go_upto_region 6 with fail
 try rw[a0]
 clear a0 e3 e4 e5 e6 af ag ah ai ad n1 n2 n3 g0 g1 g3 g4 g5 g6;go_wp2_with fail;refine a1.out.mono ?_;rintro e w2 ⟨rfl,a3⟩;have X:=U.out.2.aA a3;have a2:=U.out.1.trans (a3.mono U.out.1.size);have g4:=X.cell 4;have am:=X.lt;have a6:=Hd2 a2 X;clear a3 X a2 a1 g2 U;go_wp2_with fail
 go_loopg[7,8] (n+2) (fun G wv iv wr=>∃i:Nat,wv=.string (Ma D f i)/\iv=.int .i64 i/\i<=n+2/\G=n+2-i/\Bw w wr/\Blk wr w.heap.size (Te false 0 V gt D f J) 113)
 case atStart=>exact⟨0,rfl,rfl,by omega,rfl,a6.out.1,a6.out.2⟩
 case round=>
  obtain⟨i,rfl,rfl,hi,rfl,hB,K⟩:=hrel;obtain⟨y1,y2⟩:=aa.out i hi
  by_cases ak:i<n+2
  ·have e0:decide ((i:Int)<=(n:Int)+1)=true:=by rw[decide_eq_true_iff];omega
   have ae:i<=n+1:=by omega
   have g6:=K.cell 6;have an:=K.lt;have u1:∀W:World,(Op.stringOp .add (Ma D f i) J).run Tryz.prog W=.ok (.string (Ma D f i++J)) W:=fun W=>run_string_add_sum W _ _ (by rw[zN]at y2;omega)
   have a8:=Hd (ac.out wr i hi hB);have HB:=Hd2 hB K;clear hB K y1 y2;go_wp2_with fail;refine a8.out.mono ?_;rintro e w3 ⟨rfl,a4⟩;have Y:=HB.out.2.aA a4;have g5:=Y.cell 5;have ao:=Y.lt;have a7:=Hd2 (HB.out.1.trans (a4.mono HB.out.1.size)) Y;obtain⟨y1,_⟩:=aa.out (i+1) (by omega);have u2:∀W:World,(Op.stringOp .add (Ma D f i) f).run Tryz.prog W=.ok (.string (Ma D f i++f)) W:=fun W=>run_string_add_sum W _ _ (by
    have e:Ma D f (i+1)=Ma D f i++f:=rfl;rw[e,zN]at y1;omega)
   clear a4 Y a8 g6 u1 y1;go_wp2_with fail
   go_roundg (n+2- (i+1))
   case measure=>omega
   case rel=>exact⟨i+1,rfl,by go_num,by omega,rfl,a7.out.1,a7.out.2⟩
  ·have e0:decide ((i:Int)<=(n:Int)+1)=false:=by rw[decide_eq_false_iff_not];omega
   have ae:¬i<=n+1:=by omega
   have HB:=Hd hB;clear hB K y1 y2;go_wp2_with fail;go_ret;exact⟨rfl,HB.out⟩
theorem PW{R:E0}{kd:Nat->Nat}{g:B0}(f:N3 R=some (kd,g))(Z:K8 kd g):((V1 kd g).aT=true->QE kd g (V1 kd g).k (V1 kd g).fr (V1 kd g).tt (V1 kd g).lead (V1 kd g).lp (V1 kd g).tail)/\((V1 kd g).aT=false->(V1 kd g).k=0/\Ct kd g (V1 kd g).fr (V1 kd g).tt (V1 kd g).lead (V1 kd g).lp (V1 kd g).tail):=by
 have G:=I5 f;obtain⟨B,W,X,Y⟩:=FS f Z;refine⟨fun h=>?_,fun h=>?_⟩
 ·obtain⟨p1,J,K,M,U⟩:=ZI f Z h;refine⟨p1,J,K,M,fun hk=>?_⟩;obtain⟨z,z1,z2,z3⟩:=U hk;obtain⟨s,D,V,q3⟩:=Wt G z3 (by omega);exact⟨B,z,s,z1,z2,D,V,q3⟩
 ·obtain⟨_,J,K,M,U⟩:=Fm f h 0;refine⟨U,M,J,K,B,W,X,Y,?_⟩;have hz:∀i,0<(Ma (V1 kd g).lead (V1 kd g).lp i++(V1 kd g).tail).size:=fun i=>by rw[zN];omega
  obtain⟨s,D,V,_⟩:=Wt G (Fm f h 0).1 (hz 0);refine⟨s,D,V,fun i=>?_⟩;obtain⟨s',r1,_,r3⟩:=Wt G (Fm f h i).1 (hz i);rw[D]at r1;have:s=s':=by omega
  rw[this];exact r3
theorem JK(pb xb yb:Nat){R:E0}(kd:Nat->Nat)(g:B0)(TX:List ByteArray)(w:World)(h:Vw w pb xb yb kd g TX)(hR:N3 R=some (kd,g))(hf:K8 kd g):
  Calls Tryz.prog 21 #[.pointer (some ⟨pb,0,none⟩)] w fun e w'=>e=.returned (.bool true)/\Bw w w':=by
 have hG:=I5 hR;have Z:=PW hR hf;have ak:=YI hf;have a2:=Hd h.aO;have a5:Hid (∀W,Bw w W->Calls Tryz.prog 49 #[.pointer (some ⟨xb,0,none⟩)] W fun e w'=>e=.returned (XM (V1 kd g))/\Bw W w'):=Hd fun W k=>AZ xb kd g W (h.eQ.eM k) hf
 have HK:Hid (∀W,Bw w W->Calls Tryz.prog 50 #[.pointer (some ⟨yb,0,none⟩)] W fun e w'=>e=.returned (.tuple #[.int .i64 (if(V1 kd g).aT=true then((V1 kd g).k:Int)else 0),.bool (V1 kd g).aT])/\Bw W w'):=Hd fun W k=>Lz yb kd g TX W (h.eV.aA k) hR hf
 have ag:Hid (∀W k M X U V K,Bw w W->k<=61->QE kd g k M X U V K->Calls Tryz.prog 51 #[.pointer (some ⟨yb,0,none⟩),.agg (Te true k M X U V K),.int .i64 k] W fun e w'=>e=.returned (.bool true)/\Bw W w'):=Hd fun W k M X U V K q hk hb=>Iz yb kd g TX k M X U V K W (h.eV.aA q) hG hk hb
 have ah:Hid (∀W M X U V K,Bw w W->Ct kd g M X U V K->Calls Tryz.prog 52 #[.pointer (some ⟨yb,0,none⟩),.agg (Te false 0 M X U V K)] W fun e w'=>e=.returned (.bool true)/\Bw W w'):=Hd fun W M X U V K q hb=>Kz yb kd g TX M X U V K W (h.eV.aA q) hG hb
 have c0:w.cell? ⟨pb,0,none⟩=some (.pointer (some ⟨xb,0,none⟩)):=h.aO.cell 0;have zb:=h.aO.lt;clear h hG hR hf;generalize V1 kd g=GK at a5 HK Z ak;obtain⟨gb,gk,M,X,U,V,K⟩:=GK;simp only[XM]at a5 HK Z ak;have ac:=Hd Z;clear Z;have am:∀W:World,Blk W w.heap.size (Te gb gk M X U V K) 113->True:=fun _ _=>trivial
 clear am;go_enter Tryz.func21,Tryz.ntmps21;go_wp2_with fail;refine(a5.out w (Below.refl _ _)).mono ?_;rintro e w1 ⟨rfl,ad⟩;obtain⟨a8,ae⟩:∃a8:World,w1.alloc (.cells (Te gb gk M X U V K) 113)=a8:=⟨_,rfl⟩;have a4:Bw w a8:=by rw[<-ae];exact ad.alloc ad.size _
 have ao:Blk a8 w1.heap.size (Te gb gk M X U V K) 113:=by rw[<-ae];exact Blk.aR _ _ _
 have c1:a8.cell? ⟨pb,1,none⟩=some (.pointer (some ⟨yb,0,none⟩)):=(a2.out.aA a4).cell 1;have av:=(a2.out.aA a4).lt;have ab:=Hd2 a4 ao;have an:=Hd (HK.out a8 a4);have au:w.heap.size<=w1.heap.size:=ad.size;clear ad a4 ao HK;go_wp2_with fail
 try rw[ae]
 clear ae;refine an.out.mono ?_;rintro e w2 ⟨rfl,aj⟩;have a7:=ab.out.1.trans (aj.mono ab.out.1.size);have ai:=ab.out.2.aA aj;have f:=Hd2 a7 ai;clear aj an c1 c0 ab;have c1:w2.cell? ⟨pb,1,none⟩=some (.pointer (some ⟨yb,0,none⟩)):=(a2.out.aA a7).cell 1;have aw:=(a2.out.aA a7).lt;have zg:=ai.lt;clear a7 ai;cases gb with
 |true=>
  have a9:Hid (∀W,Bw w W->Calls Tryz.prog 51 #[.pointer (some ⟨yb,0,none⟩),.agg (Te true gk M X U V K),.int .i64 gk] W fun e w'=>e=.returned (.bool true)/\Bw W w'):=Hd fun W q=>ag.out W gk M X U V K q ak (ac.out.1 rfl)
  have g0:=f.out.2.cell 0;have g1:=f.out.2.cell 1;have g2:=f.out.2.cell 2;have g3:=f.out.2.cell 3;have g4:=f.out.2.cell 4;have g5:=f.out.2.cell 5;have g6:=f.out.2.cell 6;clear ag ah ac;go_upto_region 5 with fail
  go_cut[6] (fun rv wx=>rv=.bool true/\Bw w wx/\Blk wx w1.heap.size (Te true gk M X U V K) 113)
  case first=>
   go_region_with (go_at_call 51;refine(a9.out _ (Q6 f.out.1)).mono ?_;rintro e w5 ⟨rfl,G⟩;have J:Hid (Bw w2 w5):=Hd ((Q6 (Below.refl _ _)).trans (G.mono (zD _)));clear G)
   all_goals
    go_wp2_with fail;go_meet;exact⟨rfl,f.out.1.trans (J.out.mono f.out.1.size),f.out.2.aA J.out⟩
  case rest=>
   obtain⟨rfl,G,aa⟩:=hcut;clear g0 g1 g2 g3 g4 g5 g6 a9 c1;have c0:wc.cell? ⟨pb,0,none⟩=some (.pointer (some ⟨xb,0,none⟩)):=(a2.out.aA G).cell 0;have ar:=(a2.out.aA G).lt;have a3:=Hd (a5.out wc G);have J:=Hd2 G aa;clear G aa a5;go_wp2_with fail;refine a3.out.mono ?_;rintro e w6 ⟨rfl,a6⟩;obtain⟨a1,a0⟩:∃a1:World,w6.alloc (.cells (Te true gk M X U V K) 113)=a1:=⟨_,rfl⟩;have Y:Bw wc a1:=by rw[<-a0];exact a6.alloc a6.size _
   have D:Blk a1 w6.heap.size (Te true gk M X U V K) 113:=by rw[<-a0];exact Blk.aR _ _ _
   have B:=J.out.2.aA Y;have g0:=B.cell 0;have g1:=B.cell 1;have g2:=B.cell 2;have g3:=B.cell 3;have g4:=B.cell 4;have g5:=B.cell 5;have g6:=B.cell 6;have k0:=D.cell 0;have k1:=D.cell 1;have k2:=D.cell 2;have k3:=D.cell 3;have k4:=D.cell 4;have k5:=D.cell 5;have k6:=D.cell 6;have af:=Hd (J.out.1.trans (Y.mono J.out.1.size));clear a6 Y D B a3;go_upto_region 8 with fail
   try rw[a0]
   clear a0;go_wp2_with fail;go_ret;exact⟨by simp,af.out⟩
 |false=>
  obtain⟨aq,ap⟩:=ac.out.2 rfl;subst aq;have a9:Hid (∀W,Bw w W->Calls Tryz.prog 52 #[.pointer (some ⟨yb,0,none⟩),.agg (Te false 0 M X U V K)] W fun e w'=>e=.returned (.bool true)/\Bw W w'):=Hd fun W q=>ah.out W M X U V K q ap
  have g0:=f.out.2.cell 0;have g1:=f.out.2.cell 1;have g2:=f.out.2.cell 2;have g3:=f.out.2.cell 3;have g4:=f.out.2.cell 4;have g5:=f.out.2.cell 5;have g6:=f.out.2.cell 6;clear ag ah ac ap;go_upto_region 6 with fail
  go_cut[6] (fun rv wx=>rv=.bool true/\Bw w wx/\Blk wx w1.heap.size (Te false 0 M X U V K) 113)
  case first=>
   go_region_with (go_at_call 52;refine(a9.out _ (Q6 f.out.1)).mono ?_;rintro e w5 ⟨rfl,G⟩;have J:Hid (Bw w2 w5):=Hd ((Q6 (Below.refl _ _)).trans (G.mono (zD _)));clear G)
   all_goals
    go_wp2_with fail;go_meet;exact⟨rfl,f.out.1.trans (J.out.mono f.out.1.size),f.out.2.aA J.out⟩
  case rest=>
   obtain⟨rfl,G,aa⟩:=hcut;clear g0 g1 g2 g3 g4 g5 g6 a9 c1;have c0:wc.cell? ⟨pb,0,none⟩=some (.pointer (some ⟨xb,0,none⟩)):=(a2.out.aA G).cell 0;have ar:=(a2.out.aA G).lt;have a3:=Hd (a5.out wc G);have J:=Hd2 G aa;clear G aa a5;go_wp2_with fail;refine a3.out.mono ?_;rintro e w6 ⟨rfl,a6⟩;obtain⟨a1,a0⟩:∃a1:World,w6.alloc (.cells #[.bool false,.int .i64 0,.string M,.string X,.string U,.string V,.string K] 113)=a1:=⟨_,rfl⟩;have Y:Bw wc a1:=by rw[<-a0];exact a6.alloc a6.size _
   have D:Blk a1 w6.heap.size #[.bool false,.int .i64 0,.string M,.string X,.string U,.string V,.string K] 113:=by rw[<-a0];exact Blk.aR _ _ _
   have B:=J.out.2.aA Y;have g0:=B.cell 0;have g1:=B.cell 1;have g2:=B.cell 2;have g3:=B.cell 3;have g4:=B.cell 4;have g5:=B.cell 5;have g6:=B.cell 6;have k0:=D.cell 0;have k1:=D.cell 1;have k2:=D.cell 2;have k3:=D.cell 3;have k4:=D.cell 4;have k5:=D.cell 5;have k6:=D.cell 6;have af:=Hd (J.out.1.trans (Y.mono J.out.1.size));clear a6 Y D B a3;go_upto_region 8 with fail
   try rw[a0]
   clear a0;go_wp2_with fail;go_ret;exact⟨by simp,af.out⟩
end Go.Proofs.YtcckhngbdoiikabGreat
