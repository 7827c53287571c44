import Derived.Test.YtcckhngbdoiikabGreatA46
set_option maxRecDepth 20000
set_option maxHeartbeats 12800000
set_option linter.unusedVariables false
namespace Go.Proofs.YtcckhngbdoiikabGreat
open Go.RowKit Go.Deep
def RsA(xb:Nat)(kd:Nat->Nat)(g:B0)(a e r s:Int)(t:ByteArray)(N:Nat)(w':World)(va h:Value):Prop:=
 ((V1 kd g).aT=false/\va=.pointer none/\h=.int .i64 4)\/
 ((V1 kd g).aT=true/\¬SvP kd g a e r s t/\va=.pointer none/\h=.int .i64 7)\/
 ((V1 kd g).aT=true/\SvP kd g a e r s t/\∃f,va=.pointer (some ⟨f,0,none⟩)/\h=.int .i64 0/\Blk w' f (ML xb a e r s t) 155/\N<=f)
def RsB(J:Nat)(kd:Nat->Nat)(g:B0)(f:List ByteArray)(a e r s:Int)(t:ByteArray)(N:Nat)(w':World)(va B:Value):Prop:=
 ((V1 kd g).aT=false/\va=.pointer none/\B=.int .i64 4)\/
 ((V1 kd g).aT=true/\¬SvP kd g a e r s t/\va=.pointer none/\B=.int .i64 7)\/
 ((V1 kd g).aT=true/\SvP kd g a e r s t/\∃(h D G st:Nat) (K:st<f.length),a=(D:Int)/\e=(G:Int)/\s=(st:Int)/\va=.pointer (some ⟨h,0,none⟩)/\B=.int .i64 0/\O7 w' h J ⟨D,G,f[st].size⟩ (f[st]++t) 0 false/\N<=h)
theorem SV.a{J:Nat}{kd:Nat->Nat}{g:B0}{a e r s:Int}{t:ByteArray}{w w':World}{z:Ending}(h:SV J kd g a e r s t w z w'):∃va K,z=.returned (.tuple #[va,K])/\RsA J kd g a e r s t w.heap.size w' va K/\Bw w w':=by
 obtain⟨G,⟨f,B⟩|⟨f,B,D⟩|⟨f,B,V,D,M,U⟩⟩:=h
 ·exact⟨_,_,B,.inl ⟨f,rfl,rfl⟩,G⟩
 ·exact⟨_,_,D,.inr (.inl ⟨f,B,rfl,rfl⟩),G⟩
 ·exact⟨_,_,D,.inr (.inr ⟨f,B,V,rfl,rfl,M,U⟩),G⟩
theorem OH.b{M:Nat}{kd:Nat->Nat}{g:B0}{J:List ByteArray}{a e r s:Int}{t:ByteArray}{w w':World}{z:Ending}(h:OH M kd g J a e r s t w z w'):∃va K,z=.returned (.tuple #[va,K])/\RsB M kd g J a e r s t w.heap.size w' va K/\Bw w w':=by
 obtain⟨G,⟨f,B⟩|⟨f,B,D⟩|⟨f,B,tb,xa,xe,st,Z,D,U,V,W,X,Y⟩⟩:=h
 ·exact⟨_,_,B,.inl ⟨f,rfl,rfl⟩,G⟩
 ·exact⟨_,_,D,.inr (.inl ⟨f,B,rfl,rfl⟩),G⟩
 ·exact⟨_,_,W,.inr (.inr ⟨f,B,tb,xa,xe,st,Z,D,U,V,rfl,rfl,X,Y⟩),G⟩
theorem Z8{w:World}{b:Nat}{h B D G J:Value}{p:Addr}(f:p.block≠b):(((((w.setCell ⟨b,0,none⟩ h).setCell ⟨b,1,none⟩ B).setCell ⟨b,2,none⟩ D).setCell ⟨b,3,none⟩ G).setCell ⟨b,4,none⟩ J).cell? p=w.cell? p:=by
 refine World.cell?_of_block ?_;rw[Below.heap_setCell _ _ _ _ f,Below.heap_setCell _ _ _ _ f,Below.heap_setCell _ _ _ _ f,Below.heap_setCell _ _ _ _ f,Below.heap_setCell _ _ _ _ f]
theorem Ht{N:Nat}(wb pb xb yb n M c:Nat)(kd:Nat->Nat)(g:B0)(TX:List ByteArray)(pv qv sv vv kv:Value)(SS:List (Nat×Nat))(X:List F3)(KS:List (Value×Nat))(o:ScT)(w:World)(h:WI N w wb pv qv sv vv n kv SS X KS M c)(hp:Blk w pb #[.pointer (some ⟨xb,0,none⟩),.pointer (some ⟨yb,0,none⟩)] 43)(hx:LxP w xb yb kd g TX)(hc:c<=1000000)(hk:o.bB=5\/o.bB=6)(ho:o.ok)(hM:122<=M)(b9:M+o.size<=3000000):
  Calls Tryz.prog 16 #[.pointer (some ⟨wb,0,none⟩),.pointer (some ⟨pb,0,none⟩),scV o] w fun e w'=>e=.returned (.bool true)/\KN N w w'/\∃sv' ay,WI N w' wb pv qv sv' vv n kv ay X KS (M+o.size) (c+1):=by
 obtain⟨R,hR⟩:=hx.R;have au:Hid (∀W a e r s t,Bw w W->I64 a->I64 e->t.size<=4000000->Calls Tryz.prog 44 #[.pointer (some ⟨xb,0,none⟩),Ai a e r s t] W fun z w'=>∃va ve,z=.returned (.tuple #[va,ve])/\RsA xb kd g a e r s t W.heap.size w' va ve/\Bw W w'):=Hd fun W a e r s t k h1 h2 h3=>(WK xb kd g a e r s t W (hx.eQ.aA k) hx.fS h1 h2 h3).mono fun _ _=>SV.a
 have ar:Hid (∀W a e r s t,Bw w W->I64 a->I64 e->t.size<=4000000->Calls Tryz.prog 45 #[.pointer (some ⟨yb,0,none⟩),Ai a e r s t] W fun z w'=>∃va ve,z=.returned (.tuple #[va,ve])/\RsB yb kd g TX a e r s t W.heap.size w' va ve/\Bw W w'):=Hd fun W a e r s t k h1 h2 h3=>(DB yb kd g TX a e r s t W (hx.eV.aA k) hR hx.fS (I5 hR) hx.txt.dI h1 h2 h3).mono fun _ _=>OH.b
 have HW:=Hd4 h hp hx hR;obtain⟨_,vd,a1,bn,a6⟩:=P0 h.vs;subst bn;have c3:w.cell? ⟨wb,3,none⟩=some (.slice vd X.length a1):=h.aO.cell 3;have zb:=h.aO.lt;have bq:=h.n3;have aw:Hid (∀k,k<X.length->∃(f:Nat) (x:F3),vd=some ⟨f,0,none⟩/\x.tail.size<=61/\w.cell? ⟨f,k*5,none⟩=some (.int .i64 (x.bC:Int))/\w.cell? ⟨f,k*5+1,none⟩=some (.int .i64 (x.en:Int))/\w.cell? ⟨f,k*5+2,none⟩=some (.int .i64 x.aB)/\w.cell? ⟨f,k*5+3,none⟩=some (.int .i64 x.aQ)/\w.cell? ⟨f,k*5+4,none⟩=some (.string x.tail)/\f<w.heap.size):=Hd fun k hk=>by
  rcases a6 with⟨_,h0⟩|⟨f,cur,rfl,hB,_⟩
  ·omega
  ·obtain⟨g0,g1,g2,g3,g4⟩:=YD X k hk;exact⟨f,X[k],rfl,h.dJ _ (zG hk),(Y0 h.vs (k*5) (by omega)).trans g0,(Y0 h.vs (k*5+1) (by omega)).trans g1,(Y0 h.vs (k*5+2) (by omega)).trans g2,(Y0 h.vs (k*5+3) (by omega)).trans g3,(Y0 h.vs (k*5+4) (by omega)).trans g4,hB.lt⟩
 have zp:=hp.lt;clear h hx hR a6 hp;have am:=ho.t;have a8:=Hd2 ho.a ho.e;obtain⟨ok,ol,ot,os,oa,oe,K,U,Y⟩:=o;simp only at hk am a8;have bp:M+(os.size+Y.size)<=3000000:=b9;have bg:ScT.size ⟨ok,ol,ot,os,oa,oe,K,U,Y⟩=os.size+Y.size:=rfl;rw[bg];have af:Hid (∀W,0<X.length->Calls Tryz.prog 15 #[.int .i64 ot,.int .i64 (X.length:Int)] W fun z w'=>z=.returned (.int .i64 (Nr ot X.length:Int))/\w'=W):=Hd fun W h0=>LK ot X.length W am h0 (by omega)
 have av:Hid (∀W (x:F3),x.tail.size<=61->Calls Tryz.prog 43 #[Es x,Ai oa oe K U Y,.string os] W fun z w'=>Bw W w'/\∃a' e' r' s',I64 a'/\I64 e'/\z=.returned (Ai a' e' r' s' (x.tail++Y++os))):=Hd fun W x hx=>JP x oa oe K U Y os W (by omega)
 clear ho am b9 bg;have k1:(ok==1)=false:=by rcases hk with rfl|rfl <;>rfl
 go_enter Tryz.func16,Tryz.ntmps16;go_upto_if 45 with fail;clear k1
 go_cut[11] (fun vp wx=>∃vb a e r s t,vp=.pointer (some ⟨vb,0,none⟩)/\Blk wx vb (La a e r s t) 27/\I64 a/\I64 e/\t.size<=61+(os.size+Y.size)/\Bw w wx)
 case first=>
  rcases hk with rfl|rfl
  ·by_cases h0:X.length=0
   ·have e0:((X.length:Int)==0)=true:=by rw[beq_iff_eq];omega
    go_wp2_with fail;go_ret;exact⟨rfl,KN.aA (F6 _ _ _),_,_,(HW.out.1.aA (F6 _ _ _)).mono (by omega) (by omega)⟩
   ·have e0:((X.length:Int)==0)=false:=by rw[beq_eq_false_iff_ne];omega
    have ad:0<X.length:=by omega
    obtain⟨J,ak⟩:∃J,Nr ot X.length=J:=⟨_,rfl⟩;have bl:J<X.length:=by rw[<-ak];exact RQ _ ad
    rw[ak]at af;clear ak;obtain⟨f,x,rfl,ae,v0,v1,v2,v3,v4,a4⟩:=aw.out J bl;obtain⟨xa,xe,xr,xs,xt⟩:=x;simp only at ae v0 v1 v2 v3 v4;have i0:(0:Int)<=(J:Int):=by omega
    have i1:(J:Int)<(X.length:Int):=by omega
    obtain⟨G,an⟩:∃G:World,(w.alloc (.cells (scC ⟨5,ol,ot,os,oa,oe,K,U,Y⟩) 29)).alloc (.cells (La oa oe K U Y) 27)=G:=⟨_,rfl⟩;have B:Hid (Blk G (w.heap.size+1) (La oa oe K U Y) 27/\Bw w G/\Blk G w.heap.size (scC ⟨5,ol,ot,os,oa,oe,K,U,Y⟩) 29):=by
     rw[<-an];exact Hd ⟨Blk.dX _ _ _ _,F6 _ _ _,Blk.alloc (Blk.aR _ _ _) _⟩
    have ax:=Hd an;clear an;go_upto_region 9 with fail;rw[ax.out];clear ax;have g3:G.cell? ⟨wb,3,none⟩=some (.slice (some ⟨f,0,none⟩) X.length a1):=(B.out.2.1.cell (p:=⟨wb,3,none⟩) zb).trans c3;have g4:G.cell? ⟨f,J*5,none⟩=some (.int .i64 xa):=(B.out.2.1.cell (p:=⟨f,J*5,none⟩) a4).trans v0;have g5:G.cell? ⟨f,J*5+1,none⟩=some (.int .i64 xe):=(B.out.2.1.cell (p:=⟨f,J*5+1,none⟩) a4).trans v1;have g6:G.cell? ⟨f,J*5+2,none⟩=some (.int .i64 xr):=(B.out.2.1.cell (p:=⟨f,J*5+2,none⟩) a4).trans v2;have g7:G.cell? ⟨f,J*5+3,none⟩=some (.int .i64 xs):=(B.out.2.1.cell (p:=⟨f,J*5+3,none⟩) a4).trans v3;have g8:G.cell? ⟨f,J*5+4,none⟩=some (.string xt):=(B.out.2.1.cell (p:=⟨f,J*5+4,none⟩) a4).trans v4;have V:G.cell? ⟨w.heap.size,2,none⟩=some (.int .i64 ot):=B.out.2.2.cell 2;have b3:G.cell? ⟨w.heap.size,3,none⟩=some (.string os):=B.out.2.2.cell 3;have b4:G.cell? ⟨w.heap.size,4,none⟩=some (.int .i64 oa):=B.out.2.2.cell 4;have b5:G.cell? ⟨w.heap.size,5,none⟩=some (.int .i64 oe):=B.out.2.2.cell 5;have b6:G.cell? ⟨w.heap.size,6,none⟩=some (.int .i64 K):=B.out.2.2.cell 6;have b7:G.cell? ⟨w.heap.size,7,none⟩=some (.int .i64 U):=B.out.2.2.cell 7;have b8:G.cell? ⟨w.heap.size,8,none⟩=some (.string Y):=B.out.2.2.cell 8;clear c3 v0 v1 v2 v3 v4;have n1:wb≠w.heap.size+1:=by omega
    have n2:f≠w.heap.size+1:=by omega
    have n3:w.heap.size≠w.heap.size+1:=by omega
    have S0:G.drew.cell? ⟨wb,3,none⟩=some (.slice (some ⟨f,0,none⟩) X.length a1)/\G.drew.cell? ⟨f,J*5,none⟩=some (.int .i64 xa)/\G.drew.cell? ⟨f,J*5+1,none⟩=some (.int .i64 xe)/\G.drew.cell? ⟨f,J*5+2,none⟩=some (.int .i64 xr)/\G.drew.cell? ⟨f,J*5+3,none⟩=some (.int .i64 xs)/\G.drew.cell? ⟨f,J*5+4,none⟩=some (.string xt)/\
     G.drew.cell? ⟨w.heap.size,2,none⟩=some (.int .i64 ot)/\G.drew.cell? ⟨w.heap.size,3,none⟩=some (.string os)/\G.drew.cell? ⟨w.heap.size,4,none⟩=some (.int .i64 oa)/\G.drew.cell? ⟨w.heap.size,5,none⟩=some (.int .i64 oe)/\G.drew.cell? ⟨w.heap.size,6,none⟩=some (.int .i64 K)/\G.drew.cell? ⟨w.heap.size,7,none⟩=some (.int .i64 U)/\G.drew.cell? ⟨w.heap.size,8,none⟩=some (.string Y):=⟨g3,g4,g5,g6,g7,g8,V,b3,b4,b5,b6,b7,b8⟩
    have bj:Hid (∀Z,Below G.drew.heap.size G.drew Z->Z.cell? ⟨wb,3,none⟩=some (.slice (some ⟨f,0,none⟩) X.length a1)/\Z.cell? ⟨f,J*5,none⟩=some (.int .i64 xa)/\Z.cell? ⟨f,J*5+1,none⟩=some (.int .i64 xe)/\Z.cell? ⟨f,J*5+2,none⟩=some (.int .i64 xr)/\Z.cell? ⟨f,J*5+3,none⟩=some (.int .i64 xs)/\Z.cell? ⟨f,J*5+4,none⟩=some (.string xt)/\Z.cell? ⟨w.heap.size,2,none⟩=some (.int .i64 ot)/\Z.cell? ⟨w.heap.size,3,none⟩=some (.string os)/\Z.cell? ⟨w.heap.size,4,none⟩=some (.int .i64 oa)/\Z.cell? ⟨w.heap.size,5,none⟩=some (.int .i64 oe)/\Z.cell? ⟨w.heap.size,6,none⟩=some (.int .i64 K)/\Z.cell? ⟨w.heap.size,7,none⟩=some (.int .i64 U)/\Z.cell? ⟨w.heap.size,8,none⟩=some (.string Y)):=Hd fun Z D=>by
     have zw:wb<G.drew.heap.size:=yG zb (T1 B.out.2.1).size;have zv:f<G.drew.heap.size:=yG a4 (T1 B.out.2.1).size;have zx:w.heap.size<G.drew.heap.size:=(Blk.drew B.out.2.2).lt;exact⟨(D.cell zw).trans g3,(D.cell zv).trans g4,(D.cell zv).trans g5,(D.cell zv).trans g6,(D.cell zv).trans g7,(D.cell zv).trans g8,(D.cell zx).trans V,(D.cell zx).trans b3,(D.cell zx).trans b4,(D.cell zx).trans b5,(D.cell zx).trans b6,(D.cell zx).trans b7,(D.cell zx).trans b8⟩
    go_region_held3 (fun W=>W.cell? ⟨wb,3,none⟩=some (.slice (some ⟨f,0,none⟩) X.length a1)/\W.cell? ⟨f,J*5,none⟩=some (.int .i64 xa)/\W.cell? ⟨f,J*5+1,none⟩=some (.int .i64 xe)/\W.cell? ⟨f,J*5+2,none⟩=some (.int .i64 xr)/\W.cell? ⟨f,J*5+3,none⟩=some (.int .i64 xs)/\W.cell? ⟨f,J*5+4,none⟩=some (.string xt)/\
     W.cell? ⟨w.heap.size,2,none⟩=some (.int .i64 ot)/\W.cell? ⟨w.heap.size,3,none⟩=some (.string os)/\W.cell? ⟨w.heap.size,4,none⟩=some (.int .i64 oa)/\W.cell? ⟨w.heap.size,5,none⟩=some (.int .i64 oe)/\W.cell? ⟨w.heap.size,6,none⟩=some (.int .i64 K)/\W.cell? ⟨w.heap.size,7,none⟩=some (.int .i64 U)/\W.cell? ⟨w.heap.size,8,none⟩=some (.string Y))
     (first|with_reducible exact S0|with_reducible exact S1|(exact⟨(Z8 n1).trans S1.1,(Z8 n2).trans S1.2.1,(Z8 n2).trans S1.2.2.1,(Z8 n2).trans S1.2.2.2.1,(Z8 n2).trans S1.2.2.2.2.1,(Z8 n2).trans S1.2.2.2.2.2.1,(Z8 n3).trans S1.2.2.2.2.2.2.1,(Z8 n3).trans S1.2.2.2.2.2.2.2.1,(Z8 n3).trans S1.2.2.2.2.2.2.2.2.1,(Z8 n3).trans S1.2.2.2.2.2.2.2.2.2.1,(Z8 n3).trans S1.2.2.2.2.2.2.2.2.2.2.1,(Z8 n3).trans S1.2.2.2.2.2.2.2.2.2.2.2.1,(Z8 n3).trans S1.2.2.2.2.2.2.2.2.2.2.2.2⟩))
     (first
      |(go_at_call 15;with_reducible refine(af.out _ ad).mono ?_;rintro z w5 ⟨rfl,rfl⟩)
      |(go_at_call 43;with_reducible refine(av.out _ ⟨xa,xe,xr,xs,xt⟩ ae).mono ?_;rintro z Z ⟨D,a',e',r',s',a9,aa,rfl⟩;have hq:Blk Z (w.heap.size+1) (La oa oe K U Y) 27:=Blk.aA (Blk.drew B.out.1) D;have ab:Bw w Z:=(T1 B.out.2.1).trans (D.mono (T1 B.out.2.1).size);have q0:=hq.cell 0;have q1:=hq.cell 1;have q2:=hq.cell 2;have q3:=hq.cell 3;have q4:=hq.cell 4;have f0:=hq.frozen 0;have f1:=hq.frozen 1;have f2:=hq.frozen 2;have f3:=hq.frozen 3;have f4:=hq.frozen 4;have zq:=hq.lt;have S1:=bj.out Z D;have bi:=Hd4 hq ab a9 aa;clear hq ab D a9 aa))
    all_goals
     clear S0 S1 g3 g4 g5 g6 g7 g8 V b3 b4 b5 b6 b7 b8;go_wp2_with fail;go_meet;obtain⟨hq,ab,a9,aa⟩:=bi.out;refine⟨w.heap.size+1,a',e',r',s',xt++Y++os,rfl,?_,a9,aa,by rw[zN,zN];omega,((((ab.setCell (by simp) _).setCell (by simp) _).setCell (by simp) _).setCell (by simp) _).setCell (by simp) _⟩;have:=((((hq.set 0 (.int .i64 a')).set 1 (.int .i64 e')).set 2 (.int .i64 r')).set 3 (.int .i64 s')).set 4 (.string (xt++Y++os));simpa using this
  ·go_wp2_with fail;go_meet;exact⟨w.heap.size+1,oa,oe,K,U,Y,rfl,Blk.dX _ _ _ _,a8.out.1,a8.out.2,by omega,F6 _ _ _⟩
 case rest=>
  obtain⟨wx,rfl⟩:∃wx,wx=wc:=⟨_,rfl⟩;obtain⟨vb,a,e,r,s,t,rfl,hB,az,b0,ht,hb⟩:=hcut;clear hk af av aw c3 a8;have HB:=Hd5 hB az b0 ht hb;have p0:wx.cell? ⟨pb,0,none⟩=some (.pointer (some ⟨xb,0,none⟩)):=(HW.out.2.1.aA hb).cell 0;have ap:=(HW.out.2.1.aA hb).lt;have m0:=hB.cell 0;have m1:=hB.cell 1;have m2:=hB.cell 2;have m3:=hB.cell 3;have m4:=hB.cell 4;have zv:=hB.lt;clear hB az b0 ht hb;go_upto_region 10 with fail
  go_cut[12,13] (fun va ve wy=>RsA xb kd g a e r s t wx.heap.size wy va ve/\Bw wx wy)
  case first=>
   have ag:=Hd (au.out wx.drew a e r s t (T1 HB.out.2.2.2.2) HB.out.2.1 HB.out.2.2.1 (by have:=HB.out.2.2.2.1;omega))
   go_region_with (go_at_call 44;with_reducible refine ag.out.mono ?_;rintro z w7 ⟨va,ve,rfl,a7,a5⟩;have H7:=Hd2 a7 a5;clear a7 a5)
   all_goals
    go_wp2_with fail;go_meet;exact⟨H7.out.1,(T1 (Below.refl _ _)).trans H7.out.2⟩
  case rest=>
   obtain⟨wy,rfl⟩:∃wy,wy=wc:=⟨_,rfl⟩;obtain⟨hA,ac⟩:=hcut;have a2:=HB.out.1.aA ac;have a3:Bw w wy:=HB.out.2.2.2.2.trans (ac.mono HB.out.2.2.2.2.size);have HA:=Hd3 hA a3 ac;clear p0 ap m0 m1 m2 m3 m4 zv au;have p1:wy.cell? ⟨pb,1,none⟩=some (.pointer (some ⟨yb,0,none⟩)):=(HW.out.2.1.aA a3).cell 1;have ap:=(HW.out.2.1.aA a3).lt;have m0:=a2.cell 0;have m1:=a2.cell 1;have m2:=a2.cell 2;have m3:=a2.cell 3;have m4:=a2.cell 4;have zv:=a2.lt;clear hA ac a2 a3;go_upto_region 11 with fail
   go_cut[14,15] (fun vb ve wz=>RsB yb kd g TX a e r s t wy.heap.size wz vb ve/\Bw wy wz)
   case first=>
    have ag:=Hd (ar.out wy.drew a e r s t (T1 HA.out.2.1) HB.out.2.1 HB.out.2.2.1 (by have:=HB.out.2.2.2.1;omega))
    go_region_with (go_at_call 45;with_reducible refine ag.out.mono ?_;rintro z w7 ⟨va,ve,rfl,a7,a5⟩;have H7:=Hd2 a7 a5;clear a7 a5)
    all_goals
     go_wp2_with fail;go_meet;exact⟨H7.out.1,(T1 (Below.refl _ _)).trans H7.out.2⟩
   case rest=>
    obtain⟨wz,rfl⟩:∃wz,wz=wc:=⟨_,rfl⟩;obtain⟨ah,ai⟩:=hcut;clear p1 ap m0 m1 m2 m3 m4 zv ar;have a3:Bw w wz:=HA.out.2.1.trans (ai.mono HA.out.2.1.size);have a0:=Hd2 a3 ai;have bk:=HA.out.1;clear a3 ai;rcases bk with⟨b1,rfl,rfl⟩|⟨b1,n1,rfl,rfl⟩|⟨b1,v1,tb,rfl,rfl,hS,bm⟩
    ·rcases ah with⟨V,rfl,rfl⟩|⟨V,_⟩|⟨V,_⟩
     ·clear b1 V;go_wp2_with fail;refine(Yl wb 4 wz).mono ?_;rintro z w3 ⟨rfl,rfl⟩;go_wp2_with fail;go_ret;exact⟨rfl,KN.aA a0.out.1,_,_,(HW.out.1.aA a0.out.1).mono (by omega) (by omega)⟩
     ·rw[b1]at V;cases V
     ·rw[b1]at V;cases V
    ·rcases ah with⟨V,_⟩|⟨V,n2,rfl,rfl⟩|⟨V,v2,_⟩
     ·rw[b1]at V;cases V
     ·clear b1 V n1 n2;go_wp2_with fail;refine(Yl wb 7 wz).mono ?_;rintro z w3 ⟨rfl,rfl⟩;go_wp2_with fail;go_ret;exact⟨rfl,KN.aA a0.out.1,_,_,(HW.out.1.aA a0.out.1).mono (by omega) (by omega)⟩
     ·exact absurd v2 n1
    ·rcases ah with⟨V,_⟩|⟨V,n2,_⟩|⟨V,v2,ao,xa,xe,st,hs,rfl,rfl,rfl,rfl,rfl,ba,bh⟩
     ·rw[b1]at V;cases V
     ·exact absurd v1 n2
     ·have hw:=HW.out.1;have hx:=HW.out.2.2.1;have be:=hx.txt.dI st hs;have ht:=HB.out.2.2.2.1;have bd:=v1.jB;unfold Nl at bd;have bo:(TX[st]++t).size=TX[st].size+t.size:=zN;have bf:Xh wz tb ao (M+(os.size+Y.size)):=⟨xb,yb,kd,g,TX,⟨xa,xe,r,(st:Int),t⟩,⟨xa,xe,TX[st].size⟩,TX[st]++t,0,false,Blk.aA hS a0.out.2,ba,hx.bG (Kt.aA a0.out.1),fun _=>SvP.jT HW.out.2.2.2 hx.fS hx.txt v1 hs,b1,by omega,by show xe<=_;omega,be,by show xe+((TX[st]++t).size-TX[st].size)<=_;omega⟩;have aj:=hw.fresh;have z1:=HB.out.2.2.2.2.size;have z2:=HA.out.2.1.size;have z3:=hw.lo.b;have z4:=hw.aO.lt;have aq:=Hd (II wb n (M+(os.size+Y.size)) c tb ao pv qv sv _ kv SS X KS wz ((hw.aA a0.out.1).mono (by omega) (zD _)) bf (aj.1 tb (by omega)) (aj.2 ao (by omega)) hc (by omega) (by omega));clear bf aj z1 z2 z3 z4 hw hx be ht bd bo b1 V v1 v2 hS ba bm bh HA HB;go_wp2_with fail;refine aq.out.mono ?_;rintro z w3 ⟨rfl,bc,sv',ay,bb⟩;have H3:=Hd2 bc bb;clear bc bb aq;go_wp2_with fail;go_ret;exact⟨rfl,(KN.aA a0.out.1).trans H3.out.1,_,_,H3.out.2⟩
def OP(N wb:Nat)(J K:Value)(M c:Nat)(w:World)(e:Ending)(w':World):Prop:=
 e=.returned (.bool true)/\KN N w w'/\∃sv' vv' G D h B f,WI N w' wb J K sv' vv' G D h B f M (c+1)
theorem RW{N:Nat}(wb n M c k:Nat)(X Y sv vv kv:Value)(f:List (Nat×Nat))(VS:List F3)(Z:List (Value×Nat))(o:ScT)(w:World)(h:WI N w wb X Y sv vv n kv f VS Z M c)(hk:k<f.length)(hc:c<=900000)(D:o.bB=2\/o.bB=3\/o.bB=4)(B:M+o.size<=3000000):
  Calls Tryz.prog 14 #[.pointer (some ⟨wb,0,none⟩),.agg #[.pointer (some ⟨f[k].1,0,none⟩),.pointer (some ⟨f[k].2,0,none⟩)],scV o] w (OP N wb X Y (M+o.size) c w):=by
 rcases D with D|D|D
 ·exact(VF wb n M c k X Y sv vv kv f VS Z o w h hk hc D B).mono fun e w' ⟨K,U,n',vv',W,J,G,V⟩=>⟨K,U,_,_,_,_,_,_,_,V⟩
 ·exact(YA wb n M c k X Y sv vv kv f VS Z o w h hk hc D B).mono fun e w' ⟨K,U,n',vv',W,J,G,V⟩=>⟨K,U,_,_,_,_,_,_,_,V⟩
 ·exact(WF wb n M c k X Y sv vv kv f VS Z o w h hk hc D B).mono fun e w' ⟨K,U,n',vv',W,J,G,V⟩=>⟨K,U,_,_,_,_,_,_,_,V⟩
theorem QM{N:Nat}(wb B xb J n M c:Nat)(kd:Nat->Nat)(g:B0)(W:List ByteArray)(D G sv vv kv:Value)(U:List (Nat×Nat))(X:List F3)(K:List (Value×Nat))(o:ScT)(w:World)(h:WI N w wb D G sv vv n kv U X K M c)(hp:Blk w B #[.pointer (some ⟨xb,0,none⟩),.pointer (some ⟨J,0,none⟩)] 43)(hx:LxP w xb J kd g W)(hc:c<=900000)(f:o.bB=1\/o.bB=5\/o.bB=6)(ho:o.ok)(hM:122<=M)(a0:M+o.size<=3000000):
  Calls Tryz.prog 16 #[.pointer (some ⟨wb,0,none⟩),.pointer (some ⟨B,0,none⟩),scV o] w (OP N wb D G (M+o.size) c w):=by
 rcases f with f|f
 ·exact(Nx wb B xb J n M c kd g W D G sv vv kv U X K o w h hp hx (by omega) f).mono fun e w' ⟨Y,Z,sv',V,h3⟩=>⟨Y,Z,_,_,_,_,_,_,_,h3.mono (by omega) (zD _)⟩
 ·exact(Ht wb B xb J n M c kd g W D G sv vv kv U X K o w h hp hx (by omega) f ho hM a0).mono fun e w' ⟨Y,Z,sv',V,h3⟩=>⟨Y,Z,_,_,_,_,_,_,_,h3⟩
def WB(J:Int):Prop:=∀(N wb n M c:Nat) (f h U V K:Value) (D:List (Nat×Nat)) (G:List F3) (B:List (Value×Nat)) (o:ScT) (w:World),WI N w wb f h U V n K D G B M c->c<=900000->o.ok->1<=o.bB->o.bB<=J->122<=M->M+o.size<=3000000->
  Calls Tryz.prog 8 #[.pointer (some ⟨wb,0,none⟩),scV o] w (OP N wb f h (M+o.size) c w)
theorem St(s:ByteArray)(J:s.size<=maxLen)(w:World):Calls Tryz.prog 7 #[.string s] w fun e w'=>Bw w w'/\∃v:Option Addr,e=.returned (.tuple #[.pointer v,.bool true])/\Co w' (.pointer v):=
 (ZW s J w).mono fun e w' ⟨D,f⟩=>by
  refine⟨D,?_⟩;cases hX:newF s with
  |bad c a=>rw[hX]at f;exact⟨_,f,.inl rfl⟩
  |lexer kd g=>
   rw[hX]at f;obtain⟨K,xb,M,B,G,h⟩:=f;exact⟨_,G,.inr ⟨K,xb,M,kd,g,B,rfl,h.aO,h.eQ,h.eV,h.txt,EX hX,Bz hX⟩⟩
theorem WI.start{w:World}{wb:Nat}{h B:Value}{N:Nat}(G:Blk w wb (Zp h B (.slice none 0 0) (.slice none 0 0) 0 (.slice none 0 0)) 36)(J:Co w h)(K:Co w B)(D:N<=wb)(M:Nat):WI N w wb h B (.slice none 0 0) (.slice none 0 0) 0 (.slice none 0 0) [] [] [] M 0:=
 ⟨G,J,K,World.ownsRow_nil _ _ _ _,fun s f=>by simp at f,by simp,by simp,World.ownsRow_nil _ _ _ _,fun s f=>by simp at f,World.ownsRow_nil _ _ _ _,fun s f=>by simp at f,by simp,by simp,by simp,by simp,D,fun b e=>(by cases e),fun b e=>(by cases e),fun b e=>(by cases e),fun s f=>by simp at f⟩
theorem C0.toBelow{w w':World}(h:C0 (fun i=>w.heap.size<=i) w w'):Bw w w':=⟨h.os,h.tape,h.output,h.size,fun k f=>h.block k f (by omega)⟩
theorem ND(hi:Int)(hs:WB hi)(f:List ScT)(v:Value)(s0 s1:ByteArray)(w:World)(h:Lu w v f)(m0:s0.size<=maxLen)(m1:s1.size<=maxLen):
  Calls Tryz.prog 5 #[.string s0,.string s1,v,.int .i64 1,.int .i64 hi] w fun e w'=>e=.returned (.bool true)/\Bw w w':=by
 obtain⟨⟨ad,b4,rfl,an⟩,ak,b1,aq⟩:=h;have a9:=Hd (fun W=>St s0 m0 W);have aa:=Hd (fun W=>St s1 m1 W);clear m0 m1;have HS:=Hd hs;have ab:=Hd2 ak aq;clear hs ak aq;go_enter Tryz.func5,Tryz.ntmps5;go_wp2_with fail;refine(a9.out _).mono ?_;rintro e w1 ⟨a0,pa,rfl,hp⟩;have ae:Bw w w1:=(N0 _ _).trans (a0.mono (by simp));have bw:Blk w1 w.heap.size (Zp (.pointer none) (.pointer none) (.slice none 0 0) (.slice none 0 0) 0 (.slice none 0 0)) 36:=(Blk.aR _ _ _).aA a0;have H1:=Hd3 ae bw hp;clear a0 ae bw hp a9;go_wp2_with fail;refine(aa.out _).mono ?_;rintro e w2 ⟨V,qa,rfl,hq⟩;have af:Bw w w2:=H1.out.1.trans (V.mono H1.out.1.size);have B:=H1.out.2.1.aA V;have am:=H1.out.2.2.bG (Kt.aA V);have c0:=B.cell 0;have c1:=B.cell 1;have f0:=B.frozen 0;have f1:=B.frozen 1;have zw:=B.lt;have ai:C0 (fun i=>w.heap.size<=i) w ((w2.setCell ⟨w.heap.size,0,none⟩ (.pointer pa)).setCell ⟨w.heap.size,1,none⟩ (.pointer qa)):=C0.setCell (ex:=fun i=>w.heap.size<=i) (p:=⟨w.heap.size,1,none⟩) (C0.setCell (p:=⟨w.heap.size,0,none⟩) (C0.aM af) (fun e=>zD _) _) (fun e=>zD _) _;have a5:Ig w2 ((w2.setCell ⟨w.heap.size,0,none⟩ (.pointer pa)).setCell ⟨w.heap.size,1,none⟩ (.pointer qa)):=Kt.of (C0.setCell (ex:=fun i=>i=w.heap.size) (p:=⟨w.heap.size,1,none⟩) (C0.setCell (ex:=fun i=>i=w.heap.size) (p:=⟨w.heap.size,0,none⟩) (C0.refl _ _) (fun _=>rfl) _) (fun _=>rfl) _) (fun i _ e=>by subst e;exact⟨_,_,B,by decide⟩);have ag:WI w.heap.size ((w2.setCell ⟨w.heap.size,0,none⟩ (.pointer pa)).setCell ⟨w.heap.size,1,none⟩ (.pointer qa)) w.heap.size (.pointer pa) (.pointer qa) (.slice none 0 0) (.slice none 0 0) 0 (.slice none 0 0) [] [] [] 122 0:=WI.start ((B.set 0 (.pointer pa)).set 1 (.pointer qa)) (am.bG a5) (hq.bG a5) (zD _) 122;have H3:=Hd2 ai ag;clear V af B am hq ai a5 ag H1 aa;go_wp2_with fail
 go_loopg[13,15] f.length (fun G ay iv wr=>∃i:Nat,ay=.bool true/\iv=.int .i64 i/\i<=f.length/\G=f.length-i/\C0 (fun i=>w.heap.size<=i) w wr/\∃sv vv n kv SS VS KS,WI w.heap.size wr w.heap.size (.pointer pa) (.pointer qa) sv vv n kv SS VS KS (122+Uc (f.take i)) i)
 case atStart=>exact⟨0,rfl,rfl,yC _,rfl,H3.out.1,_,_,_,_,_,_,_,H3.out.2⟩
 case round=>
  obtain⟨i,rfl,rfl,b5,rfl,Y,sv,vv,n,kv,SS,VS,KS,K⟩:=hrel
  by_cases a2:i<f.length
  ·have e1:decide ((i:Int)<(f.length:Int))=true:=by simp;omega
   rcases an with h9|⟨xb,ax,rfl,ar,a1⟩
   ·omega
   have i0:(0:Int)<=(i:Int):=by omega
   have i1:(i:Int)<(f.length:Int):=by omega
   have J:VV wr xb (ax+i*9) f[i]:=(a1 i a2).kept (fun p hp=>Y.cell (by rw[hp];exact ar) (by rw[hp];omega));obtain⟨o,U⟩:∃o,f[i]=o:=⟨_,rfl⟩;rw[U]at J;have a4:=UO a2;rw[U]at a4;have ap:=MB f (i+1);have a3:o.ok:=by rw[<-U];exact ab.out.1 _ (zG a2)
   have ao:=ab.out.2;have d0:=J.c0;have d1:=J.c1;have d2:=J.c2;have d3:=J.c3;have d4:=J.c4;have d5:=J.c5;have d6:=J.c6;have d7:=J.c7;have d8:=J.c8;have b6:xb<wr.heap.size:=yG ar Y.size;have au:Hid (122+Uc (f.take (i+1))=122+Uc (f.take i)+o.size):=Hd (by omega);have a7:Hid (122+Uc (f.take i)<=122+Uc (f.take (i+1))):=Hd (by omega)
   by_cases M:1<=o.bB/\o.bB<=hi
   ·have e2:decide (o.bB<1)=false:=by simp;omega
    have e3:decide (hi<o.bB)=false:=by simp;omega
    have ac:=Hd (HS.out w.heap.size w.heap.size n (122+Uc (f.take i)) i (.pointer pa) (.pointer qa) sv vv kv SS VS KS o wr K (by omega) a3 M.1 M.2 (by omega) (by omega));have X:=Hd Y;clear Y K a4 ap ao M a3 J U;go_wp2_with fail;refine ac.out.mono ?_;rintro e w5 ⟨rfl,aj,az,b0,n5,aw,b2,b3,av,D⟩;have a8:=Hd (KP w.heap.size n5 (.pointer pa) (.pointer qa) az b0 aw av w5 D.aO D.ks D.cH (by have:=D.n4;omega));have H5:=Hd2 aj D;clear aj D ac d0 d1 d2 d3 d4 d5 d6 d7 d8;go_wp2_with fail;refine a8.out.mono ?_;rintro e w6 ⟨rfl,ah⟩;have a6:=Hd ah;clear ah a8;go_wp2_with fail
    go_roundg (f.length- (i+1))
    case measure=>omega
    case rel=>
     have h9:=H5.out.2.aA a6.out;rw[<-au.out]at h9;exact⟨i+1,rfl,by go_num,by omega,rfl,(X.out.trans' H5.out.1.n).aA a6.out,_,_,_,_,_,_,_,h9⟩
   ·have X:=Hd2 Y K;clear Y K a4 ap ao a3 J U HS
    by_cases Z:o.bB<1
    ·have e2:decide (o.bB<1)=true:=by simp;omega
     clear M Z;go_wp2_with fail
     go_roundg (f.length- (i+1))
     case measure=>omega
     case rel=>exact⟨i+1,rfl,by go_num,by omega,rfl,X.out.1,_,_,_,_,_,_,_,X.out.2.mono a7.out (by omega)⟩
    ·have e2:decide (o.bB<1)=false:=by simp;omega
     have e3:decide (hi<o.bB)=true:=by simp;omega
     clear M Z;go_wp2_with fail
     go_roundg (f.length- (i+1))
     case measure=>omega
     case rel=>exact⟨i+1,rfl,by go_num,by omega,rfl,X.out.1,_,_,_,_,_,_,_,X.out.2.mono a7.out (by omega)⟩
  ·have e1:decide ((i:Int)<(f.length:Int))=false:=by simp;omega
   have X:=Hd Y;clear K Y H3;go_wp2_with fail;go_ret;exact⟨rfl,X.out.toBelow⟩
theorem WB.le{a b:Int}(h:WB b)(U:a<=b):WB a:=fun N wb n M c Y Z sv vv X D G B o w q V W J h6 K f=>h N wb n M c Y Z sv vv X D G B o w q V W J (by omega) K f
def opS(k l t:Int)(s:ByteArray):ScT:=⟨k,l,t,s,0,0,0,0,⟨#[]⟩⟩
def OQ:List ScT:=[opS 1 0 0 ⟨#[]⟩,opS 1 1 0 ⟨#[]⟩,opS 2 0 0 ⟨#[97,98]⟩,opS 4 0 0 ⟨#[]⟩,opS 2 0 0 ⟨#[97]⟩,opS 5 0 0 ⟨#[]⟩,opS 3 0 0 ⟨#[]⟩,opS 3 0 1 ⟨#[]⟩]
abbrev Aa0:Array Value:=#[.int .i64 1,.int .i64 0,.int .i64 0,.string ⟨#[]⟩,.int .i64 0,.int .i64 0,.int .i64 0,.int .i64 0,.string ⟨#[]⟩,.int .i64 1,.int .i64 1,.int .i64 0,.string ⟨#[]⟩,.int .i64 0,.int .i64 0,.int .i64 0,.int .i64 0,.string ⟨#[]⟩,.int .i64 2,.int .i64 0,.int .i64 0,.string ⟨#[97,98]⟩,.int .i64 0,.int .i64 0,.int .i64 0,.int .i64 0,.string ⟨#[]⟩,.int .i64 4,.int .i64 0,.int .i64 0,.string ⟨#[]⟩,.int .i64 0,.int .i64 0,.int .i64 0,.int .i64 0,.string ⟨#[]⟩,.int .i64 2,.int .i64 0,.int .i64 0,.string ⟨#[97]⟩,.int .i64 0,.int .i64 0,.int .i64 0,.int .i64 0,.string ⟨#[]⟩,.int .i64 5,.int .i64 0,.int .i64 0,.string ⟨#[]⟩,.int .i64 0,.int .i64 0,.int .i64 0,.int .i64 0,.string ⟨#[]⟩,.int .i64 3,.int .i64 0,.int .i64 0,.string ⟨#[]⟩,.int .i64 0,.int .i64 0,.int .i64 0,.int .i64 0,.string ⟨#[]⟩,.int .i64 3,.int .i64 0,.int .i64 1,.string ⟨#[]⟩,.int .i64 0,.int .i64 0,.int .i64 0,.int .i64 0,.string ⟨#[]⟩]
theorem FZ{W:World}{b:Nat}(h:Blk W b Aa0 29):Lu W (.slice (some ⟨b,0,none⟩) 8 8) OQ:=by
 refine⟨⟨some ⟨b,0,none⟩,8,rfl,.inr ⟨b,0,rfl,h.lt,fun j B=>?_⟩⟩,fun o f=>?_,by decide,by decide⟩
 ·have D:j<8:=B;obtain rfl|rfl|rfl|rfl|rfl|rfl|rfl|rfl:j=0\/j=1\/j=2\/j=3\/j=4\/j=5\/j=6\/j=7:=by omega
  all_goals exact⟨h.cell _,h.cell _,h.cell _,h.cell _,h.cell _,h.cell _,h.cell _,h.cell _,h.cell _⟩
 ·unfold OQ at f;simp only[zU,List.not_mem_nil,or_false]at f;rcases f with rfl|rfl|rfl|rfl|rfl|rfl|rfl|rfl
  all_goals exact⟨⟨by decide,by decide⟩,⟨by decide,by decide⟩,⟨by decide,by decide⟩,⟨by decide,by decide⟩⟩
theorem RT(U:WB 5)(w:World):Calls Tryz.prog 4 #[] w fun e w'=>e=.returned (.bool true)/\Bw w w':=by
 have K:=Hd (OS w);have M:=Hd (fun(W:World) (v:Value) (h:Lu W v OQ)=>ND 5 U OQ v ⟨#[97,124,97,98,99]⟩ ⟨#[97,124,97,42,98]⟩ W h (by decide) (by decide));clear U;go_enter Tryz.func4,Tryz.ntmps4
 go_wp2_with fail;refine K.out.mono ?_;rintro e V ⟨rfl,D⟩;have f:=Hd D;clear D K;have B:=Hd (M.out (V.alloc (.cells Aa0 29)) _ (FZ (Blk.aR _ _ _)));clear M;go_wp2_with fail;refine B.out.mono ?_;rintro e X ⟨rfl,G⟩;have J:=Hd ((f.out.alloc f.out.size _).trans (G.mono (f.out.alloc f.out.size _).size));clear G B;go_wp2_with fail;go_ret;exact⟨rfl,J.out⟩
theorem Ab6(Q:World->Prop)(wb M U:Nat)(sd:Option Addr)(pv qv y3 y4 y5:Value)(o:ScT)(w:World)(hn:M<=1000000)
   (hb:Blk w wb #[pv,qv,.slice sd M U,y3,y4,y5] 36)
   (hk:1<=o.bB) (aa:o.bB<=6)
   (K:∀W,0<M->∃Y,Y<M/\∃Z a b,sd=some ⟨Z,0,none⟩/\Z<w.heap.size/\w.cell? ⟨Z,Y*2,none⟩=some (.pointer (some ⟨a,0,none⟩))/\w.cell? ⟨Z,Y*2+1,none⟩=some (.pointer (some ⟨b,0,none⟩))/\(Calls Tryz.prog 15 #[.int .i64 o.t,.int .i64 (M:Int)] W fun z w'=>z=.returned (.int .i64 (Y:Int))/\w'=W)/\
     (o.bB=2\/o.bB=3\/o.bB=4->Bw w W->Calls Tryz.prog 14 #[.pointer (some ⟨wb,0,none⟩),.agg #[.pointer (some ⟨a,0,none⟩),.pointer (some ⟨b,0,none⟩)],scV o] W fun e w'=>e=.returned (.bool true)/\Q w'))
   (a2:∀W,Bw w W->Q W)
   (a0:∀p W,p=pv\/p=qv->o.bB=1\/o.bB=5\/o.bB=6->Bw w W->p=.pointer none\/((∃pb,p=.pointer (some ⟨pb,0,none⟩))/\Calls Tryz.prog 16 #[.pointer (some ⟨wb,0,none⟩),p,scV o] W fun e w'=>e=.returned (.bool true)/\Q w')):
    Calls Tryz.prog 8 #[.pointer (some ⟨wb,0,none⟩),scV o] w fun e w'=>e=.returned (.bool true)/\Q w':=by
  have c0:w.cell? ⟨wb,0,none⟩=some pv:=hb.cell 0;have c1:w.cell? ⟨wb,1,none⟩=some qv:=hb.cell 1;have zb:=hb.lt;have HH:=Hd4 hb K a2 a0;clear hb K a2 a0;go_enter Tryz.func8,Tryz.ntmps8;go_upto_if 20 with fail;generalize hB:(bits BinOp.and IntKind.i64 o.l 1==1)=B;clear hB
  go_cut[5] (fun v5 wx=>(v5=pv\/v5=qv)/\wx=w.alloc (.cells (scC o) 29))
  case first=>
    cases B with
    |true=>
      go_wp2_with fail;go_meet;exact⟨.inr rfl,rfl⟩
    |false=>
      go_wp2_with fail;go_meet;exact⟨.inl rfl,rfl⟩
  case rest=>
    obtain⟨h5,rfl⟩:=hcut;have kA:(o.bB==10)=false:=by rw[beq_eq_false_iff_ne];omega
    have H5:=Hd h5;clear h5 c0 c1
    by_cases f:o.bB=2\/o.bB=3\/o.bB=4
    · have k2:w.cell? ⟨wb,2,none⟩=some (.slice sd M U):=HH.out.1.cell 2
      go_upto_if 36 with fail
      go_cut[36] (fun v wx=>v=.bool true/\wx=w.alloc (.cells (scC o) 29))
      case first=>
        rcases f with f|f|f
        · have j2:(o.bB==2)=true:=by rw[f];rfl
          clear f;go_wp2_with fail;go_meet;exact⟨by simp[*],rfl⟩
        · have j2:(o.bB==2)=false:=by rw[f];rfl
          have j3:(o.bB==3)=true:=by rw[f];rfl
          clear f;go_wp2_with fail;go_meet;exact⟨by simp[*],rfl⟩
        · have j2:(o.bB==2)=false:=by rw[f];rfl
          have j3:(o.bB==3)=false:=by rw[f];rfl
          have j4:(o.bB==4)=true:=by rw[f];rfl
          clear f;go_wp2_with fail;go_meet;exact⟨by simp[*],rfl⟩
      case rest=>
        obtain⟨rfl,rfl⟩:=hcut
        by_cases h0:M=0
        · have e0:((M:Int)==0)=true:=by rw[beq_iff_eq];omega
          clear f;go_wp2_with fail;go_ret;exact⟨rfl,HH.out.2.2.1 _ (N0 _ _)⟩
        · have e0:((M:Int)==0)=false:=by rw[beq_eq_false_iff_ne];omega
          obtain⟨w9,X⟩:∃w9:World,w.alloc (.cells (scC o) 29)=w9:=⟨_,rfl⟩;have G:Bw w w9:=by rw[<-X];exact N0 _ _
          have V:Blk w9 w.heap.size (scC o) 29:=by rw[<-X];exact Blk.aR _ _ _
          obtain⟨Y,a9,Z,a,b,rfl,a3,s0,s1,K,a1⟩:=HH.out.2.1 w9.drew (by omega);have a5:=Hd K;have a4:=Hd (a1 f (T1 G));have g2:w9.cell? ⟨wb,2,none⟩=some (.slice (some ⟨Z,0,none⟩) M U):=(G.cell zb).trans k2;have g3:w9.cell? ⟨Z,Y*2,none⟩=some (.pointer (some ⟨a,0,none⟩)):=(G.cell a3).trans s0;have g4:w9.cell? ⟨Z,Y*2+1,none⟩=some (.pointer (some ⟨b,0,none⟩)):=(G.cell a3).trans s1;have b0:=V.cell 0;have b1:=V.cell 1;have b2:=V.cell 2;have b3:=V.cell 3;have b4:=V.cell 4;have b5:=V.cell 5;have b6:=V.cell 6;have b7:=V.cell 7;have b8:=V.cell 8;have a6:=Hd X;clear X G V;have i0:(0:Int)<=(Y:Int):=by omega
          have i1:(Y:Int)<(M:Int):=by omega
          clear K a1 f h0;go_upto_region 13 with fail;rw[a6.out];clear k2 s0 s1;refine Oz 16 Tryz.iL (by kernel_rfl) ?_;intro a8;simp only[List.take_succ_cons,List.take_zero,List.drop_succ_cons,xG]
          iterate 12 still_step
          still_call a5.out
          iterate 3 still_step
          refine wpStill_nil ?_;go_wp2_with fail;refine a4.out.mono ?_;rintro e w3 ⟨rfl,D⟩;have HQ:=Hd D;clear D;go_wp2_with fail;go_ret;exact⟨rfl,HQ.out⟩
    · have h:o.bB=1\/o.bB=5\/o.bB=6:=by omega
      have k2:(o.bB==2)=false:=by rw[beq_eq_false_iff_ne];omega
      have k3:(o.bB==3)=false:=by rw[beq_eq_false_iff_ne];omega
      have k4:(o.bB==4)=false:=by rw[beq_eq_false_iff_ne];omega
      have a7:=HH.out.2.2.2 u5 _ H5.out h (N0 w (.cells (scC o) 29));rcases a7 with rfl|⟨⟨pb,rfl⟩,J⟩
      · clear h f
        go_wp2_with fail;go_ret;exact⟨rfl,HH.out.2.2.1 _ (N0 _ _)⟩
      · have HC:=Hd J
        clear J f;rcases h with h|h|h
        · have j1:(o.bB==1)=true:=by rw[h];rfl
          clear h;go_wp2_with fail;refine HC.out.mono ?_;rintro e w3 ⟨rfl,D⟩;have HQ:=Hd D;clear D;go_wp2_with fail;go_ret;exact⟨rfl,HQ.out⟩
        · have j1:(o.bB==1)=false:=by rw[h];rfl
          have j5:(o.bB==5)=true:=by rw[h];rfl
          clear h;go_wp2_with fail;refine HC.out.mono ?_;rintro e w3 ⟨rfl,D⟩;have HQ:=Hd D;clear D;go_wp2_with fail;go_ret;exact⟨rfl,HQ.out⟩
        · have j1:(o.bB==1)=false:=by rw[h];rfl
          have j5:(o.bB==5)=false:=by rw[h];rfl
          have j6:(o.bB==6)=true:=by rw[h];rfl
          clear h;go_wp2_with fail;refine HC.out.mono ?_;rintro e w3 ⟨rfl,D⟩;have HQ:=Hd D;clear D;go_wp2_with fail;go_ret;exact⟨rfl,HQ.out⟩
theorem DY{N:Nat}(wb n M c:Nat)(G J sv vv Z:Value)(f:List (Nat×Nat))(VS:List F3)(KS:List (Value×Nat))(o:ScT)(w:World)(h:WI N w wb G J sv vv n Z f VS KS M c)(hc:c<=900000)(ho:o.ok)(a3:1<=o.bB)(a4:o.bB<=6)(hM:122<=M)(V:M+o.size<=3000000):
  Calls Tryz.prog 8 #[.pointer (some ⟨wb,0,none⟩),scV o] w (OP N wb G J (M+o.size) c w):=by
 obtain⟨_,sd,Y,a6,X⟩:=P0 h.ss;subst a6;have a8:=h.n2;refine(Ab6 (fun w'=>KN N w w'/\∃sv' vv' n' a7 a1 a2 a0,WI N w' wb G J sv' vv' n' a7 a1 a2 a0 (M+o.size) (c+1)) wb f.length Y sd G J vv (.int .i64 n) Z o w (by omega) h.aO a3 a4 (fun W h0=>?_) (fun W q=>⟨KN.aA q,_,_,_,_,_,_,_,(h.aA q).mono (by omega) (by omega)⟩) (fun p W hp hk q=>?_)).mono fun e w' ⟨K,B⟩=>⟨K,B⟩
 ·have D:=RQ o.t h0;rcases X with⟨_,e9⟩|⟨sg,cur,rfl,hB,_⟩
  ·omega
  ·obtain⟨g0,g1⟩:=IE f (Nr o.t f.length) D;refine⟨Nr o.t f.length,D,sg,f[Nr o.t f.length].1,f[Nr o.t f.length].2,rfl,hB.lt,(Y0 h.ss (Nr o.t f.length*2) (by omega)).trans g0,(Y0 h.ss (Nr o.t f.length*2+1) (by omega)).trans g1,LK o.t f.length W ho.t h0 (by omega),fun hk q=>?_⟩;exact(RW wb n M c (Nr o.t f.length) G J _ vv Z f VS KS o W (h.aA q) D hc hk V).mono fun e w' ⟨K,B,U⟩=>⟨K,(KN.aA q).trans B,U⟩
 ·have a5:Co W p:=by
   rcases hp with rfl|rfl
   ·exact(h.aA q).p
   ·exact(h.aA q).q
  rcases a5 with rfl|⟨pb,xb,yb,kd,g,TX,rfl,B,U⟩
  ·exact .inl rfl
  ·exact .inr ⟨⟨pb,rfl⟩,(QM wb pb xb yb n M c kd g TX G J _ vv Z f VS KS o W (h.aA q) B U hc hk ho hM V).mono fun e w' ⟨K,B,U⟩=>⟨K,(KN.aA q).trans B,U⟩⟩
theorem WI.ownNew {w w3:World}{N wb n M M' c:Nat}{pv qv sv vv kv lv:Value}{SS:List (Nat×Nat)}{VS:List F3}{KS:List (Value×Nat)}{L:List V4}(h:WI N w wb pv qv sv vv n kv SS VS KS M c)(hM:M<=M')(hw:Below w.heap.size w w3)(hl:P1 w3 lv L)(hn:∀i,lv.ownBlock=some i->w.heap.size<=i)(hf:L.length<=4000000)(hc:c<=900000) :
  Calls Tryz.prog 20 #[.pointer (some ⟨wb,0,none⟩),lv] w3 fun e w'=>e=.returned (.tuple #[])/\KN N w w'/\∃kv' KS',WI N w' wb pv qv sv vv (n+1) kv' SS VS KS' M' (c+1):=by
 have h3:=h.aA hw
 have n1:=h3.n1
 have n4:=h3.n4
 refine (KY wb w.heap.size n pv qv sv vv kv lv KS L w3 h3.aO h3.ks (fun p hp=>⟨h3.cH p hp,h.iK p hp⟩) hl hn hw.size (by omega) (by omega) hf).mono ?_
 rintro e w' ⟨rfl,kv',KS',hlen,ho⟩
 obtain⟨q1,q2⟩:=h3.kW hl ho hlen (fun b hb'=>by have:=hn b hb';have:=h.lo.b;have:=h.aO.lt;omega)
 exact⟨rfl,(KN.aA hw).trans q1,_,_,q2.mono hM (Nat.le_refl _)⟩
theorem NZ(Q:World->Prop)(wb:Nat)(pv qv y2 y3 y4 y5:Value)(o:ScT)(ff:Int)(w:World)
  (hb:Blk w wb #[pv,qv,y2,y3,y4,y5] 36)
  (hk:7<=o.bB) (af:o.bB<=10)
  (ac:∀W,Bw w W->Q W)
  (aa:∀W,Bw w W->Calls Tryz.prog 7 #[.string o.s] W fun e w'=>Bw W w'/\∃v:Option Addr,e=.returned (.tuple #[.pointer v,.bool true]))
  (hp:∀p,p=pv\/p=qv->p=.pointer none\/∃pb xb yb,p=.pointer (some ⟨pb,0,none⟩)/\Blk w pb #[.pointer (some ⟨xb,0,none⟩),.pointer (some ⟨yb,0,none⟩)] 43/\
   ∀W,Bw w W->(Calls Tryz.prog 21 #[.pointer (some ⟨pb,0,none⟩)] W fun e w'=>e=.returned (.bool true)/\Bw W w')/\
    (Calls Tryz.prog 22 #[.pointer (some ⟨pb,0,none⟩)] W fun e w'=>e=.returned (.bool true)/\Bw W w')/\
    (Calls Tryz.prog 17 #[.pointer (some ⟨xb,0,none⟩),.string o.s] W fun e w1=>∃lv,e=.returned (.tuple #[lv,.int .i64 ff])/\Bw W w1/\
     ∀V,Bw w1 V->Calls Tryz.prog 18 #[.pointer (some ⟨yb,0,none⟩),.string o.s] V fun e' w2=>∃mv,e'=.returned (.tuple #[mv,.int .i64 ff])/\Bw V w2/\
      Calls Tryz.prog 19 #[lv,mv] w2 fun e w3=>e=.returned (.bool true)/\Calls Tryz.prog 20 #[.pointer (some ⟨wb,0,none⟩),lv] w3 fun e w'=>e=.returned (.tuple #[])/\Q w')):
  Calls Tryz.prog 8 #[.pointer (some ⟨wb,0,none⟩),scV o] w fun e w'=>e=.returned (.bool true)/\Q w':=by
 have c0:w.cell? ⟨wb,0,none⟩=some pv:=hb.cell 0;have c1:w.cell? ⟨wb,1,none⟩=some qv:=hb.cell 1;have zb:=hb.lt;have HH:=Hd4 hb aa ac hp;clear hb aa ac hp;go_enter Tryz.func8,Tryz.ntmps8;go_upto_if 20 with fail;generalize hB:(bits BinOp.and IntKind.i64 o.l 1==1)=B;clear hB
 go_cut[5] (fun v5 D=>(v5=pv\/v5=qv)/\D=w.alloc (.cells (scC o) 29))
 case first=>
  cases B with
  |true=>
   go_wp2_with fail;go_meet;exact⟨.inr rfl,rfl⟩
  |false=>
   go_wp2_with fail;go_meet;exact⟨.inl rfl,rfl⟩
 case rest=>
  obtain⟨h5,rfl⟩:=hcut;have H5:=Hd h5;clear h5 c0 c1
  by_cases hA:o.bB=10
  ·have kA:(o.bB==10)=true:=by rw[hA];rfl
   have HM:=Hd (HH.out.2.1 (w.alloc (.cells (scC o) 29)) (N0 _ _));clear hA;go_wp2_with fail;refine HM.out.mono ?_;rintro e w1 ⟨a8,v,rfl⟩;have ae:=Hd ((N0 w (.cells (scC o) 29)).trans (a8.mono (by simp)));clear a8 HM;go_wp2_with fail;go_ret;exact⟨rfl,HH.out.2.2.1 _ ae.out⟩
  ·have kA:(o.bB==10)=false:=by rw[beq_eq_false_iff_ne];omega
   have k2:(o.bB==2)=false:=by rw[beq_eq_false_iff_ne];omega
   have k3:(o.bB==3)=false:=by rw[beq_eq_false_iff_ne];omega
   have k4:(o.bB==4)=false:=by rw[beq_eq_false_iff_ne];omega
   have k1:(o.bB==1)=false:=by rw[beq_eq_false_iff_ne];omega
   have k5:(o.bB==5)=false:=by rw[beq_eq_false_iff_ne];omega
   have k6:(o.bB==6)=false:=by rw[beq_eq_false_iff_ne];omega
   rcases HH.out.2.2.2 u5 H5.out with rfl|⟨pb,xb,yb,rfl,ab,f⟩
   ·clear hA;go_wp2_with fail;go_ret;exact⟨rfl,HH.out.2.2.1 _ (N0 _ _)⟩
   ·have h:o.bB=7\/o.bB=8\/o.bB=9:=by omega
    have HC:=Hd f;have U:=Hd ab;clear f ab hA;rcases h with h|h|h
    ·have j7:(o.bB==7)=true:=by rw[h];rfl
     clear h;obtain⟨w9,Z⟩:∃w9:World,w.alloc (.cells (scC o) 29)=w9:=⟨_,rfl⟩;have Y:Bw w w9:=by rw[<-Z];exact N0 _ _
     have bx:Blk w9 w.heap.size (scC o) 29:=by rw[<-Z];exact Blk.aR _ _ _
     have K:=Hd2 Y bx;have p0:w9.cell? ⟨pb,0,none⟩=some (.pointer (some ⟨xb,0,none⟩)):=(U.out.aA Y).cell 0;have zp:=(U.out.aA Y).lt;have b3:w9.cell? ⟨w.heap.size,3,none⟩=some (.string o.s):=bx.cell 3;have a7:=Hd Z;clear Z Y bx;go_upto_region 22 with fail;rw[a7.out];clear a7
     go_cut[8,9] (fun lv ev D=>ev=.int .i64 ff/\Bw w9 D/\∀V,Bw D V->Calls Tryz.prog 18 #[.pointer (some ⟨yb,0,none⟩),.string o.s] V fun e' w2=>∃mv,e'=.returned (.tuple #[mv,.int .i64 ff])/\Bw V w2/\
      Calls Tryz.prog 19 #[lv,mv] w2 fun e w3=>e=.returned (.bool true)/\Calls Tryz.prog 20 #[.pointer (some ⟨wb,0,none⟩),lv] w3 fun e w'=>e=.returned (.tuple #[])/\Q w')
     case first=>
      have a2:=Hd (HC.out w9.drew (T1 K.out.1)).2.2
      go_region_with (go_at_call 17;with_reducible refine a2.out.mono ?_;rintro z w7 ⟨lv,rfl,X,J⟩;have H7:=Hd2 X J;clear X J)
      all_goals
       go_wp2_with fail;go_meet;exact⟨rfl,(T1 (Below.refl _ _)).trans H7.out.1,H7.out.2⟩
     case rest=>
      obtain⟨D,rfl⟩:∃D,D=wc:=⟨_,rfl⟩;obtain⟨rfl,a4,a9⟩:=hcut;have a3:Bw w D:=K.out.1.trans (a4.mono K.out.1.size);clear p0 zp b3;have p1:D.cell? ⟨pb,1,none⟩=some (.pointer (some ⟨yb,0,none⟩)):=(U.out.aA a3).cell 1;have zp:=(U.out.aA a3).lt;have b3:D.cell? ⟨w.heap.size,3,none⟩=some (.string o.s):=(K.out.2.aA a4).cell 3;have HX:=Hd a9;clear a4 a9 a3 HC;go_upto_region 23 with fail
      go_cut[10,11] (fun mv ev wy=>ev=.int .i64 ff/\Calls Tryz.prog 19 #[u8,mv] wy fun e w3=>e=.returned (.bool true)/\Calls Tryz.prog 20 #[.pointer (some ⟨wb,0,none⟩),u8] w3 fun e w'=>e=.returned (.tuple #[])/\Q w')
      case first=>
       have a2:=Hd (HX.out D.drew (T1 (Below.refl _ _)))
       go_region_with (go_at_call 18;with_reducible refine a2.out.mono ?_;rintro z w7 ⟨mv,rfl,X,J⟩;have H7:=Hd J;clear X J)
       all_goals
        go_wp2_with fail;go_meet;exact⟨rfl,H7.out⟩
      case rest=>
       obtain⟨rfl,ad⟩:=hcut;have a6:=Hd ad;clear ad p1 zp b3 HX;go_wp2_with fail;refine a6.out.mono ?_;rintro e w3 ⟨rfl,a0⟩;have a5:=Hd a0;clear a0 a6;go_wp2_with fail;refine a5.out.mono ?_;rintro e w4 ⟨rfl,hQ⟩;have HQ:=Hd hQ;clear hQ a5;go_wp2_with fail;refine(Db ff w4).mono ?_;rintro e1 w5 ⟨rfl,rfl⟩;go_wp2_with fail;refine(Db ff w5).mono ?_;rintro e1 w6 ⟨rfl,rfl⟩;go_wp2_with fail;go_ret;exact⟨rfl,HQ.out⟩
    ·have j7:(o.bB==7)=false:=by rw[h];rfl
     have j8:(o.bB==8)=true:=by rw[h];rfl
     have HG:=Hd (HC.out (w.alloc (.cells (scC o) 29)) (N0 _ _)).1;clear h;go_wp2_with fail;refine HG.out.mono ?_;rintro e w3 ⟨rfl,G⟩;have a1:=Hd ((N0 w (.cells (scC o) 29)).trans (G.mono (by simp)));clear G HG;go_wp2_with fail;go_ret;exact⟨rfl,HH.out.2.2.1 _ a1.out⟩
    ·have j7:(o.bB==7)=false:=by rw[h];rfl
     have j8:(o.bB==8)=false:=by rw[h];rfl
     have j9:(o.bB==9)=true:=by rw[h];rfl
     have HG:=Hd (HC.out (w.alloc (.cells (scC o) 29)) (N0 _ _)).2.1;clear h;go_wp2_with fail;refine HG.out.mono ?_;rintro e w3 ⟨rfl,G⟩;have a1:=Hd ((N0 w (.cells (scC o) 29)).trans (G.mono (by simp)));clear G HG;go_wp2_with fail;go_ret;exact⟨rfl,HH.out.2.2.1 _ a1.out⟩
def spE(s:ByteArray):Int:=if s.size<=4096 then 0 else 5
def spL(kd:Nat->Nat)(g:B0)(s:ByteArray):List V4:=if s.size<=4096 then U4 kd g s else []
theorem WQ(kd:Nat->Nat)(g:B0)(s:ByteArray):(spL kd g s).length<=4000000:=by
 unfold spL;split
 ·have:=Eh (kd:=kd) (g:=g) (s:=s);omega
 ·simp
def SpQ(kd:Nat->Nat)(g:B0)(s:ByteArray)(W:World)(e:Ending)(w':World):Prop:=
 ∃v,e=.returned (.tuple #[v,.int .i64 (spE s)])/\P1 w' v (spL kd g s)/\(∀b,v.ownBlock=some b->W.heap.size<=b)/\Bw W w'
theorem SpQ.of{kd:Nat->Nat}{g:B0}{s:ByteArray}{W w':World}{e:Ending}(h:Bw W w'/\((4096<s.size/\e=.returned (.tuple #[.slice none 0 0,.int .i64 5]))\/(s.size<=4096/\∃v,e=.returned (.tuple #[v,.int .i64 0])/\P1 w' v (U4 kd g s)/\∀b,v.ownBlock=some b->W.heap.size<=b))):SpQ kd g s W e w':=by
 obtain⟨D,⟨f,B⟩|⟨f,v,B,G,J⟩⟩:=h
 ·refine⟨.slice none 0 0,?_,?_,fun b e=>(by cases e),D⟩
  ·unfold spE;rw[if_neg (by omega)];exact B
  ·unfold spL;rw[if_neg (by omega)];exact EP _
 ·refine⟨v,?_,?_,J,D⟩
  ·unfold spE;rw[if_pos f];exact B
  ·unfold spL;rw[if_pos f];exact G
theorem XQ:WB 10:=by
 intro N wb n M c pv qv sv vv kv SS VS KS o w h hc ho h1 a4 hM J
 by_cases h6:o.bB<=6
 ·exact DY wb n M c pv qv sv vv kv SS VS KS o w h hc ho h1 h6 hM J
 ·have D:o.s.size<=maxLen:=by unfold ScT.size at J;unfold maxLen;omega
  refine(NZ (fun w'=>KN N w w'/\∃sv' vv' n' V a0 a3 G,WI N w' wb pv qv sv' vv' n' V a0 a3 G (M+o.size) (c+1)) wb pv qv sv vv (.int .i64 n) kv o (spE o.s) w h.aO (by omega) a4 (fun W q=>⟨KN.aA q,_,_,_,_,_,_,_,(h.aA q).mono (by omega) (by omega)⟩) (fun W q=>(St o.s D W).mono fun e w' ⟨a1,v,a2,_⟩=>⟨a1,v,a2⟩) (fun p hp=>?_)).mono fun e w' ⟨a1,a2⟩=>⟨a1,a2⟩
  have a8:Co w p:=by
   rcases hp with rfl|rfl
   ·exact h.p
   ·exact h.q
  rcases a8 with rfl|⟨Z,xb,X,kd,g,Y,rfl,h2,h3⟩
  ·exact .inl rfl
  ·refine .inr ⟨Z,xb,X,rfl,h2,fun W q=>?_⟩;have B:=h3.bG (Kt.aA q);have hP:Vw W Z xb X kd g Y:=⟨h2.aA q,B.eQ,B.fS.ok,B.eV,B.txt⟩;obtain⟨R,hR⟩:=B.R;refine⟨JK Z xb X kd g Y W hP hR B.fS,TU Z xb X kd g Y W hP,?_⟩;refine(PU xb kd g o.s W B.eQ B.fS.ok D).mono fun e w1 he=>?_
   obtain⟨lv,rfl,t1,t2,t3⟩:=SpQ.of he;refine⟨lv,rfl,t3,fun W1 q1=>?_⟩;have f:Bw w W1:=(q.trans (t3.mono q.size)).trans (q1.mono (q.trans (t3.mono q.size)).size);refine(RG X kd g Y o.s W1 (h3.bG (Kt.aA f)).eV D).mono fun e w2 he=>?_
   obtain⟨mv,rfl,u1,u2,u3⟩:=SpQ.of he;have U:P1 w2 lv (spL kd g o.s):=(t1.aA q1).aA u3;refine⟨mv,rfl,u3,(Wz (spL kd g o.s) lv mv w2 U u1 (by have:=WQ kd g o.s;omega)).mono ?_⟩;rintro e w3 ⟨rfl,K⟩;have a6:Bw w w3:=(f.trans (u3.mono f.size)).trans (K.mono (f.trans (u3.mono f.size)).size);refine⟨rfl,(h.ownNew (M':=M+o.size) (by omega) a6 (U.aA K) (fun i hi=>by have:=t2 i hi;have:=q.size;omega) (WQ kd g o.s) hc).mono ?_⟩;rintro e w4 ⟨rfl,a7,V,G,a5⟩;exact⟨rfl,a7,_,_,_,_,_,_,_,a5⟩
theorem CFx(J:List ScT)(v:Value)(M U:ByteArray)(w:World)(h:Lu w v J)(Y:M.size<=maxLen)(Z:U.size<=maxLen):
  Calls Tryz.prog 3 #[.string M,.string U,v] w fun e w'=>e=.returned (.bool true)/\Bw w w':=by
 have V:=Hd (RT (XQ.le (by omega)) w);have X:=Hd (fun(W:World) (k:Bw w W)=>ND 10 XQ J v M U W (h.aA k) Y Z);clear h;go_enter Tryz.func3,Tryz.ntmps3;go_wp2_with fail;refine V.out.mono ?_;rintro e w1 ⟨rfl,f⟩;have B:=Hd f;have D:=Hd (X.out w1 f);clear f V X;go_wp2_with fail;refine D.out.mono ?_;rintro e w2 ⟨rfl,G⟩;have K:=Hd G;clear G D;go_wp2_with fail;go_ret;exact⟨rfl,B.out.trans (K.out.mono B.out.size)⟩
end Go.Proofs.YtcckhngbdoiikabGreat
