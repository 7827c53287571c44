import Derived.Test.YtcckhngbdoiikabGreatA18
import Derived.Test.YtcckhngbdoiikabGreatA13
import Derived.Test.YtcckhngbdoiikabGreatA04
import Derived.Deep.DeepCutAuto
set_option maxRecDepth 20000
set_option maxHeartbeats 12800000
set_option linter.unusedVariables false
namespace Go.Proofs.YtcckhngbdoiikabGreat
open Go.RowKit Go.Deep
theorem DU(B:I0)(f D:List I0)(k:Nat)(h:k<f.length):
  P8 B (f.drop k) D=(C6 D (B.and f[k])::(P8 B (f.drop (k+1)) (if C6 D (B.and f[k])=(D.length:Int)then D++ [B.and f[k]]else D)).1,
   (P8 B (f.drop (k+1)) (if C6 D (B.and f[k])=(D.length:Int)then D++ [B.and f[k]]else D)).2):=by
 rw[yA h];rfl
theorem Yr(h:I0):∀(f B:List I0),(P8 h f B).1.length=f.length/\B.length<=(P8 h f B).2.length/\(P8 h f B).2.length<=B.length+f.length
 | [],B=>by simp[P8]
 |k::ks,B=>by
  have D:=Yr h ks (if C6 B (h.and k)=(B.length:Int)then B++ [h.and k]else B);unfold P8;generalize P8 h ks (if C6 B (h.and k)=(B.length:Int)then B++ [h.and k]else B)=r at D⊢;split at D <;>simp at D⊢ <;>omega
theorem IW(f:List Int)(k K:Nat)(x:Int)(h:f.length=k)(B:k<K):(f++List.replicate (K-k) 0).set k x=(f++ [x])++List.replicate (K- (k+1)) 0:=by
 rw[List.set_append_right _ _ (by omega),h,yS,show K-k=(K- (k+1))+1 by omega,List.replicate_succ,List.set_cons_zero,yF];rfl
theorem Ab4(f:List Int)(k K:Nat)(h:f.length=k)(B:k<K):(T3 (f++List.replicate (K-k) 0))[k]?=some (.int .i64 0):=by
 rw[show K-k=(K- (k+1))+1 by omega];simp[T3,List.replicate_succ,h]
theorem GS{w0 wr W:World}{L B:Nat}{O:Nat->Prop}{pv sv:Value}{ud:Option Addr}{h wb G D n:Nat}{K:List Int}{uy:Int}{aN:List (List Int)}{a4:List Int}{ss:List I0}
  (h1:Below L w0 wr) (a5:L<=B) (h2:Blk wr B #[.slice ud K.length h,pv] 71) (h3:Y4 wr O pv aN) (h4:Q2 wr (.slice (some ⟨wb,0,none⟩) n n) a4)
  (h5:∀k,O k->B<k) (Y:∀b,(Value.slice ud K.length h).ownBlock=some b->B<b/\b<wb/\¬O b) (hs:W4 wr sv ss) (a0:∀b,sv.ownBlock=some b->B<b/\(Value.slice ud K.length h).ownBlock≠some b)
  (zw:B<wr.heap.size) (zz:wb<wr.heap.size) (ae:B<wb)
  (a3:W.ownsRow 0 3 1 (.slice (some ⟨G,0,none⟩) (K.length+1) D) (K.length+1) (K.map (Value.int .i64)++ [.int .i64 uy]))
  (f:(wr.alloc (.cells #[.int .i64 uy] 3)).grownBy W (Value.slice ud K.length h).ownBlock)
  (V:(Value.slice ud K.length h).ownBlock=some G\/G=wr.heap.size+1) (ad:G<W.heap.size):
  ∀X,X=W.setCell ⟨B,0,none⟩ (.slice (some ⟨G,0,none⟩) (K.length+1) D)->Below L w0 X/\Blk X B #[.slice (some ⟨G,0,none⟩) (K.length+1) D,pv] 71/\Y4 X O pv aN/\Q2 X (.slice (some ⟨wb,0,none⟩) n n) a4/\
   Q2 X (.slice (some ⟨G,0,none⟩) (K.length+1) D) (K++ [uy])/\W4 X sv ss/\B<G/\G≠wb/\¬O G/\wb<X.heap.size/\∀b,sv.ownBlock=some b->G≠b:=by
 rintro X rfl;have M:C0 (fun k=>(Value.slice ud K.length h).ownBlock=some k) (wr.alloc (.cells #[.int .i64 uy] 3)) W:=⟨f.os,f.tape,f.output,f.size,fun k M he=>f.block k M (fun e=>he e.symm)⟩;have a2:C0 (fun _=>False) wr (wr.alloc (.cells #[.int .i64 uy] 3)):=(C0.refl (fun _=>False) wr).alloc _;have Z:C0 (fun k=>k=B) W (W.setCell ⟨B,0,none⟩ (.slice (some ⟨G,0,none⟩) (K.length+1) D)):=C0.setCell (ex:=fun k=>k=B) (p:=⟨B,0,none⟩) (C0.refl _ _) (fun _=>rfl) _;have aa:¬O B:=fun e=>by have:=h5 _ e;omega
 have a8:¬O G:=by
  intro e;rcases V with U|U
  ·exact(Y _ U).2.2 e
  ·have:=h3.olt _ e;omega
 have a9:B<G:=by
  rcases V with U|U
  ·exact(Y _ U).1
  ·omega
 have a1:G≠wb:=by
  rcases V with U|U
  ·have:=(Y _ U).2.1;omega
  ·omega
 have ab:=M.size;simp at ab;refine⟨?_,?_,?_,?_,?_,?_,a9,a1,a8,by simp;omega,?_⟩
 ·have a6:Below L w0 (wr.alloc (.cells #[.int .i64 uy] 3)):=h1.alloc (by omega) _;have a7:Below L w0 W:=a6.trans ⟨M.os,M.tape,M.output,M.size,fun k ac=>M.block k (by simp;omega) (fun e=>by have:=(Y _ e).1;omega)⟩;exact a7.setCell (p:=⟨B,0,none⟩) a5 _
 ·exact((h2.alloc _).kept M (fun e=>by have:=(Y _ e).1;omega)).set 0 _
 ·exact((h3.alloc _).kept M (fun b J e=>(Y _ e).2.2 J)).setCell aa _
 ·exact((h4.kept a2 (fun _ _ e=>e)).kept M (fun b J e=>by cases(zE J:wb=b);have:=(Y _ e).2.1;omega)).kept Z (fun b J e=>by cases(zE J:wb=b);omega)
 ·exact(Nt (w:=W) (v:=.slice none 0 0) a3).kept Z (fun b J e=>by cases(zE J:G=b);omega)
 ·exact((hs.kept a2 (fun _ _ e=>e)).kept M (fun b J e=>(a0 b J).2 e)).kept Z (fun b J e=>by have:=(a0 b J).1;omega)
 ·intro b J e;subst e;rcases V with U|U
  ·exact(a0 _ J).2 U
  ·have:=Q1 hs _ J;omega
theorem PI(R:E0)(gb:Nat)(O0:Nat->Prop)(fv lv kv:Value)(f:List I0)(w:World)(h:C1 w gb O0 R fv lv)(hk:W4 w kv f)(fc:f.length<=256)(hf:R.aC.length<=1000)(hl:R.last.length<=1000):
    Calls Tryz.prog 56 #[.pointer (some ⟨gb,0,none⟩),kv] w fun e w'=>Bw w w'/\
      (J6 R f=none/\e=.returned (.tuple #[.agg #[.slice none 0 0,.slice none 0 0],.int .i64 3])\/
       ∃g dw dp,J6 R f=some g/\e=.returned (.tuple #[.agg #[dw,dp],.int .i64 0])/\Y6 w' dw dp g):=by
  obtain⟨kd,f2,rfl,cj⟩:=hk.aV;have ct:=fun(W:World) (J:Bw w W) (s:I0)=>JR R gb O0 fv lv s W (h.aA J) hf
  have cy:=fun(W:World) (J:Bw w W) (s:I0)=>VX R gb O0 fv lv s W (h.aA J) hl
  have dx:=Hd ct;have e8:=Hd cy;have f9:=h.aO.lt;have HR:=Hd h;have HK:=Hd hk;generalize hX:J6 R f=X;unfold J6 at hX;have HX:=Hd hX;clear h hk ct cy hX;go_enter Tryz.func56,Tryz.ntmps56;go_wp2_with fail
  go_loopg[7,8] 63 (fun G sv iv wr=>∃(i:Nat) (aI:List I0) (g:B0) (O:Nat->Prop) (uv pv:Value),iv=.int .i64 (i:Int)/\G+i=63/\i<=aI.length/\aI.length<=61/\0<aI.length/\F4 R f G i aI g=X/\g.aB.length=i/\g.next.length=i/\
    Bw w wr/\Blk wr w.heap.size #[.slice none 0 0,.slice none 0 0] 71/\Blk wr (w.heap.size+1) #[uv,pv] 71/\Y4 wr O pv g.next/\Q2 wr uv g.aB/\W4 wr sv aI/\
    (∀k,O k->w.heap.size+1<k)/\(∀b,uv.ownBlock=some b->w.heap.size+1<b/\¬O b)/\(∀b,sv.ownBlock=some b->w.heap.size+1<b/\¬O b/\uv.ownBlock≠some b))
  case atStart=>
    refine⟨0, [I0.none],B0.aR,fun _=>False,.slice none 0 0,.slice none 0 0,rfl,rfl,by simp,by simp,by simp,HX.out,rfl,rfl,Pw _ _ _ _,?_,?_,Y4.nil _,World.ownsRow_nil _ _ _ _,?_,fun k h=>h.elim,fun b h=>by simp[Value.ownBlock]at h,?_⟩
    · exact((Blk.aR w _ _).alloc _).alloc _
    · exact(Blk.dX w _ _ _).alloc _
    · refine J5 (cur:=#[.int .u64 0,.int .u64 0]) (by rfl) ?_ (zD _) (by unfold maxLen;omega) rfl (by rfl)
      have:=Blk.aR ((w.alloc (.cells #[.slice none 0 0,.slice none 0 0] 71)).alloc (.cells #[.slice none 0 0,.slice none 0 0] 71)) #[.int .u64 0,.int .u64 0] 122;simpa using this
    · intro b e
      cases(zE e:w.heap.size+1+1=b);exact⟨by omega,fun e=>e,by simp[Value.ownBlock]⟩
  case round=>
    obtain⟨i,aI,g,O,uv,pv,rfl,hG,hi,ev,fe,hX,ci,ch,J,hZ,hP,b0,hU,hS,hO,bh,a2⟩:=hrel;clear HX;obtain⟨sd,c7,rfl,a9⟩:=hS.aV
    by_cases b6:i<aI.length
    · have e0:decide ((i:Int)<(aI.length:Int))=true:=by simp;omega
      rcases a9 with h0|⟨sg,rfl⟩
      · omega
      have ah:=HR.out.aA J;have f0:wr.cell? ⟨gb,512,none⟩=some (.int .u64 (R.first.lo.toNat:Int)):=by rw[ah.aO.cell];exact Tp _ _ _ _
      have f1:wr.cell? ⟨gb,513,none⟩=some (.int .u64 (R.first.hi.toNat:Int)):=by rw[ah.aO.cell];exact Up _ _ _ _
      have s0:=hS.fZ i b6;have s1:=hS.gA i b6;have b3:aI.getD i I0.none=aI[i]:=by simp[b6]
      have fn:sg<wr.heap.size:=Q1 hS sg rfl;have fj:gb<wr.heap.size:=ah.aO.lt;have zP:=hP.lt;have fp:w.heap.size+1<sg:=(a2 sg rfl).1;have i0:(0:Int)<=(i:Int):=by omega
      have i1:(i:Int)<(aI.length:Int):=by omega
      have HH:Hid (Bw w wr/\Blk wr w.heap.size #[.slice none 0 0,.slice none 0 0] 71/\Blk wr (w.heap.size+1) #[uv,pv] 71/\Y4 wr O pv g.next/\Q2 wr uv g.aB/\W4 wr (.slice (some ⟨sg,0,none⟩) aI.length c7) aI/\
        (∀k,O k->w.heap.size+1<k)/\(∀b,uv.ownBlock=some b->w.heap.size+1<b/\¬O b)/\(∀b,(Value.slice (some ⟨sg,0,none⟩) aI.length c7).ownBlock=some b->w.heap.size+1<b/\¬O b/\uv.ownBlock≠some b)):=⟨J,hZ,hP,b0,hU,hS,hO,bh,a2⟩
      have cq:=Hd hX;have e5:=Hd b3;have bc:Hid (g.aB.length=i/\g.next.length=i):=⟨ci,ch⟩;have f6:2<=gk:=by omega
      have HG:=Hd hG;clear b3 ci ch hG;clear J hZ hP b0 hU hS hO bh a2 ah hX;obtain⟨wo,rfl⟩:∃wo:World,wo=wr:=⟨_,rfl⟩;generalize br:(if 0<i then R.after (aI.getD i I0.none)else R.first)=aft;have au:=Hd br;clear br;go_upto_if 29 with fail
      go_cut[] (fun wx=>Bw wo wx/\Blk wx wo.heap.size (K5 aft) 122)
      case first=>
        by_cases dc:0<i
        · have e1:decide ((0:Int)<(i:Int))=true:=by simp;omega
          have d8:Bw w (wo.alloc (.cells (K5 R.first) 122)):=HH.out.1.alloc (by omega) _;have dz:=Hd d8;clear d8;go_wp2_with fail;refine(dx.out _ dz.out _).mono ?_;rintro e w1 ⟨rfl,cc⟩;have am:=(Blk.aR wo (K5 R.first) 122).aA cc;have a0:w1.cell? ⟨wo.heap.size,0,none⟩=some (.int .u64 (R.first.lo.toNat:Int)):=am.cell 0;have a1:w1.cell? ⟨wo.heap.size,1,none⟩=some (.int .u64 (R.first.hi.toNat:Int)):=am.cell 1;have f4:=am.frozen 0;have f5:=am.frozen 1;have bi:R.after aI[i]=aft:=by have:=au.out;rw[if_pos dc,e5.out]at this;exact this
          rw[bi];have e6:Hid (Bw wo w1/\Blk w1 wo.heap.size (K5 R.first) 122):=⟨(N0 wo _).trans (cc.mono (by simp)),am⟩;clear cc am bi;go_wp2_with fail;go_meet;obtain⟨q1,q2⟩:=e6.out;exact⟨(q1.setCell (zD _) _).setCell (zD _) _,(q2.set 0 _).set 1 _⟩
        · have e1:decide ((0:Int)<(i:Int))=false:=by simp;omega
          have bi:R.first=aft:=by have:=au.out;rw[if_neg dc]at this;exact this
          go_wp2_with fail;go_meet;exact⟨N0 _ _,bi ▸ Blk.aR _ _ _⟩
      case rest=>
      obtain⟨cf,cb⟩:=hcut;have fd:=Je f.length (by omega);have zA:=cb.lt;have d9:Bw w wc:=HH.out.1.trans (cf.mono (by omega));have ck:=Yr aft f aI;generalize hr:P8 aft f aI=r at ck;have av:Hid (Bw wo wc/\Blk wc wo.heap.size (K5 aft) 122/\Bw w wc):=⟨cf,cb,d9⟩;have cp:=Hd hr;clear cf cb d9 hr;clear s0 s1 f0 f1;go_wp2_with fail
      go_loopg[7,41] f.length (fun G sv iv wr=>∃(k:Nat) (dn:List Int) (B:List I0),k<=f.length/\G=f.length-k/\iv=.int .i64 (k:Int)/\dn.length=k/\B.length<=aI.length+k/\
        r=(dn++(P8 aft (f.drop k) B).1,(P8 aft (f.drop k) B).2)/\Bw w wr/\C0 (fun b=>b=sg\/wc.heap.size<=b) wc wr/\Blk wr wc.heap.size (T3 (dn++List.replicate (f.length-k) 0)) 3/\W4 wr sv B/\∀b,sv.ownBlock=some b->b=sg\/wc.heap.size<b)
      case atStart=>
        obtain⟨q1,q2,q3⟩:=av.out;refine⟨0, [],aI,by omega,rfl,rfl,rfl,by omega,?_,q3.alloc (by omega) _,(C0.refl _ _).alloc _,?_,?_,?_⟩
        · simpa using cp.out.symm
        · exact Blk.aR _ _ _
        · exact(HH.out.2.2.2.2.2.1.aA q1).aA (N0 _ _)
        · intro b e;exact .inl (zE e).symm
      case round=>
        obtain⟨k,dn,B,fa,rfl,rfl,ao,ez,a6,J,a5,hI,hS,a2⟩:=hrel;obtain⟨sd,K,rfl,a9⟩:=hS.aV
        by_cases aq:k<f.length
        · have e1:decide ((k:Int)<(f.length:Int))=true:=by simp;omega
          rcases cj with h0|⟨kg,rfl⟩
          · omega
          have c0:=(HK.out.aA J).fZ k aq;have c1:=(HK.out.aA J).gA k aq;have fk:kg<wr.heap.size:=Q1 (HK.out.aA J) kg rfl;have bd:=av.out.2.1.kept a5 (fun e=>by rcases e with e|e <;>omega);have a0:wr.cell? ⟨wo.heap.size,0,none⟩=some (.int .u64 (aft.lo.toNat:Int)):=bd.cell 0;have a1:wr.cell? ⟨wo.heap.size,1,none⟩=some (.int .u64 (aft.hi.toNat:Int)):=bd.cell 1;have fh:=bd.lt;have zI:=hI.lt;have i2:(0:Int)<=(k:Int):=by omega
          have i3:(k:Int)<(f.length:Int):=by omega
          rw[DU aft f B k aq]at a6;generalize eg:f[k]=kk at c0 c1 a6;have co:=Hd a6;have aa:Hid (Bw w wr/\C0 (fun b=>b=sg\/wc.heap.size<=b) wc wr/\Blk wr wc.heap.size (T3 (dn++List.replicate (f.length-k) 0)) 3/\W4 wr (.slice sd B.length K) B/\∀b,(Value.slice sd B.length K).ownBlock=some b->b=sg\/wc.heap.size<b):=⟨J,a5,hI,hS,a2⟩;clear J a5 hI hS a2 a6 bd eg;go_wp2_with fail;refine(UY aft kk _).mono ?_;rintro e w4 ⟨rfl,d5⟩;generalize bx:aft.and kk=st;have bp:=Hd bx;clear bx;have b2:Bw wr w4:=(N0 wr _).trans (d5.mono (by simp));have dy:=Hd b2;have z4:=b2.size;clear d5 b2;go_wp2_with fail;have ce:Bw wr (w4.alloc (.cells (K5 st) 122)):=dy.out.alloc z4 _;refine(MW _ B st _ (aa.out.2.2.2.1.aA ce) (by omega)).mono ?_;rintro e w5 ⟨rfl,cd⟩;generalize cg:C6 B st=fr;have ac:Bw wr w5:=ce.trans (cd.mono (by simp;omega));have bf:=(Blk.aR w4 (K5 st) 122).aA cd;have t0:w5.cell? ⟨w4.heap.size,0,none⟩=some (.int .u64 (st.lo.toNat:Int)):=bf.cell 0;have t1:w5.cell? ⟨w4.heap.size,1,none⟩=some (.int .u64 (st.hi.toNat:Int)):=bf.cell 1;have zT:=bf.lt;have az:=aa.out.2.2.1.aA ac;have c5:w5.cell? ⟨wc.heap.size,k,none⟩=some (.int .i64 0):=by rw[az.cell,Ab4 dn k f.length ao aq]
          have e9:=az.frozen k;have fi:=az.lt;have eu:w4.heap.size≠wc.heap.size:=by omega
          have a6:r=((dn++ [fr])++(P8 aft (f.drop (k+1)) (if fr=(B.length:Int)then B++ [st]else B)).1,(P8 aft (f.drop (k+1)) (if fr=(B.length:Int)then B++ [st]else B)).2):=by
            have:=co.out;rw[bp.out,cg]at this;rw[this,yF];rfl
          have bn:=Hd a6;have f3:=Hd cg;have d6:Bw w w5:=aa.out.1.trans (ac.mono (by have:=aa.out.1.size;omega));have dd:C0 (fun b=>b=sg\/wc.heap.size<=b) wc w5:=aa.out.2.1.aA ac;have d0:=aa.out.2.2.2.1.aA ac;have aw:Hid (Bw w w5/\C0 (fun b=>b=sg\/wc.heap.size<=b) wc w5/\Blk w5 wc.heap.size (T3 (dn++List.replicate (f.length-k) 0)) 3/\W4 w5 (.slice sd B.length K) B/\∀b,(Value.slice sd B.length K).ownBlock=some b->b=sg\/wc.heap.size<b):=⟨d6,dd,az,d0,aa.out.2.2.2.2⟩;clear cd ac ce bf az a6 cg d6 dd d0 aa co bp a0 a1 c0 c1
          by_cases ap:fr=(B.length:Int)
          · have e3:(fr==(B.length:Int))=true:=by simp[ap]
            obtain⟨ii,bj,bk,bl,bm⟩:=info_parts Tryz.eP;have b7:W4 ((w5.setCell ⟨wc.heap.size,k,none⟩ (.int .i64 fr)).alloc (.cells (K5 st) 122)) (.slice sd B.length K) B:=
              aw.out.2.2.2.1.kept ((C0.setCell (ex:=fun b=>b=wc.heap.size) (p:=⟨wc.heap.size,k,none⟩) (C0.refl _ _) (fun _=>rfl) _).alloc _) (fun b J e=>by rcases aw.out.2.2.2.2 b J with e'|e' <;>omega)
            have ax:=Hd b7;have e4:=Hd ap;clear b7 ap;go_wp2_with(at_builtin;(refine wpList_append_lies _ (by rfl) _ _ _ (by rfl) 0 122 ii _ 2 16 Tryz.underlying124 bj bk bl bm rfl (by omega) (.slice sd B.length K) B.length (W8 B) (by rfl) ax.out ⟨w5.heap.size,0,none⟩ 1 1 [.int .u64 (st.lo.toNat:Int),.int .u64 (st.hi.toNat:Int)] (by rfl) (by rfl) (World.news_of_block (cs:=K5 st) (t:=122) (fr:=(0,0)) (by have:=heap_alloc_new (w5.setCell ⟨wc.heap.size,k,none⟩ (.int .i64 fr)) (.cells (K5 st) 122);simpa using this)) (by simp[Value.oneCell']) (by omega) (by unfold maxLen;omega) (by omega) (by simp) (w5.heap.size+1) (by simp) ?_));intro gg cr w6 b8 Z bs et;obtain⟨q1,q2,q3,q4,q5⟩:=aw.out;have ae:C0 (fun b=>(Value.slice sd B.length K).ownBlock=some b) ((w5.setCell ⟨wc.heap.size,k,none⟩ (.int .i64 fr)).alloc (.cells (K5 st) 122)) w6:=⟨Z.os,Z.tape,Z.output,Z.size,fun k hk he=>Z.block k hk (fun e=>he e.symm)⟩;have cl:Bw w ((w5.setCell ⟨wc.heap.size,k,none⟩ (.int .i64 fr)).alloc (.cells (K5 st) 122)):=(q1.setCell (p:=⟨wc.heap.size,k,none⟩) (show w.heap.size<=wc.heap.size by omega) _).alloc (by simp;omega) _;have fm:=cl.size;have dq:Bw w w6:=cl.trans ⟨ae.os,ae.tape,ae.output,ae.size,fun b J=>ae.block b (by omega) (fun e=>by rcases q5 b e with e'|e' <;>omega)⟩;have dt:C0 (fun b=>b=sg\/wc.heap.size<=b) wc ((w5.setCell ⟨wc.heap.size,k,none⟩ (.int .i64 fr)).alloc (.cells (K5 st) 122)):=(q2.setCell (fun _=>.inr (zD _)) _).alloc _;have ds:C0 (fun b=>b=sg\/wc.heap.size<=b) wc w6:=dt.trans ae (fun b J e=>by rcases q5 b e with e'|e';exact .inl e';omega);have du:=((q3.set k (.int .i64 fr)).alloc (.cells (K5 st) 122)).kept ae (fun e=>by rcases q5 _ e with e'|e' <;>omega);have dv:=Qv b8;have ee:gg=sg\/wc.heap.size<gg:=by
              rcases bs with e|e
              · exact q5 _ e
              · omega
            have c9:Hid (Bw w w6/\C0 (fun b=>b=sg\/wc.heap.size<=b) wc w6/\Blk w6 wc.heap.size ((T3 (dn++List.replicate (f.length-k) 0)).setIfInBounds k (.int .i64 fr)) 3/\W4 w6 (.slice (some ⟨gg,0,none⟩) (B.length+1) cr) (B++ [st])):=⟨dq,ds,du,dv⟩;clear q1 q2 q3 q4 q5 dq ds du dv cl dt ae b8 Z bs aw ax c5 e9 t0 t1;go_wp2_with fail
            go_roundg (f.length- (k+1))
            case measure=>omega
            case rel=>
              obtain⟨q1,q2,q3,q4⟩:=c9.out;have bb:=bn.out;rw[if_pos e4.out]at bb;refine⟨k+1,dn++ [fr],B++ [st],by omega,rfl,by go_num,by simp[ao],by simp;omega,bb,q1,q2,?_,by simpa using q4,?_⟩
              · rw[<-IW dn k f.length fr ao aq,<-Z3]
                exact q3
              · intro b e
                cases(zE e:gg=b);exact ee
          · have e3:(fr==(B.length:Int))=false:=by simp[ap]
            have e7:=Hd ap;clear ap;go_wp2_with fail
            go_roundg (f.length- (k+1))
            case measure=>omega
            case rel=>
              obtain⟨q1,q2,q3,q4,q5⟩:=aw.out;have bb:=bn.out;rw[if_neg e7.out]at bb;refine⟨k+1,dn++ [fr],B,by omega,rfl,by go_num,by simp[ao],by omega,bb,q1.setCell (p:=⟨wc.heap.size,k,none⟩) (show w.heap.size<=wc.heap.size by omega) _,q2.setCell (fun _=>.inr (zD _)) _,?_,?_,q5⟩
              · rw[<-IW dn k f.length fr ao aq,<-Z3]
                exact q3.set k _
              · exact q4.kept (C0.setCell (ex:=fun b=>b=wc.heap.size) (p:=⟨wc.heap.size,k,none⟩) (C0.refl _ _) (fun _=>rfl) _) (fun b J e=>by rcases q5 b J with e'|e' <;>omega)
        · have e1:decide ((k:Int)<(f.length:Int))=false:=by simp;omega
          obtain rfl:k=f.length:=by omega
          rw[List.drop_length]at a6;simp only[P8,yP]at a6;subst a6;rw[yS,List.replicate_zero,yP]at hI;have aj:=ck.2.1;have ff:0<B.length:=by simp at aj;omega
          have a3:=cq.out;rw[show gk=(gk-1)+1 by omega]at a3;unfold F4 at a3;rw[if_pos b6]at a3;simp only[au.out,cp.out]at a3
          by_cases bu:61<B.length
          · rw[if_pos bu]at a3
            have e2:decide ((60:Int)<(B.length:Int)-1)=true:=by simp;omega
            have a8:=(HH.out.2.1.aA av.out.1).kept a5 (fun e=>by rcases e with e|e;have:=(HH.out.2.2.2.2.2.2.2.2 sg rfl).1;omega;omega);have ak:Hid (Bw w wr/\Blk wr w.heap.size #[.slice none 0 0,.slice none 0 0] 71):=⟨J,a8⟩;have z0:wr.cell? ⟨w.heap.size,0,none⟩=some (.slice none 0 0):=a8.cell 0;have z1:wr.cell? ⟨w.heap.size,1,none⟩=some (.slice none 0 0):=a8.cell 1;have en:=a8.frozen 0;have eo:=a8.frozen 1;subst a3;clear J a5 hI hS a2 a8 aj;go_wp2_with fail;obtain⟨q1,q2⟩:=ak.out;exact bodyPost_ret (G3 Tryz.results56 _ _ w.heap.size 71 _ (0,0) _ rfl ((q2.set 0 _).set 1 _) Tryz.underlying71 rfl Tryz.hY) rfl ⟨(q1.setCell (zD _) _).setCell (zD _) _,rfl⟩
          · rw[if_neg bu]at a3
            have e2:decide ((60:Int)<(B.length:Int)-1)=false:=by simp;omega
            rcases a9 with h0|⟨sh,rfl⟩
            · omega
            have b4:i<B.length:=by simp at aj;omega
            have s0:=hS.fZ i b4;have s1:=hS.gA i b4;have b3:B.getD i I0.none=B[i]:=by simp[b4]
            rw[b3]at a3;generalize B[i]=si at s0 s1 a3;have fo:sh<wr.heap.size:=Q1 hS sh rfl;have i4:(i:Int)<(B.length:Int):=by omega
            obtain⟨p1,p2,p3,p4,p5,p6,p7,p8,p9⟩:=HH.out;have ar:=av.out.1;have fl:=ar.size;have a8:=(p2.aA ar).kept a5 (fun e=>by rcases e with e|e <;>omega);have cu:=(p3.aA ar).kept a5 (fun e=>by rcases e with e|e <;>omega);have cw:=(p4.aA ar).kept a5 (fun b J e=>by rcases e with e|e;subst e;exact(p9 _ rfl).2.1 J;have:=p4.olt b J;omega);have d1:=(p5.aA ar).kept a5 (fun b J e=>by rcases e with e|e;subst e;exact(p9 _ rfl).2.2 J;have:=Q1 p5 b J;omega);have af:=Q2.cC hI (by omega);rw[ao]at af;have c2:¬O sh:=by
              intro e;rcases a2 sh rfl with e'|e'
              · subst e';exact(p9 _ rfl).2.1 e
              · have:=p4.olt _ e;omega
            have c3:uv.ownBlock≠some sh:=by
              intro e;rcases a2 sh rfl with e'|e'
              · subst e';exact(p9 _ rfl).2.2 e
              · have:=Q1 p5 _ e;omega
            have bz:w.heap.size+1<sh:=by rcases a2 sh rfl with e'|e' <;>omega
            have dj:sh≠wc.heap.size:=by rcases a2 sh rfl with e'|e' <;>omega
            have dk:∀b,uv.ownBlock=some b->w.heap.size+1<b/\b<wc.heap.size/\¬O b:=fun b e=>⟨(p8 b e).1,by have:=Q1 p5 b e;omega,(p8 b e).2⟩
            have bw:∀k,O k->w.heap.size+1<k/\k<wc.heap.size:=fun k e=>⟨p7 k e,by have:=p4.olt k e;omega⟩
            have cm:=Hd a3;have ak:Hid (Bw w wr/\Blk wr w.heap.size #[.slice none 0 0,.slice none 0 0] 71/\Blk wr (w.heap.size+1) #[uv,pv] 71/\Y4 wr O pv g.next/\Q2 wr uv g.aB/\Q2 wr (.slice (some ⟨wc.heap.size,0,none⟩) f.length f.length) dn/\W4 wr (.slice (some ⟨sh,0,none⟩) B.length K) B/\
              (∀b,uv.ownBlock=some b->w.heap.size+1<b/\b<wc.heap.size/\¬O b)/\(∀k,O k->w.heap.size+1<k/\k<wc.heap.size)/\¬O sh/\uv.ownBlock≠some sh):=⟨J,a8,cu,cw,d1,af,hS,dk,bw,c2,c3⟩
            have bo:=Hd (e8.out wr J si);clear J a5 hI hS a2 a8 cu cw d1 af dk bw c2 c3 p1 p2 p3 p4 p5 p6 p7 p8 p9 ar a3 aj b3 HH av cq;go_wp2_with fail;refine bo.out.mono ?_;rintro e w6 ⟨rfl,ad⟩;generalize R.aB si=ru at cm⊢;obtain⟨q1,q2,q3,q4,q5,q6,q7,q8,q9,ag,dr⟩:=ak.out;have m1:Bw w w6:=q1.trans (ad.mono q1.size);have m2:=q2.aA ad;have m3:=q3.aA ad;have m4:=q4.aA ad;have m5:=q5.aA ad;have m6:=q6.aA ad;have m7:=q7.aA ad;obtain⟨ud,D,rfl,_⟩:=m5.aV;have g0:w6.cell? ⟨w.heap.size+1,0,none⟩=some (.slice ud g.aB.length D):=m3.cell 0;have ea:=m3.frozen 0;have z6:=m3.lt;have em:wc.heap.size<w6.heap.size:=Q1 m6 _ rfl;have ef:=bc.out.1;have es:g.aB.length<=1000:=by omega
            obtain⟨ii,bj,bk,bl,bm⟩:=info_parts Tryz.cG;have b7:=m5.aA (N0 w6 (.cells #[.int .i64 ru] 3));have ax:=Hd b7;have V:Hid (Bw w w6/\Blk w6 w.heap.size #[.slice none 0 0,.slice none 0 0] 71/\Blk w6 (w.heap.size+1) #[.slice ud g.aB.length D,pv] 71/\Y4 w6 O pv g.next/\Q2 w6 (.slice (some ⟨wc.heap.size,0,none⟩) f.length f.length) dn/\W4 w6 (.slice (some ⟨sh,0,none⟩) B.length K) B/\
              (∀b,(Value.slice ud g.aB.length D).ownBlock=some b->w.heap.size+1<b/\b<wc.heap.size/\¬O b)/\(∀k,O k->w.heap.size+1<k/\k<wc.heap.size)/\¬O sh/\(Value.slice ud g.aB.length D).ownBlock≠some sh):=⟨m1,m2,m3,m4,m6,m7,q8,q9,ag,dr⟩
            clear m1 m2 m3 m4 m5 m6 m7 ad q1 q2 q3 q4 q5 q6 q7 q8 q9 ag dr ak bo b7 ef s0 s1;go_wp2_with(at_builtin;(refine wpList_append_lies _ (by rfl) _ _ _ (by rfl) 0 3 ii _ 1 8 Tryz.underlying68 bj bk bl bm rfl (by omega) (.slice ud g.aB.length D) g.aB.length (g.aB.map (Value.int .i64)) (by rfl) ax.out ⟨w6.heap.size,0,none⟩ 1 1 [.int .i64 ru] (by rfl) (by rfl) (World.news_of_block (cs:=#[.int .i64 ru]) (t:=3) (fr:=(0,0)) (heap_alloc_new w6 _)) (by simp[Value.oneCell']) (by omega) (by unfold maxLen;omega) (by omega) (by simp) (w6.heap.size+1) (by simp) ?_));intro gf U w7 b9 M bt bv;have dh:=GS V.out.1 (by omega) V.out.2.2.1 V.out.2.2.2.1 V.out.2.2.2.2.1 (fun k e=>(V.out.2.2.2.2.2.2.2.1 k e).1) V.out.2.2.2.2.2.2.1 V.out.2.2.2.2.2.1 (fun b e=>by cases(zE e:sh=b);exact⟨bz,V.out.2.2.2.2.2.2.2.2.2⟩) z6 em (by omega) b9 M bt bv _ rfl;have c4:(Value.slice ud g.aB.length D).ownBlock≠some (w.heap.size+1):=fun e=>by have:=(V.out.2.2.2.2.2.2.1 _ e).1;omega
            have c6:(Value.slice ud g.aB.length D).ownBlock≠some w.heap.size:=fun e=>by have:=(V.out.2.2.2.2.2.2.1 _ e).1;omega
            have b5:C0 (fun k=>(Value.slice ud g.aB.length D).ownBlock=some k) (w6.alloc (.cells #[.int .i64 ru] 3)) w7:=⟨M.os,M.tape,M.output,M.size,fun k hk he=>M.block k hk (fun e=>he e.symm)⟩;have d3:=((V.out.2.1.alloc (.cells #[.int .i64 ru] 3)).kept b5 c6).aG (p:=⟨w.heap.size+1,0,none⟩) (by simp) (.slice (some ⟨gf,0,none⟩) (g.aB.length+1) U);have a7:=(V.out.2.2.1.alloc (.cells #[.int .i64 ru] 3)).kept b5 c4;obtain⟨m1,m2,m3,m4,m5,dl,m6,m7,m8,m9,dm⟩:=dh;obtain⟨us,an,b1,bg⟩:=m3.ex;obtain⟨pd,Y,rfl,_⟩:=an.aV;have g7:w7.cell? ⟨w.heap.size+1,0,none⟩=some (.slice ud g.aB.length D):=a7.cell 0;have g8:w7.cell? ⟨w.heap.size+1,1,none⟩=some (.slice pd us.length Y):=a7.cell 1;have eb:=a7.frozen 0;have ec:=a7.frozen 1;have z7:w.heap.size+1<w7.heap.size:=a7.lt;have fg:us.length<=1000:=by rw[b1,bc.out.2];omega
            obtain⟨ij,hj,ej,ek,el⟩:=info_parts Tryz.dP;have di:=an.aA (N0 _ (.cells #[.slice (some ⟨wc.heap.size,0,none⟩) f.length f.length] 68));have cv:=m3.alloc (.cells #[.slice (some ⟨wc.heap.size,0,none⟩) f.length f.length] 68);have eh:¬O wc.heap.size:=fun e=>by have:=(V.out.2.2.2.2.2.2.2.1 _ e).2;omega
            have dg:¬O (w.heap.size+1):=fun e=>by have:=(V.out.2.2.2.2.2.2.2.1 _ e).1;omega
            have ei:¬O w.heap.size:=fun e=>by have:=(V.out.2.2.2.2.2.2.2.1 _ e).1;omega
            have ca:=Hd di;have HU:=Hd2 b1 bg;have ay:=Hd cv;have cn:Hid (Bw w (w7.setCell ⟨w.heap.size+1,0,none⟩ (.slice (some ⟨gf,0,none⟩) (g.aB.length+1) U))/\Blk (w7.setCell ⟨w.heap.size+1,0,none⟩ (.slice (some ⟨gf,0,none⟩) (g.aB.length+1) U)) (w.heap.size+1) #[.slice (some ⟨gf,0,none⟩) (g.aB.length+1) U,.slice pd us.length Y] 71/\
              Q2 (w7.setCell ⟨w.heap.size+1,0,none⟩ (.slice (some ⟨gf,0,none⟩) (g.aB.length+1) U)) (.slice (some ⟨wc.heap.size,0,none⟩) f.length f.length) dn/\Q2 (w7.setCell ⟨w.heap.size+1,0,none⟩ (.slice (some ⟨gf,0,none⟩) (g.aB.length+1) U)) (.slice (some ⟨gf,0,none⟩) (g.aB.length+1) U) (g.aB++ [ru])/\
              W4 (w7.setCell ⟨w.heap.size+1,0,none⟩ (.slice (some ⟨gf,0,none⟩) (g.aB.length+1) U)) (.slice (some ⟨sh,0,none⟩) B.length K) B/\Blk (w7.setCell ⟨w.heap.size+1,0,none⟩ (.slice (some ⟨gf,0,none⟩) (g.aB.length+1) U)) w.heap.size #[.slice none 0 0,.slice none 0 0] 71/\
              (∀k,O k->w.heap.size+1<k/\k<wc.heap.size)/\¬O sh/\¬O gf/\gf≠sh):=⟨m1,m2,m4,m5,dl,d3,V.out.2.2.2.2.2.2.2.1,V.out.2.2.2.2.2.2.2.2.1,m8,dm sh rfl⟩
            clear m1 m2 m3 m4 m5 m8 dl dm d3 a7 an b1 bg di cv V ax b9 M bt bv b5 c4 c6 g0 ea bj bk bl bm;go_wp2_with(at_builtin;(refine wpList_append_lies _ (by rfl) _ _ _ (by rfl) 0 68 ij _ 1 24 Tryz.underlying69 hj ej ek el rfl (by omega) (.slice pd us.length Y) us.length us (by rfl) ca.out ⟨w7.heap.size,0,none⟩ 1 1 [.slice (some ⟨wc.heap.size,0,none⟩) f.length f.length] (by rfl) (by rfl) (World.news_of_block (cs:=#[.slice (some ⟨wc.heap.size,0,none⟩) f.length f.length]) (t:=68) (fr:=(0,0)) (by have:=heap_alloc_new (w7.setCell ⟨w.heap.size+1,0,none⟩ (.slice (some ⟨gf,0,none⟩) (g.aB.length+1) U)) (.cells #[.slice (some ⟨wc.heap.size,0,none⟩) f.length f.length] 68);simpa using this)) (by simp[Value.oneCell']) (by omega) (by unfold maxLen;omega) (by omega) (by simp) (w7.heap.size+1) (by simp) ?_));intro gg bq w8 ba ai ab df;obtain⟨q1,q2,q3,q5,q6,q7,q4,q8,q9,ag⟩:=cn.out;obtain⟨cx,a4⟩:=Y4.push ay.out ca.out HU.out.1 (fun i v hv=>⟨((HU.out.2 i v hv).1).aA (N0 _ _),(HU.out.2 i v hv).2⟩) (q3.aA (N0 _ _)) eh ba ai (by simpa using ab) df;have be:=(q2.alloc (.cells #[.slice (some ⟨wc.heap.size,0,none⟩) f.length f.length] 68)).kept a4 dg;have d4:=(q7.alloc (.cells #[.slice (some ⟨wc.heap.size,0,none⟩) f.length f.length] 68)).kept a4 ei;have d2:=(q5.aA (N0 _ (.cells #[.slice (some ⟨wc.heap.size,0,none⟩) f.length f.length] 68))).kept a4 (fun b J=>by cases(zE J:gf=b);exact q9);have cz:=(q6.aA (N0 _ (.cells #[.slice (some ⟨wc.heap.size,0,none⟩) f.length f.length] 68))).kept a4 (fun b J=>by cases(zE J:sh=b);exact q8);have c8:w8.cell? ⟨w.heap.size+1,1,none⟩=some (.slice pd us.length Y):=be.cell 1;have f8:=be.frozen 1;have ep:gf<w7.heap.size:=by have:=Q1 q5 gf rfl;simpa using this
            have ew:sh<w7.heap.size:=by have:=Q1 q6 sh rfl;simpa using this
            have da:gf≠gg:=by
              intro e;subst e;rcases ab with e|e
              · exact q9 (ay.out.ob _ e)
              · omega
            have db:sh≠gg:=by
              intro e;subst e;rcases ab with e|e
              · exact q8 (ay.out.ob _ e)
              · omega
            have er:w.heap.size+1<gg:=by
              rcases ab with e|e
              · exact(q4 _ (ay.out.ob _ e)).1
              · omega
            have d7:Bw w w8:=(q1.alloc (by simp;omega) _).trans ⟨a4.os,a4.tape,a4.output,a4.size,fun k hk=>a4.block k (by simp;omega) (fun e=>by have:=(q4 _ e).1;omega)⟩;have c9:Hid (Y4 w8 (fun k=>O k\/k=gg\/k=wc.heap.size) (.slice (some ⟨gg,0,none⟩) (us.length+1) bq) (g.next++ [dn])/\Blk w8 (w.heap.size+1) #[.slice (some ⟨gf,0,none⟩) (g.aB.length+1) U,.slice pd us.length Y] 71/\Bw w w8/\Q2 w8 (.slice (some ⟨gf,0,none⟩) (g.aB.length+1) U) (g.aB++ [ru])/\W4 w8 (.slice (some ⟨sh,0,none⟩) B.length K) B/\Blk w8 w.heap.size #[.slice none 0 0,.slice none 0 0] 71/\(∀k,O k->w.heap.size+1<k/\k<wc.heap.size)/\¬O sh/\¬O gf/\gf≠sh):=⟨cx,be,d7,d2,cz,d4,q4,q8,q9,ag⟩;clear cx a4 be d4 d2 cz d7 q1 q2 q3 q4 q5 q6 q7 q8 q9 ag ba ai ab cn ay HU ca g7 g8 eb ec;go_wp2_with fail
            go_roundg (gk-1)
            case measure=>omega
            case rel=>
              obtain⟨q1,q2,q3,q5,q6,q7,q4,q8,q9,ag⟩:=c9.out;have f7:=HG.out;have ey:=ck.2.1;have de:C0 (fun k=>k=w.heap.size+1) w8 (w8.setCell ⟨w.heap.size+1,1,none⟩ (.slice (some ⟨gg,0,none⟩) (us.length+1) bq)):=C0.setCell (ex:=fun k=>k=w.heap.size+1) (p:=⟨w.heap.size+1,1,none⟩) (C0.refl _ _) (fun _=>rfl) _;refine⟨i+1,B,⟨g.aB++ [ru],g.next++ [dn]⟩,(fun k=>O k\/k=gg\/k=wc.heap.size),_,_,by go_num,by omega,by omega,by omega,by omega,cm.out,by simp[bc.out.1],by simp[bc.out.2],q3.setCell (p:=⟨w.heap.size+1,1,none⟩) (show w.heap.size<=w.heap.size+1 by omega) _,q7.aG (p:=⟨w.heap.size+1,1,none⟩) (by simp) _,q2.set 1 _,?_,?_,?_,?_,?_,?_⟩
              · exact q1.setCell (fun e=>by rcases e with e|e|e;exact dg e;simp at e;omega;simp at e;omega) _
              · have:=q5.kept de (fun b J e=>by cases(zE J:gf=b);omega)
                exact this
              · exact q6.kept de (fun b J e=>by cases(zE J:sh=b);omega)
              · intro k e
                rcases e with e|e|e
                · exact(q4 k e).1
                · omega
                · omega
              · intro b J
                cases(zE J:gf=b);refine⟨by omega,fun e=>?_⟩;rcases e with e|e|e
                · exact q9 e
                · exact da e
                · exact m7 e
              · intro b J
                cases(zE J:sh=b);refine⟨bz,fun e=>?_,fun e=>ag (zE e)⟩;rcases e with e|e|e
                · exact q8 e
                · exact db e
                · exact dj e
    · have e0:decide ((i:Int)<(aI.length:Int))=false:=by simp;omega
      rw[show gk=(gk-1)+1 by omega]at hX;unfold F4 at hX;rw[if_neg b6]at hX;subst hX;obtain⟨ud,D,rfl,_⟩:=hU.aV;obtain⟨us,an,b1,bg⟩:=b0.ex;obtain⟨pd,Y,rfl,_⟩:=an.aV;have p0:wr.cell? ⟨w.heap.size+1,0,none⟩=some (.slice ud g.aB.length D):=hP.cell 0;have p1:wr.cell? ⟨w.heap.size+1,1,none⟩=some (.slice pd us.length Y):=hP.cell 1;have z0:wr.cell? ⟨w.heap.size,0,none⟩=some (.slice none 0 0):=hZ.cell 0;have z1:wr.cell? ⟨w.heap.size,1,none⟩=some (.slice none 0 0):=hZ.cell 1;have en:=hZ.frozen 0;have eo:=hZ.frozen 1;have ak:Hid (Bw w wr/\Blk wr w.heap.size #[.slice none 0 0,.slice none 0 0] 71/\Y4 wr O (.slice pd us.length Y) g.next/\Q2 wr (.slice ud g.aB.length D) g.aB/\(∀k,O k->w.heap.size+1<k)/\∀b,(Value.slice ud g.aB.length D).ownBlock=some b->w.heap.size+1<b):=⟨J,hZ,b0,hU,hO,fun b e=>(bh b e).1⟩;clear J hZ hP b0 hU hS hO bh a2 an b1 bg hG ci ch a9;go_wp2_with fail;obtain⟨q1,q2,q3,q4,q5,q6⟩:=ak.out;have ed:=(q1.setCell (p:=⟨w.heap.size,0,none⟩) (zD _) (.slice ud g.aB.length D)).setCell (p:=⟨w.heap.size,1,none⟩) (zD _) (.slice pd us.length Y);refine bodyPost_ret (G3 Tryz.results56 _ _ w.heap.size 71 _ (0,0) _ rfl ((q2.set 0 _).set 1 _) Tryz.underlying71 rfl Tryz.hY) rfl ?_;have r1:=(q3.setCell (a:=⟨w.heap.size,0,none⟩) (fun e=>by have:=q5 _ e;simp at this;omega) (.slice ud g.aB.length D)).setCell (a:=⟨w.heap.size,1,none⟩) (fun e=>by have:=q5 _ e;simp at this;omega) (.slice pd us.length Y);have r2:=(q4.kept (C0.setCell (ex:=fun k=>k=w.heap.size) (p:=⟨w.heap.size,0,none⟩) (C0.refl _ _) (fun _=>rfl) (.slice ud g.aB.length D)) (fun b J e=>by have:=q6 b J;omega)).kept (C0.setCell (ex:=fun k=>k=w.heap.size) (p:=⟨w.heap.size,1,none⟩) (C0.refl _ _) (fun _=>rfl) (.slice pd us.length Y)) (fun b J e=>by have:=q6 b J;omega);exact⟨ed,.inr ⟨g,_,_,rfl,rfl,Y4.gB r1 r2⟩⟩
end Go.Proofs.YtcckhngbdoiikabGreat

namespace Go.Proofs.YtcckhngbdoiikabGreat
theorem Al.mono{n m:Nat}{f:List Int}(h:Al n f)(D:n<=m):Al m f:=fun tt B=>by
 rcases h tt B with e|e
 ·exact .inl e
 ·exact .inr (by omega)
theorem TQ(f:I0):∀(B h:List I0),Al (P8 f B h).2.length (P8 f B h).1
 | [],h=>by intro tt G;simp[P8]at G
 |k::ks,h=>by
  have M:=TQ f ks (if C6 h (f.and k)=(h.length:Int)then h++ [f.and k]else h);have D:=Yr f ks (if C6 h (f.and k)=(h.length:Int)then h++ [f.and k]else h);unfold P8;intro tt G;rw[zU]at G;rcases G with e|e
  ·subst e;simp only;unfold C6 at D⊢;split
   ·exact .inl rfl
   ·rename_i J;rw[if_neg J]at D
    right
    have U:=Fi h (f.and k);refine⟨by omega,?_⟩
    by_cases K:(H9 h (f.and k):Int)=(h.length:Int)
    ·rw[if_pos K]at D⊢;have:=D.2.1;simp only[zL,yH,List.length_nil]at this;omega
    ·rw[if_neg K]at D⊢;have:=D.2.1;omega
  ·exact M tt e
theorem Bm(R:E0)(f:List I0):∀(n i:Nat) (B:List I0) (g J:B0),F4 R f n i B g=some J->g.aB.length=i->g.next.length=i->i<=B.length->B.length<=61->0<B.length->
  (∀D∈g.next,D.length=f.length/\Al B.length D)->GOk J f.length/\0<J.aB.length/\J.aB.length<=61
 |0,i,B,g,J,h,_,_,_,_,_,_=>by simp[F4]at h
 |n+1,i,B,g,J,h,h1,h2,h3,h4,h5,h6=>by
  unfold F4 at h
  by_cases K:i<B.length
  ·rw[if_pos K]at h;generalize M:(if 0<i then R.after (B.getD i I0.none)else R.first)=aft at h;have U:=Yr aft f B;have X:=TQ aft f B;simp only at h;split at h
   ·cases h
   ·refine Bm R f n (i+1) _ _ J h (by simp[h1]) (by simp[h2]) (by omega) (by omega) (by omega) ?_;intro D G;simp at G;rcases G with e|e
    ·exact⟨(h6 D e).1,(h6 D e).2.mono U.2.1⟩
    ·subst e;exact⟨U.1,X⟩
  ·rw[if_neg K]at h;cases h;have Y:B.length=i:=by omega
   refine⟨⟨by omega,fun j V=>?_⟩,by omega,by omega⟩;have W:g.next.getD j []∈g.next:=by simp[V]
   have:=h6 _ W;rw[Y,<-h1]at this;exact this
theorem S8{R:E0}{f:List I0}{g:B0}(h:J6 R f=some g):GOk g f.length/\0<g.aB.length/\g.aB.length<=61:=
 Bm R f 63 0 [I0.none] B0.aR g h rfl rfl (by simp) (by simp) (by simp) (fun D B=>by simp[B0.aR]at B)
theorem E5{g:B0}{K:Nat}(h:GOk g K):GOk (G0 g) K:=by
 refine⟨by simp[G0,h.len],fun i M=>?_⟩;have f:i<g.next.length:=by simpa[G0]using M
 have J:(G0 g).next.getD i []=R4 (Ua g) (g.next.getD i []):=by simp[G0,f]
 rw[J];obtain⟨D,G⟩:=h.row i f;refine⟨by simpa[R4]using D,fun tt B=>?_⟩;unfold R4 at B;rw[List.mem_map]at B;obtain⟨x,U,rfl⟩:=B;split
 ·exact G x U
 ·exact .inl rfl
theorem Jr(g:B0):∀(f:Nat) (aE:List Int) (B:Nat),(∀x∈aE,0<=x/\x<(g.aB.length:Int))->∀x∈C9 g f aE B,0<=x/\x<(g.aB.length:Int)
 |0,aE,B,h=>h
 |f+1,aE,B,h=>by
  have G:=Y9 g aE g.aB.length;have D:∀x∈(U0 g aE g.aB.length).1,0<=x/\x<(g.aB.length:Int):=fun x J=>by have:=G.1 x J;have:=G.2;omega
  unfold C9;split
  ·exact D
  ·exact Jr g f _ _ D
theorem B9(g:B0)(h:0<g.aB.length):∀x∈U1 g,0<=x/\x<(g.aB.length:Int):=
 Jr g _ _ _ (fun x f=>by rw[List.mem_replicate]at f;omega)
end Go.Proofs.YtcckhngbdoiikabGreat

namespace Go.Proofs.YtcckhngbdoiikabGreat
open Go.RowKit Go.Deep
def V6(f:Nat->Nat)(B h:Value):Array Value:=K6 f++#[B,h]
theorem Ag(f:Nat->Nat)(B h:Value):(V6 f B h).size=258:=by simp[V6,D7]
theorem GV:Tryz.zeroCells73=V6 (fun _=>0) (.slice none 0 0) (.slice none 0 0):=by kernel_rfl
theorem Tryz.gD:(Tryz.prog.info? 73).map (·.size)=some 258:=by kernel_rfl
theorem TM(f:Nat->Nat)(B h:Value)(w:World):(Instr.build 73 #[(0,.agg (K6 f)),(1,.agg #[B,h])]).run Tryz.prog w=.ok (.agg (V6 f B h)) w:=by kernel_rfl
theorem SM(f:Nat->Nat)(B h:Value)(w:World):(Instr.build 75 #[(0,.agg (V6 f B h))]).run Tryz.prog w=.ok (.agg (V6 f B h)) w:=by kernel_rfl
theorem L0{w:World}{e:TypeId}{B n:Nat}{v:Value}{M:List Value}{b:Nat}{c:Array Value}{t:TypeId}(h:w.ownsRow 0 e B v n M)(G:Blk w b c t)(D:t≠e):v.ownBlock≠some b:=by
 intro J;obtain⟨_,⟨rfl,_⟩|⟨g,K,cur,rfl,_,f,_⟩⟩:=h
 ·simp[Value.ownBlock]at J
 ·cases(zE J:g=b);unfold Blk at G;rw[G]at f
  injection f with f
  injection f with _ f
  exact D f
theorem Y6.keptAt{w w':World}{U J:Value}{g:B0}{b:Nat}{c:Array Value}{t:TypeId}(h:Y6 w U J g)(k:C0 (fun x=>x=b) w w')(B:Blk w b c t)(D:t≠3)(V:t≠68):Y6 w' U J g:=by
 obtain⟨X,K,W,M⟩:=h.next;exact⟨h.aB.kept k (fun x f e=>L0 h.aB B D (e ▸ f)),X,K.kept k (fun x f e=>L0 K B V (e ▸ f)),W,fun i v G=>(M i v G).kept k (fun x f e=>L0 (M i v G) B D (e ▸ f))⟩
theorem LH(w:World)(b:Nat)(x y:Value):C0 (fun k=>k=b) w ((w.setCell ⟨b,0,none⟩ x).setCell ⟨b,1,none⟩ y):=
 C0.setCell (ex:=fun k=>k=b) (p:=⟨b,1,none⟩) (C0.setCell (ex:=fun k=>k=b) (p:=⟨b,0,none⟩) (C0.refl _ _) (fun _=>rfl) _) (fun _=>rfl) _
theorem PV(w:World)(b:Nat)(c:Array Value):C0 (fun k=>k=b) w (w.setRow b c):=C0.setRow (ex:=fun k=>k=b) (C0.refl _ _) (fun _=>rfl) _
theorem QT{w:World}{v:Value}{l:List Int}(h:Q2 w v l):v.oneCell'=true:=by
 obtain⟨_,_,rfl,_⟩:=h.aV;rfl
theorem Y6.bX{w:World}{B f:Value}{g:B0}(h:Y6 w B f g):B.oneCell'=true/\f.oneCell'=true:=by
 obtain⟨G,D,_⟩:=h.next;obtain⟨_,_,rfl,_⟩:=D.aV;exact⟨QT h.aB,rfl⟩
theorem ZO(f:Nat->Nat){G D:Value}(h:G.oneCell'=true/\D.oneCell'=true):(V6 f G D).all (·.oneCell')=true:=by
 rw[Array.all_eq_true_iff_forall_mem];intro v B;simp only[V6,Array.mem_append]at B;rcases B with B|B
 ·have:=RC f;rw[Array.all_eq_true_iff_forall_mem]at this;exact this v B
 ·simp at B;rcases B with e|e
  ·subst e;exact h.1
  ·subst e;exact h.2
theorem Ad0{f:Nat->Nat}{J G:Value}{B:Array Oper}{rest:List Oper}{o:Oper}{a:Act}{w:World}{Q:Exit->Act->World->Prop}(D:o.guard=none)(x:Operand)(M:o.op=.load 73 x)
  (g:Nat) (U:a.eval x=.pointer (some ⟨g,0,none⟩)) (K:Blk w g (V6 f J G) 73)
  (h:wpList Tryz.prog B Q rest (a.put o.dst (.agg (V6 f J G))) w):wpList Tryz.prog B Q (o::rest) a w:=
 wpList_load_row D 73 x M g U 73 _ (0,0) _ K Tryz.underlying73 rfl (by rw[Ag];exact Tryz.gD) h
theorem AH{f:Nat->Nat}{M K:Value}{G:Array Oper}{rest:List Oper}{o:Oper}{a:Act}{w:World}{Q:Exit->Act->World->Prop}(J:o.guard=none)(x y:Operand)(W:o.op=.store 73 x y)
  (g:Nat) (X:a.eval x=.pointer (some ⟨g,0,none⟩)) (Y:a.eval y=.agg (V6 f M K)) {D:Array Value} (V:Blk w g D 73) (B:D.size=258) (U:M.oneCell'=true/\K.oneCell'=true)
  (h:wpList Tryz.prog G Q rest (a.put o.dst undef) (w.setRow g (V6 f M K))):wpList Tryz.prog G Q (o::rest) a w:=
 wpList_store_row J 73 x y W g _ X Y 73 _ V (by rw[Ag];exact Tryz.gD) (by rw[Ag];exact B) (ZO f U) h
theorem PZ{D:Array Oper}{rest:List Oper}{o:Oper}{a:Act}{w:World}{Q:Exit->Act->World->Prop}(G:o.guard=none)(x y:Operand)(K:o.op=.store 73 x y)
  (g:Nat) (M:a.eval x=.pointer (some ⟨g,0,none⟩)) (U:a.eval y=.agg Tryz.zeroCells73) {B:Array Value} (J:Blk w g B 73) (f:B.size=258)
  (h:wpList Tryz.prog D Q rest (a.put o.dst undef) (w.setRow g (V6 (fun _=>0) (.slice none 0 0) (.slice none 0 0)))):wpList Tryz.prog D Q (o::rest) a w:=
 AH G x y K g M (by rw[U,GV]) J f ⟨rfl,rfl⟩ h
theorem Ab2{f:Nat->Nat}{J G:Value}{B:Array Oper}{rest:List Oper}{o:Oper}{a:Act}{w:World}{Q:Exit->Act->World->Prop}(D:o.guard=none)(x y:Operand)(U:o.op=.build 73 #[(0,x),(1,y)])
  (V:a.eval x=.agg (K6 f)) (W:a.eval y=.agg #[J,G])
  (h:wpList Tryz.prog B Q rest (a.put o.dst (.agg (V6 f J G))) w):wpList Tryz.prog B Q (o::rest) a w:=by
 refine wpList_plain D fun K M=>?_
 unfold Oper.wp execOp;simp only[U,List.map_toArray,List.map_cons,List.map_nil,V,W,TM,Sem.run_bind,Sem.run_pure,Result.andThen_ok];exact M _ _ h
theorem Ab1{f:Nat->Nat}{J G:Value}{B:Array Oper}{rest:List Oper}{o:Oper}{a:Act}{w:World}{Q:Exit->Act->World->Prop}(D:o.guard=none)(x:Operand)(U:o.op=.build 75 #[(0,x)])
  (V:a.eval x=.agg (V6 f J G))
  (h:wpList Tryz.prog B Q rest (a.put o.dst (.agg (V6 f J G))) w):wpList Tryz.prog B Q (o::rest) a w:=by
 refine wpList_plain D fun K M=>?_
 unfold Oper.wp execOp;simp only[U,List.map_toArray,List.map_cons,List.map_nil,V,SM,Sem.run_bind,Sem.run_pure,Result.andThen_ok];exact M _ _ h
theorem DR:Tryz.zeroCells73.size=258:=Tryz.zeroCells73_size
theorem QR(R:E0)(gb:Nat)(O:Nat->Prop)(fv lv:Value)(w:World)(h:C1 w gb O R fv lv)(hf:R.aC.length<=1000)(hl:R.last.length<=1000):
    Calls Tryz.prog 25 #[.pointer (some ⟨gb,0,none⟩)] w fun e w'=>Bw w w'/\
      (N3 R=none/\e=.returned (.tuple #[.agg (V6 (fun _=>0) (.slice none 0 0) (.slice none 0 0)),.int .i64 3])\/
       ∃kd g a9 a8,N3 R=some (kd,g)/\e=.returned (.tuple #[.agg (V6 kd a9 a8),.int .i64 0])/\Y6 w' a9 a8 g):=by
  generalize hX:N3 R=X;unfold N3 at hX;have HX:=Hd hX;have HR:=Hd h;have be:=OB R gb O fv lv (w.alloc (.cells Tryz.zeroCells73 73)) (h.aA (N0 _ _));have b4:=Hd be;clear h hX be;go_enter Tryz.func25,Tryz.ntmps25;go_wp2_with fail;refine b4.out.mono ?_;rintro e K ⟨kv,rfl,bd,au⟩;have Z:Bw w K:=(N0 w _).trans (au.mono (by simp));have ar:=(Blk.aR w Tryz.zeroCells73 73).aA au;have ag:Bw K ((K.alloc (.cells Tryz.zeroCells67 67)).setRow K.heap.size (K6 (D3 R.aJ))):=I2 (N0 _ _) (zD _) _;have V:Blk ((K.alloc (.cells Tryz.zeroCells67 67)).setRow K.heap.size (K6 (D3 R.aJ))) K.heap.size (K6 (D3 R.aJ)) 67:=(Blk.aR _ _ _).setRow _;have W:Bw w ((K.alloc (.cells Tryz.zeroCells67 67)).setRow K.heap.size (K6 (D3 R.aJ))):=Z.trans (ag.mono Z.size);have b7:=PI R gb O fv lv kv (V0 R.aJ 256) _ (HR.out.aA W) (bd.aA ag) (Gk _ 256) hf hl;have ax:=Hd b7;have z1:=ar.lt;have az:Hid (Bw w K/\Blk K w.heap.size Tryz.zeroCells73 73/\Bw K ((K.alloc (.cells Tryz.zeroCells67 67)).setRow K.heap.size (K6 (D3 R.aJ)))/\Blk ((K.alloc (.cells Tryz.zeroCells67 67)).setRow K.heap.size (K6 (D3 R.aJ))) K.heap.size (K6 (D3 R.aJ)) 67):=⟨Z,ar,ag,V⟩;clear au Z ar ag V W b7 bd;go_wp2_with(first|refine WO rfl (.tmp 4) (.tmp 12) rfl K.heap.size rfl rfl (Blk.aR _ _ _) LY ?_);refine ax.out.mono ?_;rintro e f ⟨W,bp⟩;obtain⟨q1,q2,q3,q4⟩:=az.out;have a4:=(q2.aA q3).aA W;have V:=q4.aA W;have a0:Bw w f:=(q1.trans (q3.mono q1.size)).trans (W.mono (by have:=q1.size;simp;omega));have z2:w.heap.size<f.heap.size:=a4.lt;have z3:K.heap.size<f.heap.size:=V.lt;clear q1 q2 q3 q4 W ax az b4;rcases bp with⟨hx,rfl⟩|⟨g,a9,a8,hx,rfl,a3⟩
  · have bw:X=none:=by have:=HX.out;rw[hx]at this;exact this.symm
    subst bw;have b5:=Hd a4;have br:=Hd a0;clear hx a4 V a0;go_wp2_with(first|refine PZ rfl (.tmp 2) (.tmp 22) rfl w.heap.size rfl rfl (b5.out.alloc _) DR ?_);exact bodyPost_ret (G3 Tryz.results25 _ _ w.heap.size 73 _ (0,0) _ rfl ((b5.out.alloc _).setRow _) Tryz.underlying73 rfl (by rw[Ag];exact Tryz.gD)) rfl ⟨I2 (br.out.alloc (by omega) _) (zD _) _,rfl⟩
  · obtain⟨ho,aj,hn⟩:=S8 hx
    have c4:=Gk R.aJ 256;have bx:X=some (D3 R.aJ,E1 (G0 g) (U1 (G0 g))):=by have:=HX.out;rw[hx]at this;exact this.symm
    subst bx;have bz:=E5 ho;have bo:(G0 g).aB=g.aB:=rfl;have bn:=YT a9 a8 g _ (f.alloc (.cells #[a9,a8] 71)) (a3.aA (N0 _ _)) ho (by omega) (by omega);have a1:=a3.bX;have b3:=Hd bn;have ac:Hid (Bw w f/\Blk f w.heap.size Tryz.zeroCells73 73/\Blk f K.heap.size (K6 (D3 R.aJ)) 67):=⟨a0,a4,V⟩;have b2:=Hd bz;have c3:=Hd hx;have ae:=Hd bo;clear bo;obtain⟨rd,B,rfl,aw⟩:=a3.aB.aV;clear aw;obtain⟨bq,ba,a5,a6⟩:=a3.next;obtain⟨nd,am,rfl,a7⟩:=ba.aV;clear a5 a6 a7;clear bn a3 hx ho a0 a4 V a1 ba;go_wp2_with fail;refine b3.out.mono ?_;rintro e w3 ⟨pv,rfl,ap,av⟩;obtain⟨J,bb,a5,a6⟩:=ap.next;obtain⟨pd,D,rfl,a7⟩:=bb.aV;clear a5 a6 a7;have U:=(Blk.aR f #[.slice rd g.aB.length B,.slice nd bq.length am] 71).aA av;have c0:w3.cell? ⟨f.heap.size,0,none⟩=some (.slice rd g.aB.length B):=U.cell 0;have c1:w3.cell? ⟨f.heap.size,1,none⟩=some (.slice nd bq.length am):=U.cell 1;have f0:=U.frozen 0;have f1:=U.frozen 1;have bj:=LH w3 f.heap.size (.slice rd g.aB.length B) (.slice pd J.length D);have aq:=ap.keptAt bj U (by decide) (by decide);have bf:=(U.set 0 (.slice rd g.aB.length B)).set 1 (.slice pd J.length D);have Y:Bw f ((w3.setCell ⟨f.heap.size,0,none⟩ (.slice rd g.aB.length B)).setCell ⟨f.heap.size,1,none⟩ (.slice pd J.length D)):=(((N0 f _).trans (av.mono (by simp))).setCell (zD _) _).setCell (zD _) _;have bl:=AT _ _ (G0 g) _ _ aq b2.out (by rw[ae.out];omega) (by omega);have b0:=Hd bl;have zT:f.heap.size<w3.heap.size:=U.lt;have ad:Hid (Bw f ((w3.setCell ⟨f.heap.size,0,none⟩ (.slice rd g.aB.length B)).setCell ⟨f.heap.size,1,none⟩ (.slice pd J.length D))/\Blk ((w3.setCell ⟨f.heap.size,0,none⟩ (.slice rd g.aB.length B)).setCell ⟨f.heap.size,1,none⟩ (.slice pd J.length D)) f.heap.size #[.slice rd g.aB.length B,.slice pd J.length D] 71/\Y6 ((w3.setCell ⟨f.heap.size,0,none⟩ (.slice rd g.aB.length B)).setCell ⟨f.heap.size,1,none⟩ (.slice pd J.length D)) (.slice rd g.aB.length B) (.slice pd J.length D) (G0 g)):=⟨Y,bf,aq⟩;clear bl Y bf aq bj U av ap bb b3;go_wp2_with fail;refine b0.out.mono ?_;rintro e w4 ⟨cv,rfl,b6,bh,Y⟩;have M:=ad.out.2.2.aA Y;have G:=ad.out.2.1.aA Y;have bm:=XN _ _ cv (G0 g) _ (U1 (G0 g)) w4 M b2.out b6 bh (B9 _ (by rw[ae.out];exact aj)) (by rw[ae.out];exact aj) (by rw[ae.out];omega) (by omega);have b1:=Hd bm;have d0:w4.cell? ⟨f.heap.size,0,none⟩=some (.slice rd g.aB.length B):=G.cell 0;have d1:w4.cell? ⟨f.heap.size,1,none⟩=some (.slice pd J.length D):=G.cell 1;have a2:Bw f w4:=ad.out.1.trans (Y.mono (by simp;omega));have z4:=G.lt;have an:Hid (Bw f w4/\Blk w4 f.heap.size #[.slice rd g.aB.length B,.slice pd J.length D] 71):=⟨a2,G⟩;clear bm M G b6 bh Y a2 b0 ad c0 c1 f0 f1;go_wp2_with fail;refine b1.out.mono ?_;rintro e w5 ⟨c6,c5,rfl,M,a2⟩;generalize bi:E1 (G0 g) (U1 (G0 g))=g5 at M;have ay:=Hd bi;clear bi;obtain⟨xd,aa,ak,aw⟩:=M.aB.aV;obtain⟨c2,bc,a5,a6⟩:=M.next;obtain⟨yd,ab,ai,a7⟩:=bc.aV;clear aw a5 a6 a7 bc;generalize g5.aB.length=xl at ak;generalize c2.length=yl at ai;subst ak ai;have G:=an.out.2.aA a2;have a1:=M.bX;have bk:=LH w5 f.heap.size (.slice xd xl aa) (.slice yd yl ab);have b8:=M.keptAt bk G (by decide) (by decide);have af:Bw f ((w5.setCell ⟨f.heap.size,0,none⟩ (.slice xd xl aa)).setCell ⟨f.heap.size,1,none⟩ (.slice yd yl ab)):=((an.out.1.trans (a2.mono (by omega))).setCell (zD _) _).setCell (zD _) _;have e0:w5.cell? ⟨f.heap.size,0,none⟩=some (.slice rd g.aB.length B):=G.cell 0;have e1:w5.cell? ⟨f.heap.size,1,none⟩=some (.slice pd J.length D):=G.cell 1;have f0:=G.frozen 0;have f1:=G.frozen 1;have b9:=ac.out.2.2.aA af;have bg:=ac.out.2.1.aA af;have ah:Bw w ((w5.setCell ⟨f.heap.size,0,none⟩ (.slice xd xl aa)).setCell ⟨f.heap.size,1,none⟩ (.slice yd yl ab)):=ac.out.1.trans (af.mono (by omega));have bu:=Hd b9;have ao:=Hd bg;have bt:=Hd b8;have bs:=Hd ah;have bv:=Hd a1;clear b9 bg b8 ah G bk M a2 af b1 an ac d0 d1 a1;go_wp2_with(first|refine Ab2 rfl (.tmp 31) (.tmp 32) rfl rfl rfl ?_|refine ZZ rfl (.tmp 4) rfl K.heap.size rfl bu.out ?_|refine AH rfl (.tmp 2) (.tmp 33) rfl w.heap.size rfl rfl ao.out DR bv.out ?_);refine bodyPost_ret (G3 Tryz.results25 _ _ w.heap.size 73 _ (0,0) _ rfl (ao.out.setRow _) Tryz.underlying73 rfl (by rw[Ag];exact Tryz.gD)) rfl ⟨I2 bs.out (zD _) _,.inr ⟨_,_,_,_,rfl,rfl,?_⟩⟩;rw[ay.out];exact bt.out.keptAt (PV _ _ _) ao.out (by decide) (by decide)
def Q0(s:ByteArray):List Nat:=s.data.toList.map UInt8.toNat
theorem I1(s:ByteArray):(Q0 s).length=s.size:=by rw[Q0,yB,Array.length_toList];rfl
theorem Blk.bX{w:World}{b:Nat}{c B:Array Value}{t D:TypeId}(h:Blk w b c t)(f:Blk w b B D):c=B/\t=D:=by
 unfold Blk at h f;rw[h]at f
 injection f with f
 injection f with h1 h2
 exact⟨h1,h2⟩
theorem C7(l:List Bool)(k i:Nat)(x:Bool)(f:k<l.length):(l.set k x).getD i false=if i=k then x else l.getD i false:=by
 rw[zC,List.getElem?_set]
 by_cases h:k=i
 ·subst h;simp[f]
 ·rw[if_neg h,if_neg (fun e=>h e.symm),zC]
theorem P2{w:World}{b:Nat}{l:List Bool}(h:Blk w b (Z0 l) 4)(i:Nat)(f:i<l.length):w.cell? ⟨b,i,none⟩=some (.bool (l.getD i false)):=by
 rw[Wl h i f];simp[f]
theorem E6.cellD{w:World}{l:List Bool}{g n f:Nat}(h:E6 w (.slice (some ⟨g,0,none⟩) n f) l)(j:Nat)(D:j<l.length):w.cell? ⟨g,j,none⟩=some (.bool (l.getD j false)):=by
 have J:=h;obtain⟨_,G,B,e,_⟩:=P0 h
 injection e with e1 e2 e3
 subst e2;rw[h.cell j D];simp[D]
end Go.Proofs.YtcckhngbdoiikabGreat
