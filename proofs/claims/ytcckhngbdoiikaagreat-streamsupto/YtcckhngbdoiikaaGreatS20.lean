import Derived.Test.YtcckhngbdoiikaaGreatS19
import Derived.Test.YtcckhngbdoiikaaGreatS14
import Derived.Deep.DeepCutAuto
set_option maxRecDepth 20000
set_option maxHeartbeats 12800000
set_option linter.unusedVariables false
namespace Go.Proofs.YtcckhngbdoiikaaGreat
open Go.RowKit Go.Deep
theorem QR(B:I0)(f D:List I0)(k:Nat)(h:k<f.length):
  H8 B (f.drop k) D=(W5 D (B.and f[k])::(H8 B (f.drop (k+1)) (if W5 D (B.and f[k])=(D.length:Int)then D++ [B.and f[k]]else D)).1,
   (H8 B (f.drop (k+1)) (if W5 D (B.and f[k])=(D.length:Int)then D++ [B.and f[k]]else D)).2):=by
 rw[zY h];rfl
theorem Dr(h:I0):∀(f B:List I0),(H8 h f B).1.length=f.length/\B.length<=(H8 h f B).2.length/\(H8 h f B).2.length<=B.length+f.length
 | [],B=>by simp[H8]
 |k::ks,B=>by
  have D:=Dr h ks (if W5 B (h.and k)=(B.length:Int)then B++ [h.and k]else B);unfold H8;generalize H8 h ks (if W5 B (h.and k)=(B.length:Int)then B++ [h.and k]else B)=r at D⊢;split at D <;>simp at D⊢ <;>omega
theorem GU(f:List Int)(k K:Nat)(x:Int)(h:f.length=k)(B:k<K):(f++List.replicate (K-k) 0).set k x=(f++ [x])++List.replicate (K- (k+1)) 0:=by
 rw[List.set_append_right _ _ (by omega),h,yQ,show K-k=(K- (k+1))+1 by omega,List.replicate_succ,List.set_cons_zero,yF];rfl
theorem ZY(f:List Int)(k K:Nat)(h:f.length=k)(B:k<K):(N3 (f++List.replicate (K-k) 0))[k]?=some (.int .i64 0):=by
 rw[show K-k=(K- (k+1))+1 by omega];simp[N3,List.replicate_succ,h]
theorem GQ{w0 wr W:World}{L B:Nat}{O:Nat->Prop}{pv sv:Value}{ud:Option Addr}{h wb G D n:Nat}{K:List Int}{uy:Int}{aN:List (List Int)}{a4:List Int}{ss:List I0}
  (h1:Below L w0 wr) (a5:L<=B) (h2:Blk wr B #[.slice ud K.length h,pv] 63) (h3:U4 wr O pv aN) (h4:O2 wr (.slice (some ⟨wb,0,none⟩) n n) a4)
  (h5:∀k,O k->B<k) (Y:∀b,(Value.slice ud K.length h).ownBlock=some b->B<b/\b<wb/\¬O b) (hs:R4 wr sv ss) (a0:∀b,sv.ownBlock=some b->B<b/\(Value.slice ud K.length h).ownBlock≠some b)
  (zw:B<wr.heap.size) (zz:wb<wr.heap.size) (ae:B<wb)
  (a3:W.ownsRow 0 3 1 (.slice (some ⟨G,0,none⟩) (K.length+1) D) (K.length+1) (K.map (Value.int .i64)++ [.int .i64 uy]))
  (f:(wr.alloc (.cells #[.int .i64 uy] 3)).grownBy W (Value.slice ud K.length h).ownBlock)
  (V:(Value.slice ud K.length h).ownBlock=some G\/G=wr.heap.size+1) (ad:G<W.heap.size):
  ∀X,X=W.setCell ⟨B,0,none⟩ (.slice (some ⟨G,0,none⟩) (K.length+1) D)->Below L w0 X/\Blk X B #[.slice (some ⟨G,0,none⟩) (K.length+1) D,pv] 63/\U4 X O pv aN/\O2 X (.slice (some ⟨wb,0,none⟩) n n) a4/\
   O2 X (.slice (some ⟨G,0,none⟩) (K.length+1) D) (K++ [uy])/\R4 X sv ss/\B<G/\G≠wb/\¬O G/\wb<X.heap.size/\∀b,sv.ownBlock=some b->G≠b:=by
 rintro X rfl;have M:C0 (fun k=>(Value.slice ud K.length h).ownBlock=some k) (wr.alloc (.cells #[.int .i64 uy] 3)) W:=⟨f.os,f.tape,f.output,f.size,fun k M he=>f.block k M (fun e=>he e.symm)⟩;have a2:C0 (fun _=>False) wr (wr.alloc (.cells #[.int .i64 uy] 3)):=(C0.refl (fun _=>False) wr).alloc _;have Z:C0 (fun k=>k=B) W (W.setCell ⟨B,0,none⟩ (.slice (some ⟨G,0,none⟩) (K.length+1) D)):=C0.setCell (ex:=fun k=>k=B) (p:=⟨B,0,none⟩) (C0.refl _ _) (fun _=>rfl) _;have aa:¬O B:=fun e=>by have:=h5 _ e;omega
 have a8:¬O G:=by
  intro e;rcases V with U|U
  ·exact(Y _ U).2.2 e
  ·have:=h3.olt _ e;omega
 have a9:B<G:=by
  rcases V with U|U
  ·exact(Y _ U).1
  ·omega
 have a1:G≠wb:=by
  rcases V with U|U
  ·have:=(Y _ U).2.1;omega
  ·omega
 have ab:=M.size;simp at ab;refine⟨?_,?_,?_,?_,?_,?_,a9,a1,a8,by simp;omega,?_⟩
 ·have a6:Below L w0 (wr.alloc (.cells #[.int .i64 uy] 3)):=h1.alloc (by omega) _;have a7:Below L w0 W:=a6.trans ⟨M.os,M.tape,M.output,M.size,fun k ac=>M.block k (by simp;omega) (fun e=>by have:=(Y _ e).1;omega)⟩;exact a7.setCell (p:=⟨B,0,none⟩) a5 _
 ·exact((h2.alloc _).kept M (fun e=>by have:=(Y _ e).1;omega)).set 0 _
 ·exact((h3.alloc _).kept M (fun b J e=>(Y _ e).2.2 J)).setCell aa _
 ·exact((h4.kept a2 (fun _ _ e=>e)).kept M (fun b J e=>by cases(zE J:wb=b);have:=(Y _ e).2.1;omega)).kept Z (fun b J e=>by cases(zE J:wb=b);omega)
 ·exact(Ps (w:=W) (v:=.slice none 0 0) a3).kept Z (fun b J e=>by cases(zE J:G=b);omega)
 ·exact((hs.kept a2 (fun _ _ e=>e)).kept M (fun b J e=>(a0 b J).2 e)).kept Z (fun b J e=>by have:=(a0 b J).1;omega)
 ·intro b J e;subst e;rcases V with U|U
  ·exact(a0 _ J).2 U
  ·have:=M1 hs _ J;omega
theorem TG(R:E0)(gb:Nat)(O0:Nat->Prop)(fv lv kv:Value)(f:List I0)(w:World)(h:C1 w gb O0 R fv lv)(hk:R4 w kv f)(fc:f.length<=256)(hf:R.aC.length<=1000)(hl:R.last.length<=1000):
    Calls Tryz.prog 45 #[.pointer (some ⟨gb,0,none⟩),kv] w fun e w'=>Bw w w'/\
      (E6 R f=none/\e=.returned (.tuple #[.agg #[.slice none 0 0,.slice none 0 0],.int .i64 3])\/
       ∃g dw dp,E6 R f=some g/\e=.returned (.tuple #[.agg #[dw,dp],.int .i64 0])/\U6 w' dw dp g):=by
  obtain⟨kd,f2,rfl,cj⟩:=hk.aT;have ct:=fun(W:World) (J:Bw w W) (s:I0)=>JP R gb O0 fv lv s W (h.aA J) hf
  have cy:=fun(W:World) (J:Bw w W) (s:I0)=>SV R gb O0 fv lv s W (h.aA J) hl
  have dx:=Hd ct;have e8:=Hd cy;have f9:=h.aO.lt;have HR:=Hd h;have HK:=Hd hk;generalize hX:E6 R f=X;unfold E6 at hX;have HX:=Hd hX;clear h hk ct cy hX;go_enter Tryz.func45,Tryz.ntmps45;go_wp2_with fail
  go_loopg[7,8] 63 (fun G sv iv wr=>∃(i:Nat) (aI:List I0) (g:B0) (O:Nat->Prop) (uv pv:Value),iv=.int .i64 (i:Int)/\G+i=63/\i<=aI.length/\aI.length<=61/\0<aI.length/\C4 R f G i aI g=X/\g.aB.length=i/\g.next.length=i/\
    Bw w wr/\Blk wr w.heap.size #[.slice none 0 0,.slice none 0 0] 63/\Blk wr (w.heap.size+1) #[uv,pv] 63/\U4 wr O pv g.next/\O2 wr uv g.aB/\R4 wr sv aI/\
    (∀k,O k->w.heap.size+1<k)/\(∀b,uv.ownBlock=some b->w.heap.size+1<b/\¬O b)/\(∀b,sv.ownBlock=some b->w.heap.size+1<b/\¬O b/\uv.ownBlock≠some b))
  case atStart=>
    refine⟨0, [I0.none],B0.aQ,fun _=>False,.slice none 0 0,.slice none 0 0,rfl,rfl,by simp,by simp,by simp,HX.out,rfl,rfl,Tv _ _ _ _,?_,?_,U4.nil _,World.ownsRow_nil _ _ _ _,?_,fun k h=>h.elim,fun b h=>by simp[Value.ownBlock]at h,?_⟩
    · exact((Blk.aQ w _ _).alloc _).alloc _
    · exact(Blk.dX w _ _ _).alloc _
    · refine D5 (cur:=#[.int .u64 0,.int .u64 0]) (by rfl) ?_ (zD _) (by unfold maxLen;omega) rfl (by rfl)
      have:=Blk.aQ ((w.alloc (.cells #[.slice none 0 0,.slice none 0 0] 63)).alloc (.cells #[.slice none 0 0,.slice none 0 0] 63)) #[.int .u64 0,.int .u64 0] 109;simpa using this
    · intro b e
      cases(zE e:w.heap.size+1+1=b);exact⟨by omega,fun e=>e,by simp[Value.ownBlock]⟩
  case round=>
    obtain⟨i,aI,g,O,uv,pv,rfl,hG,hi,ev,fe,hX,ci,ch,J,hZ,hP,b0,hU,hS,hO,bh,a2⟩:=hrel;clear HX;obtain⟨sd,c7,rfl,a9⟩:=hS.aT
    by_cases b6:i<aI.length
    · have e0:decide ((i:Int)<(aI.length:Int))=true:=by simp;omega
      rcases a9 with h0|⟨sg,rfl⟩
      · omega
      have ah:=HR.out.aA J;have f0:wr.cell? ⟨gb,512,none⟩=some (.int .u64 (R.first.lo.toNat:Int)):=by rw[ah.aO.cell];exact Ap _ _ _ _
      have f1:wr.cell? ⟨gb,513,none⟩=some (.int .u64 (R.first.hi.toNat:Int)):=by rw[ah.aO.cell];exact Bp _ _ _ _
      have s0:=hS.fS i b6;have s1:=hS.fT i b6;have b3:aI.getD i I0.none=aI[i]:=by simp[b6]
      have fn:sg<wr.heap.size:=M1 hS sg rfl;have fj:gb<wr.heap.size:=ah.aO.lt;have zP:=hP.lt;have fp:w.heap.size+1<sg:=(a2 sg rfl).1;have i0:(0:Int)<=(i:Int):=by omega
      have i1:(i:Int)<(aI.length:Int):=by omega
      have HH:Hid (Bw w wr/\Blk wr w.heap.size #[.slice none 0 0,.slice none 0 0] 63/\Blk wr (w.heap.size+1) #[uv,pv] 63/\U4 wr O pv g.next/\O2 wr uv g.aB/\R4 wr (.slice (some ⟨sg,0,none⟩) aI.length c7) aI/\
        (∀k,O k->w.heap.size+1<k)/\(∀b,uv.ownBlock=some b->w.heap.size+1<b/\¬O b)/\(∀b,(Value.slice (some ⟨sg,0,none⟩) aI.length c7).ownBlock=some b->w.heap.size+1<b/\¬O b/\uv.ownBlock≠some b)):=⟨J,hZ,hP,b0,hU,hS,hO,bh,a2⟩
      have cq:=Hd hX;have e5:=Hd b3;have bc:Hid (g.aB.length=i/\g.next.length=i):=⟨ci,ch⟩;have f6:2<=gk:=by omega
      have HG:=Hd hG;clear b3 ci ch hG;clear J hZ hP b0 hU hS hO bh a2 ah hX;obtain⟨wo,rfl⟩:∃wo:World,wo=wr:=⟨_,rfl⟩;generalize br:(if 0<i then R.after (aI.getD i I0.none)else R.first)=aft;have au:=Hd br;clear br;go_upto_if 29 with fail
      go_cut[] (fun wx=>Bw wo wx/\Blk wx wo.heap.size (E5 aft) 109)
      case first=>
        by_cases dc:0<i
        · have e1:decide ((0:Int)<(i:Int))=true:=by simp;omega
          have d8:Bw w (wo.alloc (.cells (E5 R.first) 109)):=HH.out.1.alloc (by omega) _;have dz:=Hd d8;clear d8;go_wp2_with fail;refine(dx.out _ dz.out _).mono ?_;rintro e w1 ⟨rfl,cc⟩;have am:=(Blk.aQ wo (E5 R.first) 109).aA cc;have a0:w1.cell? ⟨wo.heap.size,0,none⟩=some (.int .u64 (R.first.lo.toNat:Int)):=am.cell 0;have a1:w1.cell? ⟨wo.heap.size,1,none⟩=some (.int .u64 (R.first.hi.toNat:Int)):=am.cell 1;have f4:=am.frozen 0;have f5:=am.frozen 1;have bi:R.after aI[i]=aft:=by have:=au.out;rw[if_pos dc,e5.out]at this;exact this
          rw[bi];have e6:Hid (Bw wo w1/\Blk w1 wo.heap.size (E5 R.first) 109):=⟨(P0 wo _).trans (cc.mono (by simp)),am⟩;clear cc am bi;go_wp2_with fail;go_meet;obtain⟨q1,q2⟩:=e6.out;exact⟨(q1.setCell (zD _) _).setCell (zD _) _,(q2.set 0 _).set 1 _⟩
        · have e1:decide ((0:Int)<(i:Int))=false:=by simp;omega
          have bi:R.first=aft:=by have:=au.out;rw[if_neg dc]at this;exact this
          go_wp2_with fail;go_meet;exact⟨P0 _ _,bi ▸ Blk.aQ _ _ _⟩
      case rest=>
      obtain⟨cf,cb⟩:=hcut;have fd:=Fe f.length (by omega);have zA:=cb.lt;have d9:Bw w wc:=HH.out.1.trans (cf.mono (by omega));have ck:=Dr aft f aI;generalize hr:H8 aft f aI=r at ck;have av:Hid (Bw wo wc/\Blk wc wo.heap.size (E5 aft) 109/\Bw w wc):=⟨cf,cb,d9⟩;have cp:=Hd hr;clear cf cb d9 hr;clear s0 s1 f0 f1;go_wp2_with fail
      go_loopg[7,41] f.length (fun G sv iv wr=>∃(k:Nat) (dn:List Int) (B:List I0),k<=f.length/\G=f.length-k/\iv=.int .i64 (k:Int)/\dn.length=k/\B.length<=aI.length+k/\
        r=(dn++(H8 aft (f.drop k) B).1,(H8 aft (f.drop k) B).2)/\Bw w wr/\C0 (fun b=>b=sg\/wc.heap.size<=b) wc wr/\Blk wr wc.heap.size (N3 (dn++List.replicate (f.length-k) 0)) 3/\R4 wr sv B/\∀b,sv.ownBlock=some b->b=sg\/wc.heap.size<b)
      case atStart=>
        obtain⟨q1,q2,q3⟩:=av.out;refine⟨0, [],aI,by omega,rfl,rfl,rfl,by omega,?_,q3.alloc (by omega) _,(C0.refl _ _).alloc _,?_,?_,?_⟩
        · simpa using cp.out.symm
        · exact Blk.aQ _ _ _
        · exact(HH.out.2.2.2.2.2.1.aA q1).aA (P0 _ _)
        · intro b e;exact .inl (zE e).symm
      case round=>
        obtain⟨k,dn,B,fa,rfl,rfl,ao,ez,a6,J,a5,hI,hS,a2⟩:=hrel;obtain⟨sd,K,rfl,a9⟩:=hS.aT
        by_cases aq:k<f.length
        · have e1:decide ((k:Int)<(f.length:Int))=true:=by simp;omega
          rcases cj with h0|⟨kg,rfl⟩
          · omega
          have c0:=(HK.out.aA J).fS k aq;have c1:=(HK.out.aA J).fT k aq;have fk:kg<wr.heap.size:=M1 (HK.out.aA J) kg rfl;have bd:=av.out.2.1.kept a5 (fun e=>by rcases e with e|e <;>omega);have a0:wr.cell? ⟨wo.heap.size,0,none⟩=some (.int .u64 (aft.lo.toNat:Int)):=bd.cell 0;have a1:wr.cell? ⟨wo.heap.size,1,none⟩=some (.int .u64 (aft.hi.toNat:Int)):=bd.cell 1;have fh:=bd.lt;have zI:=hI.lt;have i2:(0:Int)<=(k:Int):=by omega
          have i3:(k:Int)<(f.length:Int):=by omega
          rw[QR aft f B k aq]at a6;generalize eg:f[k]=kk at c0 c1 a6;have co:=Hd a6;have aa:Hid (Bw w wr/\C0 (fun b=>b=sg\/wc.heap.size<=b) wc wr/\Blk wr wc.heap.size (N3 (dn++List.replicate (f.length-k) 0)) 3/\R4 wr (.slice sd B.length K) B/\∀b,(Value.slice sd B.length K).ownBlock=some b->b=sg\/wc.heap.size<b):=⟨J,a5,hI,hS,a2⟩;clear J a5 hI hS a2 a6 bd eg;go_wp2_with fail;refine(BX aft kk _).mono ?_;rintro e w4 ⟨rfl,d5⟩;generalize bx:aft.and kk=st;have bp:=Hd bx;clear bx;have b2:Bw wr w4:=(P0 wr _).trans (d5.mono (by simp));have dy:=Hd b2;have z4:=b2.size;clear d5 b2;go_wp2_with fail;have ce:Bw wr (w4.alloc (.cells (E5 st) 109)):=dy.out.alloc z4 _;refine(LU _ B st _ (aa.out.2.2.2.1.aA ce) (by omega)).mono ?_;rintro e w5 ⟨rfl,cd⟩;generalize cg:W5 B st=fr;have ac:Bw wr w5:=ce.trans (cd.mono (by simp;omega));have bf:=(Blk.aQ w4 (E5 st) 109).aA cd;have t0:w5.cell? ⟨w4.heap.size,0,none⟩=some (.int .u64 (st.lo.toNat:Int)):=bf.cell 0;have t1:w5.cell? ⟨w4.heap.size,1,none⟩=some (.int .u64 (st.hi.toNat:Int)):=bf.cell 1;have zT:=bf.lt;have az:=aa.out.2.2.1.aA ac;have c5:w5.cell? ⟨wc.heap.size,k,none⟩=some (.int .i64 0):=by rw[az.cell,ZY dn k f.length ao aq]
          have e9:=az.frozen k;have fi:=az.lt;have eu:w4.heap.size≠wc.heap.size:=by omega
          have a6:r=((dn++ [fr])++(H8 aft (f.drop (k+1)) (if fr=(B.length:Int)then B++ [st]else B)).1,(H8 aft (f.drop (k+1)) (if fr=(B.length:Int)then B++ [st]else B)).2):=by
            have:=co.out;rw[bp.out,cg]at this;rw[this,yF];rfl
          have bn:=Hd a6;have f3:=Hd cg;have d6:Bw w w5:=aa.out.1.trans (ac.mono (by have:=aa.out.1.size;omega));have dd:C0 (fun b=>b=sg\/wc.heap.size<=b) wc w5:=aa.out.2.1.aA ac;have d0:=aa.out.2.2.2.1.aA ac;have aw:Hid (Bw w w5/\C0 (fun b=>b=sg\/wc.heap.size<=b) wc w5/\Blk w5 wc.heap.size (N3 (dn++List.replicate (f.length-k) 0)) 3/\R4 w5 (.slice sd B.length K) B/\∀b,(Value.slice sd B.length K).ownBlock=some b->b=sg\/wc.heap.size<b):=⟨d6,dd,az,d0,aa.out.2.2.2.2⟩;clear cd ac ce bf az a6 cg d6 dd d0 aa co bp a0 a1 c0 c1
          by_cases ap:fr=(B.length:Int)
          · have e3:(fr==(B.length:Int))=true:=by simp[ap]
            obtain⟨ii,bj,bk,bl,bm⟩:=info_parts Tryz.eN;have b7:R4 ((w5.setCell ⟨wc.heap.size,k,none⟩ (.int .i64 fr)).alloc (.cells (E5 st) 109)) (.slice sd B.length K) B:=
              aw.out.2.2.2.1.kept ((C0.setCell (ex:=fun b=>b=wc.heap.size) (p:=⟨wc.heap.size,k,none⟩) (C0.refl _ _) (fun _=>rfl) _).alloc _) (fun b J e=>by rcases aw.out.2.2.2.2 b J with e'|e' <;>omega)
            have ax:=Hd b7;have e4:=Hd ap;clear b7 ap;go_wp2_with(at_builtin;(refine wpList_append_lies _ (by rfl) _ _ _ (by rfl) 0 109 ii _ 2 16 Tryz.underlying111 bj bk bl bm rfl (by omega) (.slice sd B.length K) B.length (N8 B) (by rfl) ax.out ⟨w5.heap.size,0,none⟩ 1 1 [.int .u64 (st.lo.toNat:Int),.int .u64 (st.hi.toNat:Int)] (by rfl) (by rfl) (World.news_of_block (cs:=E5 st) (t:=109) (fr:=(0,0)) (by have:=heap_alloc_new (w5.setCell ⟨wc.heap.size,k,none⟩ (.int .i64 fr)) (.cells (E5 st) 109);simpa using this)) (by simp[Value.oneCell']) (by omega) (by unfold maxLen;omega) (by omega) (by simp) (w5.heap.size+1) (by simp) ?_));intro gg cr w6 b8 Z bs et;obtain⟨q1,q2,q3,q4,q5⟩:=aw.out;have ae:C0 (fun b=>(Value.slice sd B.length K).ownBlock=some b) ((w5.setCell ⟨wc.heap.size,k,none⟩ (.int .i64 fr)).alloc (.cells (E5 st) 109)) w6:=⟨Z.os,Z.tape,Z.output,Z.size,fun k hk he=>Z.block k hk (fun e=>he e.symm)⟩;have cl:Bw w ((w5.setCell ⟨wc.heap.size,k,none⟩ (.int .i64 fr)).alloc (.cells (E5 st) 109)):=(q1.setCell (p:=⟨wc.heap.size,k,none⟩) (show w.heap.size<=wc.heap.size by omega) _).alloc (by simp;omega) _;have fm:=cl.size;have dq:Bw w w6:=cl.trans ⟨ae.os,ae.tape,ae.output,ae.size,fun b J=>ae.block b (by omega) (fun e=>by rcases q5 b e with e'|e' <;>omega)⟩;have dt:C0 (fun b=>b=sg\/wc.heap.size<=b) wc ((w5.setCell ⟨wc.heap.size,k,none⟩ (.int .i64 fr)).alloc (.cells (E5 st) 109)):=(q2.setCell (fun _=>.inr (zD _)) _).alloc _;have ds:C0 (fun b=>b=sg\/wc.heap.size<=b) wc w6:=dt.trans ae (fun b J e=>by rcases q5 b e with e'|e';exact .inl e';omega);have du:=((q3.set k (.int .i64 fr)).alloc (.cells (E5 st) 109)).kept ae (fun e=>by rcases q5 _ e with e'|e' <;>omega);have dv:=Vu b8;have ee:gg=sg\/wc.heap.size<gg:=by
              rcases bs with e|e
              · exact q5 _ e
              · omega
            have c9:Hid (Bw w w6/\C0 (fun b=>b=sg\/wc.heap.size<=b) wc w6/\Blk w6 wc.heap.size ((N3 (dn++List.replicate (f.length-k) 0)).setIfInBounds k (.int .i64 fr)) 3/\R4 w6 (.slice (some ⟨gg,0,none⟩) (B.length+1) cr) (B++ [st])):=⟨dq,ds,du,dv⟩;clear q1 q2 q3 q4 q5 dq ds du dv cl dt ae b8 Z bs aw ax c5 e9 t0 t1;go_wp2_with fail
            go_roundg (f.length- (k+1))
            case measure=>omega
            case rel=>
              obtain⟨q1,q2,q3,q4⟩:=c9.out;have bb:=bn.out;rw[if_pos e4.out]at bb;refine⟨k+1,dn++ [fr],B++ [st],by omega,rfl,by go_num,by simp[ao],by simp;omega,bb,q1,q2,?_,by simpa using q4,?_⟩
              · rw[<-GU dn k f.length fr ao aq,<-U3]
                exact q3
              · intro b e
                cases(zE e:gg=b);exact ee
          · have e3:(fr==(B.length:Int))=false:=by simp[ap]
            have e7:=Hd ap;clear ap;go_wp2_with fail
            go_roundg (f.length- (k+1))
            case measure=>omega
            case rel=>
              obtain⟨q1,q2,q3,q4,q5⟩:=aw.out;have bb:=bn.out;rw[if_neg e7.out]at bb;refine⟨k+1,dn++ [fr],B,by omega,rfl,by go_num,by simp[ao],by omega,bb,q1.setCell (p:=⟨wc.heap.size,k,none⟩) (show w.heap.size<=wc.heap.size by omega) _,q2.setCell (fun _=>.inr (zD _)) _,?_,?_,q5⟩
              · rw[<-GU dn k f.length fr ao aq,<-U3]
                exact q3.set k _
              · exact q4.kept (C0.setCell (ex:=fun b=>b=wc.heap.size) (p:=⟨wc.heap.size,k,none⟩) (C0.refl _ _) (fun _=>rfl) _) (fun b J e=>by rcases q5 b J with e'|e' <;>omega)
        · have e1:decide ((k:Int)<(f.length:Int))=false:=by simp;omega
          obtain rfl:k=f.length:=by omega
          rw[List.drop_length]at a6;simp only[H8,yS]at a6;subst a6;rw[yQ,List.replicate_zero,yS]at hI;have aj:=ck.2.1;have ff:0<B.length:=by simp at aj;omega
          have a3:=cq.out;rw[show gk=(gk-1)+1 by omega]at a3;unfold C4 at a3;rw[if_pos b6]at a3;simp only[au.out,cp.out]at a3
          by_cases bu:61<B.length
          · rw[if_pos bu]at a3
            have e2:decide ((60:Int)<(B.length:Int)-1)=true:=by simp;omega
            have a8:=(HH.out.2.1.aA av.out.1).kept a5 (fun e=>by rcases e with e|e;have:=(HH.out.2.2.2.2.2.2.2.2 sg rfl).1;omega;omega);have ak:Hid (Bw w wr/\Blk wr w.heap.size #[.slice none 0 0,.slice none 0 0] 63):=⟨J,a8⟩;have z0:wr.cell? ⟨w.heap.size,0,none⟩=some (.slice none 0 0):=a8.cell 0;have z1:wr.cell? ⟨w.heap.size,1,none⟩=some (.slice none 0 0):=a8.cell 1;have en:=a8.frozen 0;have eo:=a8.frozen 1;subst a3;clear J a5 hI hS a2 a8 aj;go_wp2_with fail;obtain⟨q1,q2⟩:=ak.out;exact bodyPost_ret (C3 Tryz.results45 _ _ w.heap.size 63 _ (0,0) _ rfl ((q2.set 0 _).set 1 _) Tryz.underlying63 rfl Tryz.gY) rfl ⟨(q1.setCell (zD _) _).setCell (zD _) _,rfl⟩
          · rw[if_neg bu]at a3
            have e2:decide ((60:Int)<(B.length:Int)-1)=false:=by simp;omega
            rcases a9 with h0|⟨sh,rfl⟩
            · omega
            have b4:i<B.length:=by simp at aj;omega
            have s0:=hS.fS i b4;have s1:=hS.fT i b4;have b3:B.getD i I0.none=B[i]:=by simp[b4]
            rw[b3]at a3;generalize B[i]=si at s0 s1 a3;have fo:sh<wr.heap.size:=M1 hS sh rfl;have i4:(i:Int)<(B.length:Int):=by omega
            obtain⟨p1,p2,p3,p4,p5,p6,p7,p8,p9⟩:=HH.out;have ar:=av.out.1;have fl:=ar.size;have a8:=(p2.aA ar).kept a5 (fun e=>by rcases e with e|e <;>omega);have cu:=(p3.aA ar).kept a5 (fun e=>by rcases e with e|e <;>omega);have cw:=(p4.aA ar).kept a5 (fun b J e=>by rcases e with e|e;subst e;exact(p9 _ rfl).2.1 J;have:=p4.olt b J;omega);have d1:=(p5.aA ar).kept a5 (fun b J e=>by rcases e with e|e;subst e;exact(p9 _ rfl).2.2 J;have:=M1 p5 b J;omega);have af:=O2.cC hI (by omega);rw[ao]at af;have c2:¬O sh:=by
              intro e;rcases a2 sh rfl with e'|e'
              · subst e';exact(p9 _ rfl).2.1 e
              · have:=p4.olt _ e;omega
            have c3:uv.ownBlock≠some sh:=by
              intro e;rcases a2 sh rfl with e'|e'
              · subst e';exact(p9 _ rfl).2.2 e
              · have:=M1 p5 _ e;omega
            have bz:w.heap.size+1<sh:=by rcases a2 sh rfl with e'|e' <;>omega
            have dj:sh≠wc.heap.size:=by rcases a2 sh rfl with e'|e' <;>omega
            have dk:∀b,uv.ownBlock=some b->w.heap.size+1<b/\b<wc.heap.size/\¬O b:=fun b e=>⟨(p8 b e).1,by have:=M1 p5 b e;omega,(p8 b e).2⟩
            have bw:∀k,O k->w.heap.size+1<k/\k<wc.heap.size:=fun k e=>⟨p7 k e,by have:=p4.olt k e;omega⟩
            have cm:=Hd a3;have ak:Hid (Bw w wr/\Blk wr w.heap.size #[.slice none 0 0,.slice none 0 0] 63/\Blk wr (w.heap.size+1) #[uv,pv] 63/\U4 wr O pv g.next/\O2 wr uv g.aB/\O2 wr (.slice (some ⟨wc.heap.size,0,none⟩) f.length f.length) dn/\R4 wr (.slice (some ⟨sh,0,none⟩) B.length K) B/\
              (∀b,uv.ownBlock=some b->w.heap.size+1<b/\b<wc.heap.size/\¬O b)/\(∀k,O k->w.heap.size+1<k/\k<wc.heap.size)/\¬O sh/\uv.ownBlock≠some sh):=⟨J,a8,cu,cw,d1,af,hS,dk,bw,c2,c3⟩
            have bo:=Hd (e8.out wr J si);clear J a5 hI hS a2 a8 cu cw d1 af dk bw c2 c3 p1 p2 p3 p4 p5 p6 p7 p8 p9 ar a3 aj b3 HH av cq;go_wp2_with fail;refine bo.out.mono ?_;rintro e w6 ⟨rfl,ad⟩;generalize R.aB si=ru at cm⊢;obtain⟨q1,q2,q3,q4,q5,q6,q7,q8,q9,ag,dr⟩:=ak.out;have m1:Bw w w6:=q1.trans (ad.mono q1.size);have m2:=q2.aA ad;have m3:=q3.aA ad;have m4:=q4.aA ad;have m5:=q5.aA ad;have m6:=q6.aA ad;have m7:=q7.aA ad;obtain⟨ud,D,rfl,_⟩:=m5.aT;have g0:w6.cell? ⟨w.heap.size+1,0,none⟩=some (.slice ud g.aB.length D):=m3.cell 0;have ea:=m3.frozen 0;have z6:=m3.lt;have em:wc.heap.size<w6.heap.size:=M1 m6 _ rfl;have ef:=bc.out.1;have es:g.aB.length<=1000:=by omega
            obtain⟨ii,bj,bk,bl,bm⟩:=info_parts Tryz.cG;have b7:=m5.aA (P0 w6 (.cells #[.int .i64 ru] 3));have ax:=Hd b7;have V:Hid (Bw w w6/\Blk w6 w.heap.size #[.slice none 0 0,.slice none 0 0] 63/\Blk w6 (w.heap.size+1) #[.slice ud g.aB.length D,pv] 63/\U4 w6 O pv g.next/\O2 w6 (.slice (some ⟨wc.heap.size,0,none⟩) f.length f.length) dn/\R4 w6 (.slice (some ⟨sh,0,none⟩) B.length K) B/\
              (∀b,(Value.slice ud g.aB.length D).ownBlock=some b->w.heap.size+1<b/\b<wc.heap.size/\¬O b)/\(∀k,O k->w.heap.size+1<k/\k<wc.heap.size)/\¬O sh/\(Value.slice ud g.aB.length D).ownBlock≠some sh):=⟨m1,m2,m3,m4,m6,m7,q8,q9,ag,dr⟩
            clear m1 m2 m3 m4 m5 m6 m7 ad q1 q2 q3 q4 q5 q6 q7 q8 q9 ag dr ak bo b7 ef s0 s1;go_wp2_with(at_builtin;(refine wpList_append_lies _ (by rfl) _ _ _ (by rfl) 0 3 ii _ 1 8 Tryz.underlying60 bj bk bl bm rfl (by omega) (.slice ud g.aB.length D) g.aB.length (g.aB.map (Value.int .i64)) (by rfl) ax.out ⟨w6.heap.size,0,none⟩ 1 1 [.int .i64 ru] (by rfl) (by rfl) (World.news_of_block (cs:=#[.int .i64 ru]) (t:=3) (fr:=(0,0)) (heap_alloc_new w6 _)) (by simp[Value.oneCell']) (by omega) (by unfold maxLen;omega) (by omega) (by simp) (w6.heap.size+1) (by simp) ?_));intro gf U w7 b9 M bt bv;have dh:=GQ V.out.1 (by omega) V.out.2.2.1 V.out.2.2.2.1 V.out.2.2.2.2.1 (fun k e=>(V.out.2.2.2.2.2.2.2.1 k e).1) V.out.2.2.2.2.2.2.1 V.out.2.2.2.2.2.1 (fun b e=>by cases(zE e:sh=b);exact⟨bz,V.out.2.2.2.2.2.2.2.2.2⟩) z6 em (by omega) b9 M bt bv _ rfl;have c4:(Value.slice ud g.aB.length D).ownBlock≠some (w.heap.size+1):=fun e=>by have:=(V.out.2.2.2.2.2.2.1 _ e).1;omega
            have c6:(Value.slice ud g.aB.length D).ownBlock≠some w.heap.size:=fun e=>by have:=(V.out.2.2.2.2.2.2.1 _ e).1;omega
            have b5:C0 (fun k=>(Value.slice ud g.aB.length D).ownBlock=some k) (w6.alloc (.cells #[.int .i64 ru] 3)) w7:=⟨M.os,M.tape,M.output,M.size,fun k hk he=>M.block k hk (fun e=>he e.symm)⟩;have d3:=((V.out.2.1.alloc (.cells #[.int .i64 ru] 3)).kept b5 c6).aG (p:=⟨w.heap.size+1,0,none⟩) (by simp) (.slice (some ⟨gf,0,none⟩) (g.aB.length+1) U);have a7:=(V.out.2.2.1.alloc (.cells #[.int .i64 ru] 3)).kept b5 c4;obtain⟨m1,m2,m3,m4,m5,dl,m6,m7,m8,m9,dm⟩:=dh;obtain⟨us,an,b1,bg⟩:=m3.ex;obtain⟨pd,Y,rfl,_⟩:=an.aT;have g7:w7.cell? ⟨w.heap.size+1,0,none⟩=some (.slice ud g.aB.length D):=a7.cell 0;have g8:w7.cell? ⟨w.heap.size+1,1,none⟩=some (.slice pd us.length Y):=a7.cell 1;have eb:=a7.frozen 0;have ec:=a7.frozen 1;have z7:w.heap.size+1<w7.heap.size:=a7.lt;have fg:us.length<=1000:=by rw[b1,bc.out.2];omega
            obtain⟨ij,hj,ej,ek,el⟩:=info_parts Tryz.dP;have di:=an.aA (P0 _ (.cells #[.slice (some ⟨wc.heap.size,0,none⟩) f.length f.length] 60));have cv:=m3.alloc (.cells #[.slice (some ⟨wc.heap.size,0,none⟩) f.length f.length] 60);have eh:¬O wc.heap.size:=fun e=>by have:=(V.out.2.2.2.2.2.2.2.1 _ e).2;omega
            have dg:¬O (w.heap.size+1):=fun e=>by have:=(V.out.2.2.2.2.2.2.2.1 _ e).1;omega
            have ei:¬O w.heap.size:=fun e=>by have:=(V.out.2.2.2.2.2.2.2.1 _ e).1;omega
            have ca:=Hd di;have HU:=Hd2 b1 bg;have ay:=Hd cv;have cn:Hid (Bw w (w7.setCell ⟨w.heap.size+1,0,none⟩ (.slice (some ⟨gf,0,none⟩) (g.aB.length+1) U))/\Blk (w7.setCell ⟨w.heap.size+1,0,none⟩ (.slice (some ⟨gf,0,none⟩) (g.aB.length+1) U)) (w.heap.size+1) #[.slice (some ⟨gf,0,none⟩) (g.aB.length+1) U,.slice pd us.length Y] 63/\
              O2 (w7.setCell ⟨w.heap.size+1,0,none⟩ (.slice (some ⟨gf,0,none⟩) (g.aB.length+1) U)) (.slice (some ⟨wc.heap.size,0,none⟩) f.length f.length) dn/\O2 (w7.setCell ⟨w.heap.size+1,0,none⟩ (.slice (some ⟨gf,0,none⟩) (g.aB.length+1) U)) (.slice (some ⟨gf,0,none⟩) (g.aB.length+1) U) (g.aB++ [ru])/\
              R4 (w7.setCell ⟨w.heap.size+1,0,none⟩ (.slice (some ⟨gf,0,none⟩) (g.aB.length+1) U)) (.slice (some ⟨sh,0,none⟩) B.length K) B/\Blk (w7.setCell ⟨w.heap.size+1,0,none⟩ (.slice (some ⟨gf,0,none⟩) (g.aB.length+1) U)) w.heap.size #[.slice none 0 0,.slice none 0 0] 63/\
              (∀k,O k->w.heap.size+1<k/\k<wc.heap.size)/\¬O sh/\¬O gf/\gf≠sh):=⟨m1,m2,m4,m5,dl,d3,V.out.2.2.2.2.2.2.2.1,V.out.2.2.2.2.2.2.2.2.1,m8,dm sh rfl⟩
            clear m1 m2 m3 m4 m5 m8 dl dm d3 a7 an b1 bg di cv V ax b9 M bt bv b5 c4 c6 g0 ea bj bk bl bm;go_wp2_with(at_builtin;(refine wpList_append_lies _ (by rfl) _ _ _ (by rfl) 0 60 ij _ 1 24 Tryz.underlying61 hj ej ek el rfl (by omega) (.slice pd us.length Y) us.length us (by rfl) ca.out ⟨w7.heap.size,0,none⟩ 1 1 [.slice (some ⟨wc.heap.size,0,none⟩) f.length f.length] (by rfl) (by rfl) (World.news_of_block (cs:=#[.slice (some ⟨wc.heap.size,0,none⟩) f.length f.length]) (t:=60) (fr:=(0,0)) (by have:=heap_alloc_new (w7.setCell ⟨w.heap.size+1,0,none⟩ (.slice (some ⟨gf,0,none⟩) (g.aB.length+1) U)) (.cells #[.slice (some ⟨wc.heap.size,0,none⟩) f.length f.length] 60);simpa using this)) (by simp[Value.oneCell']) (by omega) (by unfold maxLen;omega) (by omega) (by simp) (w7.heap.size+1) (by simp) ?_));intro gg bq w8 ba ai ab df;obtain⟨q1,q2,q3,q5,q6,q7,q4,q8,q9,ag⟩:=cn.out;obtain⟨cx,a4⟩:=U4.push ay.out ca.out HU.out.1 (fun i v hv=>⟨((HU.out.2 i v hv).1).aA (P0 _ _),(HU.out.2 i v hv).2⟩) (q3.aA (P0 _ _)) eh ba ai (by simpa using ab) df;have be:=(q2.alloc (.cells #[.slice (some ⟨wc.heap.size,0,none⟩) f.length f.length] 60)).kept a4 dg;have d4:=(q7.alloc (.cells #[.slice (some ⟨wc.heap.size,0,none⟩) f.length f.length] 60)).kept a4 ei;have d2:=(q5.aA (P0 _ (.cells #[.slice (some ⟨wc.heap.size,0,none⟩) f.length f.length] 60))).kept a4 (fun b J=>by cases(zE J:gf=b);exact q9);have cz:=(q6.aA (P0 _ (.cells #[.slice (some ⟨wc.heap.size,0,none⟩) f.length f.length] 60))).kept a4 (fun b J=>by cases(zE J:sh=b);exact q8);have c8:w8.cell? ⟨w.heap.size+1,1,none⟩=some (.slice pd us.length Y):=be.cell 1;have f8:=be.frozen 1;have ep:gf<w7.heap.size:=by have:=M1 q5 gf rfl;simpa using this
            have ew:sh<w7.heap.size:=by have:=M1 q6 sh rfl;simpa using this
            have da:gf≠gg:=by
              intro e;subst e;rcases ab with e|e
              · exact q9 (ay.out.ob _ e)
              · omega
            have db:sh≠gg:=by
              intro e;subst e;rcases ab with e|e
              · exact q8 (ay.out.ob _ e)
              · omega
            have er:w.heap.size+1<gg:=by
              rcases ab with e|e
              · exact(q4 _ (ay.out.ob _ e)).1
              · omega
            have d7:Bw w w8:=(q1.alloc (by simp;omega) _).trans ⟨a4.os,a4.tape,a4.output,a4.size,fun k hk=>a4.block k (by simp;omega) (fun e=>by have:=(q4 _ e).1;omega)⟩;have c9:Hid (U4 w8 (fun k=>O k\/k=gg\/k=wc.heap.size) (.slice (some ⟨gg,0,none⟩) (us.length+1) bq) (g.next++ [dn])/\Blk w8 (w.heap.size+1) #[.slice (some ⟨gf,0,none⟩) (g.aB.length+1) U,.slice pd us.length Y] 63/\Bw w w8/\O2 w8 (.slice (some ⟨gf,0,none⟩) (g.aB.length+1) U) (g.aB++ [ru])/\R4 w8 (.slice (some ⟨sh,0,none⟩) B.length K) B/\Blk w8 w.heap.size #[.slice none 0 0,.slice none 0 0] 63/\(∀k,O k->w.heap.size+1<k/\k<wc.heap.size)/\¬O sh/\¬O gf/\gf≠sh):=⟨cx,be,d7,d2,cz,d4,q4,q8,q9,ag⟩;clear cx a4 be d4 d2 cz d7 q1 q2 q3 q4 q5 q6 q7 q8 q9 ag ba ai ab cn ay HU ca g7 g8 eb ec;go_wp2_with fail
            go_roundg (gk-1)
            case measure=>omega
            case rel=>
              obtain⟨q1,q2,q3,q5,q6,q7,q4,q8,q9,ag⟩:=c9.out;have f7:=HG.out;have ey:=ck.2.1;have de:C0 (fun k=>k=w.heap.size+1) w8 (w8.setCell ⟨w.heap.size+1,1,none⟩ (.slice (some ⟨gg,0,none⟩) (us.length+1) bq)):=C0.setCell (ex:=fun k=>k=w.heap.size+1) (p:=⟨w.heap.size+1,1,none⟩) (C0.refl _ _) (fun _=>rfl) _;refine⟨i+1,B,⟨g.aB++ [ru],g.next++ [dn]⟩,(fun k=>O k\/k=gg\/k=wc.heap.size),_,_,by go_num,by omega,by omega,by omega,by omega,cm.out,by simp[bc.out.1],by simp[bc.out.2],q3.setCell (p:=⟨w.heap.size+1,1,none⟩) (show w.heap.size<=w.heap.size+1 by omega) _,q7.aG (p:=⟨w.heap.size+1,1,none⟩) (by simp) _,q2.set 1 _,?_,?_,?_,?_,?_,?_⟩
              · exact q1.setCell (fun e=>by rcases e with e|e|e;exact dg e;simp at e;omega;simp at e;omega) _
              · have:=q5.kept de (fun b J e=>by cases(zE J:gf=b);omega)
                exact this
              · exact q6.kept de (fun b J e=>by cases(zE J:sh=b);omega)
              · intro k e
                rcases e with e|e|e
                · exact(q4 k e).1
                · omega
                · omega
              · intro b J
                cases(zE J:gf=b);refine⟨by omega,fun e=>?_⟩;rcases e with e|e|e
                · exact q9 e
                · exact da e
                · exact m7 e
              · intro b J
                cases(zE J:sh=b);refine⟨bz,fun e=>?_,fun e=>ag (zE e)⟩;rcases e with e|e|e
                · exact q8 e
                · exact db e
                · exact dj e
    · have e0:decide ((i:Int)<(aI.length:Int))=false:=by simp;omega
      rw[show gk=(gk-1)+1 by omega]at hX;unfold C4 at hX;rw[if_neg b6]at hX;subst hX;obtain⟨ud,D,rfl,_⟩:=hU.aT;obtain⟨us,an,b1,bg⟩:=b0.ex;obtain⟨pd,Y,rfl,_⟩:=an.aT;have p0:wr.cell? ⟨w.heap.size+1,0,none⟩=some (.slice ud g.aB.length D):=hP.cell 0;have p1:wr.cell? ⟨w.heap.size+1,1,none⟩=some (.slice pd us.length Y):=hP.cell 1;have z0:wr.cell? ⟨w.heap.size,0,none⟩=some (.slice none 0 0):=hZ.cell 0;have z1:wr.cell? ⟨w.heap.size,1,none⟩=some (.slice none 0 0):=hZ.cell 1;have en:=hZ.frozen 0;have eo:=hZ.frozen 1;have ak:Hid (Bw w wr/\Blk wr w.heap.size #[.slice none 0 0,.slice none 0 0] 63/\U4 wr O (.slice pd us.length Y) g.next/\O2 wr (.slice ud g.aB.length D) g.aB/\(∀k,O k->w.heap.size+1<k)/\∀b,(Value.slice ud g.aB.length D).ownBlock=some b->w.heap.size+1<b):=⟨J,hZ,b0,hU,hO,fun b e=>(bh b e).1⟩;clear J hZ hP b0 hU hS hO bh a2 an b1 bg hG ci ch a9;go_wp2_with fail;obtain⟨q1,q2,q3,q4,q5,q6⟩:=ak.out;have ed:=(q1.setCell (p:=⟨w.heap.size,0,none⟩) (zD _) (.slice ud g.aB.length D)).setCell (p:=⟨w.heap.size,1,none⟩) (zD _) (.slice pd us.length Y);refine bodyPost_ret (C3 Tryz.results45 _ _ w.heap.size 63 _ (0,0) _ rfl ((q2.set 0 _).set 1 _) Tryz.underlying63 rfl Tryz.gY) rfl ?_;have r1:=(q3.setCell (a:=⟨w.heap.size,0,none⟩) (fun e=>by have:=q5 _ e;simp at this;omega) (.slice ud g.aB.length D)).setCell (a:=⟨w.heap.size,1,none⟩) (fun e=>by have:=q5 _ e;simp at this;omega) (.slice pd us.length Y);have r2:=(q4.kept (C0.setCell (ex:=fun k=>k=w.heap.size) (p:=⟨w.heap.size,0,none⟩) (C0.refl _ _) (fun _=>rfl) (.slice ud g.aB.length D)) (fun b J e=>by have:=q6 b J;omega)).kept (C0.setCell (ex:=fun k=>k=w.heap.size) (p:=⟨w.heap.size,1,none⟩) (C0.refl _ _) (fun _=>rfl) (.slice pd us.length Y)) (fun b J e=>by have:=q6 b J;omega);exact⟨ed,.inr ⟨g,_,_,rfl,rfl,U4.fU r1 r2⟩⟩
end Go.Proofs.YtcckhngbdoiikaaGreat

namespace Go.Proofs.YtcckhngbdoiikaaGreat
theorem Pk.mono{n m:Nat}{f:List Int}(h:Pk n f)(D:n<=m):Pk m f:=fun tt B=>by
 rcases h tt B with e|e
 ·exact .inl e
 ·exact .inr (by omega)
theorem QO(f:I0):∀(B h:List I0),Pk (H8 f B h).2.length (H8 f B h).1
 | [],h=>by intro tt G;simp[H8]at G
 |k::ks,h=>by
  have M:=QO f ks (if W5 h (f.and k)=(h.length:Int)then h++ [f.and k]else h);have D:=Dr f ks (if W5 h (f.and k)=(h.length:Int)then h++ [f.and k]else h);unfold H8;intro tt G;rw[zU]at G;rcases G with e|e
  ·subst e;simp only;unfold W5 at D⊢;split
   ·exact .inl rfl
   ·rename_i J;rw[if_neg J]at D
    right
    have U:=Th h (f.and k);refine⟨by omega,?_⟩
    by_cases K:(W8 h (f.and k):Int)=(h.length:Int)
    ·rw[if_pos K]at D⊢;have:=D.2.1;simp only[zL,yH,List.length_nil]at this;omega
    ·rw[if_neg K]at D⊢;have:=D.2.1;omega
  ·exact M tt e
theorem Kl(R:E0)(f:List I0):∀(n i:Nat) (B:List I0) (g J:B0),C4 R f n i B g=some J->g.aB.length=i->g.next.length=i->i<=B.length->B.length<=61->0<B.length->
  (∀D∈g.next,D.length=f.length/\Pk B.length D)->GOk J f.length/\0<J.aB.length/\J.aB.length<=61
 |0,i,B,g,J,h,_,_,_,_,_,_=>by simp[C4]at h
 |n+1,i,B,g,J,h,h1,h2,h3,h4,h5,h6=>by
  unfold C4 at h
  by_cases K:i<B.length
  ·rw[if_pos K]at h;generalize M:(if 0<i then R.after (B.getD i I0.none)else R.first)=aft at h;have U:=Dr aft f B;have X:=QO aft f B;simp only at h;split at h
   ·cases h
   ·refine Kl R f n (i+1) _ _ J h (by simp[h1]) (by simp[h2]) (by omega) (by omega) (by omega) ?_;intro D G;simp at G;rcases G with e|e
    ·exact⟨(h6 D e).1,(h6 D e).2.mono U.2.1⟩
    ·subst e;exact⟨U.1,X⟩
  ·rw[if_neg K]at h;cases h;have Y:B.length=i:=by omega
   refine⟨⟨by omega,fun j V=>?_⟩,by omega,by omega⟩;have W:g.next.getD j []∈g.next:=by simp[V]
   have:=h6 _ W;rw[Y,<-h1]at this;exact this
theorem K8{R:E0}{f:List I0}{g:B0}(h:E6 R f=some g):GOk g f.length/\0<g.aB.length/\g.aB.length<=61:=
 Kl R f 63 0 [I0.none] B0.aQ g h rfl rfl (by simp) (by simp) (by simp) (fun D B=>by simp[B0.aQ]at B)
theorem Z4{g:B0}{K:Nat}(h:GOk g K):GOk (G0 g) K:=by
 refine⟨by simp[G0,h.len],fun i M=>?_⟩;have f:i<g.next.length:=by simpa[G0]using M
 have J:(G0 g).next.getD i []=N4 (Oa g) (g.next.getD i []):=by simp[G0,f]
 rw[J];obtain⟨D,G⟩:=h.row i f;refine⟨by simpa[N4]using D,fun tt B=>?_⟩;unfold N4 at B;rw[List.mem_map]at B;obtain⟨x,U,rfl⟩:=B;split
 ·exact G x U
 ·exact .inl rfl
theorem Rq(g:B0):∀(f:Nat) (aE:List Int) (B:Nat),(∀x∈aE,0<=x/\x<(g.aB.length:Int))->∀x∈S8 g f aE B,0<=x/\x<(g.aB.length:Int)
 |0,aE,B,h=>h
 |f+1,aE,B,h=>by
  have G:=P9 g aE g.aB.length;have D:∀x∈(M0 g aE g.aB.length).1,0<=x/\x<(g.aB.length:Int):=fun x J=>by have:=G.1 x J;have:=G.2;omega
  unfold S8;split
  ·exact D
  ·exact Rq g f _ _ D
theorem R8(g:B0)(h:0<g.aB.length):∀x∈N1 g,0<=x/\x<(g.aB.length:Int):=
 Rq g _ _ _ (fun x f=>by rw[List.mem_replicate]at f;omega)
end Go.Proofs.YtcckhngbdoiikaaGreat

namespace Go.Proofs.YtcckhngbdoiikaaGreat
open Go.RowKit Go.Deep
def S6(f:Nat->Nat)(B h:Value):Array Value:=G6 f++#[B,h]
theorem Tf(f:Nat->Nat)(B h:Value):(S6 f B h).size=258:=by simp[S6,Y6]
theorem ZS:Tryz.zeroCells65=S6 (fun _=>0) (.slice none 0 0) (.slice none 0 0):=by kernel_rfl
theorem Tryz.fW:(Tryz.prog.info? 65).map (·.size)=some 258:=by kernel_rfl
theorem UK(f:Nat->Nat)(B h:Value)(w:World):(Instr.build 65 #[(0,.agg (G6 f)),(1,.agg #[B,h])]).run Tryz.prog w=.ok (.agg (S6 f B h)) w:=by kernel_rfl
theorem TK(f:Nat->Nat)(B h:Value)(w:World):(Instr.build 67 #[(0,.agg (S6 f B h))]).run Tryz.prog w=.ok (.agg (S6 f B h)) w:=by kernel_rfl
end Go.Proofs.YtcckhngbdoiikaaGreat
