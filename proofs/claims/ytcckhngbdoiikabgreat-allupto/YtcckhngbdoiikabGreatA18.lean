import Derived.Test.YtcckhngbdoiikabGreatA16
import Derived.Deep.MidRow
set_option maxRecDepth 20000
set_option maxHeartbeats 12800000
set_option linter.unusedVariables false
namespace Go.Proofs.YtcckhngbdoiikabGreat
open Go.RowKit Go.Deep
def K6(f:Nat->Nat):Array Value:=(Array.range 256).map (fun i=>.int .i64 (f i:Int))
theorem D7(A:Nat->Nat):(K6 A).size=256:=by simp[K6]
theorem Ug(A:Nat->Nat)(i:Nat)(h:i<256):(K6 A)[i]?=some (.int .i64 (A i:Int)):=by
 simp[K6,h]
theorem RC(A:Nat->Nat):(K6 A).all (·.oneCell')=true:=by
 rw[Array.all_eq_true_iff_forall_mem];intro v f;simp[K6]at f;obtain⟨i,_,rfl⟩:=f;rfl
theorem Gm{A B:Nat->Nat}(h:∀i,i<256->A i=B i):K6 A=K6 B:=by
 unfold K6;apply Array.ext_getElem?;intro j;simp only[Array.getElem?_map]
 by_cases f:j<256
 ·simp[f,h j f]
 ·simp[f]
theorem LS(A:Nat->Nat)(i:Nat)(v:Nat)(h:i<256):(K6 A).setIfInBounds i (.int .i64 v)=K6 (fun j=>if j=i then v else A j):=by
 apply Array.ext_getElem?;intro j;rw[xD]
 by_cases f:j<256
 ·rw[Ug _ j f]
  by_cases e:i=j
  ·subst e;rw[if_pos rfl,if_pos (by rw[D7];exact h),Ug _ _ h,if_pos rfl]
  ·rw[if_neg e,Ug _ j f,if_neg (fun B=>e B.symm)]
 ·rw[Array.getElem?_eq_none (by rw[D7];omega:(K6 _).size<=j)]
  by_cases e:i=j
  ·omega
  ·rw[if_neg e,Array.getElem?_eq_none (by rw[D7];omega)]
theorem EV:Tryz.zeroCells67=K6 (fun _=>0):=by kernel_rfl
theorem Tryz.iA:(Tryz.prog.info? 67).map (·.size)=some 256:=by kernel_rfl
theorem NS(f:Nat->Nat)(b:Nat)(h:b<256):(K6 (fun j=>if j<b then f j else 0)).setIfInBounds b (.int .i64 (f b:Int))=K6 (fun j=>if j<b+1 then f j else 0):=by
 rw[LS _ _ _ h];apply Gm;intro i _
 by_cases e:i=b
 ·subst e;simp
 ·by_cases h:i<b
  ·simp[e,h,show i<b+1 by omega]
  ·simp[e,h,show ¬i<b+1 by omega]
theorem ZZ{A:Nat->Nat}{f:Array Oper}{rest:List Oper}{o:Oper}{a:Act}{w:World}{Q:Exit->Act->World->Prop}(B:o.guard=none)(x:Operand)(G:o.op=.load 67 x)
  (g:Nat) (J:a.eval x=.pointer (some ⟨g,0,none⟩)) (D:Blk w g (K6 A) 67)
  (h:wpList Tryz.prog f Q rest (a.put o.dst (.agg (K6 A))) w):wpList Tryz.prog f Q (o::rest) a w:=
 wpList_load_row B 67 x G g J 67 _ (0,0) _ D Tryz.underlying67 rfl (by rw[D7];exact Tryz.iA) h
theorem WO{A:Nat->Nat}{D:Array Oper}{rest:List Oper}{o:Oper}{a:Act}{w:World}{Q:Exit->Act->World->Prop}(G:o.guard=none)(x y:Operand)(K:o.op=.store 67 x y)
  (g:Nat) (M:a.eval x=.pointer (some ⟨g,0,none⟩)) (U:a.eval y=.agg (K6 A)) {B:Array Value} (J:Blk w g B 67) (f:B.size=256)
  (h:wpList Tryz.prog D Q rest (a.put o.dst undef) (w.setRow g (K6 A))):wpList Tryz.prog D Q (o::rest) a w:=
 wpList_store_row G 67 x y K g _ M U 67 _ J (by rw[D7];exact Tryz.iA) (by rw[D7];exact f) (RC _) h
theorem OZ{D:Array Oper}{rest:List Oper}{o:Oper}{a:Act}{w:World}{Q:Exit->Act->World->Prop}(G:o.guard=none)(x y:Operand)(K:o.op=.store 67 x y)
  (g:Nat) (M:a.eval x=.pointer (some ⟨g,0,none⟩)) (U:a.eval y=.agg Tryz.zeroCells67) {B:Array Value} (J:Blk w g B 67) (f:B.size=256)
  (h:wpList Tryz.prog D Q rest (a.put o.dst undef) (w.setRow g (K6 (fun _=>0)))):wpList Tryz.prog D Q (o::rest) a w:=
 WO G x y K g M (by rw[U,EV]) J f h
theorem LY:Tryz.zeroCells67.size=256:=Tryz.zeroCells67_size
def Be(al:Nat->I0):List Value:=W8 ((List.range 256).map al)
theorem IM{w:World}{gb:Nat}{R:E0}{B D:Value}(h:Blk w gb (D5 R.aJ R.first B D) 126):w.rangeAt gb 0 (Be R.aJ):=by
 intro j v f;have G:j<512:=by
  have:=(List.getElem?_eq_some_iff.1 f).1;rw[Be,N2]at this;exact this
 rw[yX,h.cell,D5,yT,zR (by rw[N2];omega)];exact f
theorem Tryz.kP:(Tryz.prog.info? 123).map (·.size)=some 512:=by kernel_rfl
theorem Ac9{al:Nat->I0}{f:Array Oper}{rest:List Oper}{o:Oper}{a:Act}{w:World}{Q:Exit->Act->World->Prop}(B:o.guard=none)(x:Operand)(G:o.op=.load 123 x)
  (g:Nat) (J:a.eval x=.pointer (some ⟨g,0,none⟩)) (D:w.rangeAt g 0 (Be al))
  (h:wpList Tryz.prog f Q rest (a.put o.dst (.agg (Be al).toArray)) w):wpList Tryz.prog f Q (o::rest) a w:=
 wpList_load_mid B 123 x G g 0 J (Be al) _ D Tryz.underlying123 rfl (by rw[Be,N2];exact Tryz.kP) h
theorem BB{w w':World}{g o:Nat}{cs:List Value}(h:w.rangeAt g o cs)(B:g<w.heap.size)(f:Bw w w'):w'.rangeAt g o cs:=fun j v D=>by
 rw[f.cell (p:=⟨g,o+j,none⟩) B];exact h j v D
theorem W4.kept{w w':World}{v:Value}{l:List I0}{ex:Nat->Prop}(h:W4 w v l)(k:C0 ex w w')(f:∀b,v.ownBlock=some b->¬ex b):W4 w' v l:=K0 h k f
theorem W4.aV{w:World}{v:Value}{l:List I0}(h:W4 w v l):∃(B:Option Addr) (f:Nat),v=.slice B l.length f/\(l.length=0\/∃g,B=some ⟨g,0,none⟩):=by
 obtain⟨_,B,f,rfl,D⟩:=P0 h;refine⟨B,f,rfl,?_⟩;rcases D with⟨_,e⟩|⟨g,_,e,_⟩
 ·exact .inl e
 ·exact .inr ⟨g,e⟩
theorem W4.fZ{w:World}{l:List I0}{g f:Nat}(h:W4 w (.slice (some ⟨g,0,none⟩) l.length f) l)(j:Nat)(B:j<l.length):w.cell? ⟨g,j*2,none⟩=some (.int .u64 (l[j].lo.toNat:Int)):=by
 rw[Y0 h _ (by omega),Mc _ j B]
theorem W4.gA{w:World}{l:List I0}{g f:Nat}(h:W4 w (.slice (some ⟨g,0,none⟩) l.length f) l)(j:Nat)(B:j<l.length):w.cell? ⟨g,j*2+1,none⟩=some (.int .u64 (l[j].hi.toNat:Int)):=by
 rw[Y0 h _ (by omega),Nc _ j B]
theorem Qv{w':World}{l:List I0}{s:I0}{g f:Nat}(h:w'.ownsRow 0 122 2 (.slice (some ⟨g,0,none⟩) (l.length+1) f) (l.length+1) (W8 l++ [.int .u64 (s.lo.toNat:Int),.int .u64 (s.hi.toNat:Int)])):
  W4 w' (.slice (some ⟨g,0,none⟩) (l.length+1) f) (l++ [s]):=by
 unfold W4;rw[zL,Rg];exact h
theorem VW(w:World):(isAgg 122).run Tryz.prog w=.ok true w:=by kernel_rfl
theorem OU(w:World):(Go.sizeOf 122).run Tryz.prog w=.ok 2 w:=by kernel_rfl
theorem Ab7(w:World):(Go.underlying 123).run Tryz.prog w=.ok (.array 256 122) w:=by kernel_rfl
theorem IJ(al:Nat->I0)(b:Nat)(h:b<256)(w:World):(Instr.index 123 (.agg (Be al).toArray) (.int .i64 b)).run Tryz.prog w=.ok (Qg (al b)) w:=by
 have B:(0:Int)<=(b:Int)/\(b:Int)<((256:Nat):Int):=by omega
 have D:(Be al).toArray.extract (b*2) (b*2+2)=K5 (al b):=by
  apply Array.ext_getElem?;intro j;have f:(Be al).toArray.size=512:=by simp only[List.size_toArray];exact N2 al
  rw[Array.getElem?_extract]
  match j with
  |0=>rw[if_pos (by rw[f];omega),yT,Nat.add_zero,Be,Mc _ b (by simpa using h)];simp
  |1=>rw[if_pos (by rw[f];omega),yT,Be,Nc _ b (by simpa using h)];simp
  |j+2=>rw[if_neg (by rw[f];omega)];simp
 simp only[Instr.index,asIntOf,Sem.run_bind,Sem.run_pure,Result.andThen_ok,Ab7,B,and_self,if_true,OU,Go.part,VW,zH,D]
theorem OB(R:E0)(gb:Nat)(O:Nat->Prop)(fv lv:Value)(w:World)(h:C1 w gb O R fv lv):
  Calls Tryz.prog 55 #[.pointer (some ⟨gb,0,none⟩)] w fun e w'=>∃kv,e=.returned (.tuple #[.agg (K6 (D3 R.aJ)),kv])/\W4 w' kv (V0 R.aJ 256)/\Bw w w':=by
 have aa:=IM h.aO;have an:=h.aO.lt;generalize R.aJ=al at aa⊢;have hW:Bw w ((((w.alloc (.cells Tryz.zeroCells67 67)).alloc (.cells Tryz.zeroCells67 67)).setRow (w.heap.size+1) (K6 (fun _=>0))).alloc (.cells #[] 122)):=
  (I2 (F6 _ _ _) (by omega) _).alloc (by simp;omega) _
 have ac:=Hd (BB aa an hW);have a0:=IJ al;have am:=Hd a0;clear h aa a0;go_enter Tryz.func55,Tryz.ntmps55;go_wp2_with(first|refine OZ rfl (.tmp 4) (.tmp 9) rfl (w.heap.size+1) rfl rfl (Blk.dX _ _ _ _) LY ?_|refine Ac9 rfl (.tmp 13) rfl gb rfl ac.out ?_)
 go_loopg[5,15] 256 (fun G kv i wr=>∃b:Nat,b<=256/\G=256-b/\i=.int .i64 b/\Bw w wr/\Blk wr w.heap.size Tryz.zeroCells67 67/\
  Blk wr (w.heap.size+1) (K6 (fun j=>if j<b then D3 al j else 0)) 67/\W4 wr kv (V0 al b)/\∀k,kv.ownBlock=some k->w.heap.size+1<k)
 case atStart=>
  refine⟨0,by omega,rfl,rfl,hW,?_,?_,?_,?_⟩
  ·exact((((Blk.aR w Tryz.zeroCells67 67).alloc _).aP (by omega) _).alloc _)
  ·have e1:K6 (fun j=>if j<0 then D3 al j else 0)=K6 (fun _=>0):=Gm (fun i _=>by simp);rw[e1];exact((Blk.dX w (.cells Tryz.zeroCells67 67) Tryz.zeroCells67 67).setRow _).alloc _
  ·have e1:=Blk.aR (((w.alloc (.cells Tryz.zeroCells67 67)).alloc (.cells Tryz.zeroCells67 67)).setRow (w.heap.size+1) (K6 (fun _=>0))) #[] 122;refine J5 (cur:=#[]) (by rfl) (by simpa using e1) (zD _) (by unfold maxLen;omega) rfl rfl
  ·intro k e;cases(zE e:w.heap.size+1+1=k);omega
 case round=>
  obtain⟨b,ax,rfl,rfl,Z,hZ,hK,hS,a1⟩:=hrel;clear hW ac;have ap:=Gk al b
  by_cases a2:b<256
  ·have e0:decide ((b:Int)<256)=true:=by simp;omega
   have a0:=am.out b a2;have J:V0 al (b+1)=if H9 (V0 al b) (al b)=(V0 al b).length then V0 al b++ [al b]else V0 al b:=rfl
   have ag:D3 al b=H9 (V0 al b) (al b):=rfl;have K:=NS (D3 al) b a2;rw[ag]at K;generalize hl:V0 al b=l at hS ap J K;generalize al b=s at a0 J K;have af:=Fi l s;generalize hF:H9 l s=F at af J K;obtain⟨kd,B,rfl,V⟩:=hS.aV;have k0:wr.cell? ⟨w.heap.size+1,b,none⟩=some (.int .i64 0):=by rw[hK.cell,Ug _ b a2];simp
   have av:=hK.frozen b;have zK:=hK.lt;have i0:(0:Int)<=(b:Int):=by omega
   have i1:(b:Int)<256:=by omega
   have HF:=Hd hF;have ad:=Hd J;have a5:=Hd K;have HH:Hid (Bw w wr/\Blk wr w.heap.size Tryz.zeroCells67 67/\Blk wr (w.heap.size+1) (K6 (fun j=>if j<b then D3 al j else 0)) 67/\W4 wr (.slice kd l.length B) l/\∀k,(Value.slice kd l.length B).ownBlock=some k->w.heap.size+1<k):=⟨Z,hZ,hK,hS,a1⟩;clear Z hZ hK hS a1 hF J K hl ag;obtain⟨U,rfl⟩:∃U:World,U=wr:=⟨_,rfl⟩;go_wp2_with fail
   go_loopg[8] l.length (fun G i wr=>∃(k m:Nat),k<=l.length/\G=l.length-k/\i=.int .i64 k/\wr=(U.alloc (.cells (K5 s) 122)).drewN m/\k+H9 (l.drop k) s=F)
   case atStart=>exact⟨0,0,by omega,rfl,rfl,rfl,by simpa using HF.out⟩
   case round=>
    obtain⟨k,m,hk,rfl,rfl,rfl,D⟩:=hrel;clear HF
    by_cases W:k<l.length
    ·have e1:decide ((k:Int)<(l.length:Int))=true:=by simp;omega
     rcases V with h0|⟨kg,rfl⟩
     ·omega
     have r0:=HH.out.2.2.2.1.fZ k W;have r1:=HH.out.2.2.2.1.gA k W;have az:kg<U.heap.size:=Q1 HH.out.2.2.2.1 kg rfl;have i2:(0:Int)<=(k:Int):=by omega
     have i3:(k:Int)<(l.length:Int):=by omega
     have a7:=Hd D;clear D;cases hb1:((l[k].lo.toNat:Int)==(s.lo.toNat:Int))with
     |false=>
      have HN:=Hd (I0.jN hb1);go_wp2_with fail;go_quiet(fail);go_wp2_with fail
      go_roundg (l.length- (k+1))
      case measure=>omega
      case rel=>
       have D:=a7.out;rw[Tg l s k W,if_neg HN.out]at D;exact⟨k+1,_,by omega,rfl,by go_num,rfl,by omega⟩
     |true=>
      cases hb2:((l[k].hi.toNat:Int)==(s.hi.toNat:Int))with
      |false=>
       have HN:=Hd (I0.jM hb2);go_wp2_with fail;go_quiet(fail);go_wp2_with fail
       go_roundg (l.length- (k+1))
       case measure=>omega
       case rel=>
        have D:=a7.out;rw[Tg l s k W,if_neg HN.out]at D;exact⟨k+1,_,by omega,rfl,by go_num,rfl,by omega⟩
      |true=>
       have hN:=I0.jI hb1 hb2;have a9:F=k:=by
        have D:=a7.out;rw[Tg l s k W,if_pos hN]at D;omega
       subst a9;have e2:((F:Int)==(l.length:Int))=false:=by simp;omega
       clear hN;go_wp2_with fail;go_quiet(fail);go_wp2_with fail
       go_roundg (256- (b+1))
       case measure=>omega
       case rel=>
        obtain⟨q1,q2,Y,q4,q5⟩:=HH.out;have a3:=ad.out;rw[if_neg (by omega)]at a3;refine⟨b+1,by omega,rfl,by go_num,?_,?_,?_,?_,q5⟩
        ·exact(C2 (q1.alloc (by have:=Y.lt;omega) _) _).setCell (p:=⟨w.heap.size+1,b,none⟩) (show w.heap.size<=w.heap.size+1 by omega) _
        ·exact((q2.alloc _).drewN _).aG (p:=⟨w.heap.size+1,b,none⟩) (show w.heap.size≠w.heap.size+1 by omega) _
        ·rw[<-a5.out];exact((Y.alloc _).drewN _).set b _
        ·rw[a3];exact q4.kept (C0.setCell (ex:=fun k=>k=w.heap.size+1) (p:=⟨w.heap.size+1,b,none⟩) (((C0.refl (fun k=>k=w.heap.size+1) U).alloc _).drewN _) (fun _=>rfl) _) (fun b' Z e=>by have:=q5 b' Z;omega)
    ·have e1:decide ((k:Int)<(l.length:Int))=false:=by simp;omega
     obtain rfl:k=l.length:=by omega
     rw[yY (by omega)]at D;have a9:F=l.length:=by simp[H9]at D;omega
     subst a9;clear D;have e2:((l.length:Int)==(l.length:Int))=true:=by simp
     obtain⟨ii,hi,aq,ar,au⟩:=info_parts Tryz.eP;have ah:∀nq:Nat,W4 ((((U.alloc (.cells (K5 s) 122)).drewN m).drewN nq).alloc (.cells (K5 s) 122)) (.slice kd l.length B) l:=fun nq=>
      HH.out.2.2.2.1.kept (((((C0.refl (fun _=>False) U).alloc _).drewN m).drewN nq).alloc _) (fun _ _ e=>e)
     have ab:=Hd ah;clear ah;go_wp2_with fail;go_quiet(fail);go_wp2_with(at_builtin;(refine wpList_append_lies _ (by rfl) _ _ _ (by rfl) 0 122 ii _ 2 16 Tryz.underlying124 hi aq ar au rfl (by omega) (.slice kd l.length B) l.length (W8 l) (by rfl) (ab.out nq) ⟨U.heap.size+1,0,none⟩ 1 1 [.int .u64 (s.lo.toNat:Int),.int .u64 (s.hi.toNat:Int)] (by rfl) (by rfl) (World.news_of_block (cs:=K5 s) (t:=122) (fr:=(0,0)) (by have:=heap_alloc_new (((U.alloc (.cells (K5 s) 122)).drewN m).drewN nq) (.cells (K5 s) 122);simpa using this)) (by simp[Value.oneCell']) (by omega) (by unfold maxLen;omega) (by omega) (by simp) (U.heap.size+1+1) (by simp) ?_));intro gg ae w6 X f a6 aw;obtain⟨q1,q2,Y,q4,q5⟩:=HH.out;have M:C0 (fun k=>(Value.slice kd l.length B).ownBlock=some k) U w6:=C0.trans' (((((C0.refl _ U).alloc _).drewN m).drewN nq).alloc _) ⟨f.os,f.tape,f.output,f.size,fun k hk he=>f.block k hk (fun e=>he e.symm)⟩;have ai:Bw w w6:=q1.trans ⟨M.os,M.tape,M.output,M.size,fun k hk=>M.block k (by have:=Y.lt;omega) (fun e=>by have:=q5 k e;omega)⟩;have aj:=q2.kept M (fun e=>by have:=q5 _ e;omega);have a4:=Y.kept M (fun e=>by have:=q5 _ e;omega);have ak:=Qv X;have ao:w.heap.size+1<gg:=by
      rcases a6 with e|e
      ·exact q5 _ e
      ·have:=Y.lt;omega
     have k7:w6.cell? ⟨w.heap.size+1,b,none⟩=some (.int .i64 0):=by rw[a4.cell,Ug _ b a2];simp
     have ay:=a4.frozen b;have a8:Hid (Bw w w6/\Blk w6 w.heap.size Tryz.zeroCells67 67/\Blk w6 (w.heap.size+1) (K6 (fun j=>if j<b then D3 al j else 0)) 67/\W4 w6 (.slice (some ⟨gg,0,none⟩) (l.length+1) ae) (l++ [s])):=⟨ai,aj,a4,ak⟩;clear q1 q2 Y q4 q5 ai aj a4 ak M X f a6 HH ab k0 av;go_wp2_with fail
     go_roundg (256- (b+1))
     case measure=>omega
     case rel=>
      obtain⟨q1,q2,Y,q4⟩:=a8.out;have a3:V0 al (b+1)=l++ [s]:=by simpa using ad.out
      refine⟨b+1,by omega,rfl,by go_num,q1.setCell (by simp) _,q2.aG (by simp) _,?_,?_,?_⟩
      ·rw[<-a5.out];exact Y.set b _
      ·rw[a3];exact q4.kept (C0.setCell (ex:=fun k=>k=w.heap.size+1) (p:=⟨w.heap.size+1,b,none⟩) (C0.refl _ _) (fun _=>rfl) _) (fun b' Z e=>by cases(zE Z:gg=b');omega)
      ·intro k e;cases(zE e:gg=k);exact ao
  ·have e0:decide ((b:Int)<256)=false:=by simp;omega
   obtain rfl:b=256:=by omega
   have e1:K6 (fun j=>if j<256 then D3 al j else 0)=K6 (D3 al):=Gm (fun i hi=>by simp[hi]);rw[e1]at hK;obtain⟨kd,B,rfl,V⟩:=hS.aV;have a8:Hid (Bw w wr/\W4 wr (.slice kd (V0 al 256).length B) (V0 al 256)/\∀k,(Value.slice kd (V0 al 256).length B).ownBlock=some k->w.heap.size+1<k):=⟨Z,hS,a1⟩;have HZ:=Hd hZ;have HK:=Hd hK;clear Z hS a1 e1 hZ hK;go_wp2_with(first|refine ZZ rfl (.tmp 4) rfl (w.heap.size+1) rfl HK.out ?_|refine WO rfl (.tmp 2) (.tmp 45) rfl w.heap.size rfl rfl HZ.out LY ?_);obtain⟨q1,q2,Y⟩:=a8.out;refine bodyPost_ret (G3 Tryz.results55 _ _ w.heap.size 67 _ (0,0) _ rfl (HZ.out.setRow _) Tryz.underlying67 rfl (by rw[D7];exact Tryz.iA)) rfl ⟨_,rfl,?_,I2 q1 (zD _) _⟩;exact q2.kept (C0.setRow (ex:=fun k=>k=w.heap.size) (C0.refl _ _) (fun _=>rfl) _) (fun b' Z e=>by have:=Y b' Z;omega)
end Go.Proofs.YtcckhngbdoiikabGreat
