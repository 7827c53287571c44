import Derived.Test.YtcckhngbdoiikaaGreatS24
set_option maxRecDepth 20000
set_option maxHeartbeats 12800000
set_option linter.unusedVariables false
namespace Go.Proofs.YtcckhngbdoiikaaGreat
open Go.RowKit Go.Deep
theorem RSp.cases{s:ByteArray}{t:PT}{l:List PT}{p:Nat}(h:RSp s (t::l) p)(K:p<=s.size):∃q,t.Sp s p q/\q<=s.size/\((l= []/\q=s.size)\/(l≠ []/\q<s.size/\F0 s q=10/\RSp s l (q+1))):=by
 cases l with
 |nil=>exact⟨s.size,h.1,zD _,.inl ⟨rfl,rfl⟩⟩
 |cons u l=>
  obtain⟨q,B,J,f,D⟩:=h;have G:=A1 (s:=s) (p:=q) (by rw[f];decide);exact⟨q,B,by omega,.inr ⟨by simp,G,f,D⟩⟩
structure Nt(w0 w:World)(s:ByteArray)(v:Value)(kids:List MT):Prop where
 row:w.ownsRow 0 80 1 v kids.length (K5 (kids.map MT.aL))
 cZ:AtL w s C9 kids
 own:∀x,Pd kids x->w0.heap.size<=x/\v.ownBlock≠some x
 dv:∀x,v.ownBlock=some x->w0.heap.size<=x
 bR:(B9 kids).Nodup
theorem Nt.aA{w0 w w':World}{s:ByteArray}{v:Value}{f:List MT}(h:Nt w0 w s v f)(k:Bw w w'):Nt w0 w' s v f:=
 ⟨J0 (ex:=fun _=>False) h.row (C0.aM k) (fun _ _ e=>e),AtL.kept (ex:=fun _=>False) (C0.aM k) f h.cZ (fun _ _ e=>e),h.own,h.dv,h.bR⟩
theorem Nt.push{w0 w X:World}{s:ByteArray}{g M:Nat}{v:Value}{f:List MT}(h:Nt w0 w s v f){T:MT}(hT:T.At w s C9){wb:World}(Z:∀x,T.has x->wb.heap.size<=x)(U:∀x,Pd f x->x<wb.heap.size)(W:∀x,v.ownBlock=some x->x<wb.heap.size)(hn:T.blks.Nodup)(o:Obj)
  (V:X.ownsRow 0 80 1 (.slice (some ⟨g,0,none⟩) (f.length+1) M) (f.length+1) (K5 (f.map MT.aL)++ [.pointer (some ⟨T.aL,0,none⟩)]))
  (hg:(w.alloc o).grownBy X v.ownBlock) (Y:v.ownBlock=some g\/g=(w.alloc o).heap.size) (hw:w0.heap.size<=wb.heap.size) (a0:wb.heap.size<=w.heap.size):
  Nt w0 X s (.slice (some ⟨g,0,none⟩) (f.length+1) M) (f++ [T])/\C0 (fun x=>v.ownBlock=some x) w X:=by
 have hk:C0 (fun x=>v.ownBlock=some x) w X:=((C0.refl _ _).alloc o).trans (W7 (O:=fun x=>v.ownBlock=some x) hg (fun x e=>e)) (fun _ _ e=>e);have J:v.ownBlock=some g\/w.heap.size<=g:=by
  rcases Y with e|e
  ·exact .inl e
  ·right;simp at e;omega
 refine⟨⟨?_,?_,?_,?_,?_⟩,hk⟩
 ·rw[yB,zL];have e:K5 (f.map MT.aL++ [T].map MT.aL)=K5 (f.map MT.aL)++ [.pointer (some ⟨T.aL,0,none⟩)]:=by simp[K5]
  rw[e];exact V
 ·rw[Tc];intro y B;rw[zO,zJ]at B;rcases B with B|B
  ·exact MT.At.kept hk y ((Tc f).1 h.cZ y B) (fun x D e=>(h.own x ((Oc f x).2 ⟨y,B,D⟩)).2 e)
  ·subst B;exact MT.At.kept hk y hT (fun x D e=>by have:=Z x D;have:=W x e;omega)
 ·intro x D;rw[Oc]at D;obtain⟨y,B,D⟩:=D;rw[zO,zJ]at B;rcases B with B|B
  ·have K:=(Oc f x).2 ⟨y,B,D⟩;refine⟨(h.own x K).1,fun e=>?_⟩;cases(zE e:g=x);rcases J with G|G
   ·exact(h.own _ K).2 G
   ·have:=U _ K;omega
  ·subst B;have:=Z x D;refine⟨by omega,fun e=>?_⟩;cases(zE e:g=x);rcases J with G|G
   ·have:=W _ G;omega
   ·have:=MT.At.lt y hT _ D;omega
 ·intro x e;cases(zE e:g=x);rcases J with G|G
  ·exact h.dv _ G
  ·omega
 ·rw[Fg,List.nodup_append];refine⟨h.bR,by simpa[B9]using hn,fun x D y B e=>?_⟩;subst e;have h1:=U x (Wi _ _ D);have h2:=Z x (MT.cJ T x (by simpa[B9]using B));omega
structure FY(w wr:World)(s:ByteArray)(ts:List PT)(i p:Nat)(rest:List PT)(v:Value)(kids:List MT):Prop where
 list:Nt w wr s v kids
 nt:ntL kids++rest.map PT.dK=ts.map PT.dK
 bC:(rest= []/\i=s.size+1)\/∃t l q,rest=t::l/\t.Sp s p q/\p<=i/\i<=q/\q<=s.size/\((l= []/\q=s.size)\/(l≠ []/\q<s.size/\F0 s q=10/\RSp s l (q+1)))
 aA:Bw w wr
 bV:kids.length<=i
theorem XE(s:ByteArray)(ts:List PT)(w:World)(hs:s.size<=120)(h:RSp s ts 0):
  Calls Tryz.prog 25 #[.string s] w fun e w'=>∃(v:Value) (f:List MT),e=.returned v/\Nt w w' s v f/\ntL f=ts.map PT.dK/\Bw w w'/\f.length<=200:=by
 obtain⟨ii,ae,aj,ak,am⟩:=info_parts Tryz.fL;have HS:=Hd h;clear h;go_enter Tryz.func25,Tryz.ntmps25;go_wp2_with fail
 go_loopg[3,4,5] (s.size+1) (fun G lv pv iv wr=>∃(i p:Nat) (rest:List PT) (f:List MT),pv=.int .i64 p/\iv=.int .i64 i/\G=s.size+1-i/\i<=s.size+1/\p<=s.size+1/\FY w wr s ts i p rest lv f)
 case atStart=>
  refine⟨0,0,ts,[],rfl,rfl,rfl,by omega,by omega,⟨World.ownsRow_nil _ _ _ _,by simp[AtL],fun x hx=>by simp[Pd]at hx,fun x hx=>by simp[Value.ownBlock]at hx,by simp[B9]⟩,rfl,?_,Below.refl _ _,by simp⟩;cases ts with
  |nil=>exact HS.out.elim
  |cons t l=>
   obtain⟨q,h1,h2,h3⟩:=RSp.cases HS.out (by omega);exact .inr ⟨t,l,q,rfl,h1,zD _,by omega,h2,h3⟩
 case round=>
  obtain⟨i,p,rest,f,rfl,rfl,rfl,hi,hp,U⟩:=hrel;have X:=U.list.row;obtain⟨_,ad,V,rfl,_⟩:=L0 X;rcases U.bC with⟨rfl,rfl⟩|⟨t,l,q,rfl,a0,av,ax,ah,K⟩
  ·have e0:decide (((s.size+1:Nat):Int)<=(s.size:Int))=false:=by simp;omega
   have aw:decide ((s.size:Int)+1<=(s.size:Int))=false:=by simp;omega
   have HI:=Hd U;clear U X;go_wp2_with fail;go_ret;have U:=HI.out;exact⟨_,f,rfl,U.list,by have:=U.nt;simpa using this,U.aA,by have:=U.bV;omega⟩
  ·have e0:decide ((i:Int)<=(s.size:Int))=true:=by simp;omega
   by_cases au:i<q
   ·
    have ab:i<s.size:=by omega
    have e1:((i:Int)==(s.size:Int))=false:=by simp;omega
    have ag:=PT.fF a0 i av au;rw[L3 ab]at ag;have e2:(((s[i].toNat:Nat):Int)==10)=false:=by simp;omega
    have i0:(0:Int)<=(i:Int):=by omega
    have i1:(i:Int)<(s.size:Int):=by omega
    have HI:=Hd U;have HR:=Hd2 a0 K;clear U X ag a0 K;go_wp2_with fail
    go_roundg (s.size+1- (i+1))
    case measure=>omega
    case rel=>
     have U:=HI.out;exact⟨i+1,p,t::l,f,rfl,by go_num,rfl,by omega,hp,U.list,U.nt,.inr ⟨t,l,q,rfl,HR.out.1,by omega,by omega,ah,HR.out.2⟩,U.aA,by have:=U.bV;omega⟩
   ·obtain rfl:i=q:=by omega
    have HX:=Hd (JU s hs t p i a0 ah wr);have hf:=U.bV;have an:∀x,Pd f x->x<wr.heap.size:=AtL.lt f U.list.cZ;have ao:=M1 X;have ai:=U.aA.size;have HI:=Hd U;have HZ:=Hd2 an ao;have aa:Hid (∀(T:MT) (M w6:World) (gg D:Nat) (o:Obj),T.nt=t.nt [] []->T.At M s C9->(∀b,T.has b->wr.heap.size<=b)->T.blks.Nodup->Bw wr M->
      w6.ownsRow 0 80 1 (.slice (some ⟨gg,0,none⟩) (f.length+1) D) (f.length+1) (K5 (f.map MT.aL)++ [.pointer (some ⟨T.aL,0,none⟩)])->(M.alloc o).grownBy w6 (Value.slice ad f.length V).ownBlock->((Value.slice ad f.length V).ownBlock=some gg\/gg=(M.alloc o).heap.size)->
      FY w w6 s ts (i+1) (i+1) l (.slice (some ⟨gg,0,none⟩) (f.length+1) D) (f++ [T])):=by
     refine Hd fun T M w6 gg D o a1 a2 a3 a4 a5 a6 a7 a8=>?_
     have ap:=a5.size;obtain⟨q1,q2⟩:=(HI.out.list.aA a5).push (T:=T) (wb:=wr) a2 a3 HZ.out.1 HZ.out.2 a4 o a6 a7 a8 ai ap;refine⟨q1,?_,?_,?_,by have:=hf;simp;omega⟩
     ·rw[<-HI.out.nt,Wb,a1];simp[PT.dK]
     ·rcases K with⟨rfl,e⟩|⟨h1,h2,h3,h4⟩
      ·exact .inl ⟨rfl,by omega⟩
      ·cases l with
       |nil=>exact absurd rfl h1
       |cons u l=>
        obtain⟨q',g1,g2,g3⟩:=RSp.cases h4 (by omega);exact .inr ⟨u,l,q',rfl,g1,zD _,PT.cF g1,g2,g3⟩
     ·have aq:Bw w M:=Y2 (ex:=fun _=>False) HI.out.aA (C0.aM a5) ai (fun _ _ e=>e);exact Y2 aq q2 (by omega) (fun x hx e=>by have:=HI.out.list.dv x e;omega)
    have a9:Hid (∀M,Bw wr M->M.ownsRow 0 80 1 (.slice ad f.length V) f.length (K5 (f.map MT.aL))):=Hd fun M hb=>(HI.out.list.aA hb).row
    have ar:(i=s.size)\/(i<s.size/\F0 s i=10):=by
     rcases K with⟨_,e⟩|⟨_,h2,h3,_⟩
     ·exact .inl e
     ·exact .inr ⟨h2,h3⟩
    clear U X a0 K an ao HI HZ;rcases ar with rfl|⟨ab,ac⟩
    ·have e1:((s.size:Int)==(s.size:Int))=true:=by simp
     go_wp2_with fail;refine HX.out.mono ?_;rintro e M ⟨T,rfl,b1,b2,b3,b4,Y⟩;have Z:=Hd (Ge (a9.out M Y) (.cells #[.pointer (some ⟨T.aL,0,none⟩)] 80));have HB:=Hd5 b1 b2 b3 b4 Y;have zz:=Y.size;clear b1 b2 b3 b4 Y;go_wp2_with(at_builtin;(refine wpList_append_lies _ (by rfl) _ _ _ (by rfl) 0 80 ii _ 1 8 Tryz.underlying74 ae aj ak am rfl (by omega) (.slice ad f.length V) f.length (K5 (f.map MT.aL)) (by rfl) Z.out ⟨M.heap.size,0,none⟩ 1 1 [.pointer (some ⟨T.aL,0,none⟩)] (by rfl) (by rfl) (World.news_of_block (cs:=#[.pointer (some ⟨T.aL,0,none⟩)]) (t:=80) (fr:=(0,0)) (by have:=heap_alloc_new M (.cells #[.pointer (some ⟨T.aL,0,none⟩)] 80);simpa using this)) (by simp[Value.oneCell']) (by omega) (by unfold maxLen;omega) (by omega) (by simp) (M.heap.size+1) (by simp) ?_));intro gg D w6 J B W af;obtain⟨b1,b2,b3,b4,Y⟩:=HB.out;have HH:=Hd (aa.out T M w6 gg D _ b1 b2 b3 b4 Y J B (by simpa using W));clear b1 b2 b3 b4 Y J B W aa a9 Z HB;go_wp2_with fail
     go_roundg (s.size+1- (s.size+1))
     case measure=>omega
     case rel=>exact⟨s.size+1,s.size+1,l,f++ [T],by go_num,by go_num,rfl,by omega,by omega,HH.out⟩
    ·have e1:((i:Int)==(s.size:Int))=false:=by simp;omega
     rw[L3 ab]at ac;have e2:(((s[i].toNat:Nat):Int)==10)=true:=by simp;omega
     have i0:(0:Int)<=(i:Int):=by omega
     have i1:(i:Int)<(s.size:Int):=by omega
     clear ac;go_wp2_with fail;refine HX.out.mono ?_;rintro e M ⟨T,rfl,b1,b2,b3,b4,Y⟩;have Z:=Hd (Ge (a9.out M Y) (.cells #[.pointer (some ⟨T.aL,0,none⟩)] 80));have HB:=Hd5 b1 b2 b3 b4 Y;have zz:=Y.size;clear b1 b2 b3 b4 Y;go_wp2_with(at_builtin;(refine wpList_append_lies _ (by rfl) _ _ _ (by rfl) 0 80 ii _ 1 8 Tryz.underlying74 ae aj ak am rfl (by omega) (.slice ad f.length V) f.length (K5 (f.map MT.aL)) (by rfl) Z.out ⟨M.heap.size,0,none⟩ 1 1 [.pointer (some ⟨T.aL,0,none⟩)] (by rfl) (by rfl) (World.news_of_block (cs:=#[.pointer (some ⟨T.aL,0,none⟩)]) (t:=80) (fr:=(0,0)) (by have:=heap_alloc_new M (.cells #[.pointer (some ⟨T.aL,0,none⟩)] 80);simpa using this)) (by simp[Value.oneCell']) (by omega) (by unfold maxLen;omega) (by omega) (by simp) (M.heap.size+1) (by simp) ?_));intro gg D w6 J B W af;obtain⟨b1,b2,b3,b4,Y⟩:=HB.out;have HH:=Hd (aa.out T M w6 gg D _ b1 b2 b3 b4 Y J B (by simpa using W));clear b1 b2 b3 b4 Y J B W aa a9 Z HB;go_wp2_with fail
     go_roundg (s.size+1- (i+1))
     case measure=>omega
     case rel=>exact⟨i+1,i+1,l,f++ [T],by go_num,by go_num,rfl,by omega,by omega,HH.out⟩
end Go.Proofs.YtcckhngbdoiikaaGreat
