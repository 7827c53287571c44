import Derived.Test.YtcckhngbdoiikaaGreatS33
set_option maxRecDepth 20000
set_option maxHeartbeats 12800000
set_option linter.unusedVariables false
namespace Go.Proofs.YtcckhngbdoiikaaGreat
open Go.RowKit Go.Deep
section
variable{g:B0}{K n:Nat}{F:List Nat}{st:List Int}{al:List Bool}
theorem Pt(B:GOk g K){a b:Nat}(J:a<g.aB.length)(M:b<g.aB.length):L5 (G0 g) K (a:Int) (b:Int)↔¬Uf g K (a:Int) (b:Int):=by
 constructor
 ·rintro h ⟨f,D,U⟩;have:=h f D;rw[H9 B f a D J,H9 B f b D M]at this;exact U this
 ·intro h f G;rw[H9 B f a G J,H9 B f b G M];exact Decidable.not_not.1 fun V=>h ⟨f,G,V⟩
structure StI(g:B0)(K n:Nat)(F:List Nat)(st:List Int):Prop where
 mem:∀a,a∈F↔(a<n/\Dv g K a/\∀b,b<a->¬L5 (G0 g) K (b:Int) (a:Int))
 bJ:F.Pairwise (·< ·)
 len:st.length=g.aB.length
 gV:∀a,a<n->Dv g K a->∃s,∃h:s<F.length,st.getD a 0=(s:Int)/\L5 (G0 g) K (F[s]:Int) (a:Int)
theorem StI.start(h:st.length=g.aB.length):StI g K 0 [] st:=⟨fun a=>by simp,by simp,h,fun a f=>by omega⟩
theorem StI.lt(h:StI g K n F st){s:Nat}(f:s<F.length):F[s]<n:=((h.mem F[s]).1 (zG f)).1
theorem StI.bV(h:StI g K n F st):F.length<=n:=by
 have:=Pg n F (h.bJ.imp (fun f=>Nat.ne_of_lt f)) (fun x B=>((h.mem x).1 B).1);exact this
theorem StI.skip(h:StI g K n F st)(V:n<g.aB.length)(D:¬Dv g K n)(v:Int):StI g K (n+1) F (st.set n v):=by
 have M:=h.len;refine⟨fun a=>?_,h.bJ,by simp[M],fun a U f=>?_⟩
 ·rw[h.mem a];constructor
  ·rintro⟨G,B⟩;exact⟨by omega,B⟩
  ·rintro⟨G,B,J⟩;refine⟨?_,B,J⟩
   by_cases e:a=n
   ·subst e;exact absurd B D
   ·omega
 ·have e:a≠n:=fun e=>by subst e;exact D f
  rw[Db _ _ _ _ (by omega),if_neg e];exact h.gV a (by omega) f
theorem StI.eY(h:StI g K n F st)(W:n<g.aB.length){s:Nat}(J:s<F.length)(G:L5 (G0 g) K (F[s]:Int) (n:Int)):StI g K (n+1) F (st.set n (s:Int)):=by
 have V:=h.len;refine⟨fun a=>?_,h.bJ,by simp[V],fun a U B=>?_⟩
 ·rw[h.mem a];constructor
  ·rintro⟨M,f⟩;exact⟨by omega,f⟩
  ·rintro⟨M,f,D⟩;refine⟨?_,f,D⟩
   by_cases e:a=n
   ·subst e;exact absurd G (D _ (h.lt J))
   ·omega
 ·rw[Db _ _ _ _ (by omega)]
  by_cases e:a=n
  ·subst e;rw[if_pos rfl];exact⟨s,J,rfl,G⟩
  ·rw[if_neg e];exact h.gV a (by omega) B
theorem StI.fresh(Z:Aa g K)(h:StI g K n F st)(M:Dv g K n)(W:∀s,(G:s<F.length)->¬L5 (G0 g) K (F[s]:Int) (n:Int)):StI g K (n+1) (F++ [n]) (st.set n (F.length:Int)):=by
 have hl:=h.len;have hn:=M.1;have B:∀b,b<n->¬L5 (G0 g) K (b:Int) (n:Int):=by
  intro b hb D;have V:Dv g K b:=by
   refine⟨by omega,?_⟩;rcases M.2 with e|e
   ·omega
   ·exact .inr (Ql Z hn (by omega) D.symm e)
  obtain⟨s,G,_,f⟩:=h.gV b hb V;exact W s G (f.trans D)
 refine⟨fun a=>?_,?_,by simp[hl],fun a ha U=>?_⟩
 ·rw[zO,zJ,h.mem a];constructor
  ·rintro(⟨J,f⟩|rfl)
   ·exact⟨by omega,f⟩
   ·exact⟨by omega,M,B⟩
  ·rintro⟨J,f,Y⟩
   by_cases e:a=n
   ·exact .inr e
   ·exact .inl ⟨by omega,f,Y⟩
 ·rw[List.pairwise_append];refine⟨h.bJ,by simp,fun x hx y X=>?_⟩;rw[zJ]at X;subst X;exact((h.mem x).1 hx).1
 ·rw[Db _ _ _ _ (by omega)]
  by_cases e:a=n
  ·subst e;rw[if_pos rfl];exact⟨F.length,by simp,rfl,by simp;exact fun ks hk=>rfl⟩
  ·rw[if_neg e];obtain⟨s,G,J,f⟩:=h.gV a (by omega) U;exact⟨s,by simp;omega,J,by rw[List.getElem_append_left G];exact f⟩
theorem StI.fJ(h:StI g K g.aB.length F st):Y9 g K F:=by
 refine⟨fun a=>?_,h.bJ⟩;rw[h.mem a];exact⟨fun h=>h.2,fun h=>⟨h.1.1,h⟩⟩
def UC(al:List Bool)(st:List Int)(s:Int):Int:=if alS al s then st.getD s.toNat 0 else -1
theorem StI.next(hS:Aa g K)(h:StI g K g.aB.length F st)(G:∀i:Nat,i<g.aB.length->(al.getD i false=true↔M6 g K (i:Int))){s k:Nat}(hs:s<F.length)(hk:k<K):UC al st (W0 g (F[s]:Int) k)=W0 (E1 (G0 g) (N1 (G0 g))) (s:Int) k:=by
 have D:=h.fJ;have hm:=((D.mem F[s]).1 (zG hs)).1.1;unfold UC;rcases D.next hS hs hk with⟨X,e|⟨t,e,M⟩⟩|⟨t,V,f,e,M,J,h2,Y⟩
 ·rw[X,e,Mb];rfl
 ·have U:=C8 hS.ok (s:=(F[s]:Int)) (by omega) (by omega) hk;rw[e]at U;have J:t<g.aB.length:=by omega
  have:al.getD t false=false:=Bool.eq_false_iff.2 fun hx=>M ((G t J).1 hx)
  rw[X,e,Na,this];rfl
 ·rw[e,Na,(G t J).2 M,h2,zH,if_pos rfl];obtain⟨W,B,h4,Z⟩:=h.gV t J ⟨J,.inr M⟩;rw[h4];have e1:=D.dR (zG B) (Y.trans Z.symm);have e2:=D.dR (zG f) (Z.trans Y.symm);have e3:F[W]=F[V]:=by omega
  have:W=V:=by
   rcases Nat.lt_trichotomy W V with e|e|e
   ·have:=(U8 D.bJ B f).2 e;omega
   ·exact e
   ·have:=(U8 D.bJ f B).2 e;omega
  rw[this]
end
theorem LC(R:E0):R.aB I0.none= -1:=by
 unfold E0.aB;rcases Gi I0.none R.last 0 with⟨h,_⟩|⟨i,_,_,h,_⟩
 ·exact h
 ·obtain⟨p,f,_⟩:=(WB _ _).1 h;rw[N9]at f;cases f
theorem WQ{aD:List MT}{ts:List PT}(D:ntL aD=ts.map PT.dK){w:List Nat}{r:Int}(X:w≠ [])(h:LD aD w r):QT ts w r:=by
 rw[Lb]at D;have M:aD.length=ts.length:=by have:=congrArg List.length D;simpa using this
 have f:∀i,(G:i<aD.length)->(B:i<ts.length)->aD[i].nt=ts[i].dK:=fun i G B=>by
  have:=congrArg (fun l=>l[i]?) D;simp only[List.getElem?_map,zF G,zF B,Option.map_some]at this;exact zE this
 rcases h with⟨G,B|B⟩|⟨_,i,K,G,B,U⟩
 ·exact absurd B X
 ·refine .inl ⟨G,fun t W J=>?_⟩;obtain⟨i,K,rfl⟩:=List.getElem_of_mem W;exact B _ (zG (by omega:i<aD.length)) (by rw[f i (by omega) K];exact J)
 ·refine .inr ⟨i,by omega,G,by rw[<-f i K (by omega)];exact B,fun j V J=>?_⟩;exact U j V (by rw[f j (by omega) (by omega)];exact J)
theorem WC(g:B0)(i k:Nat):W0 g (i:Int) k=(g.next.getD i []).getD k 0:=by unfold W0;rw[if_neg (by omega),zH]
section
variable{rs:ByteArray}{R:E0}{ts:List PT}{T:List ByteArray}{S:List (Nat×List Bool)}{To:List (Nat×List Int)}{PS:List I0}{g:B0}{aD:List MT}
theorem FP.gp(Y:Qh rs R ts)(J:ntL aD=ts.map PT.dK)(h:FP ts R PS.length T S To PS g)(Z:E6 R (V0 R.aJ 256)=some g):GP T To g (V0 R.aJ 256).length (Z2 R.aJ) aD:=by
 obtain⟨o1,o2,o3⟩:=K8 Z;have a0:=h.bT.ex.rl;have a1:=h.aI.tl;have B:∀i,(f:i<T.length)->(T.map Q0).getD i []=Q0 T[i]:=fun i f=>by rw[zC,List.getElem?_map,zF f];rfl
 refine⟨by omega,by rw[h.tl];omega,o1,⟨o2,o3⟩,fun i f=>?_,fun i b f G=>?_,fun b G=>UN _ G,fun k hk=>Aj _ 256 k hk,fun i r f U=>?_⟩
 ·have:=h.bT.bO.dH i;rw[B i f,I1]at this;omega
 ·rw[WC];exact h.lead i f b G
 ·rw[h.bT.ex.aB i (by omega)]
  by_cases X:0<i
  ·obtain⟨M,V,_⟩:=h.bT.bO.set i X (by omega);rw[B i f]at M V;rw[Y.bN M (WQ J M U),V]
  ·have W:i=0:=by omega
   subst W;have K:=h.bT.bO.zero;rw[B 0 f]at K;rw[K.1,LC];rcases U with⟨D,_⟩|⟨D,_⟩
   ·exact D
   ·exact absurd K.2 D
theorem FP.kY(h:FP ts R PS.length T S To PS g)(D:E6 R (V0 R.aJ 256)=some g):Aa g (V0 R.aJ 256).length:=by
 obtain⟨M,U,Y⟩:=K8 D;refine⟨M,U,Nz D,fun s k X J=>?_⟩;have K:=h.bT.ex.rl;rw[WC];rcases h.bT.ex.next s (by omega) k J with⟨_,e⟩|⟨f,m,G,W,B⟩
 ·rw[e];decide
 ·rw[G];intro V;have:m=0:=by omega
  subst this;rw[h.bT.bO.zero.1]at B;rw[<-B]at f;have:I0.none.isEmpty=true:=(Hdx _).2 (fun q=>N9 q);rw[this]at f;cases f
end
mutual
theorem MT.kV(a b:Nat):∀T:MT,T.nt.Tw a b↔∀p∈T.pl,p.nt.Tw a b
 |.place bb i e A=>by simp[MT.pl]
 |.node bb v k l=>by
  simp only[MT.pl,MT.nt,NT.Tw];exact CM a b l
theorem CM(a b:Nat):∀l:List MT,twL a b (ntL l)↔∀p∈plL l,p.nt.Tw a b
 | []=>by simp[plL,ntL,twL]
 |x::l=>by
  simp only[ntL,twL,plL,zO];rw[MT.kV a b x,CM a b l];constructor
  ·rintro⟨B,D⟩ p (f|f)
   ·exact B p f
   ·exact D p f
  ·intro h;exact⟨fun p f=>h p (.inl f),fun p f=>h p (.inr f)⟩
end
mutual
theorem MT.dT:∀(T:MT) (p:MT),p∈T.pl->∃b i e A,p=.place b i e A
 |.place b i e A,p,h=>by simp only[MT.pl,zJ]at h;exact⟨b,i,e,A,h⟩
 |.node b v k l,p,h=>by simp only[MT.pl]at h;exact Fj l p h
theorem Fj:∀(l:List MT) (p:MT),p∈plL l->∃b i e A,p=.place b i e A
 | [],p,h=>by simp[plL]at h
 |x::l,p,h=>by
  simp only[plL,zO]at h;rcases h with h|h
  ·exact MT.dT x p h
  ·exact Fj l p h
end
theorem RSp.wf{s:ByteArray}:∀(f:List PT) (p:Nat),RSp s f p->WfL s (f.map PT.dK)
 | [],p,h=>by simp[WfL]
 | [t],p,h=>by
  have:=PT.eE t _ _ [] [] h.1 (by simp[WfL]) (by simp[WfL]);simp only[List.map_cons,List.map_nil,WfL,and_true];exact this
 |t::u::l,p,h=>by
  obtain⟨q,B,_,_,D⟩:=h;have:=PT.eE t _ _ [] [] B (by simp[WfL]) (by simp[WfL]);have G:=RSp.wf (u::l) _ D;rw[List.map_cons,WfL];exact⟨this,G⟩
mutual
theorem MT.kU{w:World}{s:ByteArray}{f:Nat->Int}:∀(T p:MT),T.At w s f->T.nt.Wf s->p∈T.pl->p.At w s f/\p.nt.Wf s
 |.place b i e A,p,h,hw,hp=>by simp only[MT.pl,zJ]at hp;subst hp;exact⟨h,hw⟩
 |.node b v k l,p,h,hw,hp=>by
  simp only[MT.pl]at hp;simp only[MT.At]at h;simp only[MT.nt,NT.Wf]at hw;exact BM l p h.2.2 hw.2 hp
theorem BM{w:World}{s:ByteArray}{f:Nat->Int}:∀(l:List MT) (p:MT),AtL w s f l->WfL s (ntL l)->p∈plL l->p.At w s f/\p.nt.Wf s
 | [],p,h,hw,B=>by simp[plL]at B
 |x::l,p,h,hw,B=>by
  simp only[plL,zO]at B;simp only[AtL]at h;simp only[ntL,WfL]at hw;rcases B with B|B
  ·exact MT.kU x p h.1 hw.1 B
  ·exact BM l p h.2 hw.2 B
end
def MT.plt(s:ByteArray):MT->PlT
 |.place b i e A=>⟨b,s.extract i e,A⟩
 |.node b v k l=>⟨b,noT,fun _=>false⟩
def Yq(s:ByteArray)(l:List MT):List PlT:=(plL l).map (MT.plt s)
theorem NV(s:ByteArray)(T:MT):(T.plt s).b=T.aL:=by cases T <;>rfl
theorem EM(s:ByteArray)(l:List MT):(Yq s l).map PlT.b=(plL l).map MT.aL:=by
 unfold Yq;rw[List.map_map];exact List.map_congr_left fun T _=>NV s T
theorem LI(s:ByteArray)(l:List MT):(Yq s l).length=(plL l).length:=by simp[Yq]
theorem SX(s:ByteArray)(l:List MT)(a b:Nat):twF (Yq s l) a b=true↔twL a b (ntL l):=by
 rw[Xr,CM];unfold Yq;constructor
 ·intro h p f;obtain⟨B,i,e,A,rfl⟩:=Fj l p f;have:=h _ (List.mem_map_of_mem f);simp only[MT.nt,NT.Tw];exact this
 ·intro h q D;obtain⟨p,f,rfl⟩:=List.mem_map.1 D;obtain⟨B,i,e,A,rfl⟩:=Fj l p f;have:=h _ f;simp only[MT.nt,NT.Tw]at this;exact this
theorem RX{w:World}{s:ByteArray}{f:Nat->Int}{l:List MT}(M:s.size<=120)(h:AtL w s f l)(U:WfL s (ntL l)):(∀p∈Yq s l,∃c,Blk w p.b c 129/\c[3]?=some (.string p.t))/\∀p∈Yq s l,Cv p.t p.A:=by
 have D:∀q∈Yq s l,(∃c,Blk w q.b c 129/\c[3]?=some (.string q.t))/\Cv q.t q.A:=by
  intro q K;obtain⟨p,B,rfl⟩:=List.mem_map.1 K;obtain⟨G,J⟩:=BM l p h U B;obtain⟨V,i,e,A,rfl⟩:=Fj l p B;simp only[MT.At]at G;simp only[MT.nt,NT.Wf]at J;exact⟨⟨_,G,rfl⟩,J.fG M⟩
 exact⟨fun p B=>(D p B).1,fun p B=>(D p B).2⟩
theorem AZ{s:ByteArray}{R:E0}{G:List PT}{l:List MT}(f:ntL l=G.map PT.dK)(D:∀a b,R.aJ a=R.aJ b↔∀t∈G,t.dK.Tw a b){b k:Nat}(h:KD (Yq s l) b k):Ph R.aJ b k:=by
 refine XU (tw:=twF (Yq s l)) (fun a b=>?_) h.1 h.2.1 h.2.2;rw[SX,D,f,LF];constructor
 ·intro h t B;exact h _ (List.mem_map_of_mem B)
 ·intro h x J;obtain⟨t,B,rfl⟩:=List.mem_map.1 J;exact h t B
mutual
theorem MT.At.lA{w:World}{s:ByteArray}{f:Nat->Int}:∀(T:MT),T.At w s f->∀x,T.has x->∃c t,Blk w x c t/\(t=129\/t=80)
 |.place b i e A,h,x,B=>by
  simp only[MT.At]at h;simp only[MT.has]at B;subst B;exact⟨_,_,h,.inl rfl⟩
 |.node b v n l,h,x,B=>by
  simp only[MT.At]at h;simp only[MT.has]at B;rcases B with B|B|B
  ·subst B;exact⟨_,_,h.1,.inl rfl⟩
  ·obtain⟨c,D⟩:=MO h.2.1 B;exact⟨c,_,D,.inr rfl⟩
  ·exact AtL.lA l h.2.2 x B
theorem AtL.lA{w:World}{s:ByteArray}{f:Nat->Int}:∀(l:List MT),AtL w s f l->∀x,Pd l x->∃c t,Blk w x c t/\(t=129\/t=80)
 | [],h,x,B=>by simp[Pd]at B
 |y::l,h,x,B=>by
  simp only[AtL]at h;simp only[Pd]at B;rcases B with B|B
  ·exact MT.At.lA y h.1 x B
  ·exact AtL.lA l h.2 x B
end
section
variable{wz w w' w6:World}{xb:Nat}{rv pn pv tv ov fv tv' ov' fv':Value}{TX TX':List ByteArray}{OX OX':List (Nat×List Int)}{FX FX':List Int}{rs:ByteArray}{f:Nat->Int}{aD:List MT}
theorem Jh.jB(h:Jh w xb rs f aD)(B:XAt w xb rv pn pv tv ov fv TX OX FX)(k:C0 (fun b=>b=xb) w w')(D:XAt w' xb rv pn pv tv' ov' fv' TX' OX' FX'):Jh w' xb rs f aD:=by
 refine h.iC k (fun x X e=>?_) D.aO B.aO rfl rfl (fun Z J b W e=>?_)
 ·obtain⟨c,t,G,Y⟩:=AtL.lA aD h.cL x X;subst e;rcases Y with rfl|rfl
  ·exact absurd (G.bX B.aO).2 (by decide)
  ·exact absurd (G.bX B.aO).2 (by decide)
 ·obtain⟨c,a0,M,U,h3,V⟩:=h.aO;have K:=(M.bX B.aO).1;subst K;rw[U]at J;cases J;subst e;exact K0 V B.aO (by decide) W
structure XO(wz w:World)(xb:Nat)(rv pn pv tv ov fv:Value)(TX:List ByteArray)(OX:List (Nat×List Int))(FX:List Int):Prop where
 x:XAt w xb rv pn pv tv ov fv TX OX FX
 kept:C0 (fun b=>b=xb) wz w
 o1:∀b,tv.ownBlock=some b->wz.heap.size<=b
 o2:∀b,ov.ownBlock=some b->wz.heap.size<=b
 o3:∀b,fv.ownBlock=some b->wz.heap.size<=b
theorem XO.aA(h:XO wz w xb rv pn pv tv ov fv TX OX FX)(k:Bw w w'):XO wz w' xb rv pn pv tv ov fv TX OX FX:=⟨h.x.aA k,h.kept.aA k,h.o1,h.o2,h.o3⟩
theorem Ox{v v6:Value}{fld:Nat}(k:C0 (fun b=>b=xb) wz w)(h:∀b,v.ownBlock=some b->wz.heap.size<=b)(B:C0 (fun b=>v.ownBlock=some b) w w6):C0 (fun b=>b=xb) wz (w6.setCell ⟨xb,fld,none⟩ v6):=
 k.trans (Rb (fb:=xb) (fld:=fld) (v6:=v6) B) (fun i D e=>by
  rcases e with e|e
  ·have:=h i e;omega
  ·exact e)
theorem XO.to(h:XO wz w xb rv pn pv tv ov fv TX OX FX){v6:Value}{D:Nat}{l:List Int}(K:Blk w D (N3 l) 3)(J:l.length=256)(B:fv.ownBlock≠some D)(M:w6.ownsRow 0 60 1 v6 (OX.map (fun p=>slV 256 p.1)++ [slV 256 D]).length (OX.map (fun p=>slV 256 p.1)++ [slV 256 D]))(U:∀b,v6.ownBlock=some b->wz.heap.size<=b)(G:C0 (fun b=>ov.ownBlock=some b) w w6):
  XO wz (w6.setCell ⟨xb,4,none⟩ v6) xb rv pn pv tv v6 fv TX (OX++ [(D,l)]) FX:=⟨h.x.to K J B M G,Ox h.kept h.o2 G,h.o1,U,h.o3⟩
theorem XO.text(h:XO wz w xb rv pn pv tv ov fv TX OX FX){v6:Value}{s:ByteArray}(D:w6.ownsRow 0 9 1 v6 (TX.map Value.string++ [Value.string s]).length (TX.map Value.string++ [Value.string s]))(G:∀b,v6.ownBlock=some b->wz.heap.size<=b)(B:C0 (fun b=>tv.ownBlock=some b) w w6):
  XO wz (w6.setCell ⟨xb,3,none⟩ v6) xb rv pn pv v6 ov fv (TX++ [s]) OX FX:=⟨h.x.text D B,Ox h.kept h.o1 B,G,h.o2,h.o3⟩
theorem XO.aB(h:XO wz w xb rv pn pv tv ov fv TX OX FX){v6:Value}{r:Int}(J:O2 w6 v6 (FX++ [r]))(B:∀b,v6.ownBlock=some b->fv.ownBlock=some b\/w.heap.size<=b)(D:C0 (fun b=>fv.ownBlock=some b) w w6):
  XO wz (w6.setCell ⟨xb,5,none⟩ v6) xb rv pn pv tv ov v6 TX OX (FX++ [r]):=⟨h.x.aB J B D,Ox h.kept h.o3 D,h.o1,h.o2,fun b G=>by
  rcases B b G with e|e
  ·exact h.o3 b e
  ·exact yK h.kept.size e⟩
end
structure SP(row:Nat->Nat->Int)(rl:Nat->Int)(s:Nat)(OX:List (Nat×List Int))(FX:List Int):Prop where
 ol:OX.length=s
 fl:FX.length=s
 row:∀i b,i<s->b<256->((OX.getD i (0,[])).2).getD b 0=row i b
 bN:∀i,i<s->FX.getD i 0=rl i
section
variable{row:Nat->Nat->Int}{rl:Nat->Int}{s:Nat}{OX:List (Nat×List Int)}{FX:List Int}
theorem SP.start:SP row rl 0 [] []:=⟨rfl,rfl,fun i b h=>by omega,fun i h=>by omega⟩
theorem Ix{α:Type}(l:List α)(a d:α)(i:Nat):(l++ [a]).getD i d=if i<l.length then l.getD i d else if i=l.length then a else d:=by
 simp only[zC]
 by_cases h:i<l.length
 ·rw[if_pos h,zQ h]
 ·rw[if_neg h]
  by_cases e:i=l.length
  ·rw[if_pos e,zX (by omega)];simp[e]
  ·rw[if_neg e,yI (by simp;omega)];rfl
theorem SP.next(h:SP row rl s OX FX){K:Nat}{l:List Int}{r:Int}(G:∀b,b<256->l.getD b 0=row s b)(J:r=rl s):SP row rl (s+1) (OX++ [(K,l)]) (FX++ [r]):=by
 refine⟨by simp[h.ol],by simp[h.fl],fun i b D B=>?_,fun i D=>?_⟩
 ·rw[Ix,h.ol]
  by_cases e:i<s
  ·rw[if_pos e];exact h.row i b e B
  ·have:i=s:=by omega
   subst this;rw[if_neg e,if_pos rfl];exact G b B
 ·rw[Ix,h.fl]
  by_cases e:i<s
  ·rw[if_pos e];exact h.bN i e
  ·have:i=s:=by omega
   subst this;rw[if_neg e,if_pos rfl];exact J
end
def Lm(T:List ByteArray)(F:List Nat)(s:Nat):List ByteArray:=(F.take s).map (fun n=>T.getD n noT)
theorem OS(T:List ByteArray)(F:List Nat){s:Nat}(h:s<F.length):Lm T F (s+1)=Lm T F s++ [T.getD (F.getD s 0) noT]:=by
 unfold Lm;rw[show F.take (s+1)=F.take s++ [F[s]]from(yJ h).symm,yB,zC (l:=F),zF h];rfl
theorem Yr(T:List ByteArray)(F:List Nat){s:Nat}(h:s<=F.length):(Lm T F s).length=s:=by unfold Lm;rw[yA,List.length_take];omega
theorem K3.iC{w w':World}{K fb xb:Nat}{tv M ov:Value}{T:List ByteArray}{S:List (Nat×List Bool)}{J:List (Nat×List Int)}(h:K3 w K fb tv M ov T S J){c:Array Value}(B:Blk w xb c 78)(k:C0 (fun b=>b=xb) w w'):K3 w' K fb tv M ov T S J:=
 h.kept k (h.aO.ne B (by decide)) (fun b D e=>by subst e;exact K0 h.txt B (by decide) D) (fun b D e=>by subst e;exact K0 h.aI.row B (by decide) D) (fun b D e=>by subst e;exact K0 h.bP.row B (by decide) D) (fun p G=>(h.aI.aV p G).1.ne B (by decide)) (fun p G=>(h.bP.aV p G).1.ne B (by decide))
mutual
theorem MT.At.part{w:World}{s:ByteArray}{f:Nat->Int}:∀(T:MT),T.At w s f->∀x,x∈T.blks->∃c,Blk w x c 129
 |.place b i e A,h,x,B=>by
  simp only[MT.At]at h;simp only[MT.blks,zJ]at B;subst B;exact⟨_,h⟩
 |.node b v n l,h,x,B=>by
  simp only[MT.At]at h;simp only[MT.blks,zU]at B;rcases B with B|B
  ·subst B;exact⟨_,h.1⟩
  ·exact AtL.part l h.2.2 x B
theorem AtL.part{w:World}{s:ByteArray}{f:Nat->Int}:∀(l:List MT),AtL w s f l->∀x,x∈B9 l->∃c,Blk w x c 129
 | [],h,x,B=>by simp[B9]at B
 |y::l,h,x,B=>by
  simp only[AtL]at h;simp only[B9,zO]at B;rcases B with B|B
  ·exact MT.At.part y h.1 x B
  ·exact AtL.part l h.2 x B
end
structure NI(lo:Nat)(w:World)(s:ByteArray)(xb:Nat)(rv pv:Value)(kids:List MT)(r q:Nat):Prop where
 aO:Blk w xb #[rv,.int .i64 ((J1 (ntL (kids.take r)):Nat):Int),pv,.slice none 0 0,.slice none 0 0,.slice none 0 0] 78
 row:w.ownsRow 0 80 1 rv kids.length (K5 (kids.map MT.aL))
 cL:AtL w s (Bg (kids.take r) 0 C9) kids
 bL:w.ownsRow 0 80 1 pv (plL (kids.take q)).length (K5 ((plL (kids.take q)).map MT.aL))
 jF:∀x,Pd kids x->x<lo
 kH:∀x,rv.ownBlock=some x->x<lo
 kI:lo<=xb
 kG:∀x,pv.ownBlock=some x->lo<=x
section
variable{lo:Nat}{w w1 w6:World}{s:ByteArray}{xb:Nat}{rv pv:Value}{kids:List MT}{r q:Nat}
theorem NI.aA(h:NI lo w s xb rv pv kids r q)(k:Bw w w1):NI lo w1 s xb rv pv kids r q:=
 ⟨h.aO.aA k,J0 (ex:=fun _=>False) h.row (C0.aM k) (fun _ _ e=>e),AtL.kept (ex:=fun _=>False) (C0.aM k) _ h.cL (fun _ _ e=>e),J0 (ex:=fun _=>False) h.bL (C0.aM k) (fun _ _ e=>e),h.jF,h.kH,h.kI,h.kG⟩
theorem NI.num(h:NI lo w s xb rv pv kids r q)(Z:r<kids.length)(hU:∀U:MT,U.At w s (Bg (kids.take r) 0 C9)->U.At w1 s (kids[r].num (J1 (ntL (kids.take r))) (Bg (kids.take r) 0 C9)))(X:C0 (fun x=>x∈kids[r].blks) w w1):
  NI lo (w1.setCell ⟨xb,1,none⟩ (.int .i64 ((J1 (ntL (kids.take r))+kids[r].nt.aH:Nat):Int))) s xb rv pv kids (r+1) q:=by
 have W:∀x,x∈kids[r].blks->Pd kids x:=fun x f=>(Oc kids x).2 ⟨kids[r],zG Z,MT.cJ _ _ f⟩
 have G:∀x,x∈kids[r].blks->∃c,Blk w x c 129:=fun x f=>MT.At.part _ ((Tc kids).1 h.cL _ (zG Z)) x f
 have J:kids.take (r+1)=kids.take r++ [kids[r]]:=(yJ Z).symm;have Y:J1 (ntL (kids.take (r+1)))=J1 (ntL (kids.take r))+kids[r].nt.aH:=by rw[J,Xl]
 have D:Bg (kids.take (r+1)) 0 C9=kids[r].num (J1 (ntL (kids.take r))) (Bg (kids.take r) 0 C9):=by rw[J,Tl];simp[Bg]
 have kk:C0 (fun b=>b=xb) w1 (w1.setCell ⟨xb,1,none⟩ (.int .i64 ((J1 (ntL (kids.take r))+kids[r].nt.aH:Nat):Int))):=C0.setCell (ex:=fun b=>b=xb) (p:=⟨xb,1,none⟩) (C0.refl _ _) (fun _=>rfl) _;have M:=h.aO.kept X (fun f=>by have:=h.jF xb (W xb f);have:=h.kI;omega);have a0:=h.kI;refine⟨?_,J0 (J0 h.row X (fun b B f=>?_)) kk (fun b B e=>?_),?_,J0 (J0 h.bL X (fun b B f=>?_)) kk (fun b B e=>?_),h.jF,h.kH,h.kI,h.kG⟩
 ·rw[Y];exact M.set 1 _
 ·obtain⟨c,V⟩:=G b f;exact K0 h.row V (by decide) B
 ·have:=h.kH b B;omega
 ·rw[D];refine AtL.kept kk _ ((Tc kids).2 fun U K=>hU U ((Tc kids).1 h.cL U K)) (fun x f e=>?_);have:=h.jF x f;omega
 ·obtain⟨c,V⟩:=G b f;exact K0 h.bL V (by decide) B
 ·subst e;exact K0 h.bL h.aO (by decide) B
theorem NI.lE(h:NI lo w s xb rv pv kids r q)(X:q<kids.length){v6:Value}(W:w6.ownsRow 0 80 1 v6 ((plL (kids.take q)).map MT.aL++kids[q].pl.map MT.aL).length (K5 ((plL (kids.take q)).map MT.aL++kids[q].pl.map MT.aL)))(Y:∀b,v6.ownBlock=some b->lo<=b)(K:C0 (fun b=>pv.ownBlock=some b) w w6):
  NI lo (w6.setCell ⟨xb,2,none⟩ v6) s xb rv v6 kids r (q+1):=by
 have G:kids.take (q+1)=kids.take q++ [kids[q]]:=(yJ X).symm;have D:(plL (kids.take (q+1))).map MT.aL=(plL (kids.take q)).map MT.aL++kids[q].pl.map MT.aL:=by rw[G,Ye];simp[plL]
 have J:C0 (fun b=>b=xb) w6 (w6.setCell ⟨xb,2,none⟩ v6):=C0.setCell (ex:=fun b=>b=xb) (p:=⟨xb,2,none⟩) (C0.refl _ _) (fun _=>rfl) _;have M:=h.aO.kept K (fun e=>K0 h.bL h.aO (by decide) e);have V:=h.kI;refine⟨M.set 2 _,J0 (J0 h.row K (fun b f B=>?_)) J (fun b f e=>?_),?_,?_,h.jF,h.kH,h.kI,Y⟩
 ·have:=h.kH b f;have:=h.kG b B;omega
 ·have:=h.kH b f;omega
 ·refine AtL.kept J _ (AtL.kept K _ h.cL (fun x B e=>?_)) (fun x B e=>?_)
  ·have:=h.jF x B;have:=h.kG x e;omega
  ·have:=h.jF x B;omega
 ·have U:=J0 W J (fun b f e=>by subst e;exact K0 W M (by decide) f);rw[<-D,yA]at U;exact U
theorem NI.gH(h:NI lo w s xb rv pv kids kids.length kids.length)(U:(B9 kids).Nodup)(K:WfL s (ntL kids))(J:s.size<=120)(B:J1 (ntL kids)<=100000)(M:kids≠ []):Jh w xb s (Bg kids 0 C9) kids/\MA w xb (Yq s kids)/\XAt w xb rv (.int .i64 ((J1 (ntL kids):Nat):Int)) pv (.slice none 0 0) (.slice none 0 0) (.slice none 0 0) [] [] []:=by
 have G:=h.aO;have f:=h.cL;have D:=h.bL;rw[zN (zD _)]at G f D;obtain⟨V,W⟩:=RX J f K;refine⟨⟨⟨_,rv,G,rfl,rfl,h.row⟩,f,Ws kids 0 C9 U,K,J,B,M⟩,⟨⟨_,pv,G,rfl,?_⟩,V,W⟩,⟨G,World.ownsRow_nil _ _ _ _,⟨World.ownsRow_nil _ _ _ _,fun p B=>by simp at B⟩,World.ownsRow_nil _ _ _ _,fun p B=>by simp at B⟩⟩;rw[EM,LI];exact D
end
end Go.Proofs.YtcckhngbdoiikaaGreat

namespace Go.Proofs.YtcckhngbdoiikaaGreat
section
variable{g:B0}{K:Nat}{F:List Nat}
theorem OC(g:B0)(s:Int)(f:List Nat)(k:Nat):G3 g s (f++ [k])=W0 g (G3 g s f) k:=by simp[G3]
theorem MI(B:GOk g K){a k:Nat}(f:a<g.aB.length)(h:k<K):W0 (G0 g) (a:Int) k=W0 g (a:Int) k\/W0 (G0 g) (a:Int) k= -1:=by
 rw[Yg B f h];split
 ·exact .inl rfl
 ·exact .inr rfl
theorem Ju(G:Aa g K){a k t:Nat}(J:a<g.aB.length)(M:k<K)(h:W0 g (a:Int) k=(t:Int))(Y:M6 g K (t:Int)):W0 (G0 g) (a:Int) k=(t:Int):=by
 rcases MI G.ok J M with e|e
 ·rw[e];exact h
 ·exfalso
  obtain⟨f,U,V⟩:=Y;have D:=H9 G.ok (k::f) a (fun x B=>by
   rw[zU]at B;rcases B with rfl|B
   ·exact M
   ·exact U x B) J
  have W:G3 (G0 g) (a:Int) (k::f)=G3 (G0 g) (W0 (G0 g) (a:Int) k) f:=rfl;have X:G3 g (a:Int) (k::f)=G3 g (W0 g (a:Int) k) f:=rfl;rw[W,X,e,h,I9 (G0 g) f (-1) (by omega)]at D;apply V;rw[<-D];split <;>rfl
theorem Y9.run(Y:Y9 g K F)(D:Aa g K):∀(n:Nat) (J:List Nat) (a:Nat),J.length=n->(∀k∈J,k<K)->G3 g 0 J=(a:Int)->Dv g K a->∃s,∃M:s<F.length,G3 (E1 (G0 g) (N1 (G0 g))) 0 J=(s:Int)/\L5 (G0 g) K (F[s]:Int) (a:Int)
 |0,J,a,hn,Z,hr,hg=>by
  obtain rfl:J= []:=yM hn;have e:a=0:=by have e':(0:Int)=(a:Int):=hr;omega
  subst e;have hm:0∈F:=(Y.mem 0).2 ⟨hg,fun b hb=>by omega⟩;obtain⟨s,M,V⟩:=List.getElem_of_mem hm;have a4:s=0:=by
   refine Decidable.byContradiction fun a8=>?_
   have h1:0<F.length:=by omega
   have:=(U8 Y.bJ h1 M).2 (by omega);omega
  subst a4;exact⟨0,M,rfl,by rw[V];exact fun J Z=>rfl⟩
 |n+1,J,t,hn,Z,hr,hg=>by
  obtain⟨h,k,rfl⟩:∃h k,J=h++ [k]:=⟨J.dropLast,J.getLast (fun e=>by rw[e]at hn;simp at hn),(List.dropLast_concat_getLast _).symm⟩;have f:k<K:=Z k (by simp);have a0:∀x∈h,x<K:=fun x hx=>Z x (by simp[hx])
  rw[OC]at hr;rw[OC];have a1:G3 g 0 h= -1\/∃a:Nat,a<g.aB.length/\G3 g 0 h=(a:Int):=by
   clear hr hn Z;have a7:∀(l:List Nat) (s:Nat),(∀x∈l,x<K)->s<g.aB.length->G3 g (s:Int) l= -1\/∃a:Nat,a<g.aB.length/\G3 g (s:Int) l=(a:Int):=by
    intro l
    induction l with
    |nil=>intro s _ M;exact .inr ⟨s,M,rfl⟩
    |cons x l ih=>
     intro s hx M;have e:G3 g (s:Int) (x::l)=G3 g (W0 g (s:Int) x) l:=rfl;rw[e];rcases C8 D.ok (s:=(s:Int)) (by omega) (by omega) (hx x (by simp))with U|⟨U,V⟩
     ·left
      rw[U,I9 g l (-1) (by omega)];split <;>rfl
     ·obtain⟨j,hj⟩:∃j:Nat,W0 g (s:Int) x=(j:Int):=⟨(W0 g (s:Int) x).toNat,by omega⟩;rw[hj];exact ih j (fun y hy=>hx y (by simp[hy])) (by omega)
   exact a7 h 0 a0 D.bF
  rcases a1 with e|⟨a,ha,e⟩
  ·exfalso
   rw[e]at hr;unfold W0 at hr;rw[if_pos (by omega)]at hr;omega
  ·rw[e]at hr;have a5:t≠0:=by
    intro X;have:=D.up a k ha f;rw[hr,X]at this;exact this rfl
   have W:M6 g K (t:Int):=by
    rcases hg.2 with X|X
    ·exact absurd X a5
    ·exact X
   have a2:M6 g K (a:Int):=Tx f hr W;obtain⟨s,M,h1,h2⟩:=Y9.run Y D n h a (by simpa using hn) a0 e ⟨ha,.inr a2⟩;rw[h1];have G:=h2.step f;rw[Ju D ha f hr W]at G;have hm:=((Y.mem F[s]).1 (zG M)).1.1;rcases Y.next D M f with⟨h3,h4⟩|⟨t',s',a3,h3,h4,h5,h6,h7⟩
   ·exfalso
    have hd:W0 (G0 g) (F[s]:Int) k= -1:=by
     rcases MI D.ok hm f with U|U
     ·rcases h4 with V|⟨u,V,e3⟩
      ·rw[U];exact V
      ·exfalso
       rw[V]at U;have hu:=Zl D.ok hm f U;obtain⟨B,p1,p2⟩:=hu;have a6:u<g.aB.length:=by
        have:=C8 D.ok (s:=(F[s]:Int)) (by omega) (by omega) f;rw[V]at this;omega
       rw[H9 D.ok B u p1 a6]at p2;exact e3 ⟨B,p1,p2⟩
     ·exact U
    rw[hd]at G;obtain⟨B,p1,p2⟩:=W;have:=G B p1;rw[H9 D.ok B t p1 hg.1,I9 (G0 g) B (-1) (by omega)]at this;apply p2;rw[<-this];split <;>rfl
   ·refine⟨s',a3,h6,?_⟩;rw[Ju D hm f h3 h4]at G;exact h7.trans G
end
section
variable{rs:ByteArray}{R:E0}{ts:List PT}{T:List ByteArray}{S:List (Nat×List Bool)}{To:List (Nat×List Int)}{PS:List I0}{g:B0}
theorem FP.run(h:FP ts R PS.length T S To PS g){i:Nat}(hi:i<T.length):G3 g 0 ((Q0 T[i]).map (Z2 R.aJ))=(i:Int):=by
 have a0:=h.aI.tl;have B:(T.map Q0).getD i []=Q0 T[i]:=by rw[zC,List.getElem?_map,zF hi];rfl
 by_cases h0:0<i
 ·obtain⟨W,U,t3⟩:=h.bT.bO.set i h0 (by omega);have D:=h.bT.bO.bytes i;rw[B]at W U D;rcases UG h.bT.ex (fun b hb=>Ue R.aJ b 256 hb) (Q0 T[i]) W D with⟨_,e⟩|⟨m,X,e2,M,J⟩
  ·rw[U,t3]at e;cases e
  ·rw[X];rw[U]at J;have hm:m=i:=by
    have f:i<PS.length:=by omega
    have Y:PS.getD m I0.none=PS[m]:=by rw[zC,zF M];rfl
    have Z:PS.getD i I0.none=PS[i]:=by rw[zC,zF f];rfl
    rw[Y,Z]at J;have G:=List.pairwise_iff_getElem.1 h.bT.bR;rcases Nat.lt_trichotomy m i with e|e|e
    ·exact absurd J (G m i M f e)
    ·exact e
    ·exact absurd J.symm (G i m f M e)
   rw[hm]
 ·obtain rfl:i=0:=by omega
  have V:=h.bT.bO.zero.2;rw[B]at V;rw[V];rfl
theorem FP.text{F:List Nat}{K:Nat}(B:Y9 g K F)(Z:Aa g K)(Y:K=(V0 R.aJ 256).length)(h:FP ts R PS.length T S To PS g){s:Nat}(G:s<F.length)(V:F[s]<T.length):G3 (E1 (G0 g) (N1 (G0 g))) 0 ((Q0 T[F[s]]).map (Z2 R.aJ))=(s:Int):=by
 have D:=h.bT.bO.bytes F[s];have J:(T.map Q0).getD F[s] []=Q0 T[F[s]]:=by rw[zC,List.getElem?_map,zF V];rfl
 rw[J]at D;have M:=((B.mem F[s]).1 (zG G)).1;obtain⟨W,f,X,U⟩:=B.run Z _ ((Q0 T[F[s]]).map (Z2 R.aJ)) F[s] rfl (fun k hk=>by
  obtain⟨b,hb,rfl⟩:=List.mem_map.1 hk;rw[Y];exact(Ue R.aJ b 256 (D b hb)).1) (h.run V) M
 rw[X];have a1:=B.dR (zG f) U.symm;have a2:=B.dR (zG G) U;have:W=s:=by
  rcases Nat.lt_trichotomy W s with e|e|e
  ·have:=(U8 B.bJ f G).2 e;omega
  ·exact e
  ·have:=(U8 B.bJ G f).2 e;omega
 rw[this]
end
structure Lp(kd:Nat->Nat)(g:B0)(TX:List ByteArray):Prop where
 run:∀s,(h:s<TX.length)->G3 g 0 ((Q0 TX[s]).map kd)=(s:Int)
 dH:∀s,(h:s<TX.length)->TX[s].size<=61
 zero:(h:0<TX.length)->TX[0].size=0
section
variable{rs:ByteArray}{R:E0}{ts:List PT}{T:List ByteArray}{S:List (Nat×List Bool)}{To:List (Nat×List Int)}{PS:List I0}{g:B0}
theorem FP.bO{F:List Nat}{K:Nat}(U:Y9 g K F)(Y:Aa g K)(hK:K=(V0 R.aJ 256).length)(h:FP ts R PS.length T S To PS g)(hg:g.aB.length=T.length):Lp (Z2 R.aJ) (E1 (G0 g) (N1 (G0 g))) (Lm T F F.length):=by
 have Z:(Lm T F F.length).length=F.length:=Yr T F (zD _);have B:∀s,(f:s<F.length)->F[s]<T.length:=fun s f=>by rw[<-hg];exact((U.mem F[s]).1 (zG f)).1.1
 have D:∀s,(f:s<F.length)->(X:s<(Lm T F F.length).length)->(Lm T F F.length)[s]=T[F[s]]'(B s f):=fun s f X=>by
  have M:=B s f;have W:(Lm T F F.length)[s]?=some T[F[s]]:=by
   unfold Lm;rw[List.getElem?_map,zN (zD _),zF f];show some (T.getD F[s] noT)=_;rw[zC,zF M];rfl
  rw[zF X]at W;exact zE W
 have a0:=h.bT.cT;have a1:=h.aI.tl;refine⟨fun s f=>?_,fun s f=>?_,fun f=>?_⟩
 ·rw[D s (by omega) f];exact h.text U Y hK (by omega) (B s (by omega))
 ·rw[D s (by omega) f];have M:=B s (by omega);have J:=h.bT.bO.dH F[s];have G:(T.map Q0).getD F[s] []=Q0 T[F[s]]:=by rw[zC,List.getElem?_map,zF M];rfl
  rw[G,I1]at J;omega
 ·rw[D 0 (by omega) f];have M:=B 0 (by omega);have hm:0∈F:=(U.mem 0).2 ⟨⟨Y.bF,.inl rfl⟩,fun b hb=>by omega⟩;have h0:F[0]'(by omega)=0:=by
   obtain⟨s,V,e⟩:=List.getElem_of_mem hm
   by_cases e0:s=0
   ·subst e0;exact e
   ·have:=(U8 U.bJ (show 0<F.length by omega) V).2 (by omega);omega
  have J:=h.bT.bO.dH F[0];have G:(T.map Q0).getD F[0] []=Q0 T[F[0]]:=by rw[zC,List.getElem?_map,zF M];rfl
  rw[G,I1]at J;omega
end
end Go.Proofs.YtcckhngbdoiikaaGreat

namespace Go.Proofs.YtcckhngbdoiikaaGreat
open Go.RowKit Go.Deep
section
variable{w w':World}{xb yb:Nat}{rv pn pv tv ov fv:Value}{TX:List ByteArray}{OX:List (Nat×List Int)}{FX:List Int}{kd:Nat->Nat}{g:B0}
theorem XAt.jZ(h:XAt w xb rv pn pv tv ov fv TX OX FX)(K:0<OX.length):∃B f,w.cell? ⟨xb,4,none⟩=some (.slice (some ⟨B,0,none⟩) OX.length f)/\∀i,(D:i<OX.length)->w.cell? ⟨B,i,none⟩=some (.slice (some ⟨OX[i].1,0,none⟩) 256 256)/\∀b,b<256->w.cell? ⟨OX[i].1,b,none⟩=some (.int .i64 (OX[i].2.getD b 0)):=by
 have G:=h.bP.row;obtain⟨_,W,f,rfl,⟨_,e⟩|⟨B,V,rfl,_⟩⟩:=L0 G
 ·omega
 refine⟨B,f,h.aO.cell 4,fun i D=>⟨by rw[Y0 G i (by omega)];simp[slV,D],fun b U=>?_⟩⟩;obtain⟨J,M⟩:=h.bP.aV OX[i] (zG D);exact O5 J b (by omega)
theorem XAt.eQ(h:XAt w xb rv pn pv tv ov fv TX OX FX)(M:0<TX.length):∃J B,w.cell? ⟨xb,3,none⟩=some (.slice (some ⟨J,0,none⟩) TX.length B)/\∀i,(D:i<TX.length)->w.cell? ⟨J,i,none⟩=some (.string TX[i]):=by
 have G:=h.txt;obtain⟨_,V,f,rfl,⟨_,e⟩|⟨K,U,rfl,_⟩⟩:=L0 G
 ·omega
 exact⟨K,f,h.aO.cell 3,fun i D=>by rw[Y0 G i (by omega)];simp[D]⟩
theorem XAt.lS(h:XAt w xb rv pn pv tv ov fv TX OX FX)(K:0<FX.length):∃B f,w.cell? ⟨xb,5,none⟩=some (.slice (some ⟨B,0,none⟩) FX.length f)/\∀i,i<FX.length->w.cell? ⟨B,i,none⟩=some (.int .i64 (FX.getD i 0)):=by
 obtain⟨J,D,rfl,e|⟨B,rfl⟩⟩:=h.of.aT
 ·omega
 exact⟨B,D,h.aO.cell 5,fun i G=>h.of.getD i G⟩
structure N6(w:World)(yb:Nat)(kd:Nat->Nat)(g:B0)(TX:List ByteArray):Prop where
 x:∃rv pn pv xt xo xf OX FX,XAt w yb rv pn pv xt xo xf TX OX FX/\SP (fun i b=>W0 g (i:Int) (kd b)) (fun i=>g.aB.getD i 0) g.aB.length OX FX
 tl:TX.length=g.aB.length
 bF:0<g.aB.length/\g.aB.length<=61
 nl:g.next.length=g.aB.length
theorem N6.aA(h:N6 w yb kd g TX)(k:Bw w w'):N6 w' yb kd g TX:=by
 obtain⟨rv,pn,pv,J,G,D,OX,FX,f,B⟩:=h.x;exact⟨⟨rv,pn,pv,J,G,D,OX,FX,f.aA k,B⟩,h.tl,h.bF,h.nl⟩
theorem N6.cells(h:N6 w yb kd g TX):yb<w.heap.size/\(∃Y D,w.cell? ⟨yb,3,none⟩=some (.slice (some ⟨Y,0,none⟩) g.aB.length D)/\∀i,(J:i<TX.length)->w.cell? ⟨Y,i,none⟩=some (.string TX[i]))/\
  (∃X B,w.cell? ⟨yb,4,none⟩=some (.slice (some ⟨X,0,none⟩) g.aB.length B)/\∀i,i<g.aB.length->∃ob,w.cell? ⟨X,i,none⟩=some (.slice (some ⟨ob,0,none⟩) 256 256)/\∀b,b<256->w.cell? ⟨ob,b,none⟩=some (.int .i64 (W0 g (i:Int) (kd b))))/\
  (∃V f,w.cell? ⟨yb,5,none⟩=some (.slice (some ⟨V,0,none⟩) g.aB.length f)/\∀i,i<g.aB.length->w.cell? ⟨V,i,none⟩=some (.int .i64 (g.aB.getD i 0))):=by
 obtain⟨rv,pn,pv,xt,xo,xf,OX,FX,W,G⟩:=h.x;have Z:=h.bF.1;refine⟨W.aO.lt,?_,?_,?_⟩
 ·obtain⟨Y,D,K,M⟩:=W.eQ (by rw[h.tl];exact Z);exact⟨Y,D,by rw[K,h.tl],M⟩
 ·obtain⟨X,B,K,M⟩:=W.jZ (by rw[G.ol];exact Z);refine⟨X,B,by rw[K,G.ol],fun i J=>?_⟩;have U:i<OX.length:=by rw[G.ol];exact J
  obtain⟨e3,e4⟩:=M i U;refine⟨_,e3,fun b hb=>?_⟩;have h5:=G.row i b J hb;rw[zC (l:=OX),zF U,Option.getD_some]at h5;rw[e4 b hb,h5]
 ·obtain⟨V,f,K,M⟩:=W.lS (by rw[G.fl];exact Z);exact⟨V,f,by rw[K,G.fl],fun i J=>by rw[M i (by rw[G.fl];exact J),G.bN i J]⟩
theorem AI(f:g.next.length=g.aB.length){i b:Nat}(B:i<g.aB.length)(h:b<256):X0 kd g (i:Int) (b:Int)=W0 g (i:Int) (kd b):=by
 unfold X0 W0;rw[if_neg (by omega),if_neg (by omega),zH,zH]
end
theorem Mu(yb:Nat)(kd:Nat->Nat)(g:B0)(TX:List ByteArray)(s:Int)(w:World)(h:N6 w yb kd g TX):
  Calls Tryz.prog 64 #[.pointer (some ⟨yb,0,none⟩),.int .i64 s] w fun e w'=>e=.returned (.int .i64 (N0 g s))/\w'=w:=by
 obtain⟨zy,⟨tg,M,X,_⟩,_,⟨Y,K,J,G⟩⟩:=h.cells;generalize f:N0 g s=F;unfold N0 at f;clear h
 by_cases B:s<0
 ·have U:decide (s<0)=true:=by simp[B]
  rw[if_pos (.inl B)]at f;subst f;clear G J;go_enter Tryz.func64,Tryz.ntmps64;go_wp2_with fail;go_ret;exact⟨rfl,rfl⟩
 ·have U:decide (s<0)=false:=by simp;omega
  by_cases D:(g.aB.length:Int)<=s
  ·have V:decide ((g.aB.length:Int)<=s)=true:=by simp[D]
   rw[if_pos (.inr D)]at f;subst f;clear G J;go_enter Tryz.func64,Tryz.ntmps64;go_wp2_with fail;go_ret;exact⟨rfl,rfl⟩
  ·have V:decide ((g.aB.length:Int)<=s)=false:=by simp;omega
   rw[if_neg (by omega)]at f;obtain⟨j,rfl⟩:∃j:Nat,s=(j:Int):=⟨s.toNat,by omega⟩;have W:=G j (by omega);rw[zH]at f;rw[f]at W;have Z:(0:Int)<=(j:Int):=by omega
   have i1:(j:Int)<(g.aB.length:Int):=by omega
   clear G f;go_enter Tryz.func64,Tryz.ntmps64;go_wp2_with fail;go_ret;exact⟨rfl,rfl⟩
theorem Rf(yb:Nat)(kd:Nat->Nat)(g:B0)(TX:List ByteArray)(s b:Int)(w:World)(h:N6 w yb kd g TX):
  Calls Tryz.prog 62 #[.pointer (some ⟨yb,0,none⟩),.int .i64 s,.int .i64 b] w fun e w'=>e=.returned (.int .i64 (X0 kd g s b))/\Bw w w':=by
 obtain⟨zy,⟨tg,X,c3,_⟩,⟨og,V,K,D⟩,_⟩:=h.cells;have B:=h.nl;generalize f:X0 kd g s b=F;clear h
 by_cases J:s<0
 ·have Y:decide (s<0)=true:=by simp[J]
  unfold X0 at f;rw[if_pos (.inl J)]at f;subst f;clear D K B;go_enter Tryz.func62,Tryz.ntmps62;go_wp2_with fail;go_ret;exact⟨rfl,Below.refl _ _⟩
 ·have Y:decide (s<0)=false:=by simp;omega
  by_cases U:(g.aB.length:Int)<=s
  ·have Z:decide ((g.aB.length:Int)<=s)=true:=by simp[U]
   unfold X0 at f;rw[if_pos (.inr (.inl (by omega)))]at f;subst f;clear D K B;go_enter Tryz.func62,Tryz.ntmps62;go_wp2_with fail;go_ret;exact⟨rfl,Below.refl _ _⟩
  ·have Z:decide ((g.aB.length:Int)<=s)=false:=by simp;omega
   by_cases G:b<0
   ·have e2:decide (b<0)=true:=by simp[G]
    unfold X0 at f;rw[if_pos (.inr (.inr (.inl G)))]at f;subst f;clear D K B;go_enter Tryz.func62,Tryz.ntmps62;go_wp2_with fail;go_ret;exact⟨rfl,Below.refl _ _⟩
   ·have e2:decide (b<0)=false:=by simp;omega
    by_cases M:256<=b
    ·have e3:decide ((255:Int)<b)=true:=by simp;omega
     unfold X0 at f;rw[if_pos (.inr (.inr (.inr M)))]at f;subst f;clear D K B;go_enter Tryz.func62,Tryz.ntmps62;go_wp2_with fail;go_ret;exact⟨rfl,Below.refl _ _⟩
    ·have e3:decide ((255:Int)<b)=false:=by simp;omega
     obtain⟨j,rfl⟩:∃j:Nat,s=(j:Int):=⟨s.toNat,by omega⟩;obtain⟨c,rfl⟩:∃c:Nat,b=(c:Int):=⟨b.toNat,by omega⟩;rw[AI B (by omega) (by omega)]at f;obtain⟨ob,q1,W⟩:=D j (by omega);have q3:=W c (by omega);rw[f]at q3;have i0:(0:Int)<=(j:Int):=by omega
     have i1:(j:Int)<(g.aB.length:Int):=by omega
     have i2:(0:Int)<=(c:Int):=by omega
     have i3:(c:Int)<256:=by omega
     clear D B f W;go_enter Tryz.func62,Tryz.ntmps62;go_wp2_with fail
     first
     |(go_ret;exact⟨rfl,Below.refl _ _⟩)
     |(go_quiet(fail);go_wp2_with fail;go_ret;exact⟨rfl,A2 (Below.refl _ _) _⟩)
end Go.Proofs.YtcckhngbdoiikaaGreat
