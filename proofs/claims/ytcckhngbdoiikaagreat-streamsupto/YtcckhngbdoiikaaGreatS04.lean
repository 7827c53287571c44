import Derived.Test.YtcckhngbdoiikaaGreatS03
set_option maxRecDepth 20000
set_option maxHeartbeats 12800000
set_option linter.unusedVariables false
namespace Go.Proofs.YtcckhngbdoiikaaGreat
def I6:List BT->Nat
 | []=>0
 |t::ts=>t.places+I6 ts
def W6:List BT->E0->E0
 | [],R=>R
 |t::ts,R=>W6 ts ((t.glush R).2.endRule (t.glush R).1)
def La:List BT->Nat->List Nat->Nat->Prop
 | [],n,w,q=>False
 |t::ts,n,w,q=>t.Last n w q\/La ts (n+t.places) w q
def Ad:List BT->List Nat
 | []=>[]
 |t::ts=>t.bF++Ad ts
theorem Zp(t:BT):∀f:List BT,I6 (f++ [t])=I6 f+t.places
 | []=>by simp[I6]
 |x::f=>by simp[I6,Zp t f];omega
theorem Jq(t:BT):∀(f:List BT) (n:Nat) (w:List Nat) (q:Nat),La (f++ [t]) n w q↔(La f n w q\/t.Last (n+I6 f) w q)
 | [],n,w,q=>by simp[La,I6]
 |x::f,n,w,q=>by
  simp only[List.cons_append,La,I6];rw[Jq t f,show n+x.places+I6 f=n+(x.places+I6 f) by omega,or_assoc]
theorem Uo:∀f:List BT,(Ad f).length=I6 f
 | []=>rfl
 |t::f=>by simp[Ad,I6,t.cB,Uo f]
theorem Xg:∀(f:List BT) (n:Nat) (w:List Nat) (q:Nat),La f n w q->n<=q/\q<n+I6 f
 | [],n,w,q,h=>h.elim
 |t::f,n,w,q,h=>by
  simp only[I6];rcases h with h|h
  ·have:=t.bG n w q h;omega
  ·have:=Xg f _ w q h;omega
theorem Va:∀(B:List BT) (n:Nat) (w:List Nat) (a:Nat),(∃t∈B,t.aX w a)↔∃q,La B n w q/\(Ad B).getD (q-n) 0=a
 | [],n,w,a=>by simp[La]
 |t::B,n,w,a=>by
  have J:=t.bS n w a;have K:=Va B (n+t.places) w a;have e:=t.cB;constructor
  ·rintro⟨x,D,h⟩;rw[zU]at D;rcases D with rfl|D
   ·obtain⟨q,G,f⟩:=J.1 h;have:=x.bG n w q G;exact⟨q,.inl G,by rw[Ad,Cb (by omega)];exact f⟩
   ·obtain⟨q,G,f⟩:=K.1 ⟨x,D,h⟩;have:=Xg B _ w q G;exact⟨q,.inr G,by rw[Ad,Ca e (by omega),show q-n-t.places=q- (n+t.places) by omega];exact f⟩
  ·rintro⟨q,h|h,f⟩
   ·have:=t.bG n w q h;rw[Ad,Cb (by omega)]at f;exact⟨t,by simp,J.2 ⟨q,h,f⟩⟩
   ·have:=Xg B _ w q h;rw[Ad,Ca e (by omega),show q-n-t.places=q- (n+t.places) by omega]at f;obtain⟨x,D,M⟩:=K.2 ⟨q,h,f⟩;exact⟨x,by simp[D],M⟩
structure Jf(R:E0)(ts:List BT):Prop where
 aS:Es R
 first:∀p,R.first.has p=true->p<R.aC.length
 len:R.last.length=ts.length
 eU:R.aC.length=I6 ts
 last:∀i p,(R.last.getD i I0.none).has p=true->p<R.aC.length
 dA:∀i,(h:i<ts.length)->∀w,w≠ []->((∃p q,R.first.has p=true/\(R.last.getD i I0.none).has q=true/\Q2 R.F R.A p w q)↔ts[i].aU w)
 bE:∀w q,(∃p,R.first.has p=true/\Q2 R.F R.A p w q)↔La ts 0 w q
theorem Jf.aQ:Jf E0.aQ []where
 aS:=⟨fun p q h=>by simp[E0.F,E0.aQ,N9]at h,fun p x h=>by simp[E0.A,E0.aQ,N9]at h⟩
 first:=fun p h=>by simp[E0.aQ,N9]at h
 len:=rfl
 eU:=rfl
 last:=fun i p h=>by simp[E0.aQ,N9]at h
 dA:=fun i h=>by simp at h
 bE:=fun w q=>by simp[E0.aQ,N9,La]
theorem Jf.step{R:E0}{V:List BT}(h:Jf R V)(t:BT)(hn:R.aC.length+t.places<=128):Jf ((t.glush R).2.endRule (t.glush R).1) (V++ [t]):=by
 have g:=T3 t R hn;have c:=Ia g h.aS;have gw:=K9 t R hn h.aS;have gl:=Nb t R hn h.aS;have gn:=W4 t R;generalize(t.glush R).1=P at*;generalize(t.glush R).2=R1 at*;have l1:=g.le;have eF:(R1.endRule P).F=R1.F:=rfl;have eA:(R1.endRule P).A=R1.A:=rfl;have M:∀p,(R1.endRule P).first.has p=true↔(R.first.has p=true\/P.first.has p=true):=by
  intro p;show((R1.first.or P.first).has p=true)↔_;rw[Ta,yX,g.dO]
 have Z:(R1.endRule P).last=R.last++ [P.last]:=by show R1.last++ [P.last]=_;rw[g.fA]
 have X:∀i,i<V.length->(R1.endRule P).last.getD i I0.none=R.last.getD i I0.none:=fun i U=>by
  rw[Z,zC,zQ (by rw[h.len];exact U),<-zC]
 have W:(R1.endRule P).last.getD V.length I0.none=P.last:=by rw[Z,<-h.len];simp
 have f:∀{p q:Nat} {w:List Nat},p<R.aC.length->(Q2 R1.F R1.A p w q↔Q2 R.F R.A p w q):=fun J=>Gj g h.aS.1 J
 have Y:∀{p q:Nat} {w:List Nat},R.aC.length<=p->Q2 R1.F R1.A p w q->R.aC.length<=q:=fun J hr=>
  Q2.bT (I:=fun p=>R.aC.length<=p) (fun p p' U h=>(g.newF p p' U h).1) J hr
 refine⟨c,fun p J=>?_,by rw[Z];simp[h.len],?_,fun i p J=>?_,fun i U w hw=>?_,fun w q=>?_⟩
 ·show p<R1.aC.length;rcases(M p).1 J with e|e
  ·have:=h.first p e;omega
  ·exact(g.first p e).2
 ·show R1.aC.length=_;rw[gn,Zp,h.eU]
 ·show p<R1.aC.length
  by_cases U:i<V.length
  ·rw[X i U]at J;have:=h.last i p J;omega
  ·by_cases G:i=V.length
   ·rw[G,W]at J;exact(g.last p J).2
   ·have:=Vg J;rw[Z]at this;simp[h.len]at this;omega
 ·rw[eF,eA]
  by_cases G:i<V.length
  ·rw[X i G,List.getElem_append_left G,<-h.dA i G w hw];constructor
   ·rintro⟨p,q,D,B,K⟩;rcases(M p).1 D with e|e
    ·exact⟨p,q,e,B,(f (h.first p e)).1 K⟩
    ·have:=Y (g.first p e).1 K;have:=h.last i q B;omega
   ·rintro⟨p,q,D,B,K⟩;exact⟨p,q,(M p).2 (.inl D),B,(f (h.first p D)).2 K⟩
  ·have a1:i=V.length:=by simp at U;omega
   subst a1;rw[W];simp only[List.getElem_append_right (zD _),yQ,List.getElem_cons_zero];rw[<-gw w];constructor
   ·rintro⟨p,q,D,B,K⟩;rcases(M p).1 D with e|e
    ·have a0:=(f (h.first p e)).1 K;have:=Q2.bT (I:=fun p=>p<R.aC.length) (fun p p' U h'=>h.aS.1 _ _ h') (h.first p e) a0;have:=g.last q B;omega
    ·exact .inr ⟨p,q,e,B,K⟩
   ·rintro(⟨e,_⟩|⟨p,q,D,B,K⟩)
    ·exact absurd e hw
    ·exact⟨p,q,(M p).2 (.inr D),B,K⟩
 ·rw[eF,eA,Jq,<-h.bE w q,yU,<-h.eU,<-gl w q];constructor
  ·rintro⟨p,D,B⟩;rcases(M p).1 D with e|e
   ·exact .inl ⟨p,e,(f (h.first p e)).1 B⟩
   ·exact .inr ⟨p,e,B⟩
  ·rintro(⟨p,D,B⟩|⟨p,D,B⟩)
   ·exact⟨p,(M p).2 (.inl D),(f (h.first p D)).2 B⟩
   ·exact⟨p,(M p).2 (.inr D),B⟩
theorem Sn:∀(f B:List BT) (R:E0),Jf R B->R.aC.length+I6 f<=128->Jf (W6 f R) (B++f)
 | [],B,R,h,_=>by rw[yS];exact h
 |t::f,B,R,h,hn=>by
  unfold I6 at hn;unfold W6;have:=Sn f (B++ [t]) _ (h.step t (by omega)) (by show(t.glush R).2.aC.length+_<=128;rw[W4];omega);simpa using this
theorem SK(f:List BT)(h:I6 f<=128):Jf (W6 f E0.aQ) f:=by
 have:=Sn f [] E0.aQ Jf.aQ (by simp[E0.aQ];exact h);simpa using this
theorem Jf.set{R:E0}{f:List BT}(h:Jf R f){w:List Nat}(B:w≠ [])(q:Nat):(Bb R w).has q=true↔La f 0 w q:=by
 rw[Wy R q w B,h.bE]
def Zv(f:List BT):Prop:=(Ad f).Nodup
theorem GM{f:List BT}(h:Zv f){i j:Nat}(B:i<I6 f)(D:j<I6 f)(e:(Ad f).getD i 0=(Ad f).getD j 0):i=j:=by
 rw[<-Uo]at B D;simp only[zC,zF B,zF D,Option.getD_some]at e;exact(List.getElem_inj h).1 e
theorem XV{R:E0}{f:List BT}(h:Jf R f)(X:Zv f){v w:List Nat}(K:v≠ [])(M:w≠ []):(∀a,(∃t∈f,t.aX v a)↔∃t∈f,t.aX w a)↔Bb R v=Bb R w:=by
 constructor
 ·intro e;refine Iy fun q=>?_
  rw[Bool.eq_iff_iff,h.set K,h.set M];have B:∀v w:List Nat,(∀a,(∃t∈f,t.aX v a)->∃t∈f,t.aX w a)->La f 0 v q->La f 0 w q:=by
   intro v w e D;have W:=e _ ((Va f 0 v _).2 ⟨q,D,rfl⟩);obtain⟨Y,G,J⟩:=(Va f 0 w _).1 W;have U:=Xg f 0 v q D;have V:=Xg f 0 w Y G;simp only[Nat.sub_zero,yU]at J U V;rw[<-GM X V.2 U.2 J];exact G
  exact⟨B v w (fun a=>(e a).1),B w v (fun a=>(e a).2)⟩
 ·intro e a;rw[Va f 0,Va f 0];have:∀q,La f 0 v q↔La f 0 w q:=fun q=>by rw[<-h.set K,<-h.set M,e]
  simp only[this]
theorem CS{R:E0}{f:List BT}(h:Jf R f){w:List Nat}(B:w≠ []):(∀a,¬ ∃t∈f,t.aX w a)↔(Bb R w).isEmpty=true:=by
 rw[Hdx];constructor
 ·intro e q;cases hh:(Bb R w).has q with
  |false=>rfl
  |true=>exact absurd ((Va f 0 w _).2 ⟨q,(h.set B q).1 hh,rfl⟩) (e _)
 ·intro e a D;obtain⟨q,G,_⟩:=(Va f 0 w a).1 D;have:=(h.set B q).2 G;rw[e q]at this;cases this
def Sv(f:List BT)(w:List Nat)(r:Int):Prop:=(r= -1/\∀i,(h:i<f.length)->¬f[i].aU w)\/∃i,∃h:i<f.length,r=(i:Int)/\f[i].aU w/\∀j,(B:j<i)->¬(f[j]'(by omega)).aU w
theorem Sv.bX{J:List BT}{w:List Nat}{r s:Int}(h:Sv J w r)(g:Sv J w s):r=s:=by
 rcases h with⟨G,B⟩|⟨i,U,G,B,M⟩ <;>rcases g with⟨D,f⟩|⟨j,V,D,f,K⟩
 ·rw[G,D]
 ·exact absurd f (B j V)
 ·exact absurd B (f i U)
 ·rcases Nat.lt_trichotomy i j with e|e|e
  ·exact absurd B (K i e)
  ·rw[G,D,e]
  ·exact absurd f (M j e)
theorem SR{R:E0}{J:List BT}(h:Jf R J)(w:List Nat)(V:w≠ []):Sv J w (R.aB (Bb R w)):=by
 have U:∀i,(G:i<J.length)->((Bb R w).cK (R.last.getD i I0.none)=true↔J[i].aU w):=by
  intro i G;rw[WB,<-h.dA i G w V];constructor
  ·rintro⟨q,f,B⟩;obtain⟨p,D,K⟩:=(Wy R q w V).1 f;exact⟨p,q,D,B,K⟩
  ·rintro⟨p,q,f,B,D⟩;exact⟨q,(Wy R q w V).2 ⟨p,f,D⟩,B⟩
 unfold E0.aB;rcases Gi (Bb R w) R.last 0 with⟨f,B⟩|⟨i,f,B,D,K⟩
 ·refine .inl ⟨f,fun i G M=>?_⟩;have:=(U i G).2 M;rw[B i (by rw[h.len];exact G)]at this;cases this
 ·rw[h.len]at f;refine .inr ⟨i,f,by rw[B];simp,(U i f).1 D,fun j W M=>?_⟩;have:=(U j (by omega)).2 M;rw[K j W]at this;cases this
inductive PT where
 |nil
 |bar (r:PT)
 |leaf (i e:Nat) (A:Nat->Bool) (m:Nat) (r:PT)
 |group (t:PT) (m:Nat) (r:PT)
def TD:BT:=.leaf 0 (fun _=>false)
def Tb(m:Nat)(t:BT):BT:=if m=42 then .maybe (.plus t)else if m=43 then .plus t else if m=63 then .maybe t else t
def Yf:Option BT->BT->BT
 |none,x=>x
 |some c,x=>.row c x
def Pc:Option BT->BT->BT
 |none,x=>x
 |some c,x=>.or c x
def PT.bt:PT->Option BT->Option BT->BT
 |.nil,aR,cur=>Pc aR (cur.getD TD)
 |.bar r,aR,cur=>r.bt (some (Pc aR (cur.getD TD))) none
 |.leaf i e A m r,aR,cur=>r.bt aR (some (Yf cur (Tb m (.leaf i A))))
 |.group t m r,aR,cur=>r.bt aR (some (Yf cur (Tb m (t.bt none none))))
def Fs(s:ByteArray)(e m:Nat):Prop:=(m=0/\F0 s e≠42/\F0 s e≠43/\F0 s e≠63)\/((m=42\/m=43\/m=63)/\F0 s e=(m:Int))
def A5(m:Nat):Nat:=if m=0 then 0 else 1
def PT.Sp(s:ByteArray):PT->Nat->Nat->Prop
 |.nil,i,j=>i=j
 |.bar r,i,j=>F0 s i=124/\r.Sp s (i+1) j
 |.leaf a e A m r,i,j=>a=i/\T6 s i=(A,true,e)/\F0 s i≠40/\Fs s e m/\r.Sp s (e+A5 m) j
 |.group t m r,i,j=>F0 s i=40/\∃e,t.Sp s (i+1) e/\F0 s e=41/\Fs s (e+1) m/\r.Sp s (e+1+A5 m) j
def PT.Ne:PT->Bool->Prop
 |.nil,c=>c=true
 |.bar r,c=>c=true/\r.Ne false
 |.leaf i e A m r,c=>r.Ne true
 |.group t m r,c=>t.Ne false/\r.Ne true
def AK(s:ByteArray)(ex:PFn):Prop:=∀p R,(ex p R).ok=true->∃t:PT,t.Sp s p (ex p R).bC/\t.Ne false/\(t.bt none none).glush R=((ex p R).part,(ex p R).aD)
theorem ZN{s:ByteArray}{a:Vf}(f:(Pe s a).ok=true)(x:BT){R:E0}(G:x.glush R=(a.part,a.aD)):
  a.ok=true/\∃m,Fs s a.bC m/\(Pe s a).bC=a.bC+A5 m/\(Tb m x).glush R=((Pe s a).part,(Pe s a).aD):=by
 unfold Pe at f⊢;split at f
 ·cases f
 ·rename_i K;have J:a.ok=true:=by cases e:a.ok <;>simp_all
  refine⟨J,?_⟩;rw[if_neg K]
  by_cases h:F0 s a.bC=42
  ·rw[if_pos h];refine⟨42,.inr ⟨.inl rfl,h⟩,rfl,?_⟩;simp[Tb,BT.glush,G]
  ·rw[if_neg h]
   by_cases B:F0 s a.bC=43
   ·rw[if_pos B];refine⟨43,.inr ⟨.inr (.inl rfl),B⟩,rfl,?_⟩;simp[Tb,BT.glush,G]
   ·rw[if_neg B]
    by_cases D:F0 s a.bC=63
    ·rw[if_pos D];refine⟨63,.inr ⟨.inr (.inr rfl),D⟩,rfl,?_⟩;simp[Tb,BT.glush,G]
    ·rw[if_neg D];exact⟨0,.inl ⟨rfl,h,B,D⟩,rfl,by simp[Tb,G]⟩
structure YW(s:ByteArray)(p q:Nat)(x:BT)(f:PT->PT):Prop where
 sp:∀r j,r.Sp s q j->(f r).Sp s p j
 bt:∀r aR cur,(f r).bt aR cur=r.bt aR (some (Yf cur x))
 ne:∀r c,r.Ne true->(f r).Ne c
theorem KI{s:ByteArray}{ex:PFn}(h:AK s ex){p:Nat}{R:E0}(D:(A8 s ex p R).ok=true):
  ∃f x,YW s p (A8 s ex p R).bC x f/\x.glush R=((A8 s ex p R).part,(A8 s ex p R).aD):=by
 unfold A8 at D⊢;have B:(Wd s ex p R).ok=true:=by
  unfold Pe at D;split at D
  ·cases D
  ·rename_i h0;cases e:(Wd s ex p R).ok <;>simp_all
 by_cases G:F0 s p=40
 ·have Y:Wd s ex p R=Ae s ex p R:=by unfold Wd;rw[if_pos G]
  rw[Y]at D B⊢;unfold Ae at B;split at B
  ·rename_i K;have Z:Ae s ex p R=⟨(ex (p+1) R).part,true,(ex (p+1) R).bC+1,(ex (p+1) R).aD⟩:=by unfold Ae;rw[if_pos K]
   obtain⟨t,t1,t2,t3⟩:=h (p+1) R K.1;rw[Z]at D⊢;obtain⟨_,m,U,V,W⟩:=ZN D (t.bt none none) (R:=R) t3;refine⟨fun r=>.group t m r,Tb m (t.bt none none),⟨fun r j J=>?_,fun r X cur=>rfl,fun r c J=>⟨t2,J⟩⟩,W⟩;rw[V]at J;exact⟨G,_,t1,K.2,U,J⟩
  ·cases B
 ·unfold Wd at D B⊢;rw[if_neg G]at D B⊢
  by_cases M:(T6 s p).2.1=true
  ·rw[if_pos M]at D⊢;obtain⟨_,m,U,V,W⟩:=ZN D (.leaf p (T6 s p).1) (R:=R) rfl;refine⟨fun r=>.leaf p (T6 s p).2.2 (T6 s p).1 m r,Tb m (.leaf p (T6 s p).1),⟨fun r j J=>?_,fun r X cur=>rfl,fun r c J=>J⟩,W⟩;rw[V]at J;refine⟨rfl,?_,G,U,J⟩;rw[<-M]
  ·rw[if_neg M]at B;cases B
structure LZ(s:ByteArray)(p q:Nat)(tc tc':BT)(f:PT->PT):Prop where
 sp:∀r j,r.Sp s q j->(f r).Sp s p j
 bt:∀r aR,(f r).bt aR (some tc)=r.bt aR (some tc')
 ne:∀r,r.Ne true->(f r).Ne true
theorem Kw{s:ByteArray}{ex:PFn}:∀(n:Nat) (r:Vf),(C6 s ex n r).ok=true->r.ok=true
 |0,r,h=>h
 |n+1,r,h=>by
  unfold C6 at h;split at h
  ·rename_i f;exact f.1
  ·exact h
theorem Lw{s:ByteArray}{ex:PFn}(h:AK s ex){Rc:E0}:∀(n:Nat) (r:Vf) (D:BT),D.glush Rc=(r.part,r.aD)->(C6 s ex n r).ok=true->
  ∃f B,LZ s r.bC (C6 s ex n r).bC D B f/\B.glush Rc=((C6 s ex n r).part,(C6 s ex n r).aD)
 |0,r,D,hg,hok=>⟨id,D,⟨fun _ _ h=>h,fun _ _=>rfl,fun _ h=>h⟩,hg⟩
 |n+1,r,D,hg,hok=>by
  unfold C6 at hok⊢
  by_cases U:r.ok=true/\Qb (F0 s r.bC)=false
  ·rw[if_pos U]at hok⊢;have Z:=Kw n _ hok;obtain⟨f,x,J,X⟩:=KI h (p:=r.bC) (R:=r.aD) Z;have G:(BT.row D x).glush Rc=(F4 r.part (A8 s ex r.bC r.aD).part,(A8 s ex r.bC r.aD).aD.chain r.part (A8 s ex r.bC r.aD).part):=by
    simp only[BT.glush,hg,X]
   obtain⟨W,B,K,Y⟩:=Lw h n _ (.row D x) G hok;exact⟨fun r=>f (W r),B,⟨fun r j M=>J.sp _ j (K.sp r j M),fun r V=>by rw[J.bt];exact K.bt r V,fun r M=>J.ne _ _ (K.ne r M)⟩,Y⟩
  ·rw[if_neg U]at hok⊢;exact⟨id,D,⟨fun _ _ h=>h,fun _ _=>rfl,fun _ h=>h⟩,hg⟩
structure DZ(s:ByteArray)(p q:Nat)(tc:BT)(f:PT->PT):Prop where
 sp:∀r j,r.Sp s q j->(f r).Sp s p j
 bt:∀r aR,(f r).bt aR none=r.bt aR (some tc)
 ne:∀r,r.Ne true->(f r).Ne false
theorem YT{s:ByteArray}{ex:PFn}(h:AK s ex){p:Nat}{R:E0}(B:(M2 s ex p R).ok=true):
  ∃f M,DZ s p (M2 s ex p R).bC M f/\M.glush R=((M2 s ex p R).part,(M2 s ex p R).aD):=by
 unfold M2 at B⊢;have Y:=Kw _ _ B;obtain⟨f,x,D,W⟩:=KI h Y;obtain⟨V,K,G,X⟩:=Lw h (Rc:=R) _ _ x W B;exact⟨fun r=>f (V r),K,⟨fun r j J=>D.sp _ j (G.sp r j J),fun r U=>by rw[D.bt];exact G.bt r U,fun r J=>D.ne _ _ (G.ne r J)⟩,X⟩
structure GZ(s:ByteArray)(p q:Nat)(aR:Option BT)(cur:BT)(acc':Option BT)(cur':BT)(f:PT->PT):Prop where
 sp:∀r j,r.Sp s q j->(f r).Sp s p j
 bt:∀r,(f r).bt aR (some cur)=r.bt acc' (some cur')
 ne:∀r,r.Ne true->(f r).Ne true
theorem Wt{s:ByteArray}{ex:PFn}:∀(n:Nat) (r:Vf),(T4 s ex n r).ok=true->r.ok=true
 |0,r,h=>h
 |n+1,r,h=>by
  unfold T4 at h;split at h
  ·rename_i f;exact f.1
  ·exact h
theorem Xt{s:ByteArray}{ex:PFn}(h:AK s ex){R0:E0}:∀(n:Nat) (r:Vf) (G:Option BT) (cur:BT),(Pc G cur).glush R0=(r.part,r.aD)->(T4 s ex n r).ok=true->
  ∃f B D,GZ s r.bC (T4 s ex n r).bC G cur B D f/\(Pc B D).glush R0=((T4 s ex n r).part,(T4 s ex n r).aD)
 |0,r,G,cur,hg,hok=>⟨id,G,cur,⟨fun _ _ h=>h,fun _=>rfl,fun _ h=>h⟩,hg⟩
 |n+1,r,G,cur,hg,hok=>by
  unfold T4 at hok⊢
  by_cases U:r.ok=true/\F0 s r.bC=124
  ·rw[if_pos U]at hok⊢;have Z:=Wt n _ hok;obtain⟨f,x,K,X⟩:=YT h (p:=r.bC+1) (R:=r.aD) Z;have J:(Pc (some (Pc G cur)) x).glush R0=(X7 r.part (M2 s ex (r.bC+1) r.aD).part,(M2 s ex (r.bC+1) r.aD).aD):=by
    show(BT.or (Pc G cur) x).glush R0=_;simp only[BT.glush];rw[hg];simp only[X]
   obtain⟨W,B,D,M,Y⟩:=Xt h n _ (some (Pc G cur)) x J hok;exact⟨fun r=>.bar (f (W r)),B,D,⟨fun r j V=>⟨U.2,K.sp _ j (M.sp r j V)⟩,fun r=>by show(f (W r)).bt (some (Pc G cur)) none=_;rw[K.bt];exact M.bt r,fun r V=>⟨rfl,K.ne _ (M.ne r V)⟩⟩,Y⟩
  ·rw[if_neg U]at hok⊢;exact⟨id,G,cur,⟨fun _ _ h=>h,fun _=>rfl,fun _ h=>h⟩,hg⟩
theorem Pz{s:ByteArray}{ex:PFn}(h:AK s ex):AK s (Gd s ex):=by
 intro p R B;unfold Gd at B⊢;have W:=Wt _ _ B;obtain⟨f,x,D,U⟩:=YT h W;obtain⟨M,J,K,G,V⟩:=Xt h (R0:=R) _ _ none x U B;refine⟨f (M .nil),D.sp _ _ (G.sp .nil _ rfl),D.ne _ (G.ne .nil rfl),?_⟩;rw[D.bt,G.bt];exact V
theorem VG(s:ByteArray):∀f,AK s (N5 s f)
 |0=>fun p R h=>by simp[N5]at h
 |f+1=>Pz (VG s f)
def RSp(s:ByteArray):List PT->Nat->Prop
 | [],p=>False
 | [t],p=>t.Sp s p s.size/\t.Ne false
 |t::u::l,p=>∃q,t.Sp s p q/\t.Ne false/\F0 s q=10/\RSp s (u::l) (q+1)
theorem Hr{s:ByteArray}{p:Nat}{R:E0}(h:(X5 s p R).1=true):∃t:PT,t.Sp s p (X5 s p R).2.1/\t.Ne false/\(X5 s p R).2.2=((t.bt none none).glush R).2.endRule ((t.bt none none).glush R).1:=by
 unfold X5 at h⊢
 by_cases f:(N5 s (s.size+1) p R).ok=true
 ·rw[if_pos f];obtain⟨t,B,D,G⟩:=VG s (s.size+1) p R f;exact⟨t,B,D,by rw[G]⟩
 ·rw[if_neg f]at h;cases h
theorem Hw{s:ByteArray}:∀(n:Nat) (r:Bool×Nat×E0),(J3 s n r).1=true->r.1=true
 |0,r,h=>h
 |n+1,r,h=>by
  unfold J3 at h;split at h
  ·rename_i f;exact f.1
  ·exact h
theorem Iw{s:ByteArray}:∀(n:Nat) (p:Nat) (R:E0),(J3 s n (X5 s p R)).1=true->F0 s (J3 s n (X5 s p R)).2.1= -1->(J3 s n (X5 s p R)).2.1<=s.size->
  ∃J:List PT,RSp s J p/\(J3 s n (X5 s p R)).2.2=W6 (J.map (fun t=>t.bt none none)) R
 |0,p,R,hok,he,hle=>by
  obtain⟨t,B,D,G⟩:=Hr (s:=s) (p:=p) (R:=R) hok;have e:(J3 s 0 (X5 s p R))=X5 s p R:=rfl;rw[e]at he hle⊢;have:(X5 s p R).2.1=s.size:=by
   refine Nat.le_antisymm hle (xC fun f=>?_);unfold F0 at he;rw[dif_pos f]at he;omega
  exact⟨[t],⟨by rw[<-this];exact B,D⟩,by rw[G];rfl⟩
 |n+1,p,R,hok,he,hle=>by
  have h:=Hw (s:=s) _ _ hok;obtain⟨t,B,D,G⟩:=Hr (s:=s) (p:=p) (R:=R) h;unfold J3 at hok he hle⊢
  by_cases K:(X5 s p R).1=true/\F0 s (X5 s p R).2.1=10
  ·rw[if_pos K]at hok he hle⊢;obtain⟨J,M,U⟩:=Iw n _ _ hok he hle;cases J with
   |nil=>exact M.elim
   |cons u l=>
    refine⟨t::u::l,⟨_,B,D,K.2,M⟩,?_⟩;rw[U,G];rfl
  ·rw[if_neg K]at hok he hle⊢;have:(X5 s p R).2.1=s.size:=by
    refine Nat.le_antisymm hle (xC fun f=>?_);unfold F0 at he;rw[dif_pos f]at he;omega
   exact⟨[t],⟨by rw[<-this];exact B,D⟩,by rw[G];rfl⟩
def Cls(s:ByteArray):List Int->Nat->Nat->Prop
 | [],q,z=>q=z/\F0 s z=93
 |v::l,q,z=>(F0 s q=45/\v= -1/\Cls s l (q+1) z)\/(F0 s q=92/\F0 s (q+1)≠ -1/\F0 s (q+1)≠10/\v=Ua (F0 s (q+1))/\Cls s l (q+2) z)\/(F0 s q≠ -1/\F0 s q≠10/\F0 s q≠45/\F0 s q≠92/\F0 s q≠93/\v=F0 s q/\Cls s l (q+1) z)
theorem Cls.le{s:ByteArray}:∀{l:List Int} {q z:Nat},Cls s l q z->q+l.length<=z/\z<s.size/\F0 s z=93
 | [],q,z,h=>⟨by rw[h.1];simp,A1 (by rw[h.2];decide),h.2⟩
 |v::l,q,z,h=>by
  rcases h with⟨_,_,h⟩|⟨_,_,_,_,h⟩|⟨_,_,_,_,_,_,h⟩
  ·have:=Cls.le h;simp;omega
  ·have:=Cls.le h;simp;omega
  ·have:=Cls.le h;simp;omega
theorem Cls.nl{s:ByteArray}:∀{l:List Int} {q z:Nat},Cls s l q z->∀k,q<=k->k<=z->F0 s k≠10
 | [],q,z,h,k,h1,h2=>by rw[show k=z by have:=h.1;omega,h.2];decide
 |v::l,q,z,h,k,h1,h2=>by
  rcases h with⟨a,_,h⟩|⟨a,b,c,_,h⟩|⟨_,a,_,_,_,_,h⟩
  ·rcases yE q k with e|e
   ·exact Cls.nl h k (by omega) h2
   ·rw[show k=q by omega,a];decide
  ·rcases yE (q+1) k with e|e
   ·exact Cls.nl h k (by omega) h2
   ·rcases yE q k with f|f
    ·rw[show k=q+1 by omega];exact c
    ·rw[show k=q by omega,a];decide
  ·rcases yE q k with e|e
   ·exact Cls.nl h k (by omega) h2
   ·rw[show k=q by omega];exact a
theorem Nx{s:ByteArray}{p q:Nat}{v:Int}(h:W3 s p=(v,true,q)):0<=v/\p<q/\q<=s.size/\∀l z,Cls s l q z->Cls s (v::l) p z:=by
 unfold W3 at h;split at h
 ·cases h
 ·rename_i G;have X:F0 s p≠ -1:=fun e=>G (Or.inl e)
  have n2:F0 s p≠10:=fun e=>G (Or.inr (Or.inl e))
  have n3:F0 s p≠93:=fun e=>G (Or.inr (Or.inr (Or.inl e)))
  have n4:F0 s p≠45:=fun e=>G (Or.inr (Or.inr (Or.inr e)))
  have Z:=A1 X;have Y:=JI s p;unfold J5 at h;split at h
  ·rename_i B
   injection h with e1 e2;injection e2 with e2 e3
   subst e1 e3;exact⟨by omega,by omega,by omega,fun l z D=>.inr (.inr ⟨X,n2,n4,B,n3,rfl,D⟩)⟩
  ·rename_i B;have f:F0 s p=92:=Decidable.not_not.1 B;split at h
   ·injection h with e1 e2;injection e2 with e2 e3;cases e2
   ·rename_i M;have K:F0 s (p+1)≠ -1:=fun e=>M (Or.inl e)
    have W:F0 s (p+1)≠10:=fun e=>M (Or.inr e)
    have V:=A1 K;have U:=JI s (p+1);split at h
    ·rename_i J
     injection h with e1 e2;injection e2 with e2 e3
     subst e1 e3;exact⟨by omega,by omega,by omega,fun l z D=>.inr (.inl ⟨f,K,W,by rw[J];rfl,D⟩)⟩
    ·rename_i J
     injection h with e1 e2;injection e2 with e2 e3
     subst e1 e3;exact⟨by omega,by omega,by omega,fun l z D=>.inr (.inl ⟨f,K,W,by unfold Ua;rw[if_neg J],D⟩)⟩
def IW(m:Int×Int×Bool):List Int:=if m.2.2=true then [m.1,-1,m.2.1]else [m.1]
def Vr:List (Int×Int×Bool)->List Int
 | []=>[]
 |m::r=>IW m++Vr r
def SF(m:Int×Int×Bool):Prop:=0<=m.1/\0<=m.2.1/\(m.2.2=false->m.1=m.2.1)
theorem Zx{s:ByteArray}{p q:Nat}{M K:Int}(h:X3 s p=(M,K,true,q)):∃W,SF (M,K,W)/\p<q/\∀l z,Cls s l q z->Cls s (IW (M,K,W)++l) p z:=by
 unfold X3 at h;generalize f:W3 s p=r1 at h;obtain⟨v1,V,X⟩:=r1;simp only at h;split at h
 ·rename_i B
  injection h with e1 e2;injection e2 with e2 e3;injection e3 with e3 e4
  subst e1 e2 e4;rw[e3]at f;obtain⟨G,Y,t3,U⟩:=Nx f;exact⟨false,⟨G,G,fun _=>rfl⟩,Y,fun l z B=>U l z B⟩
 ·rename_i B;have Z:V=true:=by cases V <;>simp_all
  have J:F0 s X=45:=Decidable.not_not.1 fun e=>B (Or.inr e)
  subst Z;obtain⟨G,Y,t3,U⟩:=Nx f;generalize D:W3 s (X+1)=r2 at h;obtain⟨v2,o2,q2⟩:=r2;simp only at h;split at h
  ·cases h
  ·injection h with e1 e2;injection e2 with e2 e3;injection e3 with e3 e4
   subst e1 e2 e4;rw[e3]at D;obtain⟨u1,u2,u3,u4⟩:=Nx D;exact⟨true,⟨G,u1,fun e=>by cases e⟩,by omega,fun l z B=>U _ z (.inl ⟨J,rfl,u4 l z B⟩)⟩
def inM(c:Int)(m:Int×Int×Bool):Bool:=decide (m.1<=c) && decide (c<=m.2.1)
theorem Fu{s:ByteArray}:∀(n:Nat) (A B:Nat->Bool) (G:Bool) (p z:Nat),G=true->p<=s.size->s.size<n+p->Y3 s n A G p=(B,true,z)->
  ∃D:List (Int×Int×Bool),(∀m∈D,SF m)/\Cls s (Vr D) p z/\∀c:Nat,B c=(A c || D.any (inM (c:Int)))
 |0,A,B,G,p,z,hok,hp,hn,h=>by omega
 |n+1,A,B,G,p,z,hok,hp,hn,h=>by
  unfold Y3 at h;split at h
  ·rename_i K;have f:=L7 s p hp;generalize J:X3 s p=r at h f;obtain⟨Z,W,o,q⟩:=r;simp only at h f;cases o with
   |false=>
    rw[L8 _ _ _ _ _ (by simp)]at h
    injection h with e1 e2;injection e2 with e2 e3;cases e2
   |true=>
    obtain⟨pr,X,k2,Y⟩:=Zx J;obtain⟨D,M,U,V⟩:=Fu n _ B true q z rfl f.2.1 (by omega) h;refine⟨(Z,W,pr)::D,fun m f=>?_,Y _ _ U,fun c=>?_⟩
    ·rw[zU]at f;rcases f with rfl|f
     ·exact X
     ·exact M m f
    ·rw[V c];simp only[F9,List.any_cons,inM];rw[Bool.or_assoc]
  ·rename_i K
   injection h with e1 e2;injection e2 with e2 e3
   subst e1 e3;refine⟨[],by simp,⟨rfl,?_⟩,fun c=>by simp⟩;exact Decidable.not_not.1 fun e=>K ⟨hok,e⟩
def Ag:List Int->Int->Bool
 | [],_=>false
 | [a],c=>decide (c=a)
 | [a,d],c=>decide (c=a) || Ag [d] c
 |a::d::b::r,c=>if d= -1 then(decide (a<=c) && decide (c<=b)) || Ag r c else decide (c=a) || Ag (d::b::r) c
termination_by l=>l.length
theorem XH(c:Int):Ag [] c=false:=by rw[Ag]
theorem XB(a b:Int)(r:List Int)(c:Int):Ag (a:: -1::b::r) c=((decide (a<=c) && decide (c<=b)) || Ag r c):=by
 rw[Ag];simp
theorem YH(a:Int)(r:List Int)(c:Int)(h:∀d b r',r=d::b::r'->d≠ -1):Ag (a::r) c=(decide (c=a) || Ag r c):=by
 match r,h with
 | [],h=>rw[Ag,Ag];simp
 | [d],h=>simp only[Ag]
 |d::b::r',h=>rw[Ag,if_neg (h d b r' rfl)]
theorem DN:∀(f:List (Int×Int×Bool)),(∀m∈f,SF m)->∀d r,Vr f=d::r->d≠ -1
 | [],_,d,r,h=>by cases h
 |m::f,hm,d,r,h=>by
  have:=(hm m (by simp)).1;unfold Vr IW at h;split at h
  ·injection h with e1 e2;omega
  ·injection h with e1 e2;omega
theorem YB(c:Int):∀(f:List (Int×Int×Bool)),(∀m∈f,SF m)->Ag (Vr f) c=f.any (inM c)
 | [],_=>by simp[Vr,XH]
 |m::f,hm=>by
  have B:=YB c f (fun x h=>hm x (by simp[h]));have D:=hm m (by simp);obtain⟨a,b,G⟩:=m;simp only[List.any_cons];cases G with
  |true=>
   show Ag (a:: -1::b::Vr f) c=_;rw[XB,B];rfl
  |false=>
   show Ag (a::Vr f) c=_;rw[YH _ _ _ (fun d J r' e=>DN f (fun x h=>hm x (by simp[h])) d _ e),B]
   congr 1
   have:=D.2.2 rfl;simp only at this;subst this;unfold inM;simp only;rw[Bool.eq_iff_iff];simp;omega
inductive D8(s:ByteArray)(i e:Nat)(A:Nat->Bool):Prop where
 |any:F0 s i=46->e=i+1->(∀c:Nat,A c=true)->D8 s i e A
 |esc:F0 s i=92->e=i+2->F0 s (i+1)≠ -1->F0 s (i+1)≠10->(∀c:Nat,A c=decide (Ua (F0 s (i+1))=(c:Int)))->D8 s i e A
 |aE (l:List Int) (neg:Bool) (z:Nat):F0 s i=91->e=z+1->neg=decide (F0 s (i+1)=94)->Cls s l (i+1+neg.toNat) z->(∀c:Nat,A c=(Ag l (c:Int) !=neg))->D8 s i e A
 |bX:¬M7 (F0 s i)->F0 s i≠46->F0 s i≠91->F0 s i≠92->e=i+1->(∀c:Nat,A c=decide (F0 s i=(c:Int)))->D8 s i e A
theorem Pf{s:ByteArray}{i e:Nat}{A:Nat->Bool}(h:T6 s i=(A,true,e)):D8 s i e A:=by
 unfold T6 at h;split at h
 ·injection h with e1 e2;injection e2 with e2 e3;cases e2
 ·rename_i hb;have hi:i<s.size:=A1 (fun e=>hb (Or.inl e));split at h
  ·rename_i K
   injection h with e1 e2;injection e2 with e2 e3
   subst e1 e3;exact .any K rfl (fun c=>rfl)
  ·rename_i K;split at h
   ·rename_i M;generalize f:decide (F0 s (i+1)=94)=neg;have hq:(if neg=true then i+2 else i+1)=i+1+neg.toNat:=by cases neg <;>rfl
    generalize U:X3 s (i+1+neg.toNat)=r;obtain⟨lo,D,o,q⟩:=r;generalize G:Y3 s (s.size+1) (F9 Da lo D) o q=R;obtain⟨A',o',z⟩:=R;rw[Gg f hq U G]at h;simp only at h;split at h
    ·rename_i W
     injection h with e1 e2;injection e2 with e2 e3
     have a0:i+1+neg.toNat<=s.size:=by
      cases neg with
      |false=>show i+1<=s.size;omega
      |true=>
       simp at f;have:=A1 (s:=s) (p:=i+1) (by rw[f];decide);simp;omega
     have V:=L7 s _ a0;rw[U]at V;simp only at V;cases o with
     |false=>
      rw[L8 _ _ _ _ _ (by simp)]at G
      injection G with u1 u2;injection u2 with u2 u3;rw[<-u2]at W;cases W
     |true=>
      obtain⟨pr,k1,k2,k3⟩:=Zx U;subst W;obtain⟨ms,h1,h2,J⟩:=Fu (s.size+1) _ A' true q z rfl V.2.1 (by omega) G;have Y:∀m∈(lo,D,pr)::ms,SF m:=fun m hm=>by
       rw[zU]at hm;rcases hm with rfl|hm
       ·exact k1
       ·exact h1 m hm
      refine .aE (Vr ((lo,D,pr)::ms)) neg z M e3.symm f.symm (k3 _ _ h2) (fun c=>?_);rw[YB _ _ Y];have X:A' c=((lo,D,pr)::ms).any (inM (c:Int)):=by
       rw[J c];simp[F9,Da,inM]
      rw[<-e1];cases neg with
      |true=>simp[Rw,X]
      |false=>simp[X]
    ·injection h with e1 e2;injection e2 with e2 e3;cases e2
   ·rename_i M
    injection h with e1 e2;injection e2 with e2 e3
    unfold J5 at e1 e2 e3
    by_cases B:F0 s i=92
    ·rw[if_neg (by simp[B])]at e1 e2 e3
     by_cases J:F0 s (i+1)= -1\/F0 s (i+1)=10
     ·rw[if_pos J]at e2;cases e2
     ·rw[if_neg J]at e1 e2 e3
      by_cases Z:F0 s (i+1)=110
      ·rw[if_pos Z]at e1 e2 e3;refine .esc B e3.symm (fun e=>J (.inl e)) (fun e=>J (.inr e)) (fun c=>?_);rw[<-e1,Z];simp only[F9,Da,Ua];rw[Bool.eq_iff_iff];simp;omega
      ·rw[if_neg Z]at e1 e2 e3;refine .esc B e3.symm (fun e=>J (.inl e)) (fun e=>J (.inr e)) (fun c=>?_);rw[<-e1];simp only[F9,Da,Ua,if_neg Z];rw[Bool.eq_iff_iff];simp;omega
    ·rw[if_pos B]at e1 e2 e3;refine .bX hb K M B e3.symm (fun c=>?_);rw[<-e1];simp only[F9,Da];rw[Bool.eq_iff_iff];simp;omega
theorem D8.lt{s:ByteArray}{i e:Nat}{A:Nat->Bool}(h:D8 s i e A):i<e/\e<=s.size:=by
 cases h with
 |any h1 h2 _=>have:=A1 (s:=s) (p:=i) (by rw[h1];decide);omega
 |esc h1 h2 h3 _ _=>have:=A1 h3;omega
 |aE l neg z h1 h2 h3 h4 _=>have:=h4.le;omega
 |bX h1 _ _ _ h2 _=>have:=A1 (s:=s) (p:=i) (fun e=>h1 (.inl e));omega
theorem D8.nl{s:ByteArray}{i e:Nat}{A:Nat->Bool}(h:D8 s i e A)(k:Nat)(D:i<=k)(G:k<e):F0 s k≠10:=by
 cases h with
 |any a b _=>rw[show k=i by omega,a];decide
 |esc a b c d _=>
  rcases yE i k with f|f
  ·rw[show k=i+1 by omega];exact d
  ·rw[show k=i by omega,a];decide
 |aE l neg z a b c d _=>
  rcases yE i k with f|f
  ·cases neg with
   |false=>exact d.nl k (by simp;omega) (by omega)
   |true=>
    rcases yE (i+1) k with B|B
    ·exact d.nl k (by simp;omega) (by omega)
    ·rw[show k=i+1 by omega];have:F0 s (i+1)=94:=by simpa using c.symm
     rw[this];decide
  ·rw[show k=i by omega,a];decide
 |bX a _ _ _ b _=>rw[show k=i by omega];exact fun e=>a (.inr (.inl e))
theorem D8.first{s:ByteArray}{i e:Nat}{A:Nat->Bool}(h:D8 s i e A):¬M7 (F0 s i):=by
 cases h with
 |any a _ _=>rw[a];decide
 |esc a _ _ _ _=>rw[a];decide
 |aE l neg z a _ _ _ _=>rw[a];decide
 |bX a _ _ _ _ _=>exact a
theorem PT.cF{s:ByteArray}:∀{t:PT} {i j:Nat},t.Sp s i j->i<=j
 |.nil,i,j,h=>Nat.le_of_eq h
 |.bar r,i,j,h=>by have:=cF h.2;omega
 |.leaf a e A m r,i,j,h=>by
  obtain⟨_,f,_,_,B⟩:=h;have:=(Pf f).lt;have:=cF B;omega
 |.group t m r,i,j,h=>by
  obtain⟨_,e,f,_,_,B⟩:=h;have:=cF f;have:=cF B;omega
theorem YN{s:ByteArray}{e m:Nat}(h:Fs s e m)(B:e<=s.size):e+A5 m<=s.size:=by
 rcases h with⟨rfl,_⟩|⟨D,f⟩
 ·exact B
 ·have:=A1 (s:=s) (p:=e) (by rw[f];omega);unfold A5;split <;>omega
theorem PT.dV{s:ByteArray}:∀{t:PT} {i j:Nat},i<=s.size->t.Sp s i j->j<=s.size
 |.nil,i,j,hi,h=>by rw[<-(show i=j from h)];exact hi
 |.bar r,i,j,hi,h=>dV (by have:=A1 (s:=s) (p:=i) (by rw[h.1];decide);omega) h.2
 |.leaf a e A m r,i,j,hi,h=>by
  obtain⟨_,D,_,f,B⟩:=h;have:=(Pf D).lt;exact dV (YN f this.2) B
 |.group t m r,i,j,hi,h=>by
  obtain⟨J,e,D,G,f,B⟩:=h;have:=A1 (s:=s) (p:=e) (by rw[G];decide);exact dV (YN f (by omega)) B
theorem PT.fF{s:ByteArray}:∀{t:PT} {i j:Nat},t.Sp s i j->∀k,i<=k->k<j->F0 s k≠10
 |.nil,i,j,h,k,h1,h2=>by have:i=j:=h;omega
 |.bar r,i,j,h,k,h1,h2=>by
  rcases yE i k with e|e
  ·exact fF h.2 k (by omega) h2
  ·rw[show k=i by omega,h.1];decide
 |.leaf a e A m r,i,j,h,k,h1,h2=>by
  obtain⟨_,b,_,c,d⟩:=h;rcases yE k e with D|D
  ·exact(Pf b).nl k h1 D
  ·rcases yE k (e+A5 m)with B|B
   ·rcases c with⟨rfl,_⟩|⟨J,G⟩
    ·simp[A5]at B;omega
    ·have:A5 m<=1:=by unfold A5;split <;>omega
     rw[show k=e by omega,G];omega
   ·exact fF d k B h2
 |.group t m r,i,j,h,k,h1,h2=>by
  obtain⟨a,e,b,c,d,f⟩:=h;rcases yE i k with K|K
  ·rcases yE k e with D|D
   ·exact fF b k (by omega) D
   ·rcases yE k (e+1)with M|M
    ·rw[show k=e by omega,c];decide
    ·rcases yE k (e+1+A5 m)with B|B
     ·rcases d with⟨rfl,_⟩|⟨J,G⟩
      ·simp[A5]at B;omega
      ·have:A5 m<=1:=by unfold A5;split <;>omega
       rw[show k=e+1 by omega,G];omega
     ·exact fF f k B h2
  ·rw[show k=i by omega,a];decide
inductive NT where
 |place (i e:Nat) (A:Nat->Bool)
 |node (k:Nat) (l:List NT)
mutual
def NT.aU:NT->List Nat->Prop
 |.place i e A,w=>∃x,w= [x]/\A x=true
 |.node k l,w=>(k=1/\V5 l w)\/(k=2/\T5 l w)\/(k=3/\∃u v,w=u++v/\Mf (T5 l) u/\T5 l v)\/(k=4/\(w= []\/T5 l w))
def V5:List NT->List Nat->Prop
 | [],w=>w= []
 |x::l,w=>∃u v,w=u++v/\x.aU u/\V5 l v
def T5:List NT->List Nat->Prop
 | [],w=>False
 |x::l,w=>x.aU w\/T5 l w
end
mutual
def NT.aX:NT->List Nat->Nat->Prop
 |.place i e A,w,a=>∃x,w= [x]/\A x=true/\a=i
 |.node k l,w,a=>(k=1/\Q6 l w a)\/((k=2\/k=4)/\H6 l w a)\/(k=3/\∃u v,w=u++v/\Mf (T5 l) u/\H6 l v a)
def Q6:List NT->List Nat->Nat->Prop
 | [],w,a=>False
 |x::l,w,a=>x.aX w a\/∃u v,w=u++v/\x.aU u/\Q6 l v a
def H6:List NT->List Nat->Nat->Prop
 | [],w,a=>False
 |x::l,w,a=>x.aX w a\/H6 l w a
end
mutual
def NT.aH:NT->Nat
 |.place _ _ _=>1
 |.node k l=>1+J1 l
def J1:List NT->Nat
 | []=>0
 |x::l=>x.aH+J1 l
end
theorem Rt:∀(l:List NT) (w:List Nat),T5 l w↔∃x∈l,x.aU w
 | [],w=>by simp[T5]
 |x::l,w=>by simp[T5,Rt l w]
theorem Qt:∀(l:List NT) (w:List Nat) (a:Nat),H6 l w a↔∃x∈l,x.aX w a
 | [],w,a=>by simp[H6]
 |x::l,w,a=>by simp[H6,Qt l w a]
theorem Ah:∀(l m:List NT) (w:List Nat),V5 (l++m) w↔∃u v,w=u++v/\V5 l u/\V5 m v
 | [],m,w=>by
  simp only[yV,V5];constructor
  ·intro h;exact⟨[],w,rfl,rfl,h⟩
  ·rintro⟨u,v,rfl,rfl,h⟩;exact h
 |x::l,m,w=>by
  simp only[List.cons_append,V5];constructor
  ·rintro⟨u,v,rfl,f,G⟩;obtain⟨a,b,rfl,B,D⟩:=(Ah l m v).1 G;exact⟨u++a,b,by simp,⟨u,a,rfl,f,B⟩,D⟩
  ·rintro⟨_,b,rfl,⟨u,a,rfl,f,B⟩,D⟩;exact⟨u,a++b,by simp,f,(Ah l m _).2 ⟨a,b,rfl,B,D⟩⟩
theorem Pu(x:NT)(w:List Nat):V5 [x] w↔x.aU w:=by
 simp only[V5];constructor
 ·rintro⟨u,v,rfl,h,rfl⟩;simpa using h
 ·intro h;exact⟨w,[],by simp,h,rfl⟩
theorem Fk(l:List NT)(x:NT)(w:List Nat):V5 (l++ [x]) w↔∃u v,w=u++v/\V5 l u/\x.aU v:=by
 rw[Ah];simp only[Pu]
theorem He:∀(l m:List NT) (w:List Nat) (a:Nat),Q6 (l++m) w a↔(Q6 l w a\/∃u v,w=u++v/\V5 l u/\Q6 m v a)
 | [],m,w,a=>by
  simp only[yV,Q6,V5,false_or];constructor
  ·intro h;exact⟨[],w,rfl,rfl,h⟩
  ·rintro⟨u,v,rfl,rfl,h⟩;exact h
 |x::l,m,w,a=>by
  simp only[List.cons_append,Q6,V5];constructor
  ·rintro(h|⟨u,v,rfl,f,D⟩)
   ·exact .inl (.inl h)
   ·rcases(He l m v a).1 D with B|⟨b,c,rfl,B,G⟩
    ·exact .inl (.inr ⟨u,v,rfl,f,B⟩)
    ·exact .inr ⟨u++b,c,by simp,⟨u,b,rfl,f,B⟩,G⟩
  ·rintro((h|⟨u,v,rfl,f,D⟩)|⟨_,c,rfl,⟨u,b,rfl,f,B⟩,G⟩)
   ·exact .inl h
   ·exact .inr ⟨u,v,rfl,f,(He l m v a).2 (.inl D)⟩
   ·exact .inr ⟨u,b++c,by simp,f,(He l m _ a).2 (.inr ⟨b,c,rfl,B,G⟩)⟩
theorem Er(l:List NT)(x:NT)(w:List Nat)(a:Nat):Q6 (l++ [x]) w a↔(Q6 l w a\/∃u v,w=u++v/\V5 l u/\x.aX v a):=by
 rw[He];have:∀v,Q6 [x] v a↔x.aX v a:=by
  intro v;simp[Q6]
 simp only[this]
theorem Vp(l:List NT)(x:NT)(w:List Nat):T5 (l++ [x]) w↔(T5 l w\/x.aU w):=by
 simp only[Rt,zO,zJ];constructor
 ·rintro⟨y,h|rfl,f⟩
  ·exact .inl ⟨y,h,f⟩
  ·exact .inr f
 ·rintro(⟨y,h,f⟩|h)
  ·exact⟨y,.inl h,f⟩
  ·exact⟨x,.inr rfl,h⟩
theorem Pj(l:List NT)(x:NT)(w:List Nat)(a:Nat):H6 (l++ [x]) w a↔(H6 l w a\/x.aX w a):=by
 simp only[Qt,zO,zJ];constructor
 ·rintro⟨y,h|rfl,f⟩
  ·exact .inl ⟨y,h,f⟩
  ·exact .inr f
 ·rintro(⟨y,h,f⟩|h)
  ·exact⟨y,.inl h,f⟩
  ·exact⟨x,.inr rfl,h⟩
theorem F7:∀l m:List NT,J1 (l++m)=J1 l+J1 m
 | [],m=>by simp[J1]
 |x::l,m=>by simp[J1,F7 l m];omega
theorem NT.parts_pos(x:NT):0<x.aH:=by cases x <;>simp[NT.aH];omega
theorem Fp(i e:Nat)(A:Nat->Bool)(w:List Nat):(NT.place i e A).aU w↔∃x,w= [x]/\A x=true:=by rw[NT.aU]
theorem OE(l:List NT)(w:List Nat):(NT.node 1 l).aU w↔V5 l w:=by rw[NT.aU];simp
theorem Gz(l:List NT)(w:List Nat):(NT.node 2 l).aU w↔T5 l w:=by rw[NT.aU];simp
theorem DD(x:NT)(w:List Nat):(NT.node 3 [x]).aU w↔∃u v,w=u++v/\Mf x.aU u/\x.aU v:=by
 have e:∀w,T5 [x] w↔x.aU w:=fun w=>by simp[T5]
 rw[NT.aU];simp only[e,Bh e];simp
theorem Hz(l:List NT)(w:List Nat):(NT.node 4 l).aU w↔(w= []\/T5 l w):=by rw[NT.aU];simp
theorem No(i e:Nat)(A:Nat->Bool)(w:List Nat)(a:Nat):(NT.place i e A).aX w a↔∃x,w= [x]/\A x=true/\a=i:=by rw[NT.aX]
theorem Kq(l:List NT)(w:List Nat)(a:Nat):(NT.node 1 l).aX w a↔Q6 l w a:=by rw[NT.aX];simp
theorem Lo(l:List NT)(w:List Nat)(a:Nat):(NT.node 2 l).aX w a↔H6 l w a:=by rw[NT.aX];simp
theorem Mo(l:List NT)(w:List Nat)(a:Nat):(NT.node 4 l).aX w a↔H6 l w a:=by rw[NT.aX];simp
theorem MB(x:NT)(w:List Nat)(a:Nat):(NT.node 3 [x]).aX w a↔∃u v,w=u++v/\Mf x.aU u/\x.aX v a:=by
 have e:∀w,T5 [x] w↔x.aU w:=fun w=>by simp[T5]
 have f:∀w,H6 [x] w a↔x.aX w a:=fun w=>by simp[H6]
 rw[NT.aX];simp only[f,Bh e];simp
def P6(m:Nat)(x:NT):NT:=if m=42 then .node 4 [.node 3 [x]]else if m=43 then .node 3 [x]else if m=63 then .node 4 [x]else x
def PT.nt:PT->List NT->List NT->NT
 |.nil,aN,cur=>.node 2 (aN++ [.node 1 cur])
 |.bar r,aN,cur=>r.nt (aN++ [.node 1 cur]) []
 |.leaf i e A m r,aN,cur=>r.nt aN (cur++ [P6 m (.place i e A)])
 |.group t m r,aN,cur=>r.nt aN (cur++ [P6 m (t.nt [] [])])
structure Kf(t:BT)(P:List Nat->Prop)(Q:List Nat->Nat->Prop):Prop where
 dA:∀w,t.aU w↔P w
 last:∀w a,t.aX w a↔Q w a
theorem UB{t:BT}{x:NT}(h:Kf t x.aU x.aX)(m:Nat):Kf (Tb m t) (P6 m x).aU (P6 m x).aX:=by
 have B:Kf (.plus t) (NT.node 3 [x]).aU (NT.node 3 [x]).aX:=by
  refine⟨fun w=>?_,fun w a=>?_⟩
  ·rw[DD];simp only[BT.aU,h.dA,Bh h.dA]
  ·rw[MB];simp only[BT.aX,h.last,Bh h.dA]
 have f:∀{t:BT} {x:NT},Kf t x.aU x.aX->Kf (.maybe t) (NT.node 4 [x]).aU (NT.node 4 [x]).aX:=by
  intro t x h;refine⟨fun w=>?_,fun w a=>?_⟩
  ·rw[Hz];simp only[BT.aU,h.dA,T5,or_false]
  ·rw[Mo];simp only[BT.aX,h.last,H6,or_false]
 unfold Tb P6;split
 ·exact f B
 ·split
  ·exact B
  ·split
   ·exact f h
   ·exact h
theorem Ww{cur:Option BT}{f:List NT}(B:(cur=none/\f= [])\/∃c,cur=some c/\Kf c (V5 f) (Q6 f)){t:BT}{x:NT}(h:Kf t x.aU x.aX):
  Kf (Yf cur t) (V5 (f++ [x])) (Q6 (f++ [x])):=by
 rcases B with⟨rfl,rfl⟩|⟨c,rfl,B⟩
 ·refine⟨fun w=>?_,fun w a=>?_⟩
  ·rw[yV,Pu];exact h.dA w
  ·show t.aX w a↔Q6 [x] w a;simp only[Q6,h.last];simp
 ·refine⟨fun w=>?_,fun w a=>?_⟩
  ·rw[Fk];simp only[Yf,BT.aU,B.dA,h.dA]
  ·rw[Er];simp only[Yf,BT.aX,B.dA,B.last,h.last]
theorem IB{D:Option BT}{B:List NT}(J:(D=none/\B= [])\/∃c,D=some c/\Kf c (T5 B) (H6 B)){c:BT}{f:List NT}(h:Kf c (V5 f) (Q6 f)):
  Kf (Pc D c) (T5 (B++ [.node 1 f])) (H6 (B++ [.node 1 f])):=by
 rcases J with⟨rfl,rfl⟩|⟨d,rfl,G⟩
 ·refine⟨fun w=>?_,fun w a=>?_⟩
  ·show c.aU w↔_;simp only[yV,T5,OE,h.dA];simp
  ·show c.aX w a↔_;simp only[yV,H6,Kq,h.last];simp
 ·refine⟨fun w=>?_,fun w a=>?_⟩
  ·rw[Vp,OE];simp only[Pc,BT.aU,G.dA,h.dA]
  ·rw[Pj,Kq];simp only[Pc,BT.aX,G.last,h.last]
theorem PT.dG:∀(t:PT) (B cur:Option BT) (h f:List NT) (c:Bool),t.Ne c->c=cur.isSome->
  ((B=none/\h= [])\/∃c,B=some c/\Kf c (T5 h) (H6 h))->((cur=none/\f= [])\/∃c,cur=some c/\Kf c (V5 f) (Q6 f))->
  Kf (t.bt B cur) (t.nt h f).aU (t.nt h f).aX
 |.nil,B,cur,h,f,c,hn,hc,ha,hu=>by
  have D:c=true:=hn;rcases hu with⟨rfl,_⟩|⟨d,rfl,G⟩
  ·rw[D]at hc;cases hc
  ·have:=IB ha G;refine⟨fun w=>?_,fun w a=>?_⟩
   ·show(Pc B d).aU w↔(NT.node 2 _).aU w;rw[Gz];exact this.dA w
   ·show(Pc B d).aX w a↔(NT.node 2 _).aX w a;rw[Lo];exact this.last w a
 |.bar r,B,cur,h,f,c,hn,hc,ha,hu=>by
  have D:c=true:=hn.1;rcases hu with⟨rfl,_⟩|⟨d,rfl,G⟩
  ·rw[D]at hc;cases hc
  ·exact PT.dG r _ none _ [] false hn.2 rfl (.inr ⟨_,rfl,IB ha G⟩) (.inl ⟨rfl,rfl⟩)
 |.leaf i e A m r,B,cur,h,f,c,hn,hc,ha,hu=>by
  have J:Kf (.leaf i A) (NT.place i e A).aU (NT.place i e A).aX:=⟨fun w=>by rw[Fp];rfl,fun w a=>by rw[No];rfl⟩;exact PT.dG r B _ h _ true hn rfl ha (.inr ⟨_,rfl,Ww hu (UB J m)⟩)
 |.group t m r,B,cur,h,f,c,hn,hc,ha,hu=>by
  have K:=PT.dG t none none [] [] false hn.1 rfl (.inl ⟨rfl,rfl⟩) (.inl ⟨rfl,rfl⟩);exact PT.dG r B _ h _ true hn.2 rfl ha (.inr ⟨_,rfl,Ww hu (UB K m)⟩)
theorem PT.kW(t:PT)(f:t.Ne false):Kf (t.bt none none) (t.nt [] []).aU (t.nt [] []).aX:=
 PT.dG t none none [] [] false f rfl (.inl ⟨rfl,rfl⟩) (.inl ⟨rfl,rfl⟩)
def PT.ps:PT->List Nat
 |.nil=>[]
 |.bar r=>r.ps
 |.leaf i e A m r=>i::r.ps
 |.group t m r=>t.ps++r.ps
def Ys(o:Option BT):List Nat:=match o with
 |none=>[]
 |some t=>t.bF
theorem WH(m:Nat)(t:BT):(Tb m t).bF=t.bF:=by
 unfold Tb;split
 ·rfl
 ·split
  ·rfl
  ·split <;>rfl
theorem ZA(c:Option BT)(t:BT):(Yf c t).bF=Ys c++t.bF:=by cases c <;>simp[Yf,Ys,BT.bF]
theorem NH(c:Option BT)(t:BT):(Pc c t).bF=Ys c++t.bF:=by cases c <;>simp[Pc,Ys,BT.bF]
theorem PT.dJ:∀(t:PT) (f cur:Option BT) (c:Bool),t.Ne c->c=cur.isSome->(t.bt f cur).bF=Ys f++Ys cur++t.ps
 |.nil,f,cur,c,hn,hc=>by
  have h:c=true:=hn;cases cur with
  |none=>rw[h]at hc;cases hc
  |some d=>show(Pc f d).bF=_;rw[NH];simp[Ys,PT.ps]
 |.bar r,f,cur,c,hn,hc=>by
  have h:c=true:=hn.1;cases cur with
  |none=>rw[h]at hc;cases hc
  |some d=>
   show(r.bt (some (Pc f d)) none).bF=_;rw[PT.dJ r _ none false hn.2 rfl];show(Pc f d).bF++ []++r.ps=_;rw[NH];simp[Ys,PT.ps]
 |.leaf i e A m r,f,cur,c,hn,hc=>by
  show(r.bt f (some _)).bF=_;rw[PT.dJ r _ _ true hn rfl];show Ys f++(Yf cur (Tb m (.leaf i A))).bF++r.ps=_;rw[ZA,WH];simp[BT.bF,PT.ps]
 |.group t m r,f,cur,c,hn,hc=>by
  show(r.bt f (some _)).bF=_;rw[PT.dJ r _ _ true hn.2 rfl];show Ys f++(Yf cur (Tb m (t.bt none none))).bF++r.ps=_;rw[ZA,WH,PT.dJ t none none false hn.1 rfl];simp[Ys,PT.ps]
def Td:List Nat->Nat->Nat->Prop
 | [],i,j=>i<=j
 |x::l,i,j=>i<=x/\Td l (x+1) j
theorem Td.mono:∀{l:List Nat} {i f j:Nat},Td l i j->f<=i->Td l f j
 | [],i,f,j,h,hi=>by have:i<=j:=h;show f<=j;omega
 |x::l,i,f,j,h,hi=>⟨by have:=h.1;omega,h.2⟩
theorem Td.append:∀{l m:List Nat} {i j k:Nat},Td l i j->Td m j k->Td (l++m) i k
 | [],m,i,j,k,h,g=>g.mono h
 |x::l,m,i,j,k,h,g=>⟨h.1,h.2.append g⟩
theorem Td.le:∀{l:List Nat} {i j:Nat},Td l i j->∀x∈l,i<=x/\x<j
 | [],i,j,h,x,f=>by simp at f
 |y::l,i,j,h,x,f=>by
  have B:∀{l:List Nat} {i j:Nat},Td l i j->i<=j:=by
   intro l
   induction l with
   |nil=>intro i j h;exact h
   |cons z l ih=>intro i j h;have:=ih h.2;have:=h.1;omega
  rw[zU]at f;rcases f with rfl|f
  ·have:=B h.2;exact⟨h.1,by omega⟩
  ·have:=h.2.le x f;have:=h.1;omega
theorem Td.bR:∀{l:List Nat} {i j:Nat},Td l i j->l.Nodup
 | [],i,j,h=>List.nodup_nil
 |x::l,i,j,h=>List.nodup_cons.2 ⟨fun e=>by have:=h.2.le x e;omega,h.2.bR⟩
theorem PT.dB{s:ByteArray}:∀{t:PT} {i j:Nat},t.Sp s i j->Td t.ps i j
 |.nil,i,j,h=>Nat.le_of_eq h
 |.bar r,i,j,h=>(PT.dB h.2).mono (by omega)
 |.leaf a e A m r,i,j,h=>by
  obtain⟨rfl,f,_,_,B⟩:=h;have:=(Pf f).lt;exact⟨zD _,(PT.dB B).mono (by omega)⟩
 |.group t m r,i,j,h=>by
  obtain⟨_,e,f,_,_,B⟩:=h;exact((PT.dB f).mono (Nat.le_succ i)).append ((PT.dB B).mono (by omega))
theorem RSp.dB{s:ByteArray}:∀{B:List PT} {p:Nat},RSp s B p->p<=s.size->Td (Ad (B.map (fun t=>t.bt none none))) p s.size/\∀t∈B,t.Ne false
 | [],p,h,hp=>h.elim
 | [t],p,h,hp=>by
  refine⟨?_,fun x f=>by rw[zJ]at f;rw[f];exact h.2⟩;show Td ((t.bt none none).bF++ []) p s.size;rw[PT.dJ t none none false h.2 rfl];simpa[Ys]using PT.dB h.1
 |t::u::l,p,h,hp=>by
  obtain⟨q,G,D,J,K⟩:=h;have V:=A1 (s:=s) (p:=q) (by rw[J];decide);obtain⟨M,U⟩:=RSp.dB K (by omega);refine⟨?_,fun x f=>?_⟩
  ·show Td ((t.bt none none).bF++_) p s.size;rw[PT.dJ t none none false D rfl];refine Td.append (j:=q) ?_ (M.mono (by omega));simpa[Ys]using PT.dB G
  ·rw[zU]at f;rcases f with rfl|f
   ·exact D
   ·exact U x f
theorem Pg:∀(n:Nat) (l:List Nat),l.Nodup->(∀x∈l,x<n)->l.length<=n
 |0,l,_,h=>by
  cases l with
  |nil=>simp
  |cons x l=>have:=h x (by simp);omega
 |n+1,l,hd,h=>by
  have D:=Pg n (l.erase n) (hd.erase n) (fun x B=>by
   have f:=(hd.mem_erase_iff).1 B;have:=h x f.2;have:=f.1;omega)
  have:=List.length_erase (a:=n) (l:=l);split at this <;>omega
theorem Gw{s:ByteArray}:∀(n:Nat) (p:Nat) (R:E0),p<=s.size->(J3 s n (X5 s p R)).1=true->(J3 s n (X5 s p R)).2.1<=s.size
 |0,p,R,hp,h=>by
  obtain⟨t,B,_,_⟩:=Hr (s:=s) (p:=p) (R:=R) h;exact PT.dV hp B
 |n+1,p,R,hp,h=>by
  have D:=Hw (s:=s) _ _ h;obtain⟨t,B,_,_⟩:=Hr (s:=s) (p:=p) (R:=R) D;unfold J3 at h⊢
  by_cases f:(X5 s p R).1=true/\F0 s (X5 s p R).2.1=10
  ·rw[if_pos f]at h⊢;have:=A1 (s:=s) (p:=(X5 s p R).2.1) (by rw[f.2];decide);exact Gw n _ _ (by omega) h
  ·rw[if_neg f];exact PT.dV hp B
def PT.gN(t:PT):BT:=t.bt none none
def PT.dK(t:PT):NT:=t.nt [] []
structure Qh(s:ByteArray)(R:E0)(ts:List PT):Prop where
 sp:RSp s ts 0
 ne:∀t∈ts,t.Ne false
 bT:Jf R (ts.map PT.gN)
 dB:Td (Ad (ts.map PT.gN)) 0 s.size
theorem Qh.kK{s:ByteArray}{R:E0}{f:List PT}(h:Qh s R f):Zv (f.map PT.gN):=h.dB.bR
theorem Qh.dG{s:ByteArray}{R:E0}{f:List PT}(h:Qh s R f){t:PT}(B:t∈f):Kf t.gN t.dK.aU t.dK.aX:=PT.kW t (h.ne t B)
def Bo(f:List PT)(w:List Nat)(l:List Bool):Prop:=l.length=120/\∀a,l.getD a false=true↔∃t∈f,t.dK.aX w a
theorem Qh.eH{s:ByteArray}{R:E0}{D:List PT}(h:Qh s R D)(w:List Nat)(a:Nat):(∃t∈D,t.dK.aX w a)↔∃t∈D.map PT.gN,t.aX w a:=by
 constructor
 ·rintro⟨t,f,B⟩;exact⟨t.gN,List.mem_map_of_mem f,((h.dG f).last w a).2 B⟩
 ·rintro⟨_,G,B⟩;obtain⟨t,f,rfl⟩:=List.mem_map.1 G;exact⟨t,f,((h.dG f).last w a).1 B⟩
theorem Vm{l m:List Bool}(D:l.length=m.length)(h:∀a,l.getD a false=true↔m.getD a false=true):l=m:=by
 refine List.ext_getElem D fun i f B=>?_
 have:=h i;simp only[zC,zF f,zF B,Option.getD_some]at this;exact Bool.eq_iff_iff.2 this
theorem JC{s:ByteArray}{R:E0}{D:List PT}(h:Qh s R D){v w:List Nat}{l m:List Bool}(G:v≠ [])(J:w≠ [])(f:Bo D v l)(B:Bo D w m):l=m↔Bb R v=Bb R w:=by
 rw[<-XV h.bT h.kK G J];constructor
 ·rintro rfl a;rw[<-h.eH,<-h.eH,<-f.2 a,<-B.2 a]
 ·intro e;refine Vm (f.1.trans B.1.symm) fun a=>?_
  rw[f.2 a,B.2 a,h.eH,h.eH];exact e a
theorem UM{s:ByteArray}{R:E0}{B:List PT}(h:Qh s R B){w:List Nat}{l:List Bool}(D:w≠ [])(f:Bo B w l):(∀a,l.getD a false=false)↔(Bb R w).isEmpty=true:=by
 rw[<-CS h.bT D];constructor
 ·intro e a G;have:=(f.2 a).2 ((h.eH w a).2 G);rw[e a]at this;cases this
 ·intro e a;cases hh:l.getD a false with
  |false=>rfl
  |true=>exact absurd ((h.eH w a).1 ((f.2 a).1 hh)) (e a)
def QT(f:List PT)(w:List Nat)(r:Int):Prop:=(r= -1/\∀t∈f,¬t.dK.aU w)\/∃i,∃h:i<f.length,r=(i:Int)/\f[i].dK.aU w/\∀j,(B:j<i)->¬(f[j]'(by omega)).dK.aU w
theorem Qh.bN{s:ByteArray}{R:E0}{J:List PT}(h:Qh s R J){w:List Nat}(V:w≠ []){r:Int}(U:QT J w r):r=R.aB (Bb R w):=by
 refine Sv.bX ?_ (SR h.bT w V);rcases U with⟨D,G⟩|⟨i,f,D,G,K⟩
 ·refine .inl ⟨D,fun i f B=>?_⟩;simp only[yA]at f;rw[List.getElem_map]at B;exact G J[i] (zG f) (((h.dG (zG f)).dA w).1 B)
 ·refine .inr ⟨i,by simpa using f,D,?_,fun j M B=>?_⟩
  ·rw[List.getElem_map];exact((h.dG (zG f)).dA w).2 G
  ·rw[List.getElem_map]at B;exact K j M (((h.dG (zG (by omega))).dA w).1 B)
end Go.Proofs.YtcckhngbdoiikaaGreat
