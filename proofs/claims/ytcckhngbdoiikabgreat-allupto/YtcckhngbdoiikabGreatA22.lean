import Derived.Test.YtcckhngbdoiikabGreatA09
import Derived.Test.YtcckhngbdoiikabGreatA19
set_option maxRecDepth 20000
set_option maxHeartbeats 12800000
set_option linter.unusedVariables false
namespace Go.Proofs.YtcckhngbdoiikabGreat
open Go.RowKit Go.Deep
inductive MT where
 |place (b i e:Nat) (A:Nat->Bool)
 |node (b:Nat) (v:Value) (k:Nat) (l:List MT)
def MT.aL:MT->Nat
 |.place b _ _ _=>b
 |.node b _ _ _=>b
mutual
def MT.nt:MT->NT
 |.place b i e A=>.place i e A
 |.node b v k l=>.node k (ntL l)
def ntL:List MT->List NT
 | []=>[]
 |x::l=>x.nt::ntL l
end
mutual
def MT.has:MT->Nat->Prop
 |.place b _ _ _,x=>x=b
 |.node b v k l,x=>x=b\/v.ownBlock=some x\/Xd l x
def Xd:List MT->Nat->Prop
 | [],x=>False
 |y::l,x=>y.has x\/Xd l x
end
mutual
def MT.blks:MT->List Nat
 |.place b _ _ _=>[b]
 |.node b v k l=>b::M9 l
def M9:List MT->List Nat
 | []=>[]
 |y::l=>y.blks++M9 l
end
def Kd(k:Nat)(id:Int)(i:Nat)(t:ByteArray)(v:Value):Array Value:=#[.int .i64 k,.int .i64 id,.int .i64 i,.string t,v]
def Q5(l:List Nat):List Value:=l.map (fun b=>.pointer (some ⟨b,0,none⟩))
def NH(w:World)(v:Value)(l:List Nat):Prop:=w.ownsRow 0 89 1 v l.length (Q5 l)
def noT:ByteArray:=⟨#[]⟩
def AB:Value:=.slice none 0 0
mutual
def MT.At(w:World)(s:ByteArray)(f:Nat->Int):MT->Prop
 |.place b i e A=>Blk w b (Kd 0 (f b) i (s.extract i e) AB) 142
 |.node b v k l=>Blk w b (Kd k (f b) 0 noT v) 142/\NH w v (l.map MT.aL)/\AtL w s f l
def AtL(w:World)(s:ByteArray)(f:Nat->Int):List MT->Prop
 | []=>True
 |y::l=>y.At w s f/\AtL w s f l
end
theorem Sb:∀l:List MT,ntL l=l.map MT.nt
 | []=>rfl
 |x::l=>by simp[ntL,Sb l]
theorem Wc:∀(l:List MT) (x:Nat),Xd l x↔∃y∈l,y.has x
 | [],x=>by simp[Xd]
 |y::l,x=>by simp[Xd,Wc l x]
theorem Bd{w:World}{s:ByteArray}{f:Nat->Int}:∀(l:List MT),AtL w s f l↔∀y∈l,y.At w s f
 | []=>by simp[AtL]
 |y::l=>by simp[AtL,Bd l]
theorem Lg:∀l m:List MT,M9 (l++m)=M9 l++M9 m
 | [],m=>rfl
 |x::l,m=>by simp[M9,Lg l m]
theorem MT.hJ(T:MT):T.has T.aL:=by cases T <;>simp[MT.has,MT.aL]
mutual
theorem MT.cJ:∀(T:MT) (x:Nat),x∈T.blks->T.has x
 |.place b _ _ _,x,h=>by simpa[MT.blks,MT.has]using h
 |.node b v k l,x,h=>by
  simp only[MT.blks,zU]at h;simp only[MT.has];rcases h with h|h
  ·exact .inl h
  ·exact .inr (.inr (Fj l x h))
theorem Fj:∀(l:List MT) (x:Nat),x∈M9 l->Xd l x
 | [],x,h=>by simp[M9]at h
 |y::l,x,h=>by
  simp only[M9,zQ]at h;simp only[Xd];rcases h with h|h
  ·exact .inl (MT.cJ y x h)
  ·exact .inr (Fj l x h)
end
mutual
theorem MT.At.kept{w w':World}{s:ByteArray}{f:Nat->Int}{ex:Nat->Prop}(k:C0 ex w w'):∀(T:MT),T.At w s f->(∀x,T.has x->¬ex x)->T.At w' s f
 |.place b i e A,h,hx=>by
  simp only[MT.At]at h⊢;exact h.kept k (hx b (by simp[MT.has]))
 |.node b v n l,h,hx=>by
  simp only[MT.At]at h⊢;exact⟨h.1.kept k (hx b (by simp[MT.has])),K0 h.2.1 k (fun x e=>hx x (by simp[MT.has,e])),AtL.kept k l h.2.2 (fun x e=>hx x (by simp[MT.has,e]))⟩
theorem AtL.kept{w w':World}{s:ByteArray}{f:Nat->Int}{ex:Nat->Prop}(k:C0 ex w w'):∀(l:List MT),AtL w s f l->(∀x,Xd l x->¬ex x)->AtL w' s f l
 | [],h,hx=>by simp[AtL]
 |y::l,h,hx=>by
  simp only[AtL]at h⊢;exact⟨MT.At.kept k y h.1 (fun x e=>hx x (by simp[Xd,e])),AtL.kept k l h.2 (fun x e=>hx x (by simp[Xd,e]))⟩
end
theorem MT.At.aA{w w':World}{s:ByteArray}{f:Nat->Int}{T:MT}(h:T.At w s f)(k:Bw w w'):T.At w' s f:=MT.At.kept (ex:=fun _=>False) (C0.aM k) T h (fun _ _ e=>e)
mutual
theorem MT.At.lt{w:World}{s:ByteArray}{f:Nat->Int}:∀(T:MT),T.At w s f->∀x,T.has x->x<w.heap.size
 |.place b i e A,h,x,B=>by
  simp only[MT.At]at h;simp only[MT.has]at B;rw[B];exact h.lt
 |.node b v n l,h,x,B=>by
  simp only[MT.At]at h;simp only[MT.has]at B;rcases B with B|B|B
  ·rw[B];exact h.1.lt
  ·exact Q1 h.2.1 x B
  ·exact AtL.lt l h.2.2 x B
theorem AtL.lt{w:World}{s:ByteArray}{f:Nat->Int}:∀(l:List MT),AtL w s f l->∀x,Xd l x->x<w.heap.size
 | [],h,x,B=>by simp[Xd]at B
 |y::l,h,x,B=>by
  simp only[AtL]at h;simp only[Xd]at B;rcases B with B|B
  ·exact MT.At.lt y h.1 x B
  ·exact AtL.lt l h.2 x B
end
def N9:Nat->Int:=fun _=>0
structure Nd(w0 w:World)(s:ByteArray)(b k:Nat)(v:Value)(kids:List MT)(D:Nat->Prop):Prop where
 aO:Blk w b (Kd k 0 0 noT v) 142
 row:NH w v (kids.map MT.aL)
 cZ:AtL w s N9 kids
 own:∀x,Xd kids x->D x/\x≠b/\v.ownBlock≠some x
 db:D b
 dv:∀x,v.ownBlock=some x->D x
 lt:∀x,D x->w0.heap.size<=x/\x<w.heap.size
 bR:(M9 kids).Nodup
theorem Nd.kept{w0 w w':World}{s:ByteArray}{b k:Nat}{v:Value}{f:List MT}{D ex:Nat->Prop}(h:Nd w0 w s b k v f D)(B:C0 ex w w')(G:∀x,D x->¬ex x):Nd w0 w' s b k v f D:=
 ⟨h.aO.kept B (G b h.db),K0 h.row B (fun x e=>G x (h.dv x e)),AtL.kept B f h.cZ (fun x e=>G x (h.own x e).1),h.own,h.db,h.dv,fun x e=>⟨(h.lt x e).1,yG (h.lt x e).2 B.size⟩,h.bR⟩
theorem Nd.aA{w0 w w':World}{s:ByteArray}{b k:Nat}{v:Value}{f:List MT}{D:Nat->Prop}(h:Nd w0 w s b k v f D)(B:Bw w w'):Nd w0 w' s b k v f D:=h.kept (ex:=fun _=>False) (C0.aM B) (fun _ _ e=>e)
theorem Nd.part{w0 w:World}{s:ByteArray}{b k:Nat}{v:Value}{f:List MT}{D:Nat->Prop}(h:Nd w0 w s b k v f D):(MT.node b v k f).At w s N9/\(∀x,(MT.node b v k f).has x->D x)/\(MT.node b v k f).blks.Nodup:=by
 refine⟨by simp only[MT.At];exact⟨h.aO,h.row,h.cZ⟩,fun x B=>?_,?_⟩
 ·simp only[MT.has]at B;rcases B with B|B|B
  ·rw[B];exact h.db
  ·exact h.dv x B
  ·exact(h.own x B).1
 ·simp only[MT.blks];exact List.nodup_cons.2 ⟨fun e=>(h.own b (Fj _ _ e)).2.1 rfl,h.bR⟩
theorem Nd.aR(w0 w:World)(s:ByteArray)(k:Nat)(h:w0.heap.size<=w.heap.size):Nd w0 (w.alloc (.cells (Kd k 0 0 noT AB) 142)) s w.heap.size k AB [] (fun x=>x=w.heap.size):=
 ⟨Blk.aR _ _ _,World.ownsRow_nil _ _ _ _,by simp[AtL],fun x f=>by simp[Xd]at f,rfl,fun x f=>by simp[AB,Value.ownBlock]at f,fun x f=>by rw[f];simp;exact h,by simp[M9]⟩
theorem Nd.push{w0 w M:World}{s:ByteArray}{b k g B:Nat}{v:Value}{f:List MT}{D E:Nat->Prop}(h:Nd w0 w s b k v f D){T:MT}(hT:T.At w s N9)(hE:∀x,T.has x->E x)(U:∀x,E x->¬D x/\w0.heap.size<=x/\x<w.heap.size)(hn:T.blks.Nodup)(o:Obj)
  (a0:M.ownsRow 0 89 1 (.slice (some ⟨g,0,none⟩) (f.length+1) B) (f.length+1) (Q5 (f.map MT.aL)++ [.pointer (some ⟨T.aL,0,none⟩)]))
  (hg:(w.alloc o).grownBy M v.ownBlock) (V:v.ownBlock=some g\/g=(w.alloc o).heap.size) (a3:g<M.heap.size) (hw:w0.heap.size<=w.heap.size):
  Nd w0 (M.setCell ⟨b,4,none⟩ (.slice (some ⟨g,0,none⟩) (f.length+1) B)) s b k (.slice (some ⟨g,0,none⟩) (f.length+1) B) (f++ [T]) (fun x=>D x\/E x\/x=g)/\
  C0 D w (M.setCell ⟨b,4,none⟩ (.slice (some ⟨g,0,none⟩) (f.length+1) B))/\Blk M b (Kd k 0 0 noT v) 142:=by
 have hk:C0 (fun x=>v.ownBlock=some x) w M:=((C0.refl _ _).alloc o).trans (D8 (O:=fun x=>v.ownBlock=some x) hg (fun x e=>e)) (fun _ _ e=>e);have Y:Blk M b (Kd k 0 0 noT v) 142:=h.aO.kept hk (fun e=>L0 h.row h.aO (by decide) e);have a1:g≠b:=by
  rcases V with e|e
  ·exact fun K=>L0 h.row h.aO (by decide) (K ▸ e)
  ·have:=h.aO.lt;simp at e;omega
 have Z:D g\/w.heap.size<=g:=by
  rcases V with e|e
  ·exact .inl (h.dv g e)
  ·right;simp at e;omega
 have W:C0 D w (M.setCell ⟨b,4,none⟩ (.slice (some ⟨g,0,none⟩) (f.length+1) B)):=(hk.bK (fun i _ e=>h.dv i e)).setCell (p:=⟨b,4,none⟩) (fun _=>h.db) _;have a2:C0 (fun x=>v.ownBlock=some x\/x=b) w (M.setCell ⟨b,4,none⟩ (.slice (some ⟨g,0,none⟩) (f.length+1) B)):=(hk.bK (fun i _ e=>.inl e)).setCell (p:=⟨b,4,none⟩) (fun _=>.inr rfl) _;refine⟨⟨?_,?_,?_,?_,.inl h.db,?_,?_,?_⟩,W,Y⟩
 ·have:=Y.set 4 (.slice (some ⟨g,0,none⟩) (f.length+1) B);exact this
 ·have h1:=U2 a0 (p:=⟨b,4,none⟩) (fun e=>a1 (zE e)) (.slice (some ⟨g,0,none⟩) (f.length+1) B);unfold NH;rw[zV,zL,yB];have e:Q5 (f.map MT.aL++ [T].map MT.aL)=Q5 (f.map MT.aL)++ [.pointer (some ⟨T.aL,0,none⟩)]:=by simp[Q5]
  rw[e];exact h1
 ·rw[Bd];intro y G;rw[zQ,zJ]at G;rcases G with G|G
  ·refine MT.At.kept a2 y ((Bd f).1 h.cZ y G) (fun x J e=>?_);have:=h.own x ((Wc f x).2 ⟨y,G,J⟩);rcases e with e|e
   ·exact this.2.2 e
   ·exact this.2.1 e
  ·subst G;exact MT.At.kept W y hT (fun x J=>(U x (hE x J)).1)
 ·intro x J;rw[Wc]at J;obtain⟨y,G,J⟩:=J;rw[zQ,zJ]at G;rcases G with G|G
  ·have:=h.own x ((Wc f x).2 ⟨y,G,J⟩);refine⟨.inl this.1,this.2.1,fun e=>?_⟩;cases(zE e:g=x);rcases V with K|K
   ·exact this.2.2 K
   ·have:=(h.lt g this.1).2;simp at K;omega
  ·subst G;have X:=U x (hE x J);refine⟨.inr (.inl (hE x J)),fun e=>X.1 (e ▸ h.db),fun e=>?_⟩;cases(zE e:g=x);rcases Z with K|K
   ·exact X.1 K
   ·omega
 ·intro x e;cases(zE e:g=x);exact .inr (.inr rfl)
 ·intro x e;have hz:=W.size;rcases e with e|e|e
  ·have:=h.lt x e;exact⟨this.1,by omega⟩
  ·have:=U x e;exact⟨this.2.1,by omega⟩
  ·subst e;refine⟨?_,by simpa using a3⟩;rcases Z with K|K
   ·exact(h.lt x K).1
   ·omega
 ·rw[Lg,List.nodup_append];refine⟨h.bR,by simpa[M9]using hn,fun x J y G e=>?_⟩;subst e;have h1:=(h.own x (Fj _ _ J)).1;have h2:T.has x:=MT.cJ T x (by simpa[M9]using G);exact(U x (hE x h2)).1 h1
def Jw(s:ByteArray)(x:NT)(w:World)(e:Ending)(w':World):Prop:=
 ∃T:MT,e=.returned (.pointer (some ⟨T.aL,0,none⟩))/\T.nt=x/\T.At w' s N9/\(∀b,T.has b->w.heap.size<=b)/\T.blks.Nodup/\Bw w w'
def MP(s:ByteArray)(t:PT)(i j:Nat):Prop:=∀w:World,Calls Tryz.prog 61 #[.string s,.int .i64 i,.int .i64 j] w (Jw s (t.nt [] []) w)
theorem PM(s:ByteArray)(i e:Nat)(A:Nat->Bool)(w:World)(K:s.size<=120)(J:i<e)(G:e<=s.size)(f:F0 s i≠40):
  Calls Tryz.prog 98 #[.string s,.int .i64 i,.int .i64 e] w (Jw s (.place i e A) w):=by
 have h:i<s.size:=by omega
 rw[R3 h]at f;have D:(((s[i].toNat:Nat):Int)==40)=false:=by simp;omega
 have M:(0:Int)<=(i:Int):=by omega
 have U:(i:Int)<(s.size:Int):=by omega
 have V:(i:Int)<=(e:Int):=by omega
 have W:(e:Int)<=(s.size:Int):=by omega
 have X:(0:Int)<=(e:Int):=by omega
 clear f;go_enter Tryz.func98,Tryz.ntmps98;go_wp2_with fail;go_ret;refine⟨.place w.heap.size i e A,rfl,by simp[MT.nt],?_,fun b B=>by simp[MT.has]at B;omega,by simp[MT.blks],N0 _ _⟩;simp only[MT.At];exact Blk.aR _ _ _
theorem OM(s:ByteArray)(t:PT)(i e:Nat)(w:World)(hs:s.size<=120)(Z:e<s.size)(f:F0 s i=40)(H:MP s t (i+1) e):
  Calls Tryz.prog 98 #[.string s,.int .i64 i,.int .i64 ((e+1:Nat):Int)] w (Jw s (t.nt [] []) w):=by
 have K:=A1 (s:=s) (p:=i) (by rw[f];decide);rw[R3 K]at f;have Y:(((s[i].toNat:Nat):Int)==40)=true:=by simp;omega
 have i0:(0:Int)<=(i:Int):=by omega
 have i1:(i:Int)<(s.size:Int):=by omega
 have V:wrap64 ((i:Int)+1)=((i+1:Nat):Int):=by unfold wrap64;omega
 have W:wrap64 (((e+1:Nat):Int)-1)=(e:Int):=by unfold wrap64;omega
 have X:wrap64 ((e:Int)+1-1)=(e:Int):=by unfold wrap64;omega
 have U:=Hd (H w);clear f H;go_enter Tryz.func98,Tryz.ntmps98;go_wp2_with fail;refine U.out.mono ?_;rintro e w1 ⟨T,rfl,h,B,D,G,J⟩;have M:=Hd5 h B D G J;clear h B D G J;go_wp2_with fail;go_ret;obtain⟨h,B,D,G,J⟩:=M.out;exact⟨T,rfl,h,B,D,G,J⟩
def OA(s:ByteArray):PT->Prop
 |.nil=>True
 |.bar r=>OA s r
 |.leaf _ _ _ _ r=>OA s r
 |.group t _ r=>(∀i j,t.Sp s i j->j<=s.size->MP s t i j)/\OA s r
theorem BY{s:ByteArray}(K:s.size<=120){r:PT}{k j:Nat}(h:r.Sp s k j)(hj:j<=s.size)(J:OA s r):
  (r=.nil/\k=j)\/(∃r',r=.bar r'/\F0 s k=124/\k<j/\r'.Sp s (k+1) j/\OA s r')\/
  (∃(x:NT) (e m:Nat) (r':PT),(∀G cur,r.nt G cur=r'.nt G (cur++ [S6 m x]))/\F0 s k≠124/\k<e/\e+F5 m<=j/\AEC s k e/\(∀w:World,Calls Tryz.prog 98 #[.string s,.int .i64 k,.int .i64 e] w (Jw s x w))/\Dt s e m/\r'.Sp s (e+F5 m) j/\OA s r'):=by
 cases r with
 |nil=>exact .inl ⟨rfl,h⟩
 |bar r'=>exact .inr (.inl ⟨r',rfl,h.1,by have:=PT.cF h.2;omega,h.2,J⟩)
 |leaf a e A m r'=>
  obtain⟨rfl,f,B,U,D⟩:=h;have W:=Vf f;have V:=W.lt;refine .inr (.inr ⟨.place a e A,e,m,r',fun G cur=>rfl,fun X=>W.first (.inr (.inr (.inl X))),V.1,PT.cF D,SH K W B,fun w=>PM s a e A w K V.1 V.2 B,U,D,J⟩)
 |group t m r'=>
  obtain⟨M,e,f,B,U,D⟩:=h;have Y:=A1 (s:=s) (p:=e) (by rw[B];decide);have Z:=PT.cF f;exact .inr (.inr ⟨t.nt [] [],e+1,m,r',fun G cur=>rfl,by rw[M];decide,by omega,PT.cF D,Ab0 K M f B,fun w=>OM s t k e w K Y M (J.1 _ _ f (by omega)),U,D,J.2⟩)
theorem CR{w0 w:World}{s:ByteArray}{T:MT}(k:Nat)(h:T.At w s N9)(B:∀b,T.has b->w0.heap.size<=b)(D:T.blks.Nodup)(G:w0.heap.size<=w.heap.size):
  (MT.node (w.heap.size+1) (.slice (some ⟨w.heap.size,0,none⟩) 1 1) k [T]).At ((w.alloc (.cells #[.pointer (some ⟨T.aL,0,none⟩)] 89)).alloc (.cells (Kd k 0 0 noT (.slice (some ⟨w.heap.size,0,none⟩) 1 1)) 142)) s N9/\
  (∀b,(MT.node (w.heap.size+1) (.slice (some ⟨w.heap.size,0,none⟩) 1 1) k [T]).has b->w0.heap.size<=b)/\(MT.node (w.heap.size+1) (.slice (some ⟨w.heap.size,0,none⟩) 1 1) k [T]).blks.Nodup:=by
 refine⟨?_,fun b f=>?_,?_⟩
 ·simp only[MT.At];refine⟨Blk.dX _ _ _ _,?_,by simp only[AtL];exact⟨(h.aA (N0 _ _)).aA (N0 _ _),trivial⟩⟩;have f:Blk ((w.alloc (.cells #[.pointer (some ⟨T.aL,0,none⟩)] 89)).alloc (.cells (Kd k 0 0 noT (.slice (some ⟨w.heap.size,0,none⟩) 1 1)) 142)) w.heap.size #[.pointer (some ⟨T.aL,0,none⟩)] 89:=(Blk.aR w _ _).alloc _;exact J5 (by simp[Q5]) f (zD _) (by unfold maxLen;omega) (by simp) (by simp[Q5])
 ·simp only[MT.has,Xd,or_false]at f;rcases f with f|f|f
  ·omega
  ·cases(zE f:w.heap.size=b);exact G
  ·exact B b f
 ·simp only[MT.blks,M9,yP];refine List.nodup_cons.2 ⟨fun e=>?_,D⟩;have:=MT.At.lt T h _ (MT.cJ T _ e);omega
theorem Tryz.fU:(Tryz.prog.info? 89).map (fun i=>(i.zero,i.size,i.bytes))=some (some (.pointer none),1,8):=by kernel_rfl
structure Ju(w wr:World)(s:ByteArray)(t r:PT)(k j ab rb:Nat)(va vr:Value)(aN cur:List MT)(D1 D2:Nat->Prop):Prop where
 sp:r.Sp s k j
 lT:OA s r
 nt:r.nt (ntL aN) (ntL cur)=t.nt [] []
 all:Nd w wr s ab 2 va aN D1
 row:Nd w wr s rb 1 vr cur D2
 kH:∀x,D1 x->¬D2 x
 aA:Bw w wr
 bU:aN.length+cur.length<=k
theorem Fc(l:List MT)(x:MT):ntL (l++ [x])=ntL l++ [x.nt]:=by simp[Sb]
theorem Ju.bar{w wr D:World}{s:ByteArray}{t r:PT}{k j G M g B:Nat}{va U:Value}{f cur:List MT}{D1 Z:Nat->Prop}(h:Ju w wr s t (.bar r) k j G M va U f cur D1 Z)(o:Obj)
  (J:D.ownsRow 0 89 1 (.slice (some ⟨g,0,none⟩) (f.length+1) B) (f.length+1) (Q5 (f.map MT.aL)++ [.pointer (some ⟨M,0,none⟩)]))
  (hg:(wr.alloc o).grownBy D va.ownBlock) (X:va.ownBlock=some g\/g=(wr.alloc o).heap.size) (Y:g<D.heap.size):
  ∃V W,Ju w ((D.setCell ⟨G,4,none⟩ (.slice (some ⟨g,0,none⟩) (f.length+1) B)).alloc (.cells (Kd 1 0 0 noT AB) 142)) s t r (k+1) j G D.heap.size (.slice (some ⟨g,0,none⟩) (f.length+1) B) AB (f++ [.node M U 1 cur]) [] V W/\Blk D G (Kd 2 0 0 noT va) 142:=by
 obtain⟨p1,p2,p3⟩:=h.row.part;have hz:=h.aA.size;obtain⟨q1,q2,q3⟩:=h.all.push (T:=.node M U 1 cur) (E:=Z) p1 p2 (fun x K=>⟨fun e=>h.kH x e K,(h.row.lt x K).1,(h.row.lt x K).2⟩) p3 o J hg X Y hz;refine⟨_,fun x=>x=D.heap.size,⟨h.sp.2,h.lT,?_,q1.aA (N0 _ _),?_,fun x K e=>?_,?_,?_⟩,q3⟩
 ·rw[Fc,<-h.nt];show r.nt (ntL f++ [(MT.node M U 1 cur).nt]) []=r.nt (ntL f++ [.node 1 (ntL cur)]) [];simp[MT.nt]
 ·have:=Nd.aR w (D.setCell ⟨G,4,none⟩ (.slice (some ⟨g,0,none⟩) (f.length+1) B)) s 1 (by have:=q2.size;omega);simpa using this
 ·have:=(q1.lt x K).2;simp at this;omega
 ·have hb:Bw w (D.setCell ⟨G,4,none⟩ (.slice (some ⟨g,0,none⟩) (f.length+1) B)):=C3 h.aA q2 hz (fun i hi e=>by have:=(h.all.lt i e).1;omega);exact hb.alloc (by have:=hb.size;exact this) _
 ·have:=h.bU;simp;omega
theorem Ju.piece{w wr U V:World}{s:ByteArray}{t r r':PT}{k k' j ab X g B:Nat}{va Y:Value}{G cur:List MT}{D1 D2:Nat->Prop}(h:Ju w wr s t r k j ab X va Y G cur D1 D2){T:MT}{y:NT}(hy:∀G cur,r.nt G cur=r'.nt G (cur++ [y]))(a5:r'.Sp s k' j)(a3:OA s r')(hk:k<k')
  (W:Bw wr U) (hT:T.At U s N9) (a1:T.nt=y) (D:∀b,T.has b->wr.heap.size<=b) (a0:T.blks.Nodup) (o:Obj)
  (K:V.ownsRow 0 89 1 (.slice (some ⟨g,0,none⟩) (cur.length+1) B) (cur.length+1) (Q5 (cur.map MT.aL)++ [.pointer (some ⟨T.aL,0,none⟩)]))
  (hg:(U.alloc o).grownBy V Y.ownBlock) (J:Y.ownBlock=some g\/g=(U.alloc o).heap.size) (a4:g<V.heap.size):
  ∃Z,Ju w (V.setCell ⟨X,4,none⟩ (.slice (some ⟨g,0,none⟩) (cur.length+1) B)) s t r' k' j ab X va (.slice (some ⟨g,0,none⟩) (cur.length+1) B) G (cur++ [T]) D1 Z/\Blk V X (Kd 1 0 0 noT Y) 142:=by
 have hz:=h.aA.size;have a7:=W.size;have M:=h.row.aA W;obtain⟨q1,q2,q3⟩:=M.push (T:=T) (E:=fun x=>T.has x) hT (fun x f=>f) (fun x f=>⟨fun e=>by have:=(h.row.lt x e).2;have:=D x f;omega,by have:=D x f;omega,MT.At.lt T hT x f⟩) a0 o K hg J a4 (by omega);refine⟨_,⟨a5,a3,?_,(h.all.aA W).kept q2 (fun x f e=>h.kH x f e),q1,fun x f e=>?_,?_,?_⟩,q3⟩
 ·rw[Fc,a1,<-hy];exact h.nt
 ·have a6:=h.all.lt x f;rcases e with e|e|e
  ·exact h.kH x f e
  ·have:=D x e;omega
  ·subst e;rcases J with e'|e'
   ·exact h.kH x f (h.row.dv x e')
   ·simp at e';omega
 ·have a2:Bw w U:=C3 (ex:=fun _=>False) h.aA (C0.aM W) hz (fun _ _ e=>e);exact C3 a2 q2 (by omega) (fun i hi e=>by have:=(h.row.lt i e).1;omega)
 ·have:=h.bU;simp;omega
theorem Nd.iY{w0 w:World}{s:ByteArray}{b k:Nat}{v:Value}{f:List MT}{D:Nat->Prop}(h:Nd w0 w s b k v f D):w.ownsRow 0 89 1 v f.length (Q5 (f.map MT.aL)):=by
 have:=h.row;unfold NH at this;rwa [yB]at this
theorem Ke{w:World}{v:Value}{n:Nat}{f:List Value}(h:w.ownsRow 0 89 1 v n f)(o:Obj):(w.alloc o).ownsRow 0 89 1 v n f:=K0 (ex:=fun _=>False) h (C0.aM (N0 _ _)) (fun _ _ e=>e)
set_option maxRecDepth 40000 in
theorem SI(s:ByteArray)(t:PT)(i j:Nat)(hs:s.size<=120)(h:t.Sp s i j)(hj:j<=s.size)(hg:OA s t):MP s t i j:=by
 intro w;obtain⟨ii,ak,an,ao,ap⟩:=info_parts Tryz.fU;have bh:=PT.cF h;have HS:=Hd2 h hg;clear h hg;go_enter Tryz.func61,Tryz.ntmps61;go_wp2_with fail
 go_loopg[8,9] (j-i) (fun G rv iv wr=>∃(k rb:Nat) (r:PT) (va vr:Value) (aN cur:List MT) (D1 D2:Nat->Prop),rv=.pointer (some ⟨rb,0,none⟩)/\iv=.int .i64 k/\G=j-k/\k<=j/\Ju w wr s t r k j w.heap.size rb va vr aN cur D1 D2)
 case atStart=>
  refine⟨i,w.heap.size+1,t,AB,AB,[],[],fun x=>x=w.heap.size,fun x=>x=w.heap.size+1,rfl,rfl,rfl,bh,HS.out.1,HS.out.2,rfl,(Nd.aR w w s 2 (zD _)).aA (N0 _ _),?_,fun x h1 h2=>by omega,(N0 _ _).alloc (by simp) _,by simp⟩;have h9:=Nd.aR w (w.alloc (.cells (Kd 2 0 0 noT AB) 142)) s 1 (by simp);have e9:(w.alloc (.cells (Kd 2 0 0 noT AB) 142)).heap.size=w.heap.size+1:=by simp
  rw[e9]at h9;exact h9
 case round=>
  obtain⟨k,rb,r,va,vr,aN,cur,D1,D2,rfl,rfl,rfl,bo,hI⟩:=hrel;have bl:=hI.bU;have zr:rb<wr.heap.size:=hI.row.aO.lt;have za:w.heap.size<wr.heap.size:=hI.all.aO.lt;have bq:w.heap.size≠rb:=fun e=>hI.kH _ hI.all.db (e ▸ hI.row.db)
  have bj:=BY hs hI.sp hj hI.lT;rcases bj with⟨rfl,rfl⟩|⟨r',rfl,ai,bp,aw,au⟩|⟨x,e,m,r',be,ai,bn,bm,bb,bc,bi,aw,au⟩
  ·
   have e0:decide ((k:Int)<(k:Int))=false:=by simp
   have am:=hI.all.iY;obtain⟨_,ad,J,rfl,_⟩:=P0 am;have c4:wr.cell? ⟨w.heap.size,4,none⟩=some (.slice ad aN.length J):=hI.all.aO.cell 4;have ac:=Hd (Ke am (.cells #[.pointer (some ⟨rb,0,none⟩)] 89));have HI:=Hd hI;clear hI am;go_wp2_with(at_builtin;(refine wpList_append_lies _ (by rfl) _ _ _ (by rfl) 0 89 ii _ 1 8 Tryz.underlying83 ak an ao ap rfl (by omega) (.slice ad aN.length J) aN.length (Q5 (aN.map MT.aL)) (by rfl) ac.out ⟨wr.heap.size,0,none⟩ 1 1 [.pointer (some ⟨rb,0,none⟩)] (by rfl) (by rfl) (World.news_of_block (cs:=#[.pointer (some ⟨rb,0,none⟩)]) (t:=89) (fr:=(0,0)) (by have:=heap_alloc_new wr (.cells #[.pointer (some ⟨rb,0,none⟩)] 89);simpa using this)) (by simp[Value.oneCell']) (by omega) (by unfold maxLen;omega) (by omega) (by simp) (wr.heap.size+1) (by simp) ?_));intro gg U w6 B f K Y;have hI:=HI.out;obtain⟨p1,p2,p3⟩:=hI.row.part;have hz:=hI.aA.size;obtain⟨q1,q2,q3⟩:=hI.all.push (T:=.node rb vr 1 cur) (E:=D2) p1 p2 (fun x hx=>⟨fun e=>hI.kH x e hx,(hI.row.lt x hx).1,(hI.row.lt x hx).2⟩) p3 _ B f (by simpa using K) Y hz;have d4:w6.cell? ⟨w.heap.size,4,none⟩=some (.slice ad aN.length J):=q3.cell 4;have f4:=q3.frozen 4;have bd:Bw w (w6.setCell ⟨w.heap.size,4,none⟩ (.slice (some ⟨gg,0,none⟩) (aN.length+1) U)):=C3 hI.aA q2 hz (fun i hi e=>by have:=(hI.all.lt i e).1;omega);have ay:(MT.node w.heap.size (.slice (some ⟨gg,0,none⟩) (aN.length+1) U) 2 (aN++ [.node rb vr 1 cur])).nt=t.nt [] []:=by
    rw[<-hI.nt];simp only[MT.nt,PT.nt,Fc]
   have HH:=Hd4 q1.part q1.lt bd ay;clear hI q1 q2 q3 p1 p2 p3 bd ay B f K HI ac c4;go_wp2_with fail;go_ret;obtain⟨⟨a1,a2,a3⟩,a4,a5,a6⟩:=HH.out;exact⟨_,rfl,a6,a1,fun b hb=>(a4 b (a2 b hb)).1,a3,a5⟩
  ·
   have e0:decide ((k:Int)<(j:Int))=true:=by simp;omega
   have b4:k<s.size:=by omega
   have k0:(0:Int)<=(k:Int):=by omega
   have k1:(k:Int)<(s.size:Int):=by omega
   rw[R3 b4]at ai;have e1:(((s[k].toNat:Nat):Int)==124)=true:=by simp;omega
   have am:=hI.all.iY;obtain⟨_,ad,J,rfl,_⟩:=P0 am;have c4:wr.cell? ⟨w.heap.size,4,none⟩=some (.slice ad aN.length J):=hI.all.aO.cell 4;have ac:=Hd (Ke am (.cells #[.pointer (some ⟨rb,0,none⟩)] 89));have HI:=Hd hI;clear hI am ai aw au;go_wp2_with(at_builtin;(refine wpList_append_lies _ (by rfl) _ _ _ (by rfl) 0 89 ii _ 1 8 Tryz.underlying83 ak an ao ap rfl (by omega) (.slice ad aN.length J) aN.length (Q5 (aN.map MT.aL)) (by rfl) ac.out ⟨wr.heap.size,0,none⟩ 1 1 [.pointer (some ⟨rb,0,none⟩)] (by rfl) (by rfl) (World.news_of_block (cs:=#[.pointer (some ⟨rb,0,none⟩)]) (t:=89) (fr:=(0,0)) (by have:=heap_alloc_new wr (.cells #[.pointer (some ⟨rb,0,none⟩)] 89);simpa using this)) (by simp[Value.oneCell']) (by omega) (by unfold maxLen;omega) (by omega) (by simp) (wr.heap.size+1) (by simp) ?_));intro gg U w6 B f K Y;obtain⟨bg,af,q1,q3⟩:=HI.out.bar _ B f (by simpa using K) Y;have d4:w6.cell? ⟨w.heap.size,4,none⟩=some (.slice ad aN.length J):=q3.cell 4;have f4:=q3.frozen 4;have HH:=Hd q1;clear q1 q3 B f K HI ac c4;go_wp2_with fail
   go_roundg (j- (k+1))
   case measure=>omega
   case rel=>exact⟨k+1,w6.heap.size,r',_,_,_,_,bg,af,by simp,by go_num,rfl,by omega,HH.out⟩
  ·
   have e0:decide ((k:Int)<(j:Int))=true:=by simp;omega
   have b4:k<s.size:=by omega
   have k0:(0:Int)<=(k:Int):=by omega
   have k1:(k:Int)<(s.size:Int):=by omega
   rw[R3 b4]at ai;have e1:(((s[k].toNat:Nat):Int)==124)=false:=by simp;omega
   have bf:=hI.row.iY;obtain⟨_,ad,J,rfl,_⟩:=P0 bf;have HI:=Hd hI;have HR:=Hd3 be aw au;have HA:=Hd (bc wr);have HE:=Hd bb;clear hI bf ai aw au be bc bb;go_wp2_with fail;refine(HE.out _).mono ?_;rintro e' w0 ⟨rfl,rfl⟩;go_wp2_with fail;refine HA.out.mono ?_;rintro e' D ⟨T,rfl,b7,b8,b9,ba,az⟩;have zz:=az.size;have b6:∀(T':MT) (M w6:World) (gg U:Nat) (o:Obj),Bw w0 M->T'.At M s N9->T'.nt=S6 m x->(∀b,T'.has b->w0.heap.size<=b)->T'.blks.Nodup->
     w6.ownsRow 0 89 1 (.slice (some ⟨gg,0,none⟩) (cur.length+1) U) (cur.length+1) (Q5 (cur.map MT.aL)++ [.pointer (some ⟨T'.aL,0,none⟩)])->(M.alloc o).grownBy w6 (Value.slice ad cur.length J).ownBlock->((Value.slice ad cur.length J).ownBlock=some gg\/gg=(M.alloc o).heap.size)->gg<w6.heap.size->
     ∃af,Ju w (w6.setCell ⟨rb,4,none⟩ (.slice (some ⟨gg,0,none⟩) (cur.length+1) U)) s t r' (e+F5 m) j w.heap.size rb va (.slice (some ⟨gg,0,none⟩) (cur.length+1) U) aN (cur++ [T']) D1 af/\Blk w6 rb (Kd 1 0 0 noT (Value.slice ad cur.length J)) 142:=
    fun T' M w6 gg U o a1 a2 a3 a4 a5 a6 a7 a8 a9=>HI.out.piece (y:=S6 m x) HR.out.1 HR.out.2.1 HR.out.2.2 (by omega) a1 a2 a3 a4 a5 o a6 a7 a8 a9
   have ag:=Hd b6;have HT:=Hd5 b7 b8 b9 ba az;have ab:Hid (∀M,Bw w0 M->M.ownsRow 0 89 1 (.slice ad cur.length J) cur.length (Q5 (cur.map MT.aL))/\M.cell? ⟨rb,4,none⟩=some (.slice ad cur.length J)):=Hd (fun M hb=>⟨(HI.out.row.aA hb).iY,(HI.out.row.aA hb).aO.cell 4⟩);clear b6 b7 b8 b9 ba az HA HE HI HR;rcases bi with⟨rfl,n1,n2,n3⟩|⟨hm,av⟩
   ·by_cases bk:e<j
    ·have x0:decide ((e:Int)<(j:Int))=true:=by simp;omega
     have b0:e<s.size:=by omega
     have j0:(0:Int)<=(e:Int):=by omega
     have j1:(e:Int)<(s.size:Int):=by omega
     rw[R3 b0]at n1 n2 n3;have y1:(((s[e].toNat:Nat):Int)==42)=false:=by simp;omega
     have y2:(((s[e].toNat:Nat):Int)==43)=false:=by simp;omega
     have y3:(((s[e].toNat:Nat):Int)==63)=false:=by simp;omega
     clear n1 n2 n3;obtain⟨M,rfl⟩:∃M:World,M=D:=⟨_,rfl⟩;obtain⟨Z,aa⟩:∃Z:Nat,T.aL=Z:=⟨_,rfl⟩;rw[aa];obtain⟨V,rfl⟩:∃V:MT,V=T:=⟨_,rfl⟩;have a0:Hid (Bw w0 M/\V.At M s N9/\V.nt=S6 0 x/\(∀b,V.has b->w0.heap.size<=b)/\V.blks.Nodup/\V.aL=Z):=⟨HT.out.2.2.2.2,HT.out.2.1,HT.out.1,HT.out.2.2.1,HT.out.2.2.2.1,aa⟩;clear HT aa;have HX:Hid (Bw w0 M/\V.At M s N9/\V.nt=S6 0 x/\(∀b,V.has b->w0.heap.size<=b)/\V.blks.Nodup/\V.aL=Z):=a0;obtain⟨ae,c4⟩:=ab.out M HX.out.1;have ax:=HX.out.1.size;have ac:=Hd (Ke ae (.cells #[.pointer (some ⟨Z,0,none⟩)] 89));clear ae ab;go_wp2_with(at_builtin;(refine wpList_append_lies _ (by rfl) _ _ _ (by rfl) 0 89 ii _ 1 8 Tryz.underlying83 ak an ao ap rfl (by omega) (.slice ad cur.length J) cur.length (Q5 (cur.map MT.aL)) (by rfl) ac.out ⟨M.heap.size,0,none⟩ 1 1 [.pointer (some ⟨Z,0,none⟩)] (by rfl) (by rfl) (World.news_of_block (cs:=#[.pointer (some ⟨Z,0,none⟩)]) (t:=89) (fr:=(0,0)) (by have:=heap_alloc_new M (.cells #[.pointer (some ⟨Z,0,none⟩)] 89);simpa using this)) (by simp[Value.oneCell']) (by omega) (by unfold maxLen;omega) (by omega) (by simp) (M.heap.size+1) (by simp) ?_));intro gg U w6 B f K Y;obtain⟨x1,x2,x3,x4,x5,x6⟩:=HX.out;rw[<-x6]at B;obtain⟨af,q1,q3⟩:=ag.out V M w6 gg U _ x1 x2 x3 x4 x5 B f (by simpa using K) Y;have d4:w6.cell? ⟨rb,4,none⟩=some (.slice ad cur.length J):=q3.cell 4;have f4:=q3.frozen 4;have HH:=Hd q1;clear q1 q3 B f K HX x1 x2 x3 x4 x5 x6 ag c4;go_wp2_with fail
     go_roundg (j- (e+F5 0))
     case measure=>have ah:F5 0=0:=rfl;omega
     case rel=>exact⟨e+F5 0,rb,r',_,_,_,_,D1,af,rfl,by rw[show F5 0=0 from rfl];go_num,rfl,by have ah:F5 0=0:=rfl;omega,HH.out⟩
    ·have x0:decide ((e:Int)<(j:Int))=false:=by simp;omega
     clear n1 n2 n3;obtain⟨M,rfl⟩:∃M:World,M=D:=⟨_,rfl⟩;obtain⟨Z,aa⟩:∃Z:Nat,T.aL=Z:=⟨_,rfl⟩;rw[aa];obtain⟨V,rfl⟩:∃V:MT,V=T:=⟨_,rfl⟩;have a0:Hid (Bw w0 M/\V.At M s N9/\V.nt=S6 0 x/\(∀b,V.has b->w0.heap.size<=b)/\V.blks.Nodup/\V.aL=Z):=⟨HT.out.2.2.2.2,HT.out.2.1,HT.out.1,HT.out.2.2.1,HT.out.2.2.2.1,aa⟩;clear HT aa;have HX:Hid (Bw w0 M/\V.At M s N9/\V.nt=S6 0 x/\(∀b,V.has b->w0.heap.size<=b)/\V.blks.Nodup/\V.aL=Z):=a0;obtain⟨ae,c4⟩:=ab.out M HX.out.1;have ax:=HX.out.1.size;have ac:=Hd (Ke ae (.cells #[.pointer (some ⟨Z,0,none⟩)] 89));clear ae ab;go_wp2_with(at_builtin;(refine wpList_append_lies _ (by rfl) _ _ _ (by rfl) 0 89 ii _ 1 8 Tryz.underlying83 ak an ao ap rfl (by omega) (.slice ad cur.length J) cur.length (Q5 (cur.map MT.aL)) (by rfl) ac.out ⟨M.heap.size,0,none⟩ 1 1 [.pointer (some ⟨Z,0,none⟩)] (by rfl) (by rfl) (World.news_of_block (cs:=#[.pointer (some ⟨Z,0,none⟩)]) (t:=89) (fr:=(0,0)) (by have:=heap_alloc_new M (.cells #[.pointer (some ⟨Z,0,none⟩)] 89);simpa using this)) (by simp[Value.oneCell']) (by omega) (by unfold maxLen;omega) (by omega) (by simp) (M.heap.size+1) (by simp) ?_));intro gg U w6 B f K Y;obtain⟨x1,x2,x3,x4,x5,x6⟩:=HX.out;rw[<-x6]at B;obtain⟨af,q1,q3⟩:=ag.out V M w6 gg U _ x1 x2 x3 x4 x5 B f (by simpa using K) Y;have d4:w6.cell? ⟨rb,4,none⟩=some (.slice ad cur.length J):=q3.cell 4;have f4:=q3.frozen 4;have HH:=Hd q1;clear q1 q3 B f K HX x1 x2 x3 x4 x5 x6 ag c4;go_wp2_with fail
     go_roundg (j- (e+F5 0))
     case measure=>have ah:F5 0=0:=rfl;omega
     case rel=>exact⟨e+F5 0,rb,r',_,_,_,_,D1,af,rfl,by rw[show F5 0=0 from rfl];go_num,rfl,by have ah:F5 0=0:=rfl;omega,HH.out⟩
   ·have ar:F5 m=1:=by unfold F5;rw[if_neg (by omega)]
    have x0:decide ((e:Int)<(j:Int))=true:=by simp;omega
    have b0:e<s.size:=by omega
    have j0:(0:Int)<=(e:Int):=by omega
    have j1:(e:Int)<(s.size:Int):=by omega
    rw[R3 b0]at av;rcases hm with rfl|rfl|rfl
    ·have y1:(((s[e].toNat:Nat):Int)==42)=true:=by simp;omega
     have y2:(((s[e].toNat:Nat):Int)==43)=false:=by simp;omega
     have y3:(((s[e].toNat:Nat):Int)==63)=false:=by simp;omega
     clear av ar;obtain⟨a1,a2,a3⟩:=CR (w0:=w0) 3 HT.out.2.1 HT.out.2.2.1 HT.out.2.2.2.1 zz;have e9:((D.alloc (.cells #[.pointer (some ⟨T.aL,0,none⟩)] 89)).alloc (.cells (Kd 3 0 0 noT (.slice (some ⟨D.heap.size,0,none⟩) 1 1)) 142)).heap.size=D.heap.size+1+1:=by simp
     obtain⟨b1,b2,b3⟩:=CR (w0:=w0) 4 a1 a2 a3 (by simp;omega);rw[e9]at b1 b2 b3;have aj:Bw w0 ((((D.alloc (.cells #[.pointer (some ⟨T.aL,0,none⟩)] 89)).alloc (.cells (Kd 3 0 0 noT (.slice (some ⟨D.heap.size,0,none⟩) 1 1)) 142)).alloc (.cells #[.pointer (some ⟨D.heap.size+1,0,none⟩)] 89)).alloc (.cells (Kd 4 0 0 noT (.slice (some ⟨D.heap.size+1+1,0,none⟩) 1 1)) 142)):=(((HT.out.2.2.2.2.alloc zz _).alloc (by simp;omega) _).alloc (by simp;omega) _).alloc (by simp;omega) _;have a0:Hid (Bw w0 ((((D.alloc (.cells #[.pointer (some ⟨T.aL,0,none⟩)] 89)).alloc (.cells (Kd 3 0 0 noT (.slice (some ⟨D.heap.size,0,none⟩) 1 1)) 142)).alloc (.cells #[.pointer (some ⟨D.heap.size+1,0,none⟩)] 89)).alloc (.cells (Kd 4 0 0 noT (.slice (some ⟨D.heap.size+1+1,0,none⟩) 1 1)) 142))/\(MT.node (D.heap.size+1+1+1) (.slice (some ⟨D.heap.size+1+1,0,none⟩) 1 1) 4 [(MT.node (D.heap.size+1) (.slice (some ⟨D.heap.size,0,none⟩) 1 1) 3 [T])]).At ((((D.alloc (.cells #[.pointer (some ⟨T.aL,0,none⟩)] 89)).alloc (.cells (Kd 3 0 0 noT (.slice (some ⟨D.heap.size,0,none⟩) 1 1)) 142)).alloc (.cells #[.pointer (some ⟨D.heap.size+1,0,none⟩)] 89)).alloc (.cells (Kd 4 0 0 noT (.slice (some ⟨D.heap.size+1+1,0,none⟩) 1 1)) 142)) s N9/\(MT.node (D.heap.size+1+1+1) (.slice (some ⟨D.heap.size+1+1,0,none⟩) 1 1) 4 [(MT.node (D.heap.size+1) (.slice (some ⟨D.heap.size,0,none⟩) 1 1) 3 [T])]).nt=S6 42 x/\(∀b,(MT.node (D.heap.size+1+1+1) (.slice (some ⟨D.heap.size+1+1,0,none⟩) 1 1) 4 [(MT.node (D.heap.size+1) (.slice (some ⟨D.heap.size,0,none⟩) 1 1) 3 [T])]).has b->w0.heap.size<=b)/\(MT.node (D.heap.size+1+1+1) (.slice (some ⟨D.heap.size+1+1,0,none⟩) 1 1) 4 [(MT.node (D.heap.size+1) (.slice (some ⟨D.heap.size,0,none⟩) 1 1) 3 [T])]).blks.Nodup/\(MT.node (D.heap.size+1+1+1) (.slice (some ⟨D.heap.size+1+1,0,none⟩) 1 1) 4 [(MT.node (D.heap.size+1) (.slice (some ⟨D.heap.size,0,none⟩) 1 1) 3 [T])]).aL=D.heap.size+1+1+1):=⟨aj,b1,by simp[MT.nt,ntL,S6,HT.out.1],b2,b3,rfl⟩;clear a1 a2 a3 b1 b2 b3 aj HT e9;have hW:∃W:World,((((D.alloc (.cells #[.pointer (some ⟨T.aL,0,none⟩)] 89)).alloc (.cells (Kd 3 0 0 noT (.slice (some ⟨D.heap.size,0,none⟩) 1 1)) 142)).alloc (.cells #[.pointer (some ⟨D.heap.size+1,0,none⟩)] 89)).alloc (.cells (Kd 4 0 0 noT (.slice (some ⟨D.heap.size+1+1,0,none⟩) 1 1)) 142))=W:=⟨_,rfl⟩;obtain⟨M,X⟩:=hW;rw[X]at a0;have aq:=Hd X;clear X;generalize(MT.node (D.heap.size+1+1+1) (.slice (some ⟨D.heap.size+1+1,0,none⟩) 1 1) 4 [(MT.node (D.heap.size+1) (.slice (some ⟨D.heap.size,0,none⟩) 1 1) 3 [T])])=V at a0;go_upto_region 17 with fail;have X:((((D.alloc (.cells #[.pointer (some ⟨T.aL,0,none⟩)] 89)).alloc (.cells #[.int .i64 3,.int .i64 0,.int .i64 0,.string ⟨#[]⟩,.slice (some ⟨D.heap.size,0,none⟩) 1 1] 142)).alloc (.cells #[.pointer (some ⟨D.heap.size+1,0,none⟩)] 89)).alloc (.cells #[.int .i64 4,.int .i64 0,.int .i64 0,.string ⟨#[]⟩,.slice (some ⟨D.heap.size+1+1,0,none⟩) 1 1] 142))=M:=aq.out;rw[X];have b5:=Hd X;clear X;obtain⟨Z,aa⟩:∃Z:Nat,D.heap.size+1+1+1=Z:=⟨_,rfl⟩;rw[aa]at a0⊢;clear aa;have HX:Hid (Bw w0 M/\V.At M s N9/\V.nt=S6 42 x/\(∀b,V.has b->w0.heap.size<=b)/\V.blks.Nodup/\V.aL=Z):=a0;obtain⟨ae,c4⟩:=ab.out M HX.out.1;have ax:=HX.out.1.size;have ac:=Hd (Ke ae (.cells #[.pointer (some ⟨Z,0,none⟩)] 89));clear ae ab;go_wp2_with(at_builtin;(refine wpList_append_lies _ (by rfl) _ _ _ (by rfl) 0 89 ii _ 1 8 Tryz.underlying83 ak an ao ap rfl (by omega) (.slice ad cur.length J) cur.length (Q5 (cur.map MT.aL)) (by rfl) ac.out ⟨M.heap.size,0,none⟩ 1 1 [.pointer (some ⟨Z,0,none⟩)] (by rfl) (by rfl) (World.news_of_block (cs:=#[.pointer (some ⟨Z,0,none⟩)]) (t:=89) (fr:=(0,0)) (by have:=heap_alloc_new M (.cells #[.pointer (some ⟨Z,0,none⟩)] 89);simpa using this)) (by simp[Value.oneCell']) (by omega) (by unfold maxLen;omega) (by omega) (by simp) (M.heap.size+1) (by simp) ?_));intro gg U w6 B f K Y;obtain⟨x1,x2,x3,x4,x5,x6⟩:=HX.out;rw[<-x6]at B;obtain⟨af,q1,q3⟩:=ag.out V M w6 gg U _ x1 x2 x3 x4 x5 B f (by simpa using K) Y;have d4:w6.cell? ⟨rb,4,none⟩=some (.slice ad cur.length J):=q3.cell 4;have f4:=q3.frozen 4;have HH:=Hd q1;clear q1 q3 B f K HX x1 x2 x3 x4 x5 x6 ag c4;go_wp2_with fail
     go_roundg (j- (e+F5 42))
     case measure=>have ah:F5 42=1:=rfl;omega
     case rel=>exact⟨e+F5 42,rb,r',_,_,_,_,D1,af,rfl,by rw[show F5 42=1 from rfl];go_num,rfl,by have ah:F5 42=1:=rfl;omega,HH.out⟩
    ·have y1:(((s[e].toNat:Nat):Int)==42)=false:=by simp;omega
     have y2:(((s[e].toNat:Nat):Int)==43)=true:=by simp;omega
     have y3:(((s[e].toNat:Nat):Int)==63)=false:=by simp;omega
     clear av ar;obtain⟨a1,a2,a3⟩:=CR (w0:=w0) 3 HT.out.2.1 HT.out.2.2.1 HT.out.2.2.2.1 zz;have aj:Bw w0 ((D.alloc (.cells #[.pointer (some ⟨T.aL,0,none⟩)] 89)).alloc (.cells (Kd 3 0 0 noT (.slice (some ⟨D.heap.size,0,none⟩) 1 1)) 142)):=(HT.out.2.2.2.2.alloc zz _).alloc (by simp;omega) _;have a0:Hid (Bw w0 ((D.alloc (.cells #[.pointer (some ⟨T.aL,0,none⟩)] 89)).alloc (.cells (Kd 3 0 0 noT (.slice (some ⟨D.heap.size,0,none⟩) 1 1)) 142))/\(MT.node (D.heap.size+1) (.slice (some ⟨D.heap.size,0,none⟩) 1 1) 3 [T]).At ((D.alloc (.cells #[.pointer (some ⟨T.aL,0,none⟩)] 89)).alloc (.cells (Kd 3 0 0 noT (.slice (some ⟨D.heap.size,0,none⟩) 1 1)) 142)) s N9/\(MT.node (D.heap.size+1) (.slice (some ⟨D.heap.size,0,none⟩) 1 1) 3 [T]).nt=S6 43 x/\(∀b,(MT.node (D.heap.size+1) (.slice (some ⟨D.heap.size,0,none⟩) 1 1) 3 [T]).has b->w0.heap.size<=b)/\(MT.node (D.heap.size+1) (.slice (some ⟨D.heap.size,0,none⟩) 1 1) 3 [T]).blks.Nodup/\(MT.node (D.heap.size+1) (.slice (some ⟨D.heap.size,0,none⟩) 1 1) 3 [T]).aL=D.heap.size+1):=⟨aj,a1,by simp[MT.nt,ntL,S6,HT.out.1],a2,a3,rfl⟩;clear a1 a2 a3 aj HT;have hW:∃W:World,((D.alloc (.cells #[.pointer (some ⟨T.aL,0,none⟩)] 89)).alloc (.cells (Kd 3 0 0 noT (.slice (some ⟨D.heap.size,0,none⟩) 1 1)) 142))=W:=⟨_,rfl⟩;obtain⟨M,X⟩:=hW;rw[X]at a0;have aq:=Hd X;clear X;generalize MT.node (D.heap.size+1) (.slice (some ⟨D.heap.size,0,none⟩) 1 1) 3 [T]=V at a0;go_upto_region 17 with fail;have X:((D.alloc (.cells #[.pointer (some ⟨T.aL,0,none⟩)] 89)).alloc (.cells #[.int .i64 3,.int .i64 0,.int .i64 0,.string ⟨#[]⟩,.slice (some ⟨D.heap.size,0,none⟩) 1 1] 142))=M:=aq.out;rw[X];have b5:=Hd X;clear X;obtain⟨Z,aa⟩:∃Z:Nat,D.heap.size+1=Z:=⟨_,rfl⟩;rw[aa]at a0⊢;clear aa;have HX:Hid (Bw w0 M/\V.At M s N9/\V.nt=S6 43 x/\(∀b,V.has b->w0.heap.size<=b)/\V.blks.Nodup/\V.aL=Z):=a0;obtain⟨ae,c4⟩:=ab.out M HX.out.1;have ax:=HX.out.1.size;have ac:=Hd (Ke ae (.cells #[.pointer (some ⟨Z,0,none⟩)] 89));clear ae ab;go_wp2_with(at_builtin;(refine wpList_append_lies _ (by rfl) _ _ _ (by rfl) 0 89 ii _ 1 8 Tryz.underlying83 ak an ao ap rfl (by omega) (.slice ad cur.length J) cur.length (Q5 (cur.map MT.aL)) (by rfl) ac.out ⟨M.heap.size,0,none⟩ 1 1 [.pointer (some ⟨Z,0,none⟩)] (by rfl) (by rfl) (World.news_of_block (cs:=#[.pointer (some ⟨Z,0,none⟩)]) (t:=89) (fr:=(0,0)) (by have:=heap_alloc_new M (.cells #[.pointer (some ⟨Z,0,none⟩)] 89);simpa using this)) (by simp[Value.oneCell']) (by omega) (by unfold maxLen;omega) (by omega) (by simp) (M.heap.size+1) (by simp) ?_));intro gg U w6 B f K Y;obtain⟨x1,x2,x3,x4,x5,x6⟩:=HX.out;rw[<-x6]at B;obtain⟨af,q1,q3⟩:=ag.out V M w6 gg U _ x1 x2 x3 x4 x5 B f (by simpa using K) Y;have d4:w6.cell? ⟨rb,4,none⟩=some (.slice ad cur.length J):=q3.cell 4;have f4:=q3.frozen 4;have HH:=Hd q1;clear q1 q3 B f K HX x1 x2 x3 x4 x5 x6 ag c4;go_wp2_with fail
     go_roundg (j- (e+F5 43))
     case measure=>have ah:F5 43=1:=rfl;omega
     case rel=>exact⟨e+F5 43,rb,r',_,_,_,_,D1,af,rfl,by rw[show F5 43=1 from rfl];go_num,rfl,by have ah:F5 43=1:=rfl;omega,HH.out⟩
    ·have y1:(((s[e].toNat:Nat):Int)==42)=false:=by simp;omega
     have y2:(((s[e].toNat:Nat):Int)==43)=false:=by simp;omega
     have y3:(((s[e].toNat:Nat):Int)==63)=true:=by simp;omega
     clear av ar;obtain⟨a1,a2,a3⟩:=CR (w0:=w0) 4 HT.out.2.1 HT.out.2.2.1 HT.out.2.2.2.1 zz;have aj:Bw w0 ((D.alloc (.cells #[.pointer (some ⟨T.aL,0,none⟩)] 89)).alloc (.cells (Kd 4 0 0 noT (.slice (some ⟨D.heap.size,0,none⟩) 1 1)) 142)):=(HT.out.2.2.2.2.alloc zz _).alloc (by simp;omega) _;have a0:Hid (Bw w0 ((D.alloc (.cells #[.pointer (some ⟨T.aL,0,none⟩)] 89)).alloc (.cells (Kd 4 0 0 noT (.slice (some ⟨D.heap.size,0,none⟩) 1 1)) 142))/\(MT.node (D.heap.size+1) (.slice (some ⟨D.heap.size,0,none⟩) 1 1) 4 [T]).At ((D.alloc (.cells #[.pointer (some ⟨T.aL,0,none⟩)] 89)).alloc (.cells (Kd 4 0 0 noT (.slice (some ⟨D.heap.size,0,none⟩) 1 1)) 142)) s N9/\(MT.node (D.heap.size+1) (.slice (some ⟨D.heap.size,0,none⟩) 1 1) 4 [T]).nt=S6 63 x/\(∀b,(MT.node (D.heap.size+1) (.slice (some ⟨D.heap.size,0,none⟩) 1 1) 4 [T]).has b->w0.heap.size<=b)/\(MT.node (D.heap.size+1) (.slice (some ⟨D.heap.size,0,none⟩) 1 1) 4 [T]).blks.Nodup/\(MT.node (D.heap.size+1) (.slice (some ⟨D.heap.size,0,none⟩) 1 1) 4 [T]).aL=D.heap.size+1):=⟨aj,a1,by simp[MT.nt,ntL,S6,HT.out.1],a2,a3,rfl⟩;clear a1 a2 a3 aj HT;have hW:∃W:World,((D.alloc (.cells #[.pointer (some ⟨T.aL,0,none⟩)] 89)).alloc (.cells (Kd 4 0 0 noT (.slice (some ⟨D.heap.size,0,none⟩) 1 1)) 142))=W:=⟨_,rfl⟩;obtain⟨M,X⟩:=hW;rw[X]at a0;have aq:=Hd X;clear X;generalize MT.node (D.heap.size+1) (.slice (some ⟨D.heap.size,0,none⟩) 1 1) 4 [T]=V at a0;go_upto_region 17 with fail;have X:((D.alloc (.cells #[.pointer (some ⟨T.aL,0,none⟩)] 89)).alloc (.cells #[.int .i64 4,.int .i64 0,.int .i64 0,.string ⟨#[]⟩,.slice (some ⟨D.heap.size,0,none⟩) 1 1] 142))=M:=aq.out;rw[X];have b5:=Hd X;clear X;obtain⟨Z,aa⟩:∃Z:Nat,D.heap.size+1=Z:=⟨_,rfl⟩;rw[aa]at a0⊢;clear aa;have HX:Hid (Bw w0 M/\V.At M s N9/\V.nt=S6 63 x/\(∀b,V.has b->w0.heap.size<=b)/\V.blks.Nodup/\V.aL=Z):=a0;obtain⟨ae,c4⟩:=ab.out M HX.out.1;have ax:=HX.out.1.size;have ac:=Hd (Ke ae (.cells #[.pointer (some ⟨Z,0,none⟩)] 89));clear ae ab;go_wp2_with(at_builtin;(refine wpList_append_lies _ (by rfl) _ _ _ (by rfl) 0 89 ii _ 1 8 Tryz.underlying83 ak an ao ap rfl (by omega) (.slice ad cur.length J) cur.length (Q5 (cur.map MT.aL)) (by rfl) ac.out ⟨M.heap.size,0,none⟩ 1 1 [.pointer (some ⟨Z,0,none⟩)] (by rfl) (by rfl) (World.news_of_block (cs:=#[.pointer (some ⟨Z,0,none⟩)]) (t:=89) (fr:=(0,0)) (by have:=heap_alloc_new M (.cells #[.pointer (some ⟨Z,0,none⟩)] 89);simpa using this)) (by simp[Value.oneCell']) (by omega) (by unfold maxLen;omega) (by omega) (by simp) (M.heap.size+1) (by simp) ?_));intro gg U w6 B f K Y;obtain⟨x1,x2,x3,x4,x5,x6⟩:=HX.out;rw[<-x6]at B;obtain⟨af,q1,q3⟩:=ag.out V M w6 gg U _ x1 x2 x3 x4 x5 B f (by simpa using K) Y;have d4:w6.cell? ⟨rb,4,none⟩=some (.slice ad cur.length J):=q3.cell 4;have f4:=q3.frozen 4;have HH:=Hd q1;clear q1 q3 B f K HX x1 x2 x3 x4 x5 x6 ag c4;go_wp2_with fail
     go_roundg (j- (e+F5 63))
     case measure=>have ah:F5 63=1:=rfl;omega
     case rel=>exact⟨e+F5 63,rb,r',_,_,_,_,D1,af,rfl,by rw[show F5 63=1 from rfl];go_num,rfl,by have ah:F5 63=1:=rfl;omega,HH.out⟩
theorem Wq(s:ByteArray)(f:s.size<=120):∀t:PT,OA s t
 |.nil=>trivial
 |.bar r=>Wq s f r
 |.leaf _ _ _ _ r=>Wq s f r
 |.group t _ r=>⟨fun i j h B=>SI s t i j f h B (Wq s f t),Wq s f r⟩
theorem KW(s:ByteArray)(f:s.size<=120)(t:PT)(i j:Nat)(h:t.Sp s i j)(B:j<=s.size):MP s t i j:=SI s t i j f h B (Wq s f t)
theorem RSp.cases{s:ByteArray}{t:PT}{l:List PT}{p:Nat}(h:RSp s (t::l) p)(K:p<=s.size):∃q,t.Sp s p q/\q<=s.size/\((l= []/\q=s.size)\/(l≠ []/\q<s.size/\F0 s q=10/\RSp s l (q+1))):=by
 cases l with
 |nil=>exact⟨s.size,h.1,zD _,.inl ⟨rfl,rfl⟩⟩
 |cons u l=>
  obtain⟨q,B,J,f,D⟩:=h;have G:=A1 (s:=s) (p:=q) (by rw[f];decide);exact⟨q,B,by omega,.inr ⟨by simp,G,f,D⟩⟩
structure Ku(w0 w:World)(s:ByteArray)(v:Value)(kids:List MT):Prop where
 row:w.ownsRow 0 89 1 v kids.length (Q5 (kids.map MT.aL))
 cZ:AtL w s N9 kids
 own:∀x,Xd kids x->w0.heap.size<=x/\v.ownBlock≠some x
 dv:∀x,v.ownBlock=some x->w0.heap.size<=x
 bR:(M9 kids).Nodup
theorem Ku.aA{w0 w w':World}{s:ByteArray}{v:Value}{f:List MT}(h:Ku w0 w s v f)(k:Bw w w'):Ku w0 w' s v f:=
 ⟨K0 (ex:=fun _=>False) h.row (C0.aM k) (fun _ _ e=>e),AtL.kept (ex:=fun _=>False) (C0.aM k) f h.cZ (fun _ _ e=>e),h.own,h.dv,h.bR⟩
theorem Ku.push{w0 w X:World}{s:ByteArray}{g M:Nat}{v:Value}{f:List MT}(h:Ku w0 w s v f){T:MT}(hT:T.At w s N9){wb:World}(Z:∀x,T.has x->wb.heap.size<=x)(U:∀x,Xd f x->x<wb.heap.size)(W:∀x,v.ownBlock=some x->x<wb.heap.size)(hn:T.blks.Nodup)(o:Obj)
  (V:X.ownsRow 0 89 1 (.slice (some ⟨g,0,none⟩) (f.length+1) M) (f.length+1) (Q5 (f.map MT.aL)++ [.pointer (some ⟨T.aL,0,none⟩)]))
  (hg:(w.alloc o).grownBy X v.ownBlock) (Y:v.ownBlock=some g\/g=(w.alloc o).heap.size) (hw:w0.heap.size<=wb.heap.size) (a0:wb.heap.size<=w.heap.size):
  Ku w0 X s (.slice (some ⟨g,0,none⟩) (f.length+1) M) (f++ [T])/\C0 (fun x=>v.ownBlock=some x) w X:=by
 have hk:C0 (fun x=>v.ownBlock=some x) w X:=((C0.refl _ _).alloc o).trans (D8 (O:=fun x=>v.ownBlock=some x) hg (fun x e=>e)) (fun _ _ e=>e);have J:v.ownBlock=some g\/w.heap.size<=g:=by
  rcases Y with e|e
  ·exact .inl e
  ·right;simp at e;omega
 refine⟨⟨?_,?_,?_,?_,?_⟩,hk⟩
 ·rw[zV,zL];have e:Q5 (f.map MT.aL++ [T].map MT.aL)=Q5 (f.map MT.aL)++ [.pointer (some ⟨T.aL,0,none⟩)]:=by simp[Q5]
  rw[e];exact V
 ·rw[Bd];intro y B;rw[zQ,zJ]at B;rcases B with B|B
  ·exact MT.At.kept hk y ((Bd f).1 h.cZ y B) (fun x D e=>(h.own x ((Wc f x).2 ⟨y,B,D⟩)).2 e)
  ·subst B;exact MT.At.kept hk y hT (fun x D e=>by have:=Z x D;have:=W x e;omega)
 ·intro x D;rw[Wc]at D;obtain⟨y,B,D⟩:=D;rw[zQ,zJ]at B;rcases B with B|B
  ·have K:=(Wc f x).2 ⟨y,B,D⟩;refine⟨(h.own x K).1,fun e=>?_⟩;cases(zE e:g=x);rcases J with G|G
   ·exact(h.own _ K).2 G
   ·have:=U _ K;omega
  ·subst B;have:=Z x D;refine⟨by omega,fun e=>?_⟩;cases(zE e:g=x);rcases J with G|G
   ·have:=W _ G;omega
   ·have:=MT.At.lt y hT _ D;omega
 ·intro x e;cases(zE e:g=x);rcases J with G|G
  ·exact h.dv _ G
  ·omega
 ·rw[Lg,List.nodup_append];refine⟨h.bR,by simpa[M9]using hn,fun x D y B e=>?_⟩;subst e;have h1:=U x (Fj _ _ D);have h2:=Z x (MT.cJ T x (by simpa[M9]using B));omega
structure WZ(w wr:World)(s:ByteArray)(ts:List PT)(i p:Nat)(rest:List PT)(v:Value)(kids:List MT):Prop where
 list:Ku w wr s v kids
 nt:ntL kids++rest.map PT.dL=ts.map PT.dL
 bD:(rest= []/\i=s.size+1)\/∃t l q,rest=t::l/\t.Sp s p q/\p<=i/\i<=q/\q<=s.size/\((l= []/\q=s.size)\/(l≠ []/\q<s.size/\F0 s q=10/\RSp s l (q+1)))
 aA:Bw w wr
 bU:kids.length<=i
theorem QG(s:ByteArray)(ts:List PT)(w:World)(hs:s.size<=120)(h:RSp s ts 0):
  Calls Tryz.prog 28 #[.string s] w fun e w'=>∃(v:Value) (f:List MT),e=.returned v/\Ku w w' s v f/\ntL f=ts.map PT.dL/\Bw w w'/\f.length<=200:=by
 obtain⟨ii,ae,aj,ak,am⟩:=info_parts Tryz.fU;have HS:=Hd h;clear h;go_enter Tryz.func28,Tryz.ntmps28;go_wp2_with fail
 go_loopg[3,4,5] (s.size+1) (fun G lv pv iv wr=>∃(i p:Nat) (rest:List PT) (f:List MT),pv=.int .i64 p/\iv=.int .i64 i/\G=s.size+1-i/\i<=s.size+1/\p<=s.size+1/\WZ w wr s ts i p rest lv f)
 case atStart=>
  refine⟨0,0,ts,[],rfl,rfl,rfl,by omega,by omega,⟨World.ownsRow_nil _ _ _ _,by simp[AtL],fun x hx=>by simp[Xd]at hx,fun x hx=>by simp[Value.ownBlock]at hx,by simp[M9]⟩,rfl,?_,Below.refl _ _,by simp⟩;cases ts with
  |nil=>exact HS.out.elim
  |cons t l=>
   obtain⟨q,h1,h2,h3⟩:=RSp.cases HS.out (by omega);exact .inr ⟨t,l,q,rfl,h1,zD _,by omega,h2,h3⟩
 case round=>
  obtain⟨i,p,rest,f,rfl,rfl,rfl,hi,hp,U⟩:=hrel;have X:=U.list.row;obtain⟨_,ad,V,rfl,_⟩:=P0 X;rcases U.bD with⟨rfl,rfl⟩|⟨t,l,q,rfl,a0,av,ax,ah,K⟩
  ·have e0:decide (((s.size+1:Nat):Int)<=(s.size:Int))=false:=by simp;omega
   have aw:decide ((s.size:Int)+1<=(s.size:Int))=false:=by simp;omega
   have HI:=Hd U;clear U X;go_wp2_with fail;go_ret;have U:=HI.out;exact⟨_,f,rfl,U.list,by have:=U.nt;simpa using this,U.aA,by have:=U.bU;omega⟩
  ·have e0:decide ((i:Int)<=(s.size:Int))=true:=by simp;omega
   by_cases au:i<q
   ·
    have ab:i<s.size:=by omega
    have e1:((i:Int)==(s.size:Int))=false:=by simp;omega
    have ag:=PT.fL a0 i av au;rw[R3 ab]at ag;have e2:(((s[i].toNat:Nat):Int)==10)=false:=by simp;omega
    have i0:(0:Int)<=(i:Int):=by omega
    have i1:(i:Int)<(s.size:Int):=by omega
    have HI:=Hd U;have HR:=Hd2 a0 K;clear U X ag a0 K;go_wp2_with fail
    go_roundg (s.size+1- (i+1))
    case measure=>omega
    case rel=>
     have U:=HI.out;exact⟨i+1,p,t::l,f,rfl,by go_num,rfl,by omega,hp,U.list,U.nt,.inr ⟨t,l,q,rfl,HR.out.1,by omega,by omega,ah,HR.out.2⟩,U.aA,by have:=U.bU;omega⟩
   ·obtain rfl:i=q:=by omega
    have HX:=Hd (KW s hs t p i a0 ah wr);have hf:=U.bU;have an:∀x,Xd f x->x<wr.heap.size:=AtL.lt f U.list.cZ;have ao:=Q1 X;have ai:=U.aA.size;have HI:=Hd U;have HZ:=Hd2 an ao;have aa:Hid (∀(T:MT) (M w6:World) (gg D:Nat) (o:Obj),T.nt=t.nt [] []->T.At M s N9->(∀b,T.has b->wr.heap.size<=b)->T.blks.Nodup->Bw wr M->
      w6.ownsRow 0 89 1 (.slice (some ⟨gg,0,none⟩) (f.length+1) D) (f.length+1) (Q5 (f.map MT.aL)++ [.pointer (some ⟨T.aL,0,none⟩)])->(M.alloc o).grownBy w6 (Value.slice ad f.length V).ownBlock->((Value.slice ad f.length V).ownBlock=some gg\/gg=(M.alloc o).heap.size)->
      WZ w w6 s ts (i+1) (i+1) l (.slice (some ⟨gg,0,none⟩) (f.length+1) D) (f++ [T])):=by
     refine Hd fun T M w6 gg D o a1 a2 a3 a4 a5 a6 a7 a8=>?_
     have ap:=a5.size;obtain⟨q1,q2⟩:=(HI.out.list.aA a5).push (T:=T) (wb:=wr) a2 a3 HZ.out.1 HZ.out.2 a4 o a6 a7 a8 ai ap;refine⟨q1,?_,?_,?_,by have:=hf;simp;omega⟩
     ·rw[<-HI.out.nt,Fc,a1];simp[PT.dL]
     ·rcases K with⟨rfl,e⟩|⟨h1,h2,h3,h4⟩
      ·exact .inl ⟨rfl,by omega⟩
      ·cases l with
       |nil=>exact absurd rfl h1
       |cons u l=>
        obtain⟨q',g1,g2,g3⟩:=RSp.cases h4 (by omega);exact .inr ⟨u,l,q',rfl,g1,zD _,PT.cF g1,g2,g3⟩
     ·have aq:Bw w M:=C3 (ex:=fun _=>False) HI.out.aA (C0.aM a5) ai (fun _ _ e=>e);exact C3 aq q2 (by omega) (fun x hx e=>by have:=HI.out.list.dv x e;omega)
    have a9:Hid (∀M,Bw wr M->M.ownsRow 0 89 1 (.slice ad f.length V) f.length (Q5 (f.map MT.aL))):=Hd fun M hb=>(HI.out.list.aA hb).row
    have ar:(i=s.size)\/(i<s.size/\F0 s i=10):=by
     rcases K with⟨_,e⟩|⟨_,h2,h3,_⟩
     ·exact .inl e
     ·exact .inr ⟨h2,h3⟩
    clear U X a0 K an ao HI HZ;rcases ar with rfl|⟨ab,ac⟩
    ·have e1:((s.size:Int)==(s.size:Int))=true:=by simp
     go_wp2_with fail;refine HX.out.mono ?_;rintro e M ⟨T,rfl,b1,b2,b3,b4,Y⟩;have Z:=Hd (Ke (a9.out M Y) (.cells #[.pointer (some ⟨T.aL,0,none⟩)] 89));have HB:=Hd5 b1 b2 b3 b4 Y;have zz:=Y.size;clear b1 b2 b3 b4 Y;go_wp2_with(at_builtin;(refine wpList_append_lies _ (by rfl) _ _ _ (by rfl) 0 89 ii _ 1 8 Tryz.underlying83 ae aj ak am rfl (by omega) (.slice ad f.length V) f.length (Q5 (f.map MT.aL)) (by rfl) Z.out ⟨M.heap.size,0,none⟩ 1 1 [.pointer (some ⟨T.aL,0,none⟩)] (by rfl) (by rfl) (World.news_of_block (cs:=#[.pointer (some ⟨T.aL,0,none⟩)]) (t:=89) (fr:=(0,0)) (by have:=heap_alloc_new M (.cells #[.pointer (some ⟨T.aL,0,none⟩)] 89);simpa using this)) (by simp[Value.oneCell']) (by omega) (by unfold maxLen;omega) (by omega) (by simp) (M.heap.size+1) (by simp) ?_));intro gg D w6 J B W af;obtain⟨b1,b2,b3,b4,Y⟩:=HB.out;have HH:=Hd (aa.out T M w6 gg D _ b1 b2 b3 b4 Y J B (by simpa using W));clear b1 b2 b3 b4 Y J B W aa a9 Z HB;go_wp2_with fail
     go_roundg (s.size+1- (s.size+1))
     case measure=>omega
     case rel=>exact⟨s.size+1,s.size+1,l,f++ [T],by go_num,by go_num,rfl,by omega,by omega,HH.out⟩
    ·have e1:((i:Int)==(s.size:Int))=false:=by simp;omega
     rw[R3 ab]at ac;have e2:(((s[i].toNat:Nat):Int)==10)=true:=by simp;omega
     have i0:(0:Int)<=(i:Int):=by omega
     have i1:(i:Int)<(s.size:Int):=by omega
     clear ac;go_wp2_with fail;refine HX.out.mono ?_;rintro e M ⟨T,rfl,b1,b2,b3,b4,Y⟩;have Z:=Hd (Ke (a9.out M Y) (.cells #[.pointer (some ⟨T.aL,0,none⟩)] 89));have HB:=Hd5 b1 b2 b3 b4 Y;have zz:=Y.size;clear b1 b2 b3 b4 Y;go_wp2_with(at_builtin;(refine wpList_append_lies _ (by rfl) _ _ _ (by rfl) 0 89 ii _ 1 8 Tryz.underlying83 ae aj ak am rfl (by omega) (.slice ad f.length V) f.length (Q5 (f.map MT.aL)) (by rfl) Z.out ⟨M.heap.size,0,none⟩ 1 1 [.pointer (some ⟨T.aL,0,none⟩)] (by rfl) (by rfl) (World.news_of_block (cs:=#[.pointer (some ⟨T.aL,0,none⟩)]) (t:=89) (fr:=(0,0)) (by have:=heap_alloc_new M (.cells #[.pointer (some ⟨T.aL,0,none⟩)] 89);simpa using this)) (by simp[Value.oneCell']) (by omega) (by unfold maxLen;omega) (by omega) (by simp) (M.heap.size+1) (by simp) ?_));intro gg D w6 J B W af;obtain⟨b1,b2,b3,b4,Y⟩:=HB.out;have HH:=Hd (aa.out T M w6 gg D _ b1 b2 b3 b4 Y J B (by simpa using W));clear b1 b2 b3 b4 Y J B W aa a9 Z HB;go_wp2_with fail
     go_roundg (s.size+1- (i+1))
     case measure=>omega
     case rel=>exact⟨i+1,i+1,l,f++ [T],by go_num,by go_num,rfl,by omega,by omega,HH.out⟩
end Go.Proofs.YtcckhngbdoiikabGreat
