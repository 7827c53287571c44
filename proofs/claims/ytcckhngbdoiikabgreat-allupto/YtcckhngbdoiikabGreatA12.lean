import Derived.Test.YtcckhngbdoiikabGreatA10
import Derived.Deep.QuietTactic
import Derived.BigQuiet
set_option maxRecDepth 20000
set_option maxHeartbeats 12800000
set_option linter.unusedVariables false
namespace Go.Proofs.YtcckhngbdoiikabGreat
open Go.RowKit Go.Deep
structure GOk(g:B0)(K:Nat):Prop where
 len:g.next.length=g.aB.length
 row:∀i,i<g.next.length->(g.next.getD i []).length=K/\Al g.aB.length (g.next.getD i [])
theorem KB(aE:List Int)(f h:List Int)(k:Nat)(G:k<f.length)(J:k<h.length):
  Oe aE (f.drop k) (h.drop k)=(N4 aE f[k] h[k] && Oe aE (f.drop (k+1)) (h.drop (k+1))):=by
 have B:f.drop k=f[k]::f.drop (k+1):=yA G;have D:h.drop k=h[k]::h.drop (k+1):=yA J;rw[B,D];rfl
theorem C2{B:Nat}{a w:World}(h:Below B a w)(n:Nat):Below B a (w.drewN n):=⟨h.os,h.tape,h.output,h.size,h.block⟩
theorem DH(rv nv cv:Value)(g:B0)(K:Nat)(aE:List Int)(a b:Nat)(w:World)(hg:Y6 w rv nv g)(ho:GOk g K)(hc:Q2 w cv aE)(a4:aE.length=g.aB.length)(ha:a<g.aB.length)(hb:b<g.aB.length)(hn:g.aB.length<=1000)(hK:K<=1000):
  Calls Tryz.prog 122 #[.agg #[rv,nv],cv,.int .i64 a,.int .i64 b] w fun e w'=>e=.returned (.bool (I7 g aE a b))/\Bw w w':=by
 obtain⟨vs,hN,b8,ah⟩:=hg.next;have am:=ho.len;obtain⟨cd,bf,rfl,aa⟩:=hc.aV;obtain⟨rd,ax,rfl,af⟩:=hg.aB.aV;obtain⟨nd,aw,rfl,ae⟩:=hN.aV;rcases aa with h0|⟨cg,rfl⟩
 ·omega
 rcases af with h0|⟨rg,rfl⟩
 ·omega
 rcases ae with h0|⟨ng,rfl⟩
 ·omega
 have b6:=hc.cell a (by omega);have b7:=hc.cell b (by omega);have bb:=hg.aB.cell a ha;have bc:=hg.aB.cell b hb;have b9:=hN.cell a (by omega);have ba:=hN.cell b (by omega);have U:=ah a vs[a] (zF _);have V:=ah b vs[b] (zF _);generalize vs[a]=va at b9 U;generalize vs[b]=vb at ba V;have an:=ho.row a (by omega);have ap:=ho.row b (by omega);generalize a5:g.next.getD a []=J at U an;generalize a6:g.next.getD b []=rb at V ap;obtain⟨ad,be,rfl,a8⟩:=U.aV;obtain⟨bd,fN,rfl,a9⟩:=V.aV;obtain⟨ao,Y⟩:=an;obtain⟨aq,Z⟩:=ap;have zc:=Q1 hc cg rfl;have zr:=Q1 hg.aB rg rfl;have zn:=Q1 hN ng rfl;have a0:(0:Int)<=(a:Int):=by omega
 have a1:(a:Int)<(aE.length:Int):=by omega
 have a2:(a:Int)<(g.aB.length:Int):=by omega
 have a3:(a:Int)<(vs.length:Int):=by omega
 have b0:(0:Int)<=(b:Int):=by omega
 have b1:(b:Int)<(aE.length:Int):=by omega
 have b2:(b:Int)<(g.aB.length:Int):=by omega
 have b3:(b:Int)<(vs.length:Int):=by omega
 generalize M:I7 g aE a b=F;unfold I7 at M;have g1:aE.getD a 0=aE[a]'(by omega):=by simp[show a<aE.length by omega]
 have g2:aE.getD b 0=aE[b]'(by omega):=by simp[show b<aE.length by omega]
 have g3:g.aB.getD a 0=g.aB[a]:=by simp[ha]
 have g4:g.aB.getD b 0=g.aB[b]:=by simp[hb]
 rw[g1,g2,g3,g4,a5,a6]at M;clear g1 g2 g3 g4 a5 a6 ah hN hg ho;generalize aE[a]'(by omega)=ca at b6 M;generalize aE[b]'(by omega)=cb at b7 M;generalize g.aB[a]=ua at bb M;generalize g.aB[b]=ub at bc M;have ak:J.length=rb.length:=by omega
 have bh:J.length<=1000:=by omega
 have ay:=Hd ak;have b4:=Hd Y;have b5:=Hd Z;have az:=Hd a4;have HC:=Hd hc;have ai:=Hd U;have aj:=Hd V;clear ak am b8 a4 ao aq Y Z hc U V
 by_cases ac:ca=cb
 ·subst ac;have e1:(ca !=ca)=false:=by simp
  by_cases X:ua=ub
  ·subst X;have e2:(ua !=ua)=false:=by simp
   rw[if_neg (by simp)]at M;have HF:=Hd M;clear M;go_enter Tryz.func122,Tryz.ntmps122;go_wp2_with fail;go_quiet(fail);go_wp2_with fail
   go_loopg[45] J.length (fun G i wr=>∃k m:Nat,k<=J.length/\G=J.length-k/\i=.int .i64 k/\wr=(w.alloc (.cells #[.slice (some ⟨rg,0,none⟩) g.aB.length ax,.slice (some ⟨ng,0,none⟩) vs.length aw] 71)).drewN m/\Oe aE (J.drop k) (rb.drop k)=F)
   case atStart=>exact⟨0,_,by omega,rfl,rfl,rfl,by simpa using HF.out⟩
   case round=>
    obtain⟨k,m,hk,rfl,rfl,rfl,f⟩:=hrel;clear HF
    by_cases ab:k<J.length
    ·have e0:decide ((k:Int)<(J.length:Int))=true:=by simp;omega
     have W:k<rb.length:=by have:=ay.out;omega
     rcases a8 with h0|⟨ag,rfl⟩
     ·omega
     rcases a9 with h0|⟨bg,rfl⟩
     ·omega
     have r0:=ai.out.cell k ab;have r1:=aj.out.cell k W;have za:=Q1 ai.out ag rfl;have zb:=Q1 aj.out bg rfl;have i0:(0:Int)<=(k:Int):=by omega
     have i1:(k:Int)<(J.length:Int):=by omega
     have i2:(k:Int)<(rb.length:Int):=by omega
     rw[KB aE J rb k ab W]at f;have hx:=b4.out J[k] (zG ab);have hy:=b5.out rb[k] (zG W);generalize J[k]=x at r0 f hx;generalize rb[k]=y at r1 f hy
     by_cases B:x= -1
     ·subst B
      by_cases D:y= -1
      ·subst D;have a7:=Hd f;clear f hx hy;go_wp2_with fail
       go_roundg (J.length- (k+1))
       case measure=>omega
       case rel=>exact⟨k+1,m,by omega,rfl,by go_num,rfl,by simpa[N4]using a7.out⟩
      ·have e3:((-1:Int) !=y)=true:=by simp;omega
       have h:F=false:=by
        rw[<-f];have:N4 aE (-1) y=false:=by simp[N4];omega
        rw[this];rfl
       subst h;clear f hx hy D;go_wp2_with fail;go_ret;exact⟨rfl,C2 (N0 w _) _⟩
     ·have e3:(x== -1)=false:=by simp[B]
      by_cases D:y= -1
      ·subst D;have e4:(x != -1)=true:=by simp[B]
       have h:F=false:=by
        rw[<-f];have:N4 aE x (-1)=false:=by simp[N4,B]
        rw[this];rfl
       subst h;clear f hx hy B;go_wp2_with fail;go_ret;exact⟨rfl,C2 (N0 w _) _⟩
      ·have e4:(y== -1)=false:=by simp[D]
       have a4:=az.out;obtain⟨x,rfl⟩:∃j:Nat,x=(j:Int):=⟨x.toNat,by omega⟩;obtain⟨y,rfl⟩:∃j:Nat,y=(j:Int):=⟨y.toNat,by omega⟩;have au:x<aE.length:=by omega
       have av:y<aE.length:=by omega
       have cx:=HC.out.cell x au;have cy:=HC.out.cell y av;have x0:(0:Int)<=(x:Int):=by omega
       have x1:(x:Int)<(aE.length:Int):=by omega
       have y0:(0:Int)<=(y:Int):=by omega
       have y1:(y:Int)<(aE.length:Int):=by omega
       have ar:N4 aE x y=(aE[x]==aE[y]):=by simp[N4,au,av,B,D]
       rw[ar]at f;generalize aE[x]=px at cx f;generalize aE[y]=py at cy f;clear a4 hx hy B D ar
       by_cases hp:px=py
       ·subst hp;have e5:(px !=px)=false:=by simp
        have a7:=Hd f;clear f;go_wp2_with fail;go_quiet(fail);go_wp2_with fail
        go_roundg (J.length- (k+1))
        case measure=>omega
        case rel=>exact⟨k+1,m+nq,by omega,rfl,by go_num,by simp,by simpa using a7.out⟩
       ·have e5:(px !=py)=true:=by simp[hp]
        have h:F=false:=by rw[<-f];simp[hp]
        subst h;clear f hp;go_wp2_with fail;go_quiet(fail);go_wp2_with fail;go_ret;exact⟨rfl,by rw[World.drewN_drewN];exact C2 (N0 w _) _⟩
    ·have e0:decide ((k:Int)<(J.length:Int))=false:=by simp;omega
     rw[yY (by omega)]at f;have h:F=true:=by rw[<-f];rfl
     subst h;clear f;go_wp2_with fail;go_ret;exact⟨rfl,C2 (N0 w _) _⟩
  ·have e2:(ua !=ub)=true:=by simp[X]
   rw[if_pos (.inr X)]at M;subst M;go_enter Tryz.func122,Tryz.ntmps122;go_wp2_with fail;go_quiet(fail);go_wp2_with fail;go_ret;exact⟨rfl,C2 (N0 w _) _⟩
 ·have e1:(ca !=cb)=true:=by simp[ac]
  rw[if_pos (.inl ac)]at M;subst M;go_enter Tryz.func122,Tryz.ntmps122;go_wp2_with fail;go_quiet(fail);go_wp2_with fail;go_ret;exact⟨rfl,C2 (N0 w _) _⟩
def T3(l:List Int):Array Value:=(l.map (Value.int .i64)).toArray
def Z0(l:List Bool):Array Value:=(l.map Value.bool).toArray
theorem Z3(l:List Int)(i:Nat)(x:Int):(T3 l).setIfInBounds i (.int .i64 x)=T3 (l.set i x):=by simp[T3,List.map_set]
theorem D4(l:List Bool)(i:Nat)(x:Bool):(Z0 l).setIfInBounds i (.bool x)=Z0 (l.set i x):=by simp[Z0,List.map_set]
theorem ZM(n:Nat):madeCells #[.int .i64 0] n=T3 (List.replicate n 0):=by
 apply Array.toList_inj.1;rw[toList_madeCells_one];simp[T3]
theorem BI(n:Nat):madeCells #[.bool false] n=Z0 (List.replicate n false):=by
 apply Array.toList_inj.1;rw[toList_madeCells_one];simp[Z0]
theorem Q2.cC{w:World}{b:Nat}{l:List Int}(h:Blk w b (T3 l) 3)(f:l.length<=100000):Q2 w (.slice (some ⟨b,0,none⟩) l.length l.length) l:=
 J5 (by simp) h (zD _) (by unfold maxLen;omega) (by simp[T3]) (by simp[T3,zO])
theorem E6.cC{w:World}{b:Nat}{l:List Bool}(h:Blk w b (Z0 l) 4)(f:l.length<=100000):E6 w (.slice (some ⟨b,0,none⟩) l.length l.length) l:=
 J5 (by simp) h (zD _) (by unfold maxLen;omega) (by simp[Z0]) (by simp[Z0,zO])
theorem Aa{w:World}{b:Nat}{l:List Int}(h:Blk w b (T3 l) 3)(i:Nat)(f:i<l.length):w.cell? ⟨b,i,none⟩=some (.int .i64 l[i]):=by
 rw[h.cell];simp[T3,f]
theorem Wl{w:World}{b:Nat}{l:List Bool}(h:Blk w b (Z0 l) 4)(i:Nat)(f:i<l.length):w.cell? ⟨b,i,none⟩=some (.bool l[i]):=by
 rw[h.cell];simp[Z0,f]
theorem Tryz.cG:(Tryz.prog.info? 3).map (fun i=>(i.zero,i.size,i.bytes))=some (some (.int .i64 0),1,8):=by kernel_rfl
theorem Tryz.jV:(Tryz.prog.info? 4).map (fun i=>(i.zero,i.size,i.bytes))=some (some (.bool false),1,1):=by kernel_rfl
theorem Tryz.dP:(Tryz.prog.info? 68).map (fun i=>(i.zero,i.size,i.bytes))=some (some (.slice none 0 0),1,24):=by kernel_rfl
theorem Je(n:Nat)(f:n<=100000)(w:World):(Instr.makeSlice 68 (.int .i64 n) (.int .i64 n)).run Tryz.prog w=.ok (.slice (some ⟨w.heap.size,0,none⟩) n n) (w.alloc (.cells (T3 (List.replicate n 0)) 3)):=by
 rw[run_make_row' (P:=Tryz.prog) 68 3 (.int .i64 0) 8 Tryz.underlying68 Tryz.cG rfl .i64 .i64 n (by omega) (by omega) w,ZM]
theorem A8(n:Nat)(f:n<=100000)(w:World):(Instr.makeSlice 143 (.int .i64 n) (.int .i64 n)).run Tryz.prog w=.ok (.slice (some ⟨w.heap.size,0,none⟩) n n) (w.alloc (.cells (Z0 (List.replicate n false)) 4)):=by
 rw[run_make_row' (P:=Tryz.prog) 143 4 (.bool false) 1 Tryz.underlying143 Tryz.jV rfl .i64 .i64 n (by omega) (by omega) w,BI]
theorem Wy(g:B0)(aE:List Int)(n:Nat):∀(f k e:Nat),Rb g aE n f k=some e->e<n
 |0,k,e,h=>by simp[Rb]at h
 |f+1,k,e,h=>by
  unfold Rb at h;split at h
  ·split at h
   ·cases h;assumption
   ·exact Wy g aE n f (k+1) e h
  ·cases h
theorem X3(g:B0)(aE:List Int):∀n,(U0 g aE n).1.length=n
 |0=>rfl
 |n+1=>by unfold U0;split <;>simp[X3 g aE n]
theorem Y9(g:B0)(aE:List Int):∀n,(∀x∈(U0 g aE n).1,0<=x/\x<((U0 g aE n).2:Int))/\(U0 g aE n).2<=n
 |0=>by simp[U0]
 |n+1=>by
  have h:=Y9 g aE n;have G:=X3 g aE n;unfold U0;split
  ·rename_i e B;have D:=Wy g aE n _ _ e B;refine⟨fun x f=>?_,by simp;omega⟩;simp at f;rcases f with f|f
   ·exact h.1 x f
   ·subst f;have:(U0 g aE n).1[e]?.getD 0∈(U0 g aE n).1:=by
     rw[zF (by omega)];simp
    exact h.1 _ this
  ·refine⟨fun x f=>?_,by simp;omega⟩;simp at f⊢;rcases f with f|f
   ·have:=h.1 x f;omega
   ·omega
structure Y4(w:World)(O:Nat->Prop)(nv:Value)(aN:List (List Int)):Prop where
 ex:∃vs:List Value,Et w nv vs/\vs.length=aN.length/\(∀i v,vs[i]?=some v->Q2 w v (aN.getD i [])/\∀b,v.ownBlock=some b->O b/\nv.ownBlock≠some b)
 ob:∀b,nv.ownBlock=some b->O b
 olt:∀k,O k->k<w.heap.size
theorem Y4.kept{w w':World}{O ex:Nat->Prop}{K:Value}{G:List (List Int)}(h:Y4 w O K G)(k:C0 ex w w')(J:∀b,O b->¬ex b):Y4 w' O K G:=by
 obtain⟨V,M,U,B⟩:=h.ex;exact⟨⟨V,M.kept k (fun b f=>J b (h.ob b f)),U,fun i v D=>⟨(B i v D).1.kept k (fun b f=>J b ((B i v D).2 b f).1),(B i v D).2⟩⟩,h.ob,fun b f=>yG (h.olt b f) k.size⟩
theorem Y4.aA{w w':World}{O:Nat->Prop}{B:Value}{f:List (List Int)}(h:Y4 w O B f)(k:Bw w w'):Y4 w' O B f:=h.kept (ex:=fun _=>False) (C0.aM k) (fun _ _ e=>e)
theorem Y4.setCell{w:World}{O:Nat->Prop}{B:Value}{f:List (List Int)}(h:Y4 w O B f){a:Addr}(D:¬O a.block)(v:Value):Y4 (w.setCell a v) O B f:=
 h.kept (ex:=fun k=>k=a.block) (C0.setCell (ex:=fun k=>k=a.block) (C0.refl _ _) (fun _=>rfl) _) (fun b G e=>D (e ▸ G))
theorem Y4.alloc{w:World}{O:Nat->Prop}{B:Value}{f:List (List Int)}(h:Y4 w O B f)(o:Obj):Y4 (w.alloc o) O B f:=h.aA (N0 _ _)
theorem Y4.drew{w:World}{O:Nat->Prop}{B:Value}{f:List (List Int)}(h:Y4 w O B f):Y4 w.drew O B f:=h.kept (ex:=fun _=>False) (C0.refl _ _).drew (fun _ _ e=>e)
theorem Y4.nil(w:World):Y4 w (fun _=>False) (.slice none 0 0) []:=
 ⟨⟨[],World.ownsRow_nil _ _ _ _,rfl,fun i v h=>by simp at h⟩,fun b h=>by simp[Value.ownBlock]at h,fun k h=>h.elim⟩
theorem Y4.push{w w':World}{O:Nat->Prop}{K:Value}{J:List (List Int)}{f:List Value}(h:Y4 w O K J)(hN:Et w K f)(X:f.length=J.length)
  (a3:∀i v,f[i]?=some v->Q2 w v (J.getD i [])/\∀b,v.ownBlock=some b->O b/\K.ownBlock≠some b) {b g M n:Nat} {D:List Int}
  (hr:Q2 w (.slice (some ⟨b,0,none⟩) n n) D) (hb:¬O b) (V:w'.ownsRow 0 68 1 (.slice (some ⟨g,0,none⟩) (f.length+1) M) (f.length+1) (f++ [.slice (some ⟨b,0,none⟩) n n]))
  (G:w.grownBy w' K.ownBlock) (U:K.ownBlock=some g\/g=w.heap.size) (a5:g<w'.heap.size):
  Y4 w' (fun k=>O k\/k=g\/k=b) (.slice (some ⟨g,0,none⟩) (f.length+1) M) (J++ [D])/\C0 O w w':=by
 have hk:C0 O w w':=⟨G.os,G.tape,G.output,G.size,fun k hk he=>G.block k hk (fun e=>he (h.ob k e.symm))⟩;have a4:b<w.heap.size:=Q1 hr b rfl;have a2:K.ownBlock≠some b:=fun e=>hb (h.ob b e)
 have a0:g≠b:=by
  intro e;subst e;rcases U with e|e
  ·exact hb (h.ob _ e)
  ·omega
 refine⟨⟨⟨f++ [.slice (some ⟨b,0,none⟩) n n],?_,by simp[X],?_⟩,?_,?_⟩,hk⟩
 ·show World.ownsRow _ 0 68 1 _ (f++ [_]).length _;rw[zL];exact V
 ·intro i v W
  by_cases hi:i<f.length
  ·rw[zR hi]at W;obtain⟨q1,Z⟩:=a3 i v W;have e1:(J++ [D]).getD i []=J.getD i []:=by simp[zR (show i<J.length by omega)]
   rw[e1];refine⟨World.ownsRow.kept q1 G (by
    cases e:v.ownBlock with
    |none=>exact .inl rfl
    |some k=>exact .inr (fun Y=>(Z k e).2 Y.symm)),fun k B=>⟨.inl (Z k B).1,fun e=>?_⟩⟩
   cases(zE e:g=k);rcases U with Y|Y
   ·exact(Z _ B).2 Y
   ·have:=h.olt _ (Z _ B).1;omega
  ·have a1:i=f.length:=by
    have:=(List.getElem?_eq_some_iff.1 W).1;simp at this;omega
   subst a1;rw[zY (zD _),yS]at W;cases W;have e1:(J++ [D]).getD f.length []=D:=by simp[X]
   rw[e1];refine⟨World.ownsRow.kept hr G (.inr (fun e=>a2 e.symm)),fun k B=>?_⟩;cases(zE B:b=k);exact⟨.inr (.inr rfl),fun e=>a0 (zE e)⟩
 ·intro k e;cases(zE e:g=k);exact .inr (.inl rfl)
 ·intro k e;rcases e with e|e|e
  ·exact yG (h.olt k e) G.size
  ·omega
  ·have:=G.size;omega
theorem Y4.gB{w:World}{O:Nat->Prop}{B f:Value}{g:B0}(h:Y4 w O f g.next)(K:Q2 w B g.aB):Y6 w B f g:=by
 obtain⟨U,D,G,J⟩:=h.ex;exact⟨K,U,D,G,fun i v M=>(J i v M).1⟩
theorem Tryz.hY:(Tryz.prog.info? 71).map (·.size)=some 2:=by kernel_rfl
theorem Xr{B:Func}{p:Tmp}(h:B.results=#[.cell p 71]){c:Array Value}(f:Array Value){w:World}{g:Nat}(D:c.size=2)
  (J:f.getD p undef=.pointer (some ⟨g,0,none⟩)) (G:Blk w g c 71):(results B f).run Tryz.prog w=.ok (.agg c) w:=
 results_cell_row h f w g 71 _ (0,0) _ J G Tryz.underlying71 rfl (by rw[D];exact Tryz.hY)
def Tt(l:List Int):Nat:=(l.filter (fun x=>x== -1)).length
theorem Lj:∀(l:List Int) (k:Nat) (x:Int),k<l.length->l.getD k 0= -1->x≠ -1->Tt (l.set k x)+1=Tt l
 |b::r,0,x,_,h,hx=>by
  simp at h;subst h;simp[Tt,hx]
 |b::r,k+1,x,hk,h,hx=>by
  have f:=Lj r k x (by simpa using hk) (by simpa using h) hx;unfold Tt at f⊢
  by_cases e:b= -1 <;>simp[e]at f⊢ <;>omega
def Y2(aE:List Int)(st:List Int×List Int)(f:Int):List Int×List Int:=
 if f != -1 && st.2.getD (aE.getD f.toNat 0).toNat 0== -1 then(st.1++ [f],st.2.set (aE.getD f.toNat 0).toNat (st.1.length:Int))else st
theorem Th(aE:List Int):∀(f:List Int) (st:List Int×List Int),L3 aE f st=f.foldl (Y2 aE) st
 | [],st=>rfl
 |to::r,st=>by simp only[L3,List.foldl_cons];exact Th aE r _
theorem SB(aE f:List Int)(k:Nat)(h:k<f.length)(st:List Int×List Int):L3 aE (f.take (k+1)) st=Y2 aE (L3 aE (f.take k) st) f[k]:=by
 rw[Th,Th,yO h,List.foldl_append];rfl
theorem Ws(aE:List Int):∀(f:List Int) (st:List Int×List Int),st.1.length<=(L3 aE f st).1.length
 | [],st=>zD _
 |to::r,st=>by
  have B:=Ws aE r (Y2 aE st to);have h:st.1.length<=(Y2 aE st to).1.length:=by unfold Y2;split <;>simp
  show st.1.length<=(L3 aE r (Y2 aE st to)).1.length;omega
structure VOk(N:Nat)(st:List Int×List Int):Prop where
 sum:st.1.length+Tt st.2=N
 len:st.2.length=N
 ok:∀x∈st.1,0<=x/\x<(N:Int)
theorem Ys{N:Nat}{aE:List Int}(W:aE.length=N)(V:∀x∈aE,0<=x/\x<(N:Int)){st:List Int×List Int}(h:VOk N st){f:Int}(X:f= -1\/(0<=f/\f<(N:Int))):VOk N (Y2 aE st f):=by
 unfold Y2;split
 ·rename_i B;simp at B;obtain⟨M,U⟩:=B;have J:0<=f/\f<(N:Int):=by rcases X with e|e;exact absurd e M;exact e
  have D:aE.getD f.toNat 0∈aE:=by simp[show f.toNat<aE.length by omega]
  have Y:=V _ D;have K:=Lj st.2 (aE.getD f.toNat 0).toNat (st.1.length:Int) (by rw[h.len];omega) (by simpa using U) (by omega);refine⟨?_,by simp[h.len],?_⟩
  ·have:=h.sum;simp only[zL,yH,List.length_nil];omega
  ·intro x G;simp at G;rcases G with e|e
   ·exact h.ok x e
   ·subst e;exact J
 ·exact h
theorem Gn{N:Nat}{aE:List Int}(f:aE.length=N)(D:∀x∈aE,0<=x/\x<(N:Int)):∀(B:List Int) (st:List Int×List Int),VOk N st->Al N B->VOk N (L3 aE B st)
 | [],st,h,_=>h
 |to::r,st,h,hr=>by
  show VOk N (L3 aE r (Y2 aE st to));exact Gn f D r _ (Ys f D h (hr to (by simp))) (fun x G=>hr x (by simp[G]))
theorem Nt{w w':World}{v:Value}{l:List Int}{x:Int}{g f:Nat}(h:w'.ownsRow 0 3 1 (.slice (some ⟨g,0,none⟩) (l.length+1) f) (l.length+1) (l.map (Value.int .i64)++ [.int .i64 x])):
  Q2 w' (.slice (some ⟨g,0,none⟩) (l.length+1) f) (l++ [x]):=by
 unfold Q2;rw[zL,zV];exact h
theorem CV(rv nv cv:Value)(g:B0)(K:Nat)(aE:List Int)(w:World)(hg:Y6 w rv nv g)(ho:GOk g K)(hc:Q2 w cv aE)(W:aE.length=g.aB.length)(a6:∀x∈aE,0<=x/\x<(g.aB.length:Int))(bm:0<g.aB.length)(hn:g.aB.length<=1000)(hK:K<=1000):
  Calls Tryz.prog 95 #[.agg #[rv,nv],cv] w fun e w'=>∃fv mv,e=.returned (.tuple #[fv,mv])/\Q2 w' fv (A2 g aE).1/\Q2 w' mv (A2 g aE).2/\VOk g.aB.length (A2 g aE)/\Bw w w':=by
 obtain⟨vs,hN,ai,bp⟩:=hg.next;have b3:=hg.aB;obtain⟨rd,J,rfl,c6⟩:=hg.aB.aV;obtain⟨nd,B,rfl,b2⟩:=hN.aV;obtain⟨cd,cb,rfl,ax⟩:=hc.aV;rcases ax with h0|⟨cg,rfl⟩
 ·omega
 have ab:=ho.len;rcases b2 with h0|⟨ng,rfl⟩
 ·omega
 have av:=hc.cell 0 (by omega);have bg:=a6 aE[0] (zG _);have ao:aE.getD 0 0=aE[0]'(by omega):=by simp[show 0<aE.length by omega]
 generalize hF:A2 g aE=F;unfold A2 at hF;rw[ao]at hF;have zc:=Q1 hc cg rfl;obtain⟨c0,am⟩:∃j:Nat,aE[0]'(by omega)=(j:Int):=⟨(aE[0]'(by omega)).toNat,by omega⟩;rw[am]at av hF bg;have ad:c0<aE.length:=by omega
 have bx:=Hd bp;have HN:=Hd hN;have HO:=Hd ho;have HC:=Hd hc;have ar:=Hd a6;have au:=Hd W;have bw:=Hd ai;have b7:=Hd ab;have ce:aE.length<=1000:=by omega
 have co:0<aE.length:=by omega
 have HF:=Hd hF;rw[<-W];clear bp hN b3 ho hg ab ai hc a6 W hF bg am ao bm;have cn:=Je aE.length (by omega);go_enter Tryz.func95,Tryz.ntmps95;go_wp2_with fail
 go_loopg[17] aE.length (fun G i wr=>∃n:Nat,n<=aE.length/\G=aE.length-n/\i=.int .i64 n/\Bw w wr/\wr.heap.size=w.heap.size+2/\
  Blk wr w.heap.size #[.slice rd aE.length J,.slice (some ⟨ng,0,none⟩) vs.length B] 71/\Blk wr (w.heap.size+1) (T3 (List.replicate n (-1)++List.replicate (aE.length-n) 0)) 3)
 case atStart=>
  refine⟨0,by omega,rfl,rfl,F6 _ _ _,by simp,(Blk.aR w _ _).alloc _,?_⟩;rw[List.replicate_zero,yU,Nat.sub_zero];exact Blk.dX w _ _ _
 case round=>
  obtain⟨n,c5,rfl,rfl,hb,ag,hG,X⟩:=hrel
  by_cases a7:n<aE.length
  ·have e0:decide ((n:Int)<(aE.length:Int))=true:=by simp;omega
   have c4:(List.replicate n (-1:Int)++List.replicate (aE.length-n) 0).length=aE.length:=by simp;omega
   have m0:=Aa X n (by omega);generalize(List.replicate n (-1:Int)++List.replicate (aE.length-n) 0)[n]'(by omega)=old at m0;have bq:=X.frozen n;have i0:(0:Int)<=(n:Int):=by omega
   have i1:(n:Int)<(aE.length:Int):=by omega
   have HH:Hid (Bw w wr/\wr.heap.size=w.heap.size+2/\Blk wr w.heap.size #[.slice rd aE.length J,.slice (some ⟨ng,0,none⟩) vs.length B] 71/\Blk wr (w.heap.size+1) (T3 (List.replicate n (-1)++List.replicate (aE.length-n) 0)) 3):=⟨hb,ag,hG,X⟩;clear hb ag hG X c4 HF;go_wp2_with fail
   go_roundg (aE.length- (n+1))
   case measure=>omega
   case rel=>
    obtain⟨q1,q2,q3,q4⟩:=HH.out;refine⟨n+1,by omega,rfl,by go_num,q1.setCell (by simp) _,by simp[q2],q3.aG (by simp) _,?_⟩;have q5:=q4.set n (.int .i64 (-1));rw[Z3]at q5;have e1:(List.replicate n (-1:Int)++List.replicate (aE.length-n) 0).set n (-1)=List.replicate (n+1) (-1)++List.replicate (aE.length- (n+1)) 0:=by
     rw[List.set_append_right _ _ (by simp),yD,yS,show aE.length-n=(aE.length- (n+1))+1 by omega,List.replicate_succ,List.set_cons_zero,List.replicate_succ',yF];rfl
    rw[e1]at q5;exact q5
  ·have e0:decide ((n:Int)<(aE.length:Int))=false:=by simp;omega
   obtain rfl:n=aE.length:=by omega
   rw[yS,List.replicate_zero,yP]at X;have bz:wr.cell? ⟨cg,0,none⟩=some (.int .i64 c0):=by rw[hb.cell (p:=⟨cg,0,none⟩) zc];exact av
   have m0:=Aa X c0 (by simpa using ad);simp only[List.getElem_replicate]at m0;have bq:=X.frozen c0;have i0:(0:Int)<=(c0:Int):=by omega
   have i1:(c0:Int)<(aE.length:Int):=by omega
   have b6:Hid (Bw w wr/\Blk wr w.heap.size #[.slice rd aE.length J,.slice (some ⟨ng,0,none⟩) vs.length B] 71/\Blk wr (w.heap.size+1) (T3 (List.replicate aE.length (-1))) 3/\wr.heap.size=w.heap.size+2):=⟨hb,hG,X,ag⟩;clear hb hG X c5 a7 ag;obtain⟨wo,rfl⟩:∃wo:World,wo=wr:=⟨_,rfl⟩;go_wp2_with fail
   go_loopg[8,9] (aE.length+1) (fun G c i wr=>∃(k:Nat) (st:List Int×List Int) (fg U:Nat),c=.slice (some ⟨fg,0,none⟩) st.1.length U/\i=.int .i64 k/\k<=st.1.length/\aE.length+1<=G+k/\VOk aE.length st/\V5 g aE G k st=F/\
    Q2 wr (.slice (some ⟨fg,0,none⟩) st.1.length U) st.1/\w.heap.size+1<fg/\Bw w wr/\Blk wr w.heap.size #[.slice rd aE.length J,.slice (some ⟨ng,0,none⟩) vs.length B] 71/\Blk wr (w.heap.size+1) (T3 st.2) 3)
   case atStart=>
    obtain⟨q1,q2,q3,q4⟩:=b6.out;have q5:=q3.set c0 (.int .i64 0);rw[Z3]at q5;refine⟨0,([0],(List.replicate aE.length (-1:Int)).set c0 0),wo.heap.size,1,rfl,rfl,by simp,by omega,?_,by simpa using HF.out,?_,by omega,(q1.setCell (by simp) _).alloc (by simp;omega) _,(q2.aG (by simp) _).alloc _,q5.alloc _⟩
    ·have hs:=Lj (List.replicate aE.length (-1:Int)) c0 0 (by simpa using ad) (by simp[ad]) (by decide);have hr:Tt (List.replicate aE.length (-1:Int))=aE.length:=by simp[Tt]
     refine⟨by simp only[yH,List.length_nil];omega,by simp,fun x hx=>?_⟩;simp at hx;subst hx;omega
    ·have:=Q2.cC (l:=[0]) (Blk.aR (wo.setCell ⟨w.heap.size+1,c0,none⟩ (.int .i64 0)) #[.int .i64 0] 3) (by simp);simpa using this
   case round=>
    obtain⟨k,st,fg,U,rfl,rfl,hk,cm,hv,V,X,c2,hb,hG,hM⟩:=hrel;clear b6 HF av bz m0 bq;have a2:=hv.sum
    by_cases a7:k<st.1.length
    ·have e1:decide ((k:Int)<(st.1.length:Int))=true:=by simp;omega
     have bi:gk=(gk-1)+1:=by omega
     rw[bi]at V;unfold V5 at V;rw[if_pos a7]at V;have bh:st.1.getD k 0=st.1[k]:=by simp[a7]
     rw[bh]at V;have hx:=hv.ok st.1[k] (zG a7);have f0:=X.cell k a7;generalize st.1[k]=x at V hx f0;obtain⟨x,rfl⟩:∃j:Nat,x=(j:Int):=⟨x.toNat,by omega⟩;rw[zH]at V;have ai:=bw.out;have ab:=b7.out;have W:=au.out;have c7:x<vs.length:=by omega
     have n0:=(HN.out.aA hb).cell x c7;have a5:=bx.out x vs[x] (zF _);have bj:=HO.out.row x (by omega);generalize vs[x]=vx at n0 a5;generalize g.next.getD x []=h at a5 bj V;obtain⟨ed,cc,rfl,ay⟩:=a5.aV;have g1:wr.cell? ⟨w.heap.size,1,none⟩=some (.slice (some ⟨ng,0,none⟩) vs.length B):=hG.cell 1;have i2:(0:Int)<=(k:Int):=by omega
     have i3:(k:Int)<(st.1.length:Int):=by omega
     have i4:(0:Int)<=(x:Int):=by omega
     have i5:(x:Int)<(vs.length:Int):=by omega
     have cp:h.length<=1000:=by omega
     have ch:st.1.length<=aE.length:=by omega
     obtain⟨bk,ac⟩:=bj;rw[<-W]at ac;have bo:=Gn rfl (by rw[W];exact ar.out) h st hv ac;have bc:=Hd bo;have bu:=Hd V;have b8:=Hd ac;have ba:=Hd a5;have HV:=Hd hv;have HH:Hid (Q2 wr (.slice (some ⟨fg,0,none⟩) st.1.length U) st.1/\Bw w wr/\Blk wr w.heap.size #[.slice rd aE.length J,.slice (some ⟨ng,0,none⟩) vs.length B] 71/\Blk wr (w.heap.size+1) (T3 st.2) 3):=⟨X,hb,hG,hM⟩;clear bi bh hx ai ab W bk ac a5 V X hb hG hM hv a2 bo;obtain⟨w3,rfl⟩:∃wo:World,wo=wr:=⟨_,rfl⟩;go_wp2_with fail;go_quiet(fail);go_wp2_with fail
     go_loopg[8,45] h.length (fun G c i wr=>∃(j fg U:Nat),j<=h.length/\G=h.length-j/\i=.int .i64 j/\c=.slice (some ⟨fg,0,none⟩) (L3 aE (h.take j) st).1.length U/\
      Q2 wr (.slice (some ⟨fg,0,none⟩) (L3 aE (h.take j) st).1.length U) (L3 aE (h.take j) st).1/\w.heap.size+1<fg/\Bw w wr/\Blk wr w.heap.size #[.slice rd aE.length J,.slice (some ⟨ng,0,none⟩) vs.length B] 71/\Blk wr (w.heap.size+1) (T3 (L3 aE (h.take j) st).2) 3)
     case atStart=>
      obtain⟨q1,q2,q3,q4⟩:=HH.out;refine⟨0,fg,U,by omega,rfl,rfl,rfl,?_,c2,C2 q2 _,q3.drewN _,q4.drewN _⟩;exact q1.aA (C2 (Below.refl _ _) _)
     case round=>
      obtain⟨j,a1,D,hj,rfl,rfl,rfl,X,aa,hb,hG,hM⟩:=hrel;have W:=au.out;have a9:=Gn (N:=aE.length) rfl (by rw[W];exact ar.out) (h.take j) st HV.out (fun y hy=>b8.out y (List.mem_of_mem_take hy));clear HH W n0 f0 g1
      by_cases b1:j<h.length
      ·have e2:decide ((j:Int)<(h.length:Int))=true:=by simp;omega
       have f:=SB aE h j b1 st;rcases ay with h0|⟨eg,rfl⟩
       ·omega
       have r0:=(ba.out.aA hb).cell j b1;have ah:=b8.out h[j] (zG b1);generalize h[j]=to at r0 ah f;generalize L3 aE (h.take j) st=sj at X hM a9 f;have a2:=a9.sum;have a8:=a9.len;have cq:sj.1.length<=1000:=by omega
       have j0:(0:Int)<=(j:Int):=by omega
       have j1:(j:Int)<(h.length:Int):=by omega
       by_cases ae:to= -1
       ·subst ae;have bn:Y2 aE sj (-1)=sj:=by simp[Y2]
        rw[bn]at f;have Y:=Hd f;have a0:Hid (Q2 wr (.slice (some ⟨a1,0,none⟩) sj.1.length D) sj.1/\Bw w wr/\Blk wr w.heap.size #[.slice rd aE.length J,.slice (some ⟨ng,0,none⟩) vs.length B] 71/\Blk wr (w.heap.size+1) (T3 sj.2) 3):=⟨X,hb,hG,hM⟩;clear bn f X hb hG hM ah a2 a8 a9;go_wp2_with fail
        go_roundg (h.length- (j+1))
        case measure=>omega
        case rel=>
         obtain⟨q1,q2,q3,q4⟩:=a0.out;exact⟨j+1,a1,D,by omega,rfl,by go_num,by rw[Y.out],by rw[Y.out];exact q1,aa,q2,q3,by rw[Y.out];exact q4⟩
       ·have e3:(to != -1)=true:=by simp[ae]
        obtain⟨t,rfl⟩:∃i:Nat,to=(i:Int):=⟨to.toNat,by omega⟩;have b4:t<aE.length:=by omega
        have ct:=(HC.out.aA hb).cell t b4;have a6:=ar.out aE[t] (zG b4);have W:=au.out;have b0:aE.getD t 0=aE[t]:=by simp[b4]
        unfold Y2 at f;rw[zH,b0]at f;generalize aE[t]=Z at ct a6 f;obtain⟨Z,rfl⟩:∃i:Nat,Z=(i:Int):=⟨Z.toNat,by omega⟩;rw[zH]at f;have an:Z<sj.2.length:=by omega
        have mc:=Aa hM Z an;have az:sj.2.getD Z 0=sj.2[Z]:=by simp[an]
        rw[az]at f;generalize ap:sj.2[Z]=old at mc f;have mf:=hM.frozen Z;have t0:(0:Int)<=(t:Int):=by omega
        have t1:(t:Int)<(aE.length:Int):=by omega
        have ck:(0:Int)<=(Z:Int):=by omega
        have cl:(Z:Int)<(aE.length:Int):=by omega
        have zM:=hM.lt
        by_cases a3:old= -1
        ·subst a3;rw[if_pos (by simp[ae])]at f;have Y:=Hd f;obtain⟨ii,hi,c8,c9,ca⟩:=info_parts Tryz.cG;have be:Q2 (wr.setCell ⟨w.heap.size+1,Z,none⟩ (.int .i64 (sj.1.length:Int))) (.slice (some ⟨a1,0,none⟩) sj.1.length D) sj.1:=U2 X (by simp[Value.ownBlock];omega) _;have aw:=hM.set Z (.int .i64 (sj.1.length:Int));rw[Z3]at aw;have bd:=hG.aG (p:=⟨w.heap.size+1,Z,none⟩) (by simp) (.int .i64 (sj.1.length:Int));have bf:=hb.setCell (p:=⟨w.heap.size+1,Z,none⟩) (by simp) (.int .i64 (sj.1.length:Int));have bl:=be.aA (N0 _ (.cells #[.int .i64 t] 3));have b9:=Hd bl;have a0:Hid (Bw w (wr.setCell ⟨w.heap.size+1,Z,none⟩ (.int .i64 (sj.1.length:Int)))/\Blk (wr.setCell ⟨w.heap.size+1,Z,none⟩ (.int .i64 (sj.1.length:Int))) w.heap.size #[.slice rd aE.length J,.slice (some ⟨ng,0,none⟩) vs.length B] 71/\Blk (wr.setCell ⟨w.heap.size+1,Z,none⟩ (.int .i64 (sj.1.length:Int))) (w.heap.size+1) (T3 (sj.2.set Z (sj.1.length:Int))) 3):=⟨bf,bd,aw⟩;clear f X hb hG hM ah a2 a8 a9 be aw bd bf bl az ap b0 a6 W ae;go_wp2_with(at_builtin;(refine wpList_append_lies _ (by rfl) _ _ _ (by rfl) 0 3 ii _ 1 8 Tryz.underlying68 hi c8 c9 ca rfl (by omega) (.slice (some ⟨a1,0,none⟩) sj.1.length D) sj.1.length (sj.1.map (Value.int .i64)) (by rfl) b9.out ⟨wr.heap.size,0,none⟩ 1 1 [.int .i64 t] (by rfl) (by rfl) (World.news_of_block (cs:=#[.int .i64 t]) (t:=3) (fr:=(0,0)) (by have:=heap_alloc_new (wr.setCell ⟨w.heap.size+1,Z,none⟩ (.int .i64 (sj.1.length:Int))) (.cells #[.int .i64 t] 3);simpa using this)) (by simp[Value.oneCell']) (by omega) (by unfold maxLen;omega) (by omega) (by simp) (wr.heap.size+1) (by simp) ?_));intro gg aj w6 af M ak cf;obtain⟨q1,q2,q3⟩:=a0.out;have a4:C0 (fun k=>k=a1) ((wr.setCell ⟨w.heap.size+1,Z,none⟩ (.int .i64 (sj.1.length:Int))).alloc (.cells #[.int .i64 t] 3)) w6:=⟨M.os,M.tape,M.output,M.size,fun k hk he=>M.block k hk (fun e=>he (zE e))⟩;have bs:=(q2.alloc (.cells #[.int .i64 t] 3)).kept a4 (by omega);have bt:=(q3.alloc (.cells #[.int .i64 t] 3)).kept a4 (by omega);have br:Bw w w6:=(q1.alloc (by simp;omega) _).trans ⟨a4.os,a4.tape,a4.output,a4.size,fun k hk=>a4.block k (by simp;omega) (by omega)⟩;have c3:w.heap.size+1<gg:=by
          rcases ak with e|e
          ·cases(zE e:a1=gg);exact aa
          ·omega
         have bv:Hid (Q2 w6 (.slice (some ⟨gg,0,none⟩) (sj.1.length+1) aj) (sj.1++ [(t:Int)])/\Bw w w6/\Blk w6 w.heap.size #[.slice rd aE.length J,.slice (some ⟨ng,0,none⟩) vs.length B] 71/\Blk w6 (w.heap.size+1) (T3 (sj.2.set Z (sj.1.length:Int))) 3):=⟨Nt (w:=w6) (v:=.slice none 0 0) af,br,bs,bt⟩;clear af M ak a4 q1 q2 q3 br bs bt a0 b9 mc mf;go_wp2_with fail
         go_roundg (h.length- (j+1))
         case measure=>omega
         case rel=>
          obtain⟨q1,q2,q3,q4⟩:=bv.out;refine⟨j+1,gg,aj,by omega,rfl,by go_num,?_,?_,c3,q2,q3,?_⟩
          ·rw[Y.out];simp
          ·rw[Y.out];simpa using q1
          ·rw[Y.out];exact q4
        ·have e4:(old== -1)=false:=by simp[a3]
         rw[if_neg (by simp[a3])]at f;have Y:=Hd f;have a0:Hid (Q2 wr (.slice (some ⟨a1,0,none⟩) sj.1.length D) sj.1/\Bw w wr/\Blk wr w.heap.size #[.slice rd aE.length J,.slice (some ⟨ng,0,none⟩) vs.length B] 71/\Blk wr (w.heap.size+1) (T3 sj.2) 3):=⟨X,hb,hG,hM⟩;clear f X hb hG hM ah a2 a8 a9 az ap a3 b0 a6 W ae;go_wp2_with fail
         go_roundg (h.length- (j+1))
         case measure=>omega
         case rel=>
          obtain⟨q1,q2,q3,q4⟩:=a0.out;exact⟨j+1,a1,D,by omega,rfl,by go_num,by rw[Y.out],by rw[Y.out];exact q1,aa,q2,q3,by rw[Y.out];exact q4⟩
      ·have e2:decide ((j:Int)<(h.length:Int))=false:=by simp;omega
       rw[zO (by omega)]at X hM⊢;have aq:=bc.out.sum;have a0:Hid (Q2 wr (.slice (some ⟨a1,0,none⟩) (L3 aE h st).1.length D) (L3 aE h st).1/\Bw w wr/\Blk wr w.heap.size #[.slice rd aE.length J,.slice (some ⟨ng,0,none⟩) vs.length B] 71/\Blk wr (w.heap.size+1) (T3 (L3 aE h st).2) 3):=⟨X,hb,hG,hM⟩;have bb:=Hd aq;clear X hb hG hM a9 aq;go_wp2_with fail
       go_roundg (gk-1)
       case measure=>omega
       case rel=>
        obtain⟨q1,q2,q3,q4⟩:=a0.out;have cj:=bb.out;refine⟨k+1,L3 aE h st,a1,D,rfl,by go_num,?_,by omega,bc.out,bu.out,q1,aa,q2,q3,q4⟩;have:=Ws aE h st;omega
    ·have e1:decide ((k:Int)<(st.1.length:Int))=false:=by simp;omega
     have c1:F=st:=by
      rw[show gk=(gk-1)+1 by omega]at V;unfold V5 at V;rw[if_neg a7]at V;exact V.symm
     subst c1;have b5:=hv.len;have a0:Hid (Q2 wr (.slice (some ⟨fg,0,none⟩) F.1.length U) F.1/\Bw w wr/\Blk wr (w.heap.size+1) (T3 F.2) 3/\VOk aE.length F):=⟨X,hb,hM,hv⟩;clear X hb hM hv hG V b5 a2;go_wp2_with fail
     go_ret2
     obtain⟨q1,q2,q3,q4⟩:=a0.out;have q5:=Q2.cC q3 (by rw[q4.len];omega);rw[q4.len]at q5;exact⟨_,_,rfl,q1,q5,q4,q2⟩
def De(g:B0)(aE:List Int)(N n:Nat):List Int:=(U0 g aE n).1++List.replicate (N-n) 0
theorem AS(g:B0)(aE:List Int)(N n:Nat)(h:n<=N):(De g aE N n).length=N:=by simp[De,X3];omega
theorem ZR(g:B0)(aE:List Int)(N n e:Nat)(f:e<n):(De g aE N n).getD e 0=(U0 g aE n).1.getD e 0:=by
 simp[De,zR (show e<(U0 g aE n).1.length by rw[X3];exact f)]
theorem Ay(g:B0)(aE:List Int)(N n:Nat)(x:Int)(h:n<N)(B:(U0 g aE (n+1)).1=(U0 g aE n).1++ [x]):De g aE N (n+1)=(De g aE N n).set n x:=by
 unfold De;have f:=X3 g aE n;rw[B,List.set_append_right _ _ (by omega),f,yS,show N-n=(N- (n+1))+1 by omega,List.replicate_succ,List.set_cons_zero,yF];rfl
theorem MO(rv nv cv:Value)(g:B0)(K:Nat)(aE:List Int)(w:World)(hg:Y6 w rv nv g)(ho:GOk g K)(hc:Q2 w cv aE)(a4:aE.length=g.aB.length)(hn:g.aB.length<=1000)(hK:K<=1000):
  Calls Tryz.prog 94 #[.agg #[rv,nv],cv] w fun e w'=>∃fb,e=.returned (.tuple #[.slice (some ⟨fb,0,none⟩) g.aB.length g.aB.length,.int .i64 ((U0 g aE g.aB.length).2:Int)])/\
   Q2 w' (.slice (some ⟨fb,0,none⟩) g.aB.length g.aB.length) (U0 g aE g.aB.length).1/\Bw w w':=by
 have hT:=fun(W:World) (hb:Bw w W) (a b:Nat) (ha:a<g.aB.length) (ak:b<g.aB.length)=>DH rv nv cv g K aE a b W (hg.aA hb) ho (hc.aA hb) a4 ha ak hn hK
 obtain⟨vs,hN,ap,aq⟩:=hg.next;obtain⟨cd,ar,rfl,_⟩:=hc.aV;obtain⟨rd,D,rfl,_⟩:=hg.aB.aV;obtain⟨nd,B,rfl,_⟩:=hN.aV;rw[<-a4]at hT⊢;have HT:=Hd hT;have av:=Hd a4;have au:aE.length<=1000:=by omega
 clear hT hg ho hc hN ap aq a4;have b0:=Je aE.length (by omega);go_enter Tryz.func94,Tryz.ntmps94;go_wp2_with fail
 go_loopg[7,15] aE.length (fun G c i wr=>∃n:Nat,n<=aE.length/\G=aE.length-n/\i=.int .i64 n/\c=.int .i64 ((U0 g aE n).2:Int)/\Bw w wr/\
  Blk wr w.heap.size #[.slice rd aE.length D,.slice nd vs.length B] 71/\Blk wr (w.heap.size+1) (T3 (De g aE aE.length n)) 3)
 case atStart=>
  refine⟨0,by omega,rfl,rfl,rfl,F6 _ _ _,(Blk.aR w _ _).alloc _,?_⟩;have e0:De g aE aE.length 0=List.replicate aE.length 0:=by simp[De,U0]
  rw[e0];exact Blk.dX w _ _ _
 case round=>
  obtain⟨n,b1,rfl,rfl,rfl,hb,hG,hI⟩:=hrel
  by_cases ai:n<aE.length
  ·have e0:decide ((n:Int)<(aE.length:Int))=true:=by simp;omega
   have a8:=AS g aE aE.length n (by omega);have c0:=Aa hI n (by omega);have f0:=hI.frozen n;have i0:(0:Int)<=(n:Int):=by omega
   have i1:(n:Int)<(aE.length:Int):=by omega
   have an:=(Y9 g aE n).2;have am:(U0 g aE n).2<=1000:=by omega
   generalize(De g aE aE.length n)[n]'(by omega)=old at c0;have HI:=Hd hI;have HB:=Hd hb;have HG:=Hd hG;have a6:=Hd a8;generalize a7:(U0 g aE n).2=h at an am⊢;have Z:=Hd a7;have HM:Hid (∃M,Rb g aE n (n+1) 0=M):=⟨_,rfl⟩;obtain⟨M,hM⟩:=HM.out;have ab:=Hd hM;clear hI hb hG a8 a7 hM HM;obtain⟨wo,rfl⟩:∃wo:World,wo=wr:=⟨_,rfl⟩;go_wp2_with fail
   go_loopg[9] (n+1) (fun G i wi=>∃k:Nat,k<=n/\G=n+1-k/\i=.int .i64 k/\Bw w wi/\
    Blk wi w.heap.size #[.slice rd aE.length D,.slice nd vs.length B] 71/\Blk wi (w.heap.size+1) (T3 ((De g aE aE.length n).set n (h:Int))) 3/\Rb g aE n (n+1-k) k=M)
   case atStart=>
    refine⟨0,by omega,rfl,rfl,HB.out.setCell (by simp) _,HG.out.aG (by simp) _,?_,ab.out⟩;rw[<-Z3];exact HI.out.set n _
   case round=>
    obtain⟨k,hk,rfl,rfl,X,U,J,f⟩:=hrel;clear HB HG HI c0 f0;have b2:=J.lt;have g0:wr.cell? ⟨w.heap.size,0,none⟩=some (.slice rd aE.length D):=U.cell 0;have g1:wr.cell? ⟨w.heap.size,1,none⟩=some (.slice nd vs.length B):=U.cell 1;have a5:((De g aE aE.length n).set n (h:Int)).length=aE.length:=by rw[xF];exact a6.out
    have cn:wr.cell? ⟨w.heap.size+1,n,none⟩=some (.int .i64 h):=by
     rw[Aa J n (by omega)];simp
    have fn:=J.frozen n;have HH:Hid (Bw w wr/\Blk wr w.heap.size #[.slice rd aE.length D,.slice nd vs.length B] 71/\Blk wr (w.heap.size+1) (T3 ((De g aE aE.length n).set n (h:Int))) 3/\Rb g aE n (n+1-k) k=M):=⟨X,U,J,f⟩;have aj:=Hd a5;clear X U J f a5
    by_cases ah:k<n
    ·have e1:decide ((k:Int)<(n:Int))=true:=by simp;omega
     have k0:(0:Int)<=(k:Int):=by omega
     have k1:(k:Int)<(aE.length:Int):=by omega
     go_wp2_with fail;refine(HT.out wr HH.out.1 k n (by omega) (by omega)).mono ?_;rintro e w4 ⟨rfl,a1⟩;obtain⟨X,U,J,f⟩:=HH.out;have a2:=U.aA a1;have V:=J.aA a1;have a3:Bw w w4:=X.trans (a1.mono X.size);rw[show n+1-k=(n-k)+1 by omega]at f;unfold Rb at f;rw[if_pos ah]at f;cases htg:I7 g aE k n with
     |false=>
      rw[htg,if_neg (by simp)]at f;have aa:Hid (Bw w w4/\Blk w4 w.heap.size #[.slice rd aE.length D,.slice nd vs.length B] 71/\Blk w4 (w.heap.size+1) (T3 ((De g aE aE.length n).set n (h:Int))) 3/\Rb g aE n (n-k) (k+1)=M):=⟨a3,a2,V,f⟩;clear X U J f a2 V a3 a1 HH htg g0 g1 cn fn;go_wp2_with fail
      go_roundg (n-k)
      case measure=>omega
      case rel=>
       obtain⟨q1,q2,q3,q4⟩:=aa.out;exact⟨k+1,by omega,by omega,by go_num,q1,q2,q3,by rw[show n+1- (k+1)=n-k by omega];exact q4⟩
     |true=>
      rw[htg,if_pos rfl]at f;have a5:=aj.out;have ck:w4.cell? ⟨w.heap.size+1,k,none⟩=some (.int .i64 ((U0 g aE n).1.getD k 0)):=by
       rw[Aa V k (by omega)]
       congr 2
       rw[List.getElem_set_ne (by omega)];have az:=a6.out;have:=ZR g aE aE.length n k ah;rw[<-this];simp[show k<(De g aE aE.length n).length by omega]
      have aw:w4.cell? ⟨w.heap.size+1,n,none⟩=some (.int .i64 h):=by
       rw[Aa V n (by omega)];simp
      have ay:=V.frozen n;have ag:=(Y9 g aE n).1;have ao:=X3 g aE n;have a9:(U0 g aE n).1.getD k 0∈(U0 g aE n).1:=by
       simp[show k<(U0 g aE n).1.length by omega]
      have hx:=ag _ a9;have Y:(U0 g aE (n+1)).1=(U0 g aE n).1++ [(U0 g aE n).1.getD k 0]/\(U0 g aE (n+1)).2=h:=by
       have a0:=ab.out;rw[<-f]at a0;have:U0 g aE (n+1)=((U0 g aE n).1++ [(U0 g aE n).1.getD k 0],(U0 g aE n).2):=by
        conv=>lhs;unfold U0
        rw[a0]
       rw[this];exact⟨rfl,Z.out⟩
      rw[Z.out]at hx;generalize(U0 g aE n).1.getD k 0=x at ck hx Y;have ax:(x==(h:Int))=false:=by simp;omega
      have ac:=Hd Y;have aa:Hid (Bw w w4/\Blk w4 w.heap.size #[.slice rd aE.length D,.slice nd vs.length B] 71/\Blk w4 (w.heap.size+1) (T3 ((De g aE aE.length n).set n (h:Int))) 3):=⟨a3,a2,V⟩;clear X U J f a2 V a3 a1 HH htg g0 g1 cn fn a5 ag ao a9 Y hx;go_wp2_with fail
      go_roundg (aE.length- (n+1))
      case measure=>omega
      case rel=>
       obtain⟨q1,q2,q3⟩:=aa.out;obtain⟨ad,ae⟩:=ac.out;refine⟨n+1,by omega,rfl,by go_num,by rw[ae],q1.setCell (by simp) _,q2.aG (by simp) _,?_⟩;rw[Ay g aE aE.length n x ai ad];have:=q3.set n (.int .i64 x);rw[Z3,List.set_set]at this;exact this
    ·have e1:decide ((k:Int)<(n:Int))=false:=by simp;omega
     obtain rfl:k=n:=by omega
     have af:M=none:=by
      have f:=HH.out.2.2.2;rw[show k+1-k=0+1 by omega]at f;unfold Rb at f;rw[if_neg (by omega)]at f;exact f.symm
     have Y:(U0 g aE (k+1)).1=(U0 g aE k).1++ [(h:Int)]/\(U0 g aE (k+1)).2=h+1:=by
      have a0:=ab.out;rw[af]at a0;have:U0 g aE (k+1)=((U0 g aE k).1++ [((U0 g aE k).2:Int)],(U0 g aE k).2+1):=by
       conv=>lhs;unfold U0
       rw[a0]
      rw[this,Z.out];exact⟨rfl,rfl⟩
     have ac:=Hd Y;clear Y af;go_wp2_with fail
     go_roundg (aE.length- (k+1))
     case measure=>omega
     case rel=>
      obtain⟨q1,q2,q3,_⟩:=HH.out;obtain⟨ad,ae⟩:=ac.out;refine⟨k+1,by omega,rfl,by go_num,by rw[ae];go_num,q1,q2,?_⟩;rw[Ay g aE aE.length k _ ai ad];exact q3
  ·have e0:decide ((n:Int)<(aE.length:Int))=false:=by simp;omega
   obtain rfl:n=aE.length:=by omega
   go_wp2_with fail
   go_ret2
   refine⟨_,rfl,?_,hb⟩;have e1:De g aE aE.length aE.length=(U0 g aE aE.length).1:=by simp[De]
   rw[e1]at hI;have:=Q2.cC hI (by rw[X3];omega);rw[X3]at this;exact this
theorem Xy(g:B0)(aE:List Int)(n:Nat):∀(f k:Nat),(∀j,k<=j->j<n->I7 g aE j n=false)->Rb g aE n f k=none
 |0,k,h=>rfl
 |f+1,k,h=>by
  unfold Rb;split
  ·rename_i D;rw[h k (zD _) D,if_neg (by simp)];exact Xy g aE n f (k+1) (fun j G B=>h j (by omega) B)
  ·rfl
theorem Ri(g:B0)(aE:List Int)(n:Nat):∃x,(U0 g aE (n+1)).1=(U0 g aE n).1++ [x]/\(Rb g aE n (n+1) 0=none->x=((U0 g aE n).2:Int)/\(U0 g aE (n+1)).2=(U0 g aE n).2+1)/\(U0 g aE n).2<=(U0 g aE (n+1)).2/\((∃e,Rb g aE n (n+1) 0=some e)->(U0 g aE (n+1)).2=(U0 g aE n).2):=by
 cases hm:Rb g aE n (n+1) 0 with
 |none=>
  have:U0 g aE (n+1)=((U0 g aE n).1++ [((U0 g aE n).2:Int)],(U0 g aE n).2+1):=by
   conv=>lhs;unfold U0
   rw[hm]
  rw[this];exact⟨_,rfl,fun _=>⟨rfl,rfl⟩,Nat.le_succ _,fun⟨e,f⟩=>by cases f⟩
 |some e=>
  have:U0 g aE (n+1)=((U0 g aE n).1++ [(U0 g aE n).1.getD e 0],(U0 g aE n).2):=by
   conv=>lhs;unfold U0
   rw[hm]
  rw[this];exact⟨_,rfl,(fun h=>by cases h),zD _,fun _=>rfl⟩
theorem El(g:B0)(aE:List Int)(n:Nat):∀d,(U0 g aE (n+d)).1.take n=(U0 g aE n).1
 |0=>by rw[Nat.add_zero,zO (by rw[X3];omega)]
 |d+1=>by
  obtain⟨x,f,_⟩:=Ri g aE (n+d);rw[show n+(d+1)=(n+d)+1 by omega,f,List.take_append_of_le_length (by rw[X3];omega)];exact El g aE n d
theorem Og(g:B0)(aE:List Int)(N n k:Nat)(h:n<=N)(f:k<n):(U0 g aE N).1.getD k 0=(U0 g aE n).1.getD k 0:=by
 have:=El g aE n (N-n);rw[show n+(N-n)=N by omega]at this;rw[<-this];simp[f]
theorem Oi(g:B0)(aE:List Int)(N:Nat):∀n,n<=N->(U0 g aE n).2<=(U0 g (U0 g aE N).1 n).2
 |0,_=>zD _
 |n+1,h=>by
  have ih:=Oi g aE N n (by omega);obtain⟨x,W,B,V,D⟩:=Ri g aE n;obtain⟨y,hy,f,J,_⟩:=Ri g (U0 g aE N).1 n;cases hm:Rb g aE n (n+1) 0 with
  |some e=>rw[D ⟨e,hm⟩];omega
  |none=>
   have G:=B hm;rw[G.2];have:Rb g (U0 g aE N).1 n (n+1) 0=none:=by
    apply Xy;intro j _ Y;unfold I7;rw[if_pos]
    left
    rw[Og g aE N (n+1) j h (by omega),Og g aE N (n+1) n h (by omega),W];have U:=X3 g aE n;have K:((U0 g aE n).1++ [x]).getD n 0=x:=by simp[U]
    have M:((U0 g aE n).1++ [x]).getD j 0∈(U0 g aE n).1:=by
     simp[zR (show j<(U0 g aE n).1.length by omega),show j<(U0 g aE n).1.length by omega]
    have Z:=(Y9 g aE n).1 _ M;have X:=G.1;rw[K];omega
   have:=(f this).2;omega
theorem AT(rv nv:Value)(g:B0)(K:Nat)(w:World)(hg:Y6 w rv nv g)(ho:GOk g K)(hn:g.aB.length<=1000)(hK:K<=1000):
  Calls Tryz.prog 58 #[.agg #[rv,nv]] w fun e w'=>∃cv,e=.returned cv/\Q2 w' cv (U1 g)/\(U1 g).length=g.aB.length/\Bw w w':=by
 have hT:=fun(W:World) (hb:Bw w W) (cv:Value) (aE:List Int) (hc:Q2 W cv aE) (hl:aE.length=g.aB.length)=>MO rv nv cv g K aE W (hg.aA hb) ho hc hl hn hK
 obtain⟨vs,hN,a7,a8⟩:=hg.next;obtain⟨rd,U,rfl,_⟩:=hg.aB.aV;obtain⟨nd,M,rfl,_⟩:=hN.aV;have HT:=Hd hT;clear hT hg ho hN a7 a8;generalize hF:U1 g=F;have HF:=Hd hF;clear hF;have aa:=Je g.aB.length (by omega);go_enter Tryz.func58,Tryz.ntmps58;go_wp2_with fail
 go_loopg[3,4] (g.aB.length+1) (fun G c i wr=>∃(aE:List Int) (D:Nat) (cg:Nat),c=.slice (some ⟨cg,0,none⟩) g.aB.length g.aB.length/\i=.int .i64 D/\aE.length=g.aB.length/\Q2 wr c aE/\g.aB.length+1<=G+D/\D<=(U0 g aE g.aB.length).2/\C9 g G aE D=F/\
  Bw w wr/\Blk wr w.heap.size #[.slice rd g.aB.length U,.slice nd vs.length M] 71)
 case atStart=>
  have h1:=Q2.cC (l:=List.replicate g.aB.length 0) (Blk.dX w (.cells #[.slice rd g.aB.length U,.slice nd vs.length M] 71) _ _) (by simp;omega);simp only[yD]at h1;exact⟨List.replicate g.aB.length 0,0,w.heap.size+1,rfl,rfl,by simp,h1,by omega,yC _,HF.out,F6 _ _ _,(Blk.aR w _ _).alloc _⟩
 case round=>
  obtain⟨aE,D,cg,rfl,rfl,a5,hI,a9,a2,f,hb,hG⟩:=hrel;clear HF;have g0:wr.cell? ⟨w.heap.size,0,none⟩=some (.slice rd g.aB.length U):=hG.cell 0;have g1:wr.cell? ⟨w.heap.size,1,none⟩=some (.slice nd vs.length M):=hG.cell 1;have Z:=HT.out wr hb _ aE hI a5;have a4:=(Y9 g aE g.aB.length).2;have J:=X3 g aE g.aB.length;have B:=Oi g aE g.aB.length g.aB.length (zD _);rw[show gk=(gk-1)+1 by omega]at f;unfold C9 at f;generalize U0 g aE g.aB.length=r at Z a4 J B f a2;obtain⟨a0,h⟩:=r;simp only at Z a4 J B f a2;have HR:=Hd Z;have HH:Hid (Bw w wr/\Blk wr w.heap.size #[.slice rd g.aB.length U,.slice nd vs.length M] 71/\a0.length=g.aB.length):=⟨hb,hG,J⟩;clear Z hb hG J hI a5 HT
  by_cases hc:h=D
  ·rw[if_pos hc]at f;subst f;subst hc;have e1:((h:Int)==(h:Int))=true:=by simp
   clear B a2;go_wp2_with fail;refine HR.out.mono ?_;rintro e w2 ⟨fb,rfl,V,X⟩;have a1:=Hd V;have Y:=Hd X;clear V X;go_wp2_with fail;go_ret;exact⟨_,rfl,a1.out,HH.out.2.2,HH.out.1.trans (Y.out.mono HH.out.1.size)⟩
  ·rw[if_neg hc]at f;have e1:((h:Int)==(D:Int))=false:=by simp;omega
   have a6:=Hd f;have a3:=Hd B;clear f B;go_wp2_with fail;refine HR.out.mono ?_;rintro e w2 ⟨fb,rfl,V,X⟩;have a1:=Hd V;have Y:=Hd X;clear V X;go_wp2_with fail
   go_roundg (gk-1)
   case measure=>omega
   case rel=>
    obtain⟨q1,q2,q3⟩:=HH.out;exact⟨a0,h,fb,rfl,rfl,q3,a1.out,by omega,a3.out,a6.out,q1.trans (Y.out.mono q1.size),q2.aA Y.out⟩
theorem Df(g:B0)(al:List Bool):∀k,(O6 g al k).1.length=al.length
 |0=>rfl
 |k+1=>by unfold O6;split;rw[xF];exact Df g al k;exact Df g al k
def Wx(al:List Bool):Nat:=(al.filter (fun b=>!b)).length
theorem TP(al:List Bool):Wx al<=al.length:=List.length_filter_le _ _
theorem JI:∀(al:List Bool) (k:Nat),k<al.length->al.getD k false=false->Wx (al.set k true)+1=Wx al
 |b::r,0,_,h=>by
  simp at h;subst h;simp[Wx]
 |b::r,k+1,hk,h=>by
  have f:=JI r k (by simpa using hk) (by simpa using h);unfold Wx at f⊢;cases b <;>simp at f⊢ <;>omega
theorem Jp(g:B0)(al:List Bool):∀k,k<=al.length->Wx (O6 g al k).1<=Wx al/\((O6 g al k).2=true->Wx (O6 g al k).1<Wx al)
 |0,_=>by simp[O6]
 |k+1,h=>by
  have B:=Jp g al k (by omega);have D:=Df g al k;unfold O6;split
  ·rename_i f;have:=JI (O6 g al k).1 k (by omega) f.1;exact⟨by simp;omega,fun _=>by simp;omega⟩
  ·exact B
def Sc(f:List Int)(n:Nat):List Bool:=(f.take n).map (fun r=>r != -1)++List.replicate (f.length-n) false
theorem VI(f:List Int)(n:Nat)(h:n<=f.length):(Sc f n).length=f.length:=by simp[Sc];omega
theorem TF(f:List Int)(n:Nat)(h:n<f.length):Sc f (n+1)=(Sc f n).set n (f[n] != -1):=by
 unfold Sc;have B:((f.take n).map (fun r=>r != -1)).length=n:=by simp;omega
 rw[List.set_append_right _ _ (by omega),B,yS,show f.length-n=(f.length- (n+1))+1 by omega,List.replicate_succ,List.set_cons_zero,yO h,zV,yF];rfl
theorem KR(rv nv:Value)(g:B0)(K:Nat)(w:World)(hg:Y6 w rv nv g)(ho:GOk g K)(hn:g.aB.length<=1000)(hK:K<=1000):
  Calls Tryz.prog 93 #[.agg #[rv,nv]] w fun e w'=>∃ab,e=.returned (.slice (some ⟨ab,0,none⟩) g.aB.length g.aB.length)/\E6 w' (.slice (some ⟨ab,0,none⟩) g.aB.length g.aB.length) (Ua g)/\(Ua g).length=g.aB.length/\Bw w w':=by
 obtain⟨B,hN,a3,ao⟩:=hg.next;have a2:=hg.aB;obtain⟨rd,D,rfl,ac⟩:=hg.aB.aV;obtain⟨nd,f,rfl,a9⟩:=hN.aV;have a4:=ho.len;have aq:=Hd ao;have HN:=Hd hN;have ap:=Hd a2;have HO:=Hd ho;have az:B.length<=g.aB.length:=by omega
 have ax:g.aB.length<=B.length:=by omega
 have aw:=Hd a4;have ag:=Hd a3;clear ao hN a2 ho hg a4 a3;generalize hF:Ua g=F;unfold Ua at hF;have HF:=Hd hF;clear hF;have ay:=A8 g.aB.length (by omega);go_enter Tryz.func93,Tryz.ntmps93;go_wp2_with fail
 go_loopg[16] g.aB.length (fun G i wr=>∃n:Nat,n<=g.aB.length/\G=g.aB.length-n/\i=.int .i64 n/\Bw w wr/\
  Blk wr w.heap.size #[.slice rd g.aB.length D,.slice nd B.length f] 71/\Blk wr (w.heap.size+1) (Z0 (Sc g.aB n)) 4)
 case atStart=>
  refine⟨0,by omega,rfl,rfl,F6 _ _ _,(Blk.aR w _ _).alloc _,?_⟩;have e0:Sc g.aB 0=List.replicate g.aB.length false:=by simp[Sc]
  rw[e0];exact Blk.dX w _ _ _
 case round=>
  obtain⟨n,au,rfl,rfl,V,W,M⟩:=hrel;have aj:=VI g.aB n (by omega)
  by_cases a1:n<g.aB.length
  ·have e0:decide ((n:Int)<(g.aB.length:Int))=true:=by simp;omega
   rcases ac with h0|⟨rg,rfl⟩
   ·omega
   have r0:=(ap.out.aA V).cell n a1;have c0:=Wl M n (by omega);generalize(Sc g.aB n)[n]'(by omega)=old at c0;have f0:=M.frozen n;have i0:(0:Int)<=(n:Int):=by omega
   have i1:(n:Int)<(g.aB.length:Int):=by omega
   have HH:Hid (Bw w wr/\Blk wr w.heap.size #[.slice (some ⟨rg,0,none⟩) g.aB.length D,.slice nd B.length f] 71/\Blk wr (w.heap.size+1) (Z0 (Sc g.aB n)) 4):=⟨V,W,M⟩;clear V W M aj HF;go_wp2_with fail
   go_roundg (g.aB.length- (n+1))
   case measure=>omega
   case rel=>
    obtain⟨V,W,M⟩:=HH.out;refine⟨n+1,by omega,rfl,by go_num,V.setCell (by simp) _,W.aG (by simp) _,?_⟩;rw[TF g.aB n a1,<-D4];exact M.set n _
  ·have e0:decide ((n:Int)<(g.aB.length:Int))=false:=by simp;omega
   obtain rfl:n=g.aB.length:=by omega
   have ae:Hid (Bw w wr/\Blk wr w.heap.size #[.slice rd g.aB.length D,.slice nd B.length f] 71/\Blk wr (w.heap.size+1) (Z0 (Sc g.aB g.aB.length)) 4):=⟨V,W,M⟩;clear V W M aj au a1;obtain⟨wo,rfl⟩:∃wo:World,wo=wr:=⟨_,rfl⟩;go_wp2_with fail
   go_loopg[6] (g.aB.length+2) (fun G c wr=>∃(al:List Bool) (ch:Bool),c=.bool ch/\al.length=g.aB.length/\(ch=true->Wx al+1<G/\Ha g (G-1) al=F)/\(ch=false->al=F)/\Bw w wr/\
    Blk wr w.heap.size #[.slice rd g.aB.length D,.slice nd B.length f] 71/\Blk wr (w.heap.size+1) (Z0 al) 4)
   case atStart=>
    obtain⟨Y,Z,X⟩:=ae.out;have e1:Sc g.aB g.aB.length=g.aB.map (fun r=>r != -1):=by simp[Sc]
    rw[e1]at X;refine⟨_,true,rfl,by simp,fun _=>⟨?_,HF.out⟩,(fun h=>by cases h),Y,Z,X⟩;have:=TP (g.aB.map (fun r=>r != -1));simp at this;omega
   case round=>
    obtain⟨al,ch,rfl,U,a7,a8,V,W,M⟩:=hrel;clear ae HF;cases ch with
    |false=>
     have ai:=a8 rfl;have HH:Hid (Bw w wr/\Blk wr (w.heap.size+1) (Z0 al) 4/\al.length=g.aB.length/\al=F):=⟨V,M,U,ai⟩;clear V W M U a7 a8 ai;go_wp2_with fail;go_ret;obtain⟨Y,Z,X,rfl⟩:=HH.out;have:=E6.cC Z (by omega);rw[X]at this;exact⟨_,rfl,this,X,Y⟩
    |true=>
     obtain⟨hd,hl⟩:=a7 rfl;have am:gk-1=(gk-2)+1:=by omega
     rw[am]at hl;unfold Ha at hl;have HL:=Hd hl;have g1:wr.cell? ⟨w.heap.size,1,none⟩=some (.slice nd B.length f):=W.cell 1;have HH:Hid (Bw w wr/\Blk wr w.heap.size #[.slice rd g.aB.length D,.slice nd B.length f] 71/\Blk wr (w.heap.size+1) (Z0 al) 4):=⟨V,W,M⟩;have ad:=Hd U;clear V W M hl a8 a7 am U;obtain⟨w2,rfl⟩:∃wo:World,wo=wr:=⟨_,rfl⟩;go_wp2_with fail
     go_loopg[6,31] B.length (fun G c i wr=>∃(k:Nat),k<=B.length/\G=B.length-k/\i=.int .i64 k/\c=.bool (O6 g al k).2/\Bw w wr/\
      Blk wr w.heap.size #[.slice rd g.aB.length D,.slice nd B.length f] 71/\Blk wr (w.heap.size+1) (Z0 (O6 g al k).1) 4)
     case atStart=>
      obtain⟨Y,Z,X⟩:=HH.out;exact⟨0,by omega,rfl,rfl,rfl,Y,Z,X⟩
     case round=>
      obtain⟨k,hk,rfl,rfl,rfl,V,W,M⟩:=hrel;clear HH g1
      by_cases a1:k<B.length
      ·have e1:decide ((k:Int)<(B.length:Int))=true:=by simp;omega
       rcases a9 with h0|⟨ng,rfl⟩
       ·omega
       have aa:=Df g al k;have U:=ad.out;have n0:=(HN.out.aA V).cell k a1;have a5:=(aq.out k B[k] (zF _)).aA V;have an:=HO.out.row k (by have:=ag.out;omega);have ah:=E6.cC M (by omega);have a0:=US B[k] _ (g.next.getD k []) (O6 g al k).1 wr a5 ah (by omega) (by omega) (by rw[aa,U];exact an.2);rw[aa,U]at a0;have c0:=Wl M k (by omega);have ak:(O6 g al k).1.getD k false=(O6 g al k).1[k]'(by omega):=by simp[show k<(O6 g al k).1.length by omega]
       have f0:=M.frozen k;have i0:(0:Int)<=(k:Int):=by omega
       have i1:(k:Int)<(B.length:Int):=by omega
       have i2:(k:Int)<(g.aB.length:Int):=by omega
       generalize B[k]=vk at n0 a0;have J:O6 g al (k+1)=if(O6 g al k).1.getD k false=false/\Fg (g.next.getD k []) (O6 g al k).1=true then((O6 g al k).1.set k true,true)else O6 g al k:=by
        conv=>lhs;unfold O6
       rw[ak]at J;generalize Fg (g.next.getD k []) (O6 g al k).1=ld at a0 J;generalize ar:(O6 g al k).1[k]'(by omega)=b0 at c0 J;have af:=Hd a0;have a6:=Hd J;have HH:Hid (Bw w wr/\Blk wr w.heap.size #[.slice rd g.aB.length D,.slice (some ⟨ng,0,none⟩) B.length f] 71/\Blk wr (w.heap.size+1) (Z0 (O6 g al k).1) 4):=⟨V,W,M⟩;clear V W M aa U a5 an ah a0 ak ar J HL;cases b0 with
       |true=>
        go_wp2_with fail
        go_roundg (B.length- (k+1))
        case measure=>omega
        case rel=>
         obtain⟨Y,Z,X⟩:=HH.out;have hs:=a6.out;rw[if_neg (by simp)]at hs;exact⟨k+1,by omega,rfl,by go_num,by rw[hs],Y,Z,by rw[hs];exact X⟩
       |false=>
        cases ld with
        |false=>
         go_wp2_with fail;refine af.out.mono ?_;rintro e w5 ⟨rfl,rfl⟩;go_wp2_with fail
         go_roundg (B.length- (k+1))
         case measure=>omega
         case rel=>
          obtain⟨Y,Z,X⟩:=HH.out;have hs:=a6.out;rw[if_neg (by simp)]at hs;exact⟨k+1,by omega,rfl,by go_num,by rw[hs],Y,Z,by rw[hs];exact X⟩
        |true=>
         go_wp2_with fail;refine af.out.mono ?_;rintro e w5 ⟨rfl,rfl⟩;go_wp2_with fail
         go_roundg (B.length- (k+1))
         case measure=>omega
         case rel=>
          obtain⟨Y,Z,X⟩:=HH.out;have hs:=a6.out;rw[if_pos (by simp)]at hs;exact⟨k+1,by omega,rfl,by go_num,by rw[hs],Y.setCell (by simp) _,Z.aG (by simp) _,by rw[hs,<-D4];exact X.set k _⟩
      ·have e1:decide ((k:Int)<(B.length:Int))=false:=by simp;omega
       obtain rfl:k=B.length:=by omega
       have HH:Hid (Bw w wr/\Blk wr w.heap.size #[.slice rd g.aB.length D,.slice nd B.length f] 71/\Blk wr (w.heap.size+1) (Z0 (O6 g al B.length).1) 4):=⟨V,W,M⟩;clear V W M;go_wp2_with fail
       go_roundg (gk-1)
       case measure=>omega
       case rel=>
        obtain⟨Y,Z,X⟩:=HH.out;have hl:=HL.out;have a3:=ag.out;have U:=ad.out;rw[<-a3]at hl;have av:=Jp g al B.length (by omega);refine⟨_,_,rfl,by rw[Df];exact U,fun e=>?_,fun e=>?_,Y,Z,X⟩
        ·rw[if_pos e]at hl;have:=av.2 e;exact⟨by omega,by rw[show gk-1-1=gk-2 by omega];exact hl⟩
        ·rw[if_neg (by simp[e])]at hl;exact hl
end Go.Proofs.YtcckhngbdoiikabGreat
