import Derived.Test.YtcckhngbdoiikabGreatA33
import Derived.ArgAppend
set_option maxRecDepth 20000
set_option maxHeartbeats 12800000
set_option linter.unusedVariables false
namespace Go.Proofs.YtcckhngbdoiikabGreat
open Go.RowKit Go.Deep
abbrev mk(n:Nat):V4:=⟨-9,n,0⟩
def O9(w:World)(v:Value)(n:Nat):Prop:=∃f,P1 w v (List.replicate f (mk n))/\f<=4000010
abbrev ZT(w:World)(g o:Nat)(t:V4):World:=((w.setCell ⟨g,o,none⟩ (.int .i64 t.aB)).setCell ⟨g,o+1,none⟩ (.int .i64 (t.fr:Int))).setCell ⟨g,o+2,none⟩ (.int .i64 (t.tt:Int))
theorem O9.kept{w w':World}{v:Value}{n:Nat}{ex:Nat->Prop}(h:O9 w v n)(k:C0 ex w w')(G:∀b,v.ownBlock=some b->¬ex b):O9 w' v n:=by
 obtain⟨f,B,D⟩:=h;exact⟨f,B.kept k G,D⟩
theorem Yt(w:World)(g o:Nat)(t:V4):C0 (fun b=>b=g) w (ZT w g o t):=
 ((C0.setCell (ex:=fun b=>b=g) (p:=⟨g,o,none⟩) (C0.refl _ _) (fun _=>rfl) _).setCell (p:=⟨g,o+1,none⟩) (fun _=>rfl) _).setCell (p:=⟨g,o+2,none⟩) (fun _=>rfl) _
theorem QK{w:World}{g o:Nat}{cur:Array Value}{f:TypeId}(h:Blk w g cur f)(t:V4):Blk (ZT w g o t) g (((cur.setIfInBounds o (.int .i64 t.aB)).setIfInBounds (o+1) (.int .i64 (t.fr:Int))).setIfInBounds (o+2) (.int .i64 (t.tt:Int))) f:=((h.set o _).set (o+1) _).set (o+2) _
theorem UQ{w:World}{g n G m:Nat}{l:List V4}(h:P1 w (.slice (some ⟨g,0,none⟩) n G) l)(hm:m<G)(t:V4)(J:List V4)(X:J.length=l.length)(V:∀j,(W:j<l.length)->J[j]'(by omega)=if j=m then t else l[j]):
  P1 (ZT w g (m*3) t) (.slice (some ⟨g,0,none⟩) n G) J:=by
 obtain⟨h0,ad,Y,Z,⟨rfl,h1⟩|⟨g',cur,rfl,h2,h3,h4,K,h6⟩⟩:=P0 h
 ·cases Z
 ·cases Z;have hb:=QK (o:=m*3) h2 t;refine(show P1 _ _ J from ?_);unfold P1;rw[X];refine J5 (by rw[Tc,X]) hb h3 h4 (by simpa using K) ?_;apply List.ext_getElem?;intro i;rw[List.getElem?_take]
  by_cases U:i<l.length*3
  ·rw[if_pos U];have W:i / 3<l.length:=by omega
   obtain⟨q0,q1,q2⟩:=Vd J (i / 3) (by omega);obtain⟨p0,p1,p2⟩:=Vd l (i / 3) W;have B:cur.toList[i]?=(Y5 l)[i]?:=by rw[<-h6,List.getElem?_take,if_pos U]
   have M:=V (i / 3) W;rw[Array.getElem?_toList]at B⊢;simp only[xD,Array.size_setIfInBounds];rcases(show i % 3=0\/i % 3=1\/i % 3=2 by omega)with e|e|e
   ·have D:i=i / 3*3:=by omega
    rw[D,q0,M]
    by_cases f:i / 3=m
    ·rw[if_neg (by omega),if_neg (by omega),if_pos (by omega),if_pos (by rw[K];omega),if_pos f]
    ·rw[if_neg (by omega),if_neg (by omega),if_neg (by omega),if_neg f,<-D,B];exact(congrArg (fun q=>(Y5 l)[q]?) D).trans p0
   ·have D:i=i / 3*3+1:=by omega
    rw[D,q1,M]
    by_cases f:i / 3=m
    ·rw[if_neg (by omega),if_pos (by omega),if_pos (by rw[K];omega),if_pos f]
    ·rw[if_neg (by omega),if_neg (by omega),if_neg (by omega),if_neg f,<-D,B];exact(congrArg (fun q=>(Y5 l)[q]?) D).trans p1
   ·have D:i=i / 3*3+2:=by omega
    rw[D,q2,M]
    by_cases f:i / 3=m
    ·rw[if_pos (by omega),if_pos (by rw[K];omega),if_pos f]
    ·rw[if_neg (by omega),if_neg (by omega),if_neg (by omega),if_neg f,<-D,B];exact(congrArg (fun q=>(Y5 l)[q]?) D).trans p2
  ·rw[if_neg U,yJ (by rw[Tc,X];omega)]
theorem O9.put{w:World}{v:Value}{n g m:Nat}{cur:Array Value}(h:O9 w v n)(X:Blk w g cur 66)(hm:m*3+2<cur.size):O9 (ZT w g (m*3) (mk n)) v n:=by
 obtain⟨f,D,U⟩:=h
 by_cases B:v.ownBlock=some g
 ·obtain⟨Z,Y,J,M,⟨rfl,h3⟩|⟨V,K,rfl,W,h5,h6,h7,h8⟩⟩:=P0 D
  ·rw[M]at B;cases B
  ·subst M;cases(zE B:V=g);have e:=(W.bX X).1;subst e;refine⟨f,UQ D (by omega) (mk n) _ rfl (fun j hj=>?_),U⟩;simp
 ·exact⟨f,D.kept (Yt w g (m*3) (mk n)) (fun b G e=>B (by rw[G,e])),U⟩
theorem NM{n m xb:Nat}{va:Value}{M:Array Oper}{rest:List Oper}{o:Oper}{a:Act}{w:World}{Q:Exit->Act->World->Prop}(a0:o.guard=none)(s x:Operand)
  (ho:o.op=.call { callee:=.builtin .append,args:=#[s,x],argTypes:=#[58,58] })
  (hs:a.eval s=va) (hx:a.eval x=.slice (some ⟨xb,0,none⟩) 1 1) (a9:Blk w xb (Jl (mk n)) 66) (ha:P1 w va (List.replicate m (mk n))) (hm:m<=4000005) (P:Nat->Prop) (hP:∀b,w.heap.size<=b->P b) (a3:∀b,va.ownBlock=some b->P b)
  (h:∀D w',P1 w' D (List.replicate (m+1) (mk n))->(∀b,D.ownBlock=some b->P b)->C0 (fun b=>va.ownBlock=some b) w w'->(∀u,O9 w u n->O9 w' u n)->wpList Tryz.prog M Q rest (a.put o.dst D) w'):wpList Tryz.prog M Q (o::rest) a w:=by
 obtain⟨ii,a1,a4,a5,a6⟩:=info_parts Tryz.dQ;have B:∀j u,(Y5 [mk n])[j]?=some u->w.cell? ((⟨xb,0,none⟩:Addr).add j)=some u:=World.news_of_block (cs:=Jl (mk n)) a9;have J:∀u∈Y5 [mk n],u.oneCell'=true:=by intro u X;simp[Y5]at X;rcases X with rfl|rfl|rfl <;>rfl
 have K:Y5 (List.replicate m (mk n))++Y5 [mk n]=Y5 (List.replicate (m+1) (mk n)):=by rw[<-Sg,List.replicate_succ']
 have a2:(Y5 (List.replicate m (mk n))).length=m*3:=by rw[Tc,yD]
 have G:∀D w',w'.ownsRow w.heap.size 66 3 D (m+1) (Y5 (List.replicate m (mk n))++Y5 [mk n])->w.grownBy w' none->wpList Tryz.prog M Q rest (a.put o.dst D) w':=fun D w' r1 r2=>by
  rw[K]at r1;have kk:C0 (fun _=>False) w w':=⟨r2.os,r2.tape,r2.output,r2.size,fun k hk _=>r2.block k hk (fun e=>by cases e)⟩;have hT:P1 w' D (List.replicate (m+1) (mk n)):=by
   unfold P1;rw[yD];obtain⟨Z,h5|⟨g,f,cur,rfl,U,h7⟩⟩:=r1
   ·exact⟨Z,.inl h5⟩
   ·exact⟨Z,.inr ⟨g,f,cur,rfl,yC _,h7⟩⟩
  refine h D w' hT (fun b V=>?_) (kk.bK (fun _ _ e=>e.elim)) (fun u X=>X.kept kk (fun _ _ e=>e));obtain⟨Z,⟨rfl,_⟩|⟨g,f,cur,rfl,U,h7⟩⟩:=r1
  ·cases V
  ·cases(zE V:g=b);exact hP _ U
 obtain⟨h0,ad,f,rfl,⟨rfl,h1⟩|⟨g,cur,rfl,Y,h3,Z,h5,U⟩⟩:=P0 ha
 ·rw[yD]at h1;subst h1;have a7:f=0:=by
   obtain⟨_,⟨e,_⟩|⟨g,aa,cur,e,_⟩⟩:=ha
   ·cases e;rfl
   ·cases e
  subst a7;exact wpList_append_grows w a0 s x 58 ho 66 ii _ 3 24 Tryz.underlying58 a1 a4 a5 a6 rfl (by omega) none 0 0 [] hs (fun _=>⟨rfl,rfl⟩) (by simp) (fun b e=>by cases e) ⟨xb,0,none⟩ 1 1 (Y5 [mk n]) hx rfl B J (by omega) (by unfold maxLen;omega) (by omega) G
 ·rw[yD]at hs h3 U;refine wpList_append_arg w a0 s x 58 ho 66 ii _ 3 24 Tryz.underlying58 a1 a4 a5 a6 rfl (by omega) g 0 m f (Y5 (List.replicate m (mk n))) hs a2 (fun j u W=>?_) ⟨xb,0,none⟩ 1 1 (Y5 [mk n]) hx rfl B J (fun hr j W=>?_) (by unfold maxLen;omega) (by omega) (fun hr=>?_) (fun _=>G)
  ·rw[yX,Y.cell,<-Array.getElem?_toList];rw[<-U,List.getElem?_take]at W;split at W
   ·exact W
   ·cases W
  ·have ab:j<3:=W;rw[yX,Y.cell,Array.getElem?_eq_getElem (by rw[h5];omega)];exact⟨rfl,Y.frozen _⟩
  ·rw[yX];have hw:w.setCells g (m*3) (Y5 [mk n])=ZT w g (m*3) (mk n):=rfl;rw[hw];have hT:P1 w (.slice (some ⟨g,0,none⟩) m f) (List.replicate m (mk n)):=by rw[yD]at ha;exact ha
   refine h _ _ ?_ (fun b V=>a3 b V) ?_ (fun u X=>X.put Y (by rw[h5];omega))
   ·have V:=QK (o:=m*3) Y (mk n);unfold P1;rw[yD];refine J5 (by rw[Tc,yD]) V hr Z (by simpa using h5) ?_;rw[<-K,<-U];have e1:(m+1)*3=m*3+1+1+1:=by omega
    apply List.ext_getElem?;intro i;rw[List.getElem?_take]
    by_cases hi:i<m*3
    ·rw[if_pos (by omega),zR (by rw[List.length_take];simp;omega),List.getElem?_take,if_pos hi,Array.getElem?_toList,Array.getElem?_toList];simp only[xD,Array.size_setIfInBounds];rw[if_neg (by omega),if_neg (by omega),if_neg (by omega)]
    ·have a8:(cur.toList.take (m*3)).length=m*3:=by rw[List.length_take];simp;omega
     rw[zY (by omega),a8]
     by_cases h9:i<(m+1)*3
     ·rw[if_pos h9,Array.getElem?_toList];simp only[xD,Array.size_setIfInBounds];rcases(show i=m*3\/i=m*3+1\/i=m*3+2 by omega)with rfl|rfl|rfl
      ·rw[if_neg (by omega),if_neg (by omega),if_pos rfl,if_pos (by omega),yS];rfl
      ·rw[if_neg (by omega),if_pos rfl,if_pos (by omega),show m*3+1-m*3=1 by omega];rfl
      ·rw[if_pos rfl,if_pos (by omega),show m*3+2-m*3=2 by omega];rfl
     ·rw[if_neg h9,yJ (by rw[Tc];simp;omega)]
   ·exact(Yt w g (m*3) (mk n)).bK (fun i _ e=>by rw[e];rfl)
theorem Tryz.iB:(Tryz.prog.info? 64).map (fun i=>(i.zero,i.size,i.bytes))=some (some (.agg #[.slice none 0 0,.int .i64 0]),2,32):=by kernel_rfl
abbrev Zp(pv qv sv vv:Value)(n:Nat)(kv:Value):Array Value:=#[pv,qv,sv,vv,.int .i64 n,kv]
def Hdx:List (Value×Nat)->List Value
 | []=>[]
 |p::r=>p.1::.int .i64 (p.2:Int)::Hdx r
theorem Mi:∀l m:List (Value×Nat),Hdx (l++m)=Hdx l++Hdx m
 | [],m=>rfl
 |s::r,m=>by simp[Hdx,Mi r m]
theorem Vy:∀(l:List (Value×Nat)) (k:Nat) (h:k<l.length),(Hdx l)[k*2]?=some l[k].1/\(Hdx l)[k*2+1]?=some (.int .i64 (l[k].2:Int))
 |s::r,0,_=>⟨rfl,rfl⟩
 |s::r,k+1,h=>by
  have f:=Vy r k (by simpa using h);rw[show(k+1)*2=k*2+1+1 by omega];simp only[Hdx,List.getElem?_cons_succ,List.getElem_cons_succ];exact f
def Sa(w:World)(v:Value)(l:List (Value×Nat)):Prop:=w.ownsRow 0 64 2 v l.length (Hdx l)
theorem Sa.kept{w w':World}{v:Value}{l:List (Value×Nat)}{ex:Nat->Prop}(h:Sa w v l)(k:C0 ex w w')(f:∀b,v.ownBlock=some b->¬ex b):Sa w' v l:=K0 h k f
structure OW(w0 w:World)(wb N n:Nat)(pv qv sv vv kv0 lv:Value)(kv:Value)(KS:List (Value×Nat)):Prop where
 aO:Blk w wb (Zp pv qv sv vv n kv) 36
 row:Sa w kv KS
 cH:∀p∈KS,O9 w p.1 p.2/\(p.2=n\/∀b,p.1.ownBlock=some b->b<N)
 kept:C0 (fun b=>b=wb\/kv0.ownBlock=some b\/lv.ownBlock=some b) w0 w
 ko:∀b,kv.ownBlock=some b->kv0.ownBlock=some b\/w0.heap.size<=b
section
variable{w0 w w8:World}{wb N n:Nat}{pv qv sv vv kv0 lv kv:Value}{KS:List (Value×Nat)}
theorem OW.aA(h:OW w0 w wb N n pv qv sv vv kv0 lv kv KS){w':World}(k:Bw w w'):OW w0 w' wb N n pv qv sv vv kv0 lv kv KS:=
 ⟨h.aO.aA k,h.row.kept (C0.aM (ex:=fun _=>False) k) (fun _ _ e=>e),fun p f=>⟨(h.cH p f).1.kept (C0.aM (ex:=fun _=>False) k) (fun _ _ e=>e),(h.cH p f).2⟩,h.kept.aA k,h.ko⟩
theorem OW.lH(h:OW w0 w wb N n pv qv sv vv kv0 lv kv KS){v v6:Value}(hv:O9 w v n)(Z:Sa w8 v6 (KS++ [(v,n)]))(r2:C0 (fun b=>kv.ownBlock=some b) w w8)(r3:∀b,v6.ownBlock=some b->kv.ownBlock=some b\/w.heap.size<=b):
  OW w0 (w8.setCell ⟨wb,5,none⟩ v6) wb N n pv qv sv vv kv0 lv v6 (KS++ [(v,n)])/\(∀G l,P1 w G l->P1 (w8.setCell ⟨wb,5,none⟩ v6) G l)/\∀b c,Blk w b c 66->Blk (w8.setCell ⟨wb,5,none⟩ v6) b c 66:=by
 have V:kv.ownBlock≠some wb:=L0 h.row h.aO (by decide);have K:Blk w8 wb (Zp pv qv sv vv n kv) 36:=h.aO.kept r2 V;have X:C0 (fun b=>kv.ownBlock=some b\/b=wb) w (w8.setCell ⟨wb,5,none⟩ v6):=(r2.bK (fun _ _ e=>.inl e)).setCell (p:=⟨wb,5,none⟩) (fun _=>.inr rfl) _;have B:∀G l,P1 w G l->P1 (w8.setCell ⟨wb,5,none⟩ v6) G l:=fun G l U=>by
  refine U.kept X (fun b J e=>?_);rcases e with e|e
  ·obtain⟨_,_,_,rfl,⟨rfl,_⟩|⟨g,cur,rfl,h2,_⟩⟩:=P0 h.row
   ·cases e
   ·cases(zE e:g=b);exact L0 U h2 (by decide) J
  ·subst e;exact L0 U h.aO (by decide) J
 have M:∀b c,Blk w b c 66->Blk (w8.setCell ⟨wb,5,none⟩ v6) b c 66:=fun b c W=>by
  refine W.kept X (fun e=>?_);rcases e with e|e
  ·exact L0 h.row W (by decide) e
  ·subst e;have:=(W.bX h.aO).2
   revert this
   decide
 have f:∀u k,O9 w u k->O9 (w8.setCell ⟨wb,5,none⟩ v6) u k:=fun u k ⟨Y,q1,q2⟩=>⟨Y,B _ _ q1,q2⟩
 have hz:=h.kept.size;refine⟨⟨K.set 5 v6,Z.kept (C0.setCell (ex:=fun b=>b=wb) (p:=⟨wb,5,none⟩) (C0.refl _ _) (fun _=>rfl) _) (fun b J e=>by subst e;exact L0 Z K (by decide) J),fun p D=>?_,h.kept.trans X (fun i hi e=>?_),fun b J=>?_⟩,B,M⟩
 ·rcases zQ.1 D with D|D
  ·exact⟨f _ _ (h.cH p D).1,(h.cH p D).2⟩
  ·rw[zJ]at D;subst D;exact⟨f _ _ hv,.inl rfl⟩
 ·rcases e with e|e
  ·rcases h.ko i e with q|q
   ·exact .inr (.inl q)
   ·omega
  ·exact .inl e
 ·rcases r3 b J with q|q
  ·exact h.ko b q
  ·exact .inr (by omega)
theorem OW.jQ(h:OW w0 w wb N n pv qv sv vv kv0 lv kv KS){J:Value}{l:List V4}(M:P1 w J l)(f:∀b,J.ownBlock=some b->(lv.ownBlock=some b\/w0.heap.size<=b)/\N<=b)(G:C0 (fun b=>J.ownBlock=some b) w w8)(W:∀u,O9 w u n->O9 w8 u n):OW w0 w8 wb N n pv qv sv vv kv0 lv kv KS:=by
 have Y:=h.kept.size;refine⟨h.aO.kept G (L0 M h.aO (by decide)),h.row.kept G (fun b D e=>?_),fun p U=>⟨?_,(h.cH p U).2⟩,h.kept.trans G (fun i X e=>?_),h.ko⟩
 ·obtain⟨_,_,_,rfl,⟨rfl,_⟩|⟨g,cur,rfl,V,_⟩⟩:=P0 h.row
  ·cases D
  ·cases(zE D:g=b);exact L0 M V (by decide) e
 ·obtain⟨K,B⟩:=h.cH p U;rcases B with B|B
  ·rw[B]at K⊢;exact W _ K
  ·exact K.kept G (fun b D e=>by have:=B b D;have:=(f b e).2;omega)
 ·rcases(f i e).1 with q|q
  ·exact .inr (.inr q)
  ·omega
end
theorem Sa.aV{w:World}{v:Value}{l:List (Value×Nat)}(h:Sa w v l):∃(B:Option Addr) (f:Nat),v=.slice B l.length f/\(l.length=0\/∃g,B=some ⟨g,0,none⟩):=by
 obtain⟨_,B,f,rfl,⟨_,h⟩|⟨g,_,rfl,_⟩⟩:=P0 h
 ·exact⟨B,f,rfl,.inl h⟩
 ·exact⟨_,f,rfl,.inr ⟨g,rfl⟩⟩
theorem SX{w:World}{v:Value}{l:List V4}(h:P1 w v l){b:Nat}(f:v.ownBlock=some b):b<w.heap.size:=by
 obtain⟨_,_,_,rfl,⟨rfl,_⟩|⟨g,cur,rfl,B,_⟩⟩:=P0 h
 ·cases f
 ·cases(zE f:g=b);exact B.lt
theorem KY(wb N n:Nat)(pv qv sv vv kv lv:Value)(W:List (Value×Nat))(L:List V4)(w:World)(hb:Blk w wb (Zp pv qv sv vv n kv) 36)(hK:Sa w kv W)(hM:∀p∈W,O9 w p.1 p.2/\∀b,p.1.ownBlock=some b->b<N)(hL:P1 w lv L)(hN:∀b,lv.ownBlock=some b->N<=b)(c3:N<=w.heap.size)(hn:n<=4000000)(hk:W.length<=3999990)(hl:L.length<=4000000):
  Calls Tryz.prog 20 #[.pointer (some ⟨wb,0,none⟩),lv] w fun e w'=>e=.returned (.tuple #[])/\∃aj af,af.length=W.length+4/\OW w w' wb N (n+1) pv qv sv vv kv lv aj af:=by
 obtain⟨ii,bn,br,bs,bt⟩:=info_parts Tryz.iB;obtain⟨ld,f,rfl,b8⟩:=hL.aV;have bp:∀b,(Value.slice ld L.length f).ownBlock=some b->b<w.heap.size:=fun b e=>SX hL e
 obtain⟨B,bw⟩:∃B:Nat,n+1=B:=⟨_,rfl⟩;have az:(n:Int)+1=(B:Int):=by omega
 have b1:IntKind.i64.wrap ((n:Int)+1)=(B:Int):=(Go.IntWalk.i64_left _).trans (by rw[az];unfold wrap64;omega);have c4:w.cell? ⟨wb,4,none⟩=some (.int .i64 n):=hb.cell 4;have f4:=hb.frozen 4;have zb:=hb.lt;rw[bw];obtain⟨w1,au⟩:∃w1:World,(w.setCell ⟨wb,4,none⟩ (.int .i64 B)).alloc (.cells (Jl (mk B)) 66)=w1:=⟨_,rfl⟩;have ks:C0 (fun b=>b=wb) w (w.setCell ⟨wb,4,none⟩ (.int .i64 B)):=C0.setCell (ex:=fun b=>b=wb) (p:=⟨wb,4,none⟩) (C0.refl _ _) (fun _=>rfl) _;have b0:∀b,kv.ownBlock=some b->¬b=wb:=fun b b7 e=>by subst e;exact L0 hK hb (by decide) b7
 have ai:∀(v:Value) (l:List V4),P1 w v l->∀b,v.ownBlock=some b->¬b=wb:=fun v l hv b b7 e=>by subst e;exact L0 hv hb (by decide) b7
 have aw:OW w (w.setCell ⟨wb,4,none⟩ (.int .i64 B)) wb N B pv qv sv vv kv (.slice ld L.length f) kv W:=
  ⟨hb.set 4 _,hK.kept ks b0,fun p hp=>⟨by obtain⟨⟨bz,q1,q2⟩,q3⟩:=hM p hp;exact⟨bz,q1.kept ks (ai _ _ q1),q2⟩,.inr (hM p hp).2⟩,ks.bK (fun _ _ e=>.inl e),fun b e=>.inl e⟩
 have hX:OW w w1 wb N B pv qv sv vv kv (.slice ld L.length f) kv W/\P1 w1 (.slice ld L.length f) L/\Blk w1 w.heap.size (Jl (mk B)) 66:=by
  rw[<-au];refine⟨aw.aA (N0 _ _),(hL.kept ks (ai _ _ hL)).aA (N0 _ _),?_⟩;have:=Blk.aR (w.setCell ⟨wb,4,none⟩ (.int .i64 B)) (Jl (mk B)) 66;simpa using this
 have HX:=Hd hX;have an:=Hd2 bp hN;clear hb hK hM hL hN hX aw ks b0 ai bp az;go_enter Tryz.func20,Tryz.ntmps20;go_wp2_with fail
 try rw[au]
 have ba:=Hd au;clear au c4 f4 b1
 go_loopg[5] L.length (fun G iv wr=>∃i:Nat,iv=.int .i64 i/\i<=L.length/\G=L.length-i/\OW w wr wb N B pv qv sv vv kv (.slice ld L.length f) kv W/\P1 wr (.slice ld L.length f) (List.replicate i (mk B)++L.drop i)/\Blk wr w.heap.size (Jl (mk B)) 66)
 case atStart=>
  have h9:=HX.out;rw[<-ba.out]at h9;exact⟨0,rfl,yC _,rfl,h9.1,by rw[List.replicate_zero,yU,xG];exact h9.2.1,h9.2.2⟩
 case round=>
  obtain⟨i,rfl,hi,rfl,hO,hT,a8⟩:=hrel
  by_cases c7:i<L.length
  ·have e1:decide ((i:Int)<(L.length:Int))=true:=by simp;omega
   rcases b8 with h9|⟨lg,rfl⟩
   ·omega
   have i0:(0:Int)<=(i:Int):=by omega
   have i1:(i:Int)<(L.length:Int):=by omega
   have x0:wr.cell? ⟨w.heap.size,0,none⟩=some (.int .i64 (-9)):=a8.cell 0;have x1:wr.cell? ⟨w.heap.size,1,none⟩=some (.int .i64 B):=a8.cell 1;have x2:wr.cell? ⟨w.heap.size,2,none⟩=some (.int .i64 0):=a8.cell 2;have ay:(List.replicate i (mk B)++L.drop i).length=L.length:=by simp;omega
   have aq:=hT;unfold P1 at aq;rw[ay]at aq;obtain⟨_,c2,c0,e',⟨e9,h9⟩|⟨g',cur,e9,hB,h3,h4,h5,h6⟩⟩:=P0 aq
   ·cases e';cases e9
   cases e';cases e9;have a0:∃v,wr.cell? ⟨lg,i*3,none⟩=some v:=by rw[hB.cell,Array.getElem?_eq_getElem (by rw[h5];omega)];exact⟨_,rfl⟩
   have a1:∃v,wr.cell? ⟨lg,i*3+1,none⟩=some v:=by rw[hB.cell,Array.getElem?_eq_getElem (by rw[h5];omega)];exact⟨_,rfl⟩
   have a2:∃v,wr.cell? ⟨lg,i*3+2,none⟩=some v:=by rw[hB.cell,Array.getElem?_eq_getElem (by rw[h5];omega)];exact⟨_,rfl⟩
   obtain⟨v0,a0⟩:=a0;obtain⟨v1,a1⟩:=a1;obtain⟨v2,a2⟩:=a2;have f0:=hB.frozen (i*3);have f1:=hB.frozen (i*3+1);have f2:=hB.frozen (i*3+2);have bl:i<f:=by omega
   have b9:=(Yt wr lg (i*3) (mk B)).bK (ex':=fun b=>(Value.slice (some ⟨lg,0,none⟩) L.length f).ownBlock=some b) (fun b _ e=>by rw[e];rfl);have D:=hO.jQ hT (fun b e=>⟨.inl e,an.out.2 b e⟩) b9 (fun u hu=>hu.put hB (by rw[h5];omega));have bg:P1 (ZT wr lg (i*3) (mk B)) (.slice (some ⟨lg,0,none⟩) L.length f) (List.replicate (i+1) (mk B)++L.drop (i+1)):=by
    refine UQ hT bl (mk B) _ (by simp;omega) (fun j hj=>?_)
    by_cases c5:j<i
    ·rw[if_neg (by omega),List.getElem_append_left (by simp;omega),List.getElem_append_left (by simp;omega)];simp
    ·by_cases bo:j=i
     ·subst bo;rw[if_pos rfl,List.getElem_append_left (by simp)];simp
     ·rw[if_neg bo,List.getElem_append_right (by simp;omega),List.getElem_append_right (by simp;omega)];simp only[List.getElem_drop,yD]
      congr 1
      omega
   have bx:w.heap.size≠lg:=fun e=>by have:=an.out.1 lg rfl;omega
   have bi:=a8.kept b9 (fun e=>bx (zE e).symm);have HH:=Hd3 D bg bi;have zl:=hB.lt;clear hO hT a8 ay aq hB h3 h4 h5 h6 b9 D bg bi;go_wp2_with fail
   go_roundg (L.length- (i+1))
   case measure=>omega
   case rel=>exact⟨i+1,by go_num,by omega,rfl,HH.out⟩
  ·have e1:decide ((i:Int)<(L.length:Int))=false:=by simp;omega
   have ei:i=L.length:=by omega
   subst ei;rw[List.drop_length,yP]at hT;have bd:O9 wr (.slice ld L.length f) B:=⟨_,hT,by omega⟩;have HH:=Hd4 hO hT a8 bd;clear hO hT a8 bd HX ba;obtain⟨kd,U,rfl,_⟩:=HH.out.1.row.aV;have k5:wr.cell? ⟨wb,5,none⟩=some (.slice kd W.length U):=HH.out.1.aO.cell 5;have k4:wr.cell? ⟨wb,4,none⟩=some (.int .i64 B):=HH.out.1.aO.cell 4;have kf:=HH.out.1.aO.frozen 5;have zx:=HH.out.1.aO.lt;obtain⟨W2,X⟩:∃W2:World,(wr.alloc (.cells #[.slice ld L.length f,.int .i64 B] 64)).drew=W2:=⟨_,rfl⟩;have a9:Bw wr W2:=by rw[<-X];exact T1 (N0 _ _)
   have D:=HH.out.1.aA a9;have ad:some wb≠(Value.slice kd W.length U).ownBlock:=fun e=>L0 D.row D.aO (by decide) e.symm
   have ab:Hid (W2.ownsRow 0 64 2 (.slice kd W.length U) W.length (Hdx W)):=Hd D.row;have CW:Hid (W2.cell? ⟨wb,5,none⟩=some (.slice kd W.length U)):=Hd (D.aO.cell 5);have FW:=Hd (D.aO.frozen 5);have aa:Hid (W2.heap[wr.heap.size]?=some (.cells #[.slice ld L.length f,.int .i64 B] 64 (0,0))):=Hd (by rw[<-X];exact heap_alloc_new wr (.cells #[.slice ld L.length f,.int .i64 B] 64));have a5:Hid (wb<W2.heap.size):=Hd D.aO.lt;have a4:Hid (W2.heap.size=wr.heap.size+1):=Hd (by rw[<-X];simp);have ak:Hid (W.length+1<=maxLen):=Hd (by unfold maxLen;omega);have am:Hid ((W.length+1)*32<=140737488355328):=Hd (by omega);have V:=Hd2 D a9;rw[<-X]at ab CW FW aa a5 a4 V;clear X a9 D;go_upto_region 6 with fail
   go_cut[] (fun wx=>∃aj,OW w wx wb N B pv qv sv vv (.slice kd W.length U) (.slice ld L.length f) aj (W++ [(.slice ld L.length f,B)])/\P1 wx (.slice ld L.length f) (List.replicate L.length (mk B))/\Blk wx w.heap.size (Jl (mk B)) 66)
   case first=>
    go_region_law ((refine step_append_lies _ (by rfl) _ _ _ (by rfl) 0 64 ii _ 2 32 Tryz.underlying34 bn br bs bt rfl (by omega) (.slice kd W.length U) W.length (Hdx W) (by rfl) ab.out ⟨wr.heap.size,0,none⟩ 1 1 [.slice ld L.length f,.int .i64 B] (by rfl) (by rfl) (World.news_of_block (cs:=#[.slice ld L.length f,.int .i64 B]) (t:=64) (fr:=(0,0)) aa.out) (by simp[Value.oneCell']) (Nat.one_pos) ak.out am.out (yC _) (wr.heap.size+1) a4.out ?_;intro gg ag w8 Y h a6 bq;have bu:=(h.cell_far ⟨wb,5,none⟩ a5.out ad).trans CW.out;have bv:=(h.frozen_far ⟨wb,5,none⟩ a5.out ad).trans FW.out))
    all_goals
     have b2:=Hd3 Y (D8 (O:=fun b=>(Value.slice kd W.length U).ownBlock=some b) h (fun k e=>e)) a6;clear Y h a6;go_wp2_with fail;go_meet;obtain⟨g1,g2,g3⟩:=b2.out;have r1:Sa w8 (.slice (some ⟨gg,0,none⟩) (W.length+1) ag) (W++ [(.slice ld L.length f,B)]):=by unfold Sa;rw[Mi];simpa[Hdx]using g1
     obtain⟨q1,q2,q3⟩:=V.out.1.lH (HH.out.2.2.2.kept (C0.aM (ex:=fun _=>False) V.out.2) (fun _ _ e=>e)) r1 g2 (fun b hb=>by
      cases(zE hb:gg=b);rcases g3 with e|e
      ·exact .inl e
      ·exact .inr (by have:=a4.out;omega))
     exact⟨_,q1,q2 _ _ (HH.out.2.1.aA V.out.2),q3 _ _ (HH.out.2.2.1.aA V.out.2)⟩
   case rest=>
    obtain⟨c9,be,bh,bj⟩:=hcut;have HC:=Hd3 be bh bj;clear be bh bj V a4 a5 aa FW CW ab k5 k4 kf zx ad ak am HH;go_wp2_with fail
    go_loopg[6,7] 3 (fun G gv iv wr=>∃(k:Nat) (aj:Value) (af:List (Value×Nat)),iv=.int .i64 k/\k<=3/\G=3-k/\af.length=W.length+1+k/\OW w wr wb N B pv qv sv vv (.slice kd W.length U) (.slice ld L.length f) aj af/\P1 wr gv (List.replicate (L.length+k) (mk B))/\Blk wr w.heap.size (Jl (mk B)) 66/\∀b,gv.ownBlock=some b->(Value.slice ld L.length f).ownBlock=some b\/w.heap.size<b)
    case atStart=>exact⟨0,_,_,rfl,by omega,rfl,by simp,HC.out.1,HC.out.2.1,HC.out.2.2,fun b hb=>.inl hb⟩
    case round=>
     obtain⟨k,ca,K,rfl,c6,rfl,ar,ah,ao,ac,b6⟩:=hrel
     by_cases c1:k<3
     ·have e2:decide ((k:Int)<3)=true:=by simp;omega
      have x0:wr.cell? ⟨w.heap.size,0,none⟩=some (.int .i64 (-9)):=ac.cell 0;have x1:wr.cell? ⟨w.heap.size,1,none⟩=some (.int .i64 B):=ac.cell 1;have x2:wr.cell? ⟨w.heap.size,2,none⟩=some (.int .i64 0):=ac.cell 2;obtain⟨gd,bb,bm,_⟩:=ao.aV;rw[yD]at bm;subst bm;have Z:=Hd4 ah ao ac b6;have c8:=ah.kept.size;clear ah ao ac b6;go_wp2_with(at_builtin;(refine NM (n:=B) (m:=L.length+k) (xb:=wr.heap.size) (va:=.slice gd (L.length+k) bb) (by rfl) _ _ (by rfl) (by rfl) (by rfl) (Blk.aR _ _ _) (Z.out.2.1.aA (N0 _ _)) (by omega) (fun b=>(Value.slice ld L.length f).ownBlock=some b\/w.heap.size<b) (fun b hb=>.inr (by simp at hb;omega)) Z.out.2.2.2 ?_));intro v6 w6 ap bf b4 bc;have b5:=(Z.out.1.aA (N0 wr (.cells (Jl (mk B)) 66))).jQ (Z.out.2.1.aA (N0 _ _)) (fun b e=>by
       rcases Z.out.2.2.2 b e with q|q
       ·exact⟨.inl q,an.out.2 b q⟩
       ·exact⟨.inr (by omega),by omega⟩) b4 bc
      have bk:=(Z.out.2.2.1.aA (N0 wr (.cells (Jl (mk B)) 66))).kept b4 (fun e=>by
       rcases Z.out.2.2.2 _ e with q|q
       ·have:=an.out.1 _ q;omega
       ·omega)
      obtain⟨a7,J,ax,_⟩:=ap.aV;rw[yD]at ax;subst ax;have av:O9 w6 (.slice a7 (L.length+k+1) J) B:=⟨_,ap,by omega⟩;obtain⟨ae,M,rfl,_⟩:=b5.row.aV;have a3:=Hd5 b5 ap bk av bf;clear b5 ap bk av bf b4 bc Z x0 x1 x2;have k5:w6.cell? ⟨wb,5,none⟩=some (.slice ae K.length M):=a3.out.1.aO.cell 5;have k4:w6.cell? ⟨wb,4,none⟩=some (.int .i64 B):=a3.out.1.aO.cell 4;have kf:=a3.out.1.aO.frozen 5;have zx:=a3.out.1.aO.lt;obtain⟨W2,X⟩:∃W2:World,(w6.alloc (.cells #[.slice a7 (L.length+k+1) J,.int .i64 B] 64)).drew=W2:=⟨_,rfl⟩;have a9:Bw w6 W2:=by rw[<-X];exact T1 (N0 _ _)
      have D:=a3.out.1.aA a9;have ad:some wb≠(Value.slice ae K.length M).ownBlock:=fun e=>L0 D.row D.aO (by decide) e.symm
      have ab:Hid (W2.ownsRow 0 64 2 (.slice ae K.length M) K.length (Hdx K)):=Hd D.row;have CW:Hid (W2.cell? ⟨wb,5,none⟩=some (.slice ae K.length M)):=Hd (D.aO.cell 5);have FW:=Hd (D.aO.frozen 5);have aa:Hid (W2.heap[w6.heap.size]?=some (.cells #[.slice a7 (L.length+k+1) J,.int .i64 B] 64 (0,0))):=Hd (by rw[<-X];exact heap_alloc_new w6 (.cells #[.slice a7 (L.length+k+1) J,.int .i64 B] 64));have a5:Hid (wb<W2.heap.size):=Hd D.aO.lt;have a4:Hid (W2.heap.size=w6.heap.size+1):=Hd (by rw[<-X];simp);have ak:Hid (K.length+1<=maxLen):=Hd (by unfold maxLen;omega);have am:Hid ((K.length+1)*32<=140737488355328):=Hd (by omega);have V:=Hd2 D a9;rw[<-X]at ab CW FW aa a5 a4 V;have b3:=Hd ar;clear X a9 D ar;go_upto_region 12 with fail
      go_region_law ((refine step_append_lies _ (by rfl) _ _ _ (by rfl) 0 64 ii _ 2 32 Tryz.underlying34 bn br bs bt rfl (by omega) (.slice ae K.length M) K.length (Hdx K) (by rfl) ab.out ⟨w6.heap.size,0,none⟩ 1 1 [.slice a7 (L.length+k+1) J,.int .i64 B] (by rfl) (by rfl) (World.news_of_block (cs:=#[.slice a7 (L.length+k+1) J,.int .i64 B]) (t:=64) (fr:=(0,0)) aa.out) (by simp[Value.oneCell']) (Nat.one_pos) ak.out am.out (yC _) (w6.heap.size+1) a4.out ?_;intro gg ag w8 Y h a6 bq;have bu:=(h.cell_far ⟨wb,5,none⟩ a5.out ad).trans CW.out;have bv:=(h.frozen_far ⟨wb,5,none⟩ a5.out ad).trans FW.out))
      all_goals
       have b2:=Hd3 Y (D8 (O:=fun b=>(Value.slice ae K.length M).ownBlock=some b) h (fun k e=>e)) a6;clear Y h a6;go_wp2_with fail
       go_roundg (3- (k+1))
       case measure=>omega
       case rel=>
        obtain⟨g1,g2,g3⟩:=b2.out;have r1:Sa w8 (.slice (some ⟨gg,0,none⟩) (K.length+1) ag) (K++ [(.slice a7 (L.length+k+1) J,B)]):=by unfold Sa;rw[Mi];simpa[Hdx]using g1
        obtain⟨q1,q2,q3⟩:=V.out.1.lH (a3.out.2.2.2.1.kept (C0.aM (ex:=fun _=>False) V.out.2) (fun _ _ e=>e)) r1 g2 (fun b hb=>by
         cases(zE hb:gg=b);rcases g3 with e|e
         ·exact .inl e
         ·exact .inr (by have:=a4.out;omega))
        exact⟨k+1,_,_,by go_num,by omega,rfl,by have:=b3.out;simp;omega,q1,q2 _ _ (a3.out.2.1.aA V.out.2),q3 _ _ (a3.out.2.2.1.aA V.out.2),a3.out.2.2.2.2⟩
     ·have e2:decide ((k:Int)<3)=false:=by simp;omega
      have Z:=Hd ah;have b3:=Hd ar;clear ah ao ac b6 ar;go_wp2_with fail
      go_end0
      have:=b3.out;exact⟨rfl,_,_,by omega,Z.out⟩
theorem KP(wb n:Nat)(pv qv sv vv kv:Value)(h:List (Value×Nat))(w:World)(hb:Blk w wb (Zp pv qv sv vv n kv) 36)(hK:Sa w kv h)(hM:∀p∈h,O9 w p.1 p.2)(hk:h.length<=4000000):
  Calls Tryz.prog 9 #[.pointer (some ⟨wb,0,none⟩)] w fun e w'=>e=.returned (.bool true)/\Bw w w':=by
 have HW:=Hd3 hb hK hM;obtain⟨kd,K,rfl,X⟩:=hK.aV;clear hb hK hM;go_enter Tryz.func9,Tryz.ntmps9;go_wp2_with fail
 go_loopg[3] h.length (fun G iv wr=>∃i:Nat,iv=.int .i64 i/\i<=h.length/\G=h.length-i/\Bw w wr)
 case atStart=>exact⟨0,rfl,by omega,rfl,Below.refl _ _⟩
 case round=>
  obtain⟨i,rfl,hi,rfl,hB⟩:=hrel;have W:=HW.out.1.aA hB;have c5:wr.cell? ⟨wb,5,none⟩=some (.slice kd h.length K):=W.cell 5;have zb:=W.lt;have HB:=Hd hB;clear hB W
  by_cases a4:i<h.length
  ·have e1:decide ((i:Int)<(h.length:Int))=true:=by simp;omega
   rcases X with h9|⟨kg,rfl⟩
   ·omega
   obtain⟨wo,rfl⟩:∃wo:World,wo=wr:=⟨_,rfl⟩;obtain⟨f,hT,a6⟩:=HW.out.2.2 h[i] (zG a4);obtain⟨Z,g1⟩:=Vy h i a4;obtain⟨ld,a7,Y,J⟩:=hT.aV;rw[yD]at Y J;rw[Y]at Z hT;have HT:=Hd hT;have HG:=Hd2 Z g1;generalize h[i].2=nn at HG HT;have i0:(0:Int)<=(i:Int):=by omega
   have i1:(i:Int)<(h.length:Int):=by omega
   clear hT Z g1 Y;go_wp2_with fail
   go_loopg[4] f (fun G jv wr=>∃j:Nat,jv=.int .i64 j/\j<=f/\G=f-j/\Bw w wr)
   case atStart=>exact⟨0,rfl,by omega,rfl,HB.out⟩
   case round=>
    obtain⟨j,rfl,hj,rfl,B⟩:=hrel;have M:Sa wr (.slice (some ⟨kg,0,none⟩) h.length K) h:=HW.out.2.1.kept (C0.aM (ex:=fun _=>False) B) (fun _ _ e=>e);have U:=HW.out.1.aA B;have d5:wr.cell? ⟨wb,5,none⟩=some (.slice (some ⟨kg,0,none⟩) h.length K):=U.cell 5;have m0:=(Y0 M (i*2) (by omega)).trans HG.out.1;have m1:=(Y0 M (i*2+1) (by omega)).trans HG.out.2;have a8:=U.lt
    by_cases a5:j<f
    ·have e2:decide ((j:Int)<(f:Int))=true:=by simp;omega
     rcases J with h9|⟨lg,rfl⟩
     ·omega
     have a3:=HT.out.aA B;obtain⟨Z,g1,g2⟩:=Vd (List.replicate f (mk nn)) j (by simpa using a5);have D:=a3;unfold P1 at D;rw[yD]at D;have a0:=(Y0 D (j*3) (by omega)).trans Z;have a1:=(Y0 D (j*3+1) (by omega)).trans g1;have a2:=(Y0 D (j*3+2) (by omega)).trans g2;rw[List.getElem_replicate]at a0 a1 a2;simp only at a0 a1 a2;have j0:(0:Int)<=(j:Int):=by omega
     have j1:(j:Int)<(f:Int):=by omega
     have V:=Hd B;clear Z g1 g2 a3 D M U B;go_wp2_with fail;go_quiet(fail);go_wp2_with fail
     go_roundg (f- (j+1))
     case measure=>omega
     case rel=>exact⟨j+1,by go_num,by omega,rfl,C2 V.out _⟩
    ·have e2:decide ((j:Int)<(f:Int))=false:=by simp;omega
     have V:=Hd B;clear M U B;go_wp2_with fail
     go_roundg (h.length- (i+1))
     case measure=>omega
     case rel=>exact⟨i+1,by go_num,by omega,rfl,V.out⟩
  ·have e1:decide ((i:Int)<(h.length:Int))=false:=by simp;omega
   go_wp2_with fail;go_ret;exact⟨rfl,HB.out⟩
end Go.Proofs.YtcckhngbdoiikabGreat
