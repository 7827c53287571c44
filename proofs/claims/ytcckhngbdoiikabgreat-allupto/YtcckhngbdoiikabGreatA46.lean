import Derived.Test.YtcckhngbdoiikabGreatA44
import Derived.Test.YtcckhngbdoiikabGreatA45
set_option maxRecDepth 20000
set_option maxHeartbeats 12800000
set_option linter.unusedVariables false
namespace Go.Proofs.YtcckhngbdoiikabGreat
open Go.RowKit Go.Deep
abbrev chT:List TypeId:=[36,66,64,55,27,155,157]
def Ch(Ts:List TypeId)(w:World)(b:Nat):Prop:=∃c t,Blk w b c t/\t∈Ts
def Kt(Ts:List TypeId)(w w':World):Prop:=C0 (Ch Ts w) w w'
abbrev Ig(w w':World):Prop:=Kt chT w w'
section
variable{Ts Ts':List TypeId}{w w' w'':World}
theorem Ch.not{b:Nat}{c:Array Value}{t:TypeId}(h:Blk w b c t)(D:t∉Ts):¬Ch Ts w b:=fun⟨G,J,f,B⟩=>D (by rw[(h.bX f).2];exact B)
theorem Ch.gE{e:TypeId}{f n:Nat}{v:Value}{J:List Value}(h:w.ownsRow 0 e f v n J)(G:e∈Ts){b:Nat}(B:v.ownBlock=some b):Ch Ts w b:=by
 obtain⟨_,_,_,rfl,⟨rfl,_⟩|⟨g,cur,rfl,D,_⟩⟩:=P0 h
 ·cases B
 ·cases(zE B:g=b);exact⟨_,_,D,G⟩
theorem Kt.of{ex:Nat->Prop}(k:C0 ex w w')(h:∀b,b<w.heap.size->ex b->Ch Ts w b):Kt Ts w w':=k.bK h
theorem Kt.aA(k:Bw w w'):Kt Ts w w':=C0.aM k
theorem Kt.mono(k:Kt Ts w w')(h:∀t∈Ts,t∈Ts'):Kt Ts' w w':=k.bK (fun b _ ⟨c,t,f,B⟩=>⟨c,t,f,h t B⟩)
theorem Kt.trans(h:Kt Ts w w')(k:Kt Ts w' w''):Kt Ts w w'':=by
 refine C0.trans h k (fun i J G=>?_)
 by_cases B:Ch Ts w i
 ·exact B
 ·obtain⟨c,t,f,D⟩:=G;refine⟨c,t,?_,D⟩;unfold Blk at f⊢;rw[<-h.block i J B];exact f
theorem Kt.aO{b:Nat}{c:Array Value}{t:TypeId}(k:Kt Ts w w')(h:Blk w b c t)(f:t∉Ts):Blk w' b c t:=h.kept k (Ch.not h f)
theorem Kt.own{e:TypeId}{f n:Nat}{v:Value}{J:List Value}(k:Kt Ts w w')(h:w.ownsRow 0 e f v n J)(G:e∉Ts):∀b,v.ownBlock=some b->¬Ch Ts w b:=fun b B=>by
 obtain⟨_,_,_,rfl,⟨rfl,_⟩|⟨g,cur,rfl,D,_⟩⟩:=P0 h
 ·cases B
 ·cases(zE B:g=b);exact Ch.not D G
theorem Kt.row{e:TypeId}{f n:Nat}{v:Value}{B:List Value}(k:Kt Ts w w')(h:w.ownsRow 0 e f v n B)(D:e∉Ts):w'.ownsRow 0 e f v n B:=K0 h k (k.own h D)
theorem W7.bG{D:Nat}{kd:Nat->Nat}{g:B0}(h:W7 w D kd g)(k:Ig w w'):W7 w' D kd g:=by
 obtain⟨B,f,G,J,X,K,U,V⟩:=h;exact⟨B,f,k.aO G (by decide),⟨k.row J (by decide),X,k.row K (by decide),U,fun i v W=>k.row (V i v W) (by decide)⟩⟩
theorem P5.bG{D:Nat}{kd:Nat->Nat}{g:B0}{B:List ByteArray}(h:P5 w D kd g B)(k:Ig w w'):P5 w' D kd g B:=by
 obtain⟨W,U,pv,Z,Y,X,J,G,f,V⟩:=h.x;exact⟨⟨W,U,pv,Z,Y,X,J,G,f.kept k (Ch.not f.aO (by decide)) (k.own f.txt (by decide)) (k.own f.bP.row (by decide)) (k.own f.of (by decide)) (fun p K=>Ch.not (f.bP.aX p K).1 (by decide)),V⟩,h.tl,h.bE,h.nl⟩
end
structure LxP(w:World)(xb yb:Nat)(kd:Nat->Nat)(g:B0)(TX:List ByteArray):Prop where
 eQ:W7 w xb kd g
 eV:P5 w yb kd g TX
 txt:Dq kd g TX
 fS:K8 kd g
 R:∃R,N3 R=some (kd,g)
theorem LxP.bG{w w':World}{xb B:Nat}{kd:Nat->Nat}{g:B0}{f:List ByteArray}(h:LxP w xb B kd g f)(k:Ig w w'):LxP w' xb B kd g f:=⟨h.eQ.bG k,h.eV.bG k,h.txt,h.fS,h.R⟩
def Co(w:World)(v:Value):Prop:=v=.pointer none\/∃f xb h kd g B,v=.pointer (some ⟨f,0,none⟩)/\Blk w f #[.pointer (some ⟨xb,0,none⟩),.pointer (some ⟨h,0,none⟩)] 43/\LxP w xb h kd g B
theorem Co.bG{w w':World}{v:Value}(h:Co w v)(k:Ig w w'):Co w' v:=by
 rcases h with h|⟨J,xb,K,kd,g,f,B,D,G⟩
 ·exact .inl h
 ·exact .inr ⟨J,xb,K,kd,g,f,B,k.aO D (by decide),G.bG k⟩
structure Bwx(w:World)(a b M:Nat)(xb yb:Nat)(kd:Nat->Nat)(g:B0)(TX:List ByteArray)(x:F3)(r:Sh)(W:ByteArray)(aK:Nat)(aU:Bool):Prop where
 bC:I4 w a xb x aU
 gH:O7 w b yb r W aK aU
 lx:LxP w xb yb kd g TX
 kG:aU=false->Nb kd g r W aK x
 bd:(V1 kd g).aT=true
 sz:W.size<=M
 e:r.e<=1099511627776
 l:r.l<=61
 rm:r.e+(W.size-r.l)<=1099511627776
def Xh(w:World)(a b M:Nat):Prop:=∃xb D kd g f x r W h B,Bwx w a b M xb D kd g f x r W h B
theorem Bwx.kept{w w':World}{a b M xb G:Nat}{kd:Nat->Nat}{g:B0}{f:List ByteArray}{x:F3}{r:Sh}{W:ByteArray}{B:Nat}{D:Bool}{ex:Nat->Prop}(h:Bwx w a b M xb G kd g f x r W B D)(k:C0 ex w w')(U:Ig w w')(J:¬ex a)(K:¬ex b):Bwx w' a b M xb G kd g f x r W B D:=
 ⟨Blk.kept h.bC k J,Blk.kept h.gH k K,h.lx.bG U,h.kG,h.bd,h.sz,h.e,h.l,h.rm⟩
theorem Xh.kept{w w':World}{a b M:Nat}{ex:Nat->Prop}(h:Xh w a b M)(k:C0 ex w w')(K:Ig w w')(G:¬ex a)(J:¬ex b):Xh w' a b M:=by
 obtain⟨xb,U,kd,g,f,x,r,W,B,D,q⟩:=h;exact⟨xb,U,kd,g,f,x,r,W,B,D,q.kept k K G J⟩
theorem Xh.kt{w w':World}{a b M:Nat}{Ts:List TypeId}(h:Xh w a b M)(k:Kt Ts w w')(K:∀t∈Ts,t∈chT)(G:155∉Ts)(J:157∉Ts):Xh w' a b M:=by
 obtain⟨xb,U,kd,g,f,x,r,W,B,D,q⟩:=h;exact⟨xb,U,kd,g,f,x,r,W,B,D,q.kept k (k.mono K) (Ch.not q.bC G) (Ch.not q.gH J)⟩
theorem O9.kt{w w':World}{v:Value}{n:Nat}{Ts:List TypeId}(h:O9 w v n)(k:Kt Ts w w')(B:66∉Ts):O9 w' v n:=by
 obtain⟨f,D,G⟩:=h;exact⟨f,k.row D B,G⟩
theorem Xh.mono{w:World}{a b M M':Nat}(h:Xh w a b M)(G:M<=M'):Xh w a b M':=by
 obtain⟨xb,J,kd,g,f,x,r,W,B,D,q⟩:=h;exact⟨xb,J,kd,g,f,x,r,W,B,D,q.bC,q.gH,q.lx,q.kG,q.bd,yI q.sz G,q.e,q.l,q.rm⟩
theorem Xh.blks{w:World}{a b M:Nat}(h:Xh w a b M):(∃c,Blk w a c 155)/\∃c,Blk w b c 157:=by
 obtain⟨xb,G,kd,g,f,x,r,W,B,D,q⟩:=h;exact⟨⟨_,q.bC⟩,_,q.gH⟩
def Gl:List (Nat×Nat)->List Value
 | []=>[]
 |p::r=>.pointer (some ⟨p.1,0,none⟩)::.pointer (some ⟨p.2,0,none⟩)::Gl r
theorem Ms:∀l m:List (Nat×Nat),Gl (l++m)=Gl l++Gl m
 | [],m=>rfl
 |s::r,m=>by simp[Gl,Ms r m]
theorem IE:∀(l:List (Nat×Nat)) (k:Nat) (h:k<l.length),(Gl l)[k*2]?=some (.pointer (some ⟨l[k].1,0,none⟩))/\(Gl l)[k*2+1]?=some (.pointer (some ⟨l[k].2,0,none⟩))
 |s::r,0,_=>⟨rfl,rfl⟩
 |s::r,k+1,h=>by
  have f:=IE r k (by simpa using h);rw[show(k+1)*2=k*2+1+1 by omega];simp only[Gl,List.getElem?_cons_succ,List.getElem_cons_succ];exact f
def CM(w:World)(v:Value)(l:List (Nat×Nat)):Prop:=w.ownsRow 0 55 2 v l.length (Gl l)
def Sj:List F3->List Value
 | []=>[]
 |x::r=>.int .i64 (x.bC:Int)::.int .i64 (x.en:Int)::.int .i64 x.aB::.int .i64 x.aQ::.string x.tail::Sj r
theorem Fs:∀l m:List F3,Sj (l++m)=Sj l++Sj m
 | [],m=>rfl
 |s::r,m=>by simp[Sj,Fs r m]
theorem YD:∀(l:List F3) (k:Nat) (h:k<l.length),(Sj l)[k*5]?=some (.int .i64 (l[k].bC:Int))/\(Sj l)[k*5+1]?=some (.int .i64 (l[k].en:Int))/\(Sj l)[k*5+2]?=some (.int .i64 l[k].aB)/\(Sj l)[k*5+3]?=some (.int .i64 l[k].aQ)/\(Sj l)[k*5+4]?=some (.string l[k].tail)
 |s::r,0,_=>⟨rfl,rfl,rfl,rfl,rfl⟩
 |s::r,k+1,h=>by
  have f:=YD r k (by simpa using h);rw[show(k+1)*5=k*5+1+1+1+1+1 by omega];simp only[Sj,List.getElem?_cons_succ,List.getElem_cons_succ];exact f
def AM(w:World)(v:Value)(l:List F3):Prop:=w.ownsRow 0 27 5 v l.length (Sj l)
structure KN(N:Nat)(w w':World):Prop where
 c:Ig w w'
 n:C0 (fun i=>N<=i) w w'
theorem KN.aA{N:Nat}{w w':World}(k:Bw w w'):KN N w w':=⟨Kt.aA k,C0.aM k⟩
theorem KN.trans{N:Nat}{w w' w'':World}(h:KN N w w')(k:KN N w' w''):KN N w w'':=⟨h.c.trans k.c,h.n.trans' k.n⟩
structure WLo(N wb:Nat)(sv vv kv:Value)(SS:List (Nat×Nat)):Prop where
 b:N<=wb
 s:∀b,sv.ownBlock=some b->N<=b
 v:∀b,vv.ownBlock=some b->N<=b
 k:∀b,kv.ownBlock=some b->N<=b
 e:∀p∈SS,N<=p.1/\N<=p.2
structure WI(N:Nat)(w:World)(wb:Nat)(pv qv sv vv:Value)(n:Nat)(kv:Value)(SS:List (Nat×Nat))(VS:List F3)(KS:List (Value×Nat))(M c:Nat):Prop where
 aO:Blk w wb (Zp pv qv sv vv n kv) 36
 p:Co w pv
 q:Co w qv
 ss:CM w sv SS
 aX:∀s∈SS,Xh w s.1 s.2 M
 na:(SS.map Prod.fst).Nodup
 nb:(SS.map Prod.snd).Nodup
 vs:AM w vv VS
 dJ:∀v∈VS,v.tail.size<=61
 ks:Sa w kv KS
 cH:∀p∈KS,O9 w p.1 p.2
 n1:n<=c
 n2:SS.length<=c
 n3:VS.length<=c
 n4:KS.length<=4*c
 lo:WLo N wb sv vv kv SS
section
variable{w w':World}{N wb n M c:Nat}{pv qv sv vv kv:Value}{SS:List (Nat×Nat)}{VS:List F3}{KS:List (Value×Nat)}
theorem WI.mono(h:WI N w wb pv qv sv vv n kv SS VS KS M c){M' f:Nat}(B:M<=M')(G:c<=f):WI N w wb pv qv sv vv n kv SS VS KS M' f:=
 ⟨h.aO,h.p,h.q,h.ss,fun s D=>(h.aX s D).mono B,h.na,h.nb,h.vs,h.dJ,h.ks,h.cH,by have:=h.n1;omega,by have:=h.n2;omega,by have:=h.n3;omega,by have:=h.n4;omega,h.lo⟩
theorem WI.aA(h:WI N w wb pv qv sv vv n kv SS VS KS M c)(k:Bw w w'):WI N w' wb pv qv sv vv n kv SS VS KS M c:=
 have f:C0 (fun _=>False) w w':=C0.aM k;have B:Ig w w':=Kt.aA k
 ⟨h.aO.aA k,h.p.bG B,h.q.bG B,K0 h.ss f (fun _ _ e=>e),fun s G=>(h.aX s G).kept f B (fun e=>e) (fun e=>e),h.na,h.nb,K0 h.vs f (fun _ _ e=>e),h.dJ,K0 h.ks f (fun _ _ e=>e),fun p D=>(h.cH p D).kept f (fun _ _ e=>e),h.n1,h.n2,h.n3,h.n4,h.lo⟩
theorem WI.lL(h:WI N w wb pv qv sv vv n kv SS VS KS M c){a b:Nat}{w8:World}{sv':Value}(hs:Xh w a b M)(Z:a∉SS.map Prod.fst)(K:b∉SS.map Prod.snd)(X:CM w8 sv' (SS++ [(a,b)]))(Y:C0 (fun i=>sv.ownBlock=some i) w w8)(r3:∀i,sv'.ownBlock=some i->N<=i)(l1:N<=a)(l2:N<=b):
  KN N w (w8.setCell ⟨wb,2,none⟩ sv')/\WI N (w8.setCell ⟨wb,2,none⟩ sv') wb pv qv sv' vv n kv (SS++ [(a,b)]) VS KS M (c+1):=by
 have D:=h.aO.kept Y (L0 h.ss h.aO (by decide));have W:C0 (fun i=>sv.ownBlock=some i\/i=wb) w (w8.setCell ⟨wb,2,none⟩ sv'):=(Y.bK (fun _ _ e=>.inl e)).setCell (p:=⟨wb,2,none⟩) (fun _=>.inr rfl) _;have J:Kt [36,55] w (w8.setCell ⟨wb,2,none⟩ sv'):=Kt.of W (fun i _ e=>by
  rcases e with e|e
  ·exact Ch.gE h.ss (by decide) e
  ·subst e;exact⟨_,_,h.aO,by decide⟩)
 have V:Ig w (w8.setCell ⟨wb,2,none⟩ sv'):=J.mono (by decide);refine⟨⟨V,W.bK (fun i _ e=>by
  rcases e with e|e
  ·exact h.lo.s i e
  ·rw[e];exact h.lo.b)⟩,⟨D.set 2 sv',h.p.bG V,h.q.bG V,K0 X (C0.setCell (ex:=fun b=>b=wb) (p:=⟨wb,2,none⟩) (C0.refl _ _) (fun _=>rfl) _) (fun b K e=>by subst e;exact L0 X D (by decide) K),fun s B=>?_,?_,?_,J.row h.vs (by decide),h.dJ,J.row h.ks (by decide),fun p f=>(h.cH p f).kt J (by decide),by have:=h.n1;omega,by have:=h.n2;simp;omega,by have:=h.n3;omega,by have:=h.n4;omega,⟨h.lo.b,r3,h.lo.v,h.lo.k,fun p f=>?_⟩⟩⟩
 ·have:Xh w s.1 s.2 M:=by
   rcases zQ.1 B with B|B
   ·exact h.aX s B
   ·rw[zJ]at B;subst B;exact hs
  exact this.kt J (by decide) (by decide) (by decide)
 ·rw[zV,List.nodup_append];exact⟨h.na,by simp,fun x U y G e=>by simp at G;subst G;subst e;exact Z U⟩
 ·rw[zV,List.nodup_append];exact⟨h.nb,by simp,fun x U y G e=>by simp at G;subst G;subst e;exact K U⟩
 ·rcases zQ.1 f with f|f
  ·exact h.lo.e p f
  ·rw[zJ]at f;subst f;exact⟨l1,l2⟩
end
theorem Tryz.iE:(Tryz.prog.info? 55).map (fun i=>(i.zero,i.size,i.bytes))=some (some (.agg #[.pointer none,.pointer none]),2,16):=by kernel_rfl
theorem Yl(wb:Nat)(f:Int)(w:World):Calls Tryz.prog 42 #[.pointer (some ⟨wb,0,none⟩),.pointer none,.int .i64 f,.pointer none,.int .i64 f] w fun e w'=>e=.returned (.bool true)/\w'=w:=by
 have D:(f !=f)=false:=by simp
 go_enter Tryz.func42,Tryz.ntmps42;go_wp2_with fail;refine(Db f w).mono ?_;rintro h B ⟨rfl,rfl⟩;go_wp2_with fail;refine(Db f B).mono ?_;rintro h G ⟨rfl,rfl⟩;go_wp2_with fail;go_ret;exact⟨rfl,rfl⟩
theorem II{N:Nat}(wb n M c a b:Nat)(pv qv sv vv kv:Value)(D:List (Nat×Nat))(VS:List F3)(KS:List (Value×Nat))(w:World)(h:WI N w wb pv qv sv vv n kv D VS KS M c)(hs:Xh w a b M)(ha:a∉D.map Prod.fst)(hb:b∉D.map Prod.snd)(hc:c<=1000000)(l1:N<=a)(l2:N<=b):
  Calls Tryz.prog 42 #[.pointer (some ⟨wb,0,none⟩),.pointer (some ⟨a,0,none⟩),.int .i64 0,.pointer (some ⟨b,0,none⟩),.int .i64 0] w fun e w'=>e=.returned (.bool true)/\KN N w w'/\∃sv' a8,WI N w' wb pv qv sv' vv n kv a8 VS KS M (c+1):=by
 obtain⟨ii,a9,ab,ac,ad⟩:=info_parts Tryz.iE;obtain⟨_,sd,B,aa,_⟩:=P0 h.ss;subst aa;have ah:=h.n2;have c2:w.cell? ⟨wb,2,none⟩=some (.slice sd D.length B):=h.aO.cell 2;have zb:=h.aO.lt;obtain⟨W,G⟩:∃W:World,w.alloc (.cells #[.pointer (some ⟨a,0,none⟩),.pointer (some ⟨b,0,none⟩)] 55)=W:=⟨_,rfl⟩;have J:Bw w W:=by rw[<-G];exact N0 _ _
 have K:=h.aA J;have a5:Xh W a b M:=hs.kept (C0.aM (ex:=fun _=>False) J) (Kt.aA J) (fun e=>e) (fun e=>e);have a1:W.heap[w.heap.size]?=some (.cells #[.pointer (some ⟨a,0,none⟩),.pointer (some ⟨b,0,none⟩)] 55 (0,0)):=by rw[<-G];exact heap_alloc_new w (.cells #[.pointer (some ⟨a,0,none⟩),.pointer (some ⟨b,0,none⟩)] 55)
 have a2:W.heap.size=w.heap.size+1:=by rw[<-G];simp
 have a4:some wb≠(Value.slice sd D.length B).ownBlock:=fun e=>L0 K.ss K.aO (by decide) e.symm
 have HH:=Hd5 K a5 J ha hb;have a7:=Hd G;have Y:Hid (W.ownsRow 0 55 2 (.slice sd D.length B) D.length (Gl D)):=Hd K.ss;have CW:=Hd (K.aO.cell 2);have FW:=Hd (K.aO.frozen 2);have V:=Hd K.aO.lt;have X:=Hd a1;have Z:=Hd a2;rw[<-G]at Y CW FW X V Z;have HL:=Hd2 l1 l2;clear G J K a5 a1 a2 h hs ha hb l1 l2;go_enter Tryz.func42,Tryz.ntmps42;go_wp2_with fail;refine(Db 0 w).mono ?_;rintro e1 w1 ⟨rfl,rfl⟩;go_wp2_with fail;refine(Db 0 w1).mono ?_;rintro e1 w2 ⟨rfl,rfl⟩;go_wp2_with(at_builtin;(refine wpList_append_lies _ (by rfl) _ _ _ (by rfl) 0 55 ii _ 2 16 Tryz.underlying32 a9 ab ac ad rfl (by omega) (.slice sd D.length B) D.length (Gl D) (by rfl) Y.out ⟨w2.heap.size,0,none⟩ 1 1 [.pointer (some ⟨a,0,none⟩),.pointer (some ⟨b,0,none⟩)] (by rfl) (by rfl) (World.news_of_block (cs:=#[.pointer (some ⟨a,0,none⟩),.pointer (some ⟨b,0,none⟩)]) (t:=55) (fr:=(0,0)) X.out) (by simp[Value.oneCell']) (Nat.one_pos) (by unfold maxLen;omega) (by omega) (yC _) (w2.heap.size+1) Z.out ?_));intro gg a0 w8 U f a3 ag;have ae:=(f.cell_far ⟨wb,2,none⟩ V.out a4).trans CW.out;have af:=(f.frozen_far ⟨wb,2,none⟩ V.out a4).trans FW.out;have a6:=Hd3 U (D8 (O:=fun b=>(Value.slice sd D.length B).ownBlock=some b) f (fun k e=>e)) a3;clear U f a3;go_wp2_with fail;go_ret;obtain⟨g1,g2,g3⟩:=a6.out;obtain⟨q1,q2,q3,q4,q5⟩:=HH.out;rw[a7.out]at g2;obtain⟨k1,k2⟩:=q1.lL (sv':=.slice (some ⟨gg,0,none⟩) (D.length+1) a0) q2 q4 q5 (by unfold CM;rw[Ms];simpa[Gl]using g1) g2 (fun i hi=>by
  cases(zE hi:gg=i);rcases g3 with e|e
  ·exact q1.lo.s _ e
  ·have:=q1.lo.b;have:=q1.aO.lt;have:=q3.size;omega) HL.out.1 HL.out.2
 exact⟨rfl,(KN.aA q3).trans k1,_,_,k2⟩
theorem XL(x:Int):I64 (IntKind.i64.wrap x):=by
 rw[Go.IntWalk.i64_left];unfold I64 wrap64;omega
theorem JP(x:F3)(a e r s:Int)(v t:ByteArray)(w:World)(hz:x.tail.size+v.size+t.size<=4000000):
  Calls Tryz.prog 43 #[Es x,Ai a e r s v,.string t] w fun z w'=>Bw w w'/\∃f h r' B,I64 f/\I64 h/\z=.returned (Ai f h r' B (x.tail++v++t)):=by
 obtain⟨K,M,U,V,D⟩:=x;obtain⟨f,G⟩:∃f,IntKind.i64.wrap ((K:Int)+a)=f:=⟨_,rfl⟩;obtain⟨h,J⟩:∃h,IntKind.i64.wrap ((M:Int)+e)=h:=⟨_,rfl⟩;obtain⟨r',W⟩:∃r',IntKind.i64.wrap (U+r)=r':=⟨_,rfl⟩;obtain⟨B,X⟩:∃B,IntKind.i64.wrap (V+s)=B:=⟨_,rfl⟩;have a0:wrap64 ((K:Int)+a)=f:=by rw[<-G,Go.IntWalk.i64_left]
 have a1:wrap64 ((M:Int)+e)=h:=by rw[<-J,Go.IntWalk.i64_left]
 have a2:wrap64 (U+r)=r':=by rw[<-W,Go.IntWalk.i64_left]
 have a3:wrap64 (V+s)=B:=by rw[<-X,Go.IntWalk.i64_left]
 have Y:Hid (I64 f/\I64 h):=Hd ⟨by rw[<-G];exact XL _,by rw[<-J];exact XL _⟩;simp only at hz;have z1:(D++v).size=D.size+v.size:=zN;have z2:(D++v++t).size=D.size+v.size+t.size:=by rw[zN,z1]
 go_enter Tryz.func43,Tryz.ntmps43;have Z:Blk (((w.alloc (.cells (Pg ⟨K,M,U,V,D⟩) 27)).alloc (.cells (La a e r s v) 27)).alloc (.cells (La f h r' B (D++v++t)) 27)) (w.heap.size+1+1) (La f h r' B (D++v++t)) 27:=by
  have:=Blk.aR ((w.alloc (.cells (Pg ⟨K,M,U,V,D⟩) 27)).alloc (.cells (La a e r s v) 27)) (La f h r' B (D++v++t)) 27;simpa using this
 have HB:=Hd Z;clear Z;go_wp2_with fail;exact bodyPost_ret (results_cell_row Tryz.results43 _ _ (w.heap.size+1+1) 27 (La f h r' B (D++v++t)) (0,0) _ rfl HB.out Tryz.underlying27 rfl Tryz.bZ) rfl ⟨(F6 w _ _).alloc (by simp;omega) _,f,h,r',B,Y.out.1,Y.out.2,rfl⟩
def Nr(c:Int)(n:Nat):Nat:=(if c<0 then(-(c+1)).toNat else c.toNat) % n
theorem RQ(c:Int){n:Nat}(f:0<n):Nr c n<n:=Nat.mod_lt _ f
theorem LK(c:Int)(n:Nat)(w:World)(M:I64 c)(V:0<n)(U:n<=10000000):
  Calls Tryz.prog 15 #[.int .i64 c,.int .i64 n] w fun z w'=>z=.returned (.int .i64 (Nr c n:Int))/\w'=w:=by
 unfold I64 at M;have W:((n:Int)==0)=false:=by rw[beq_eq_false_iff_ne];omega
 obtain⟨B,f⟩:∃B,Nr c n=B:=⟨_,rfl⟩;rw[f];have J:=Hd f;clear f
 by_cases h:c<0
 ·have K:decide (c<0)=true:=by simp[h]
  go_enter Tryz.func15,Tryz.ntmps15;go_wp2_with fail;go_ret;obtain⟨m,G⟩:∃m:Nat,c+1= -(m:Int):=⟨(-(c+1)).toNat,by omega⟩;have D:B=m % n:=by rw[<-J.out];unfold Nr;rw[if_pos h,show(-(c+1)).toNat=m by omega]
  subst D;refine⟨?_,rfl⟩;show Ending.returned (Value.int IntKind.i64 (-(c+1).tmod (n:Int)))=_;rw[G,Int.neg_tmod,Int.neg_neg,<-Int.ofNat_tmod]
 ·have K:decide (c<0)=false:=by simp;omega
  go_enter Tryz.func15,Tryz.ntmps15;go_wp2_with fail;go_ret;obtain⟨m,G⟩:∃m:Nat,c=(m:Int):=⟨c.toNat,by omega⟩;have D:B=m % n:=by rw[<-J.out];unfold Nr;rw[if_neg (by omega),show c.toNat=m by omega]
  subst D;refine⟨?_,rfl⟩;show Ending.returned (Value.int IntKind.i64 (c % (n:Int)))=_;rw[G,Int.natCast_emod]
theorem FU{R:E0}{kd:Nat->Nat}{g:B0}(U:N3 R=some (kd,g)):M0 g 0= -1:=by
 obtain⟨h,G,rfl,rfl⟩:=R8 U;obtain⟨B,V,X⟩:=S8 G;obtain⟨W,D⟩:=VA G;have f:0<(G0 h).aB.length:=V;have J:=J7 (E5 B) f (F8 _) (B9 _ f);have K:=Ip (E5 B) f (F8 _) (B9 _ f) (Yc (E5 B) f) [] 0 0 (by simp) J.1.bE.1 f (by rw[J.1.bE.2];rfl);have M:Z4 (E1 (G0 h) (U1 (G0 h))) 0=h.aB.getD 0 0:=K;unfold M0;split
 ·rfl
 ·refine M.trans ?_;rw[D.aB 0 (by have:=D.rl;omega),D.zero.2,SD]
structure ScT where
 bB:Int
 l:Int
 t:Int
 s:ByteArray
 a:Int
 e:Int
 r:Int
 st:Int
 v:ByteArray
abbrev scV(o:ScT):Value:=.agg #[.int .i64 o.bB,.int .i64 o.l,.int .i64 o.t,.string o.s,.int .i64 o.a,.int .i64 o.e,.int .i64 o.r,.int .i64 o.st,.string o.v]
abbrev scC(o:ScT):Array Value:=#[.int .i64 o.bB,.int .i64 o.l,.int .i64 o.t,.string o.s,.int .i64 o.a,.int .i64 o.e,.int .i64 o.r,.int .i64 o.st,.string o.v]
structure ScT.ok(o:ScT):Prop where
 t:I64 o.t
 l:I64 o.l
 a:I64 o.a
 e:I64 o.e
def ScT.size(o:ScT):Nat:=o.s.size+o.v.size
theorem SvP.jT{R:E0}{kd:Nat->Nat}{g:B0}{D:List ByteArray}(X:N3 R=some (kd,g))(hf:K8 kd g)(Z:Dq kd g D){f B st:Nat}{r:Int}{t:ByteArray}(h:SvP kd g (f:Int) (B:Int) r (st:Int) t)(Y:st<D.length):
  Nb kd g ⟨f,B,D[st].size⟩ (D[st]++t) 0 ⟨f,B,r,(st:Int),t⟩:=by
 have h1:=h.jB;have U:=h.name;have V:=h.gW;unfold Nl at h1;unfold Cq at U;unfold Kl at V;have hG:=I5 X;have J:Zh kd g (M1 D[st] 0) 0=(st:Int):=by
  rw[<-EL hG D[st] 0,Vu];exact Z.run st Y
 refine JB (x:=⟨f,B,r,(st:Int),t⟩) hf.ok ⟨by show f<=B;omega,?_,?_⟩ (FU X) J (fun e=>?_)
 ·rcases U with⟨K,G,M⟩|⟨K,G,M⟩
  ·exact .inl ⟨by show B=f;omega,G,M⟩
  ·exact .inr ⟨by show f<B;omega,M,by show r≠ -1;rw[<-M];exact G⟩
 ·rcases V with⟨K,G⟩|⟨K,G⟩
  ·exact .inl ⟨by show B=f;omega,K⟩
  ·refine .inr ⟨?_,G⟩;show f<B\/t.size≠0
   by_cases W:t.size=0
   ·left
    have:¬(B:Int)=f:=fun e=>K ⟨W,e⟩
    omega
   ·exact .inr W
 ·have:st=0:=by have e':(st:Int)=0:=e;omega
  subst this;exact Z.zero Y
section
variable{w:World}{N wb n M c a b:Nat}{pv qv sv vv kv:Value}{SS:List (Nat×Nat)}{VS:List F3}{KS:List (Value×Nat)}
theorem WI.fresh(h:WI N w wb pv qv sv vv n kv SS VS KS M c):(∀k,w.heap.size<=k->k∉SS.map Prod.fst)/\∀k,w.heap.size<=k->k∉SS.map Prod.snd:=by
 constructor
 ·intro k G B;obtain⟨s,D,rfl⟩:=List.mem_map.1 B;obtain⟨⟨c,f⟩,_⟩:=(h.aX s D).blks;have:=f.lt;omega
 ·intro k G B;obtain⟨s,D,rfl⟩:=List.mem_map.1 B;obtain⟨_,c,f⟩:=(h.aX s D).blks;have:=f.lt;omega
end
theorem Nx{N:Nat}(wb pb xb yb n M c:Nat)(kd:Nat->Nat)(g:B0)(TX:List ByteArray)(pv qv sv vv kv:Value)(SS:List (Nat×Nat))(VS:List F3)(KS:List (Value×Nat))(o:ScT)(w:World)(h:WI N w wb pv qv sv vv n kv SS VS KS M c)(hp:Blk w pb #[.pointer (some ⟨xb,0,none⟩),.pointer (some ⟨yb,0,none⟩)] 43)(Z:LxP w xb yb kd g TX)(hc:c<=1000000)(hk:o.bB=1):
  Calls Tryz.prog 16 #[.pointer (some ⟨wb,0,none⟩),.pointer (some ⟨pb,0,none⟩),scV o] w fun e w'=>e=.returned (.bool true)/\KN N w w'/\∃sv' a5,WI N w' wb pv qv sv' vv n kv a5 VS KS M (c+1):=by
 obtain⟨R,hR⟩:=Z.R;have a3:Hid (∀W,Bw w W->Calls Tryz.prog 40 #[.pointer (some ⟨xb,0,none⟩)] W fun e w'=>Bw W w'/\
   (((V1 kd g).aT=false/\e=.returned (.tuple #[.pointer none,.int .i64 4]))\/((V1 kd g).aT=true/\∃J,e=.returned (.tuple #[.pointer (some ⟨J,0,none⟩),.int .i64 0])/\I4 w' J xb (X6 0) false/\W.heap.size<=J))):=Hd fun W k=>KX xb kd g W (Z.eQ.aA k) Z.fS
 have a4:Hid (∀W,Bw w W->Calls Tryz.prog 41 #[.pointer (some ⟨yb,0,none⟩)] W fun e w'=>Bw W w'/\
   (((V1 kd g).aT=false/\e=.returned (.tuple #[.pointer none,.int .i64 4]))\/((V1 kd g).aT=true/\∃J,e=.returned (.tuple #[.pointer (some ⟨J,0,none⟩),.int .i64 0])/\O7 w' J yb ⟨0,0,0⟩ ⟨#[]⟩ 0 false/\W.heap.size<=J))):=Hd fun W k=>UK yb kd g TX W (Z.eV.aA k) hR Z.fS
 have U:=Hd3 h hp Z;clear h Z hR;obtain⟨ok,ol,ot,os,oa,oe,ag,ah,ov⟩:=o;simp only at hk;subst hk;have c0:w.cell? ⟨pb,0,none⟩=some (.pointer (some ⟨xb,0,none⟩)):=hp.cell 0;have zp:=hp.lt;clear hp;go_enter Tryz.func16,Tryz.ntmps16;go_wp2_with fail;refine(a3.out _ (N0 _ _)).mono ?_;rintro z w1 ⟨a9,ae⟩;have D:Bw w w1:=(N0 _ _).trans (a9.mono (by simp));have c1:w1.cell? ⟨pb,1,none⟩=some (.pointer (some ⟨yb,0,none⟩)):=(U.out.2.1.aA D).cell 1;have ai:=(U.out.2.1.aA D).lt;clear c0 a9 a3;rcases ae with⟨K,rfl⟩|⟨K,J,rfl,hS,ac⟩
 ·have B:=Hd2 D K;clear D K;go_wp2_with fail;refine(a4.out _ B.out.1).mono ?_;rintro z w2 ⟨G,a0⟩;rcases a0 with⟨f,rfl⟩|⟨f,_⟩
  ·have V:=Hd (B.out.1.trans (G.mono B.out.1.size));clear G f;go_wp2_with fail;refine(Yl wb 4 w2).mono ?_;rintro z w3 ⟨rfl,rfl⟩;go_wp2_with fail;go_ret;exact⟨rfl,KN.aA V.out,_,_,(U.out.1.aA V.out).mono (zD _) (by omega)⟩
  ·rw[B.out.2]at f;cases f
 ·have B:=Hd4 D K hS ac;clear D K hS ac;go_wp2_with fail;refine(a4.out _ B.out.1).mono ?_;rintro z w2 ⟨G,a0⟩;rcases a0 with⟨f,_⟩|⟨f,a1,rfl,a6,ad⟩
  ·rw[B.out.2.1]at f;cases f
  ·have X:=B.out.1.trans (G.mono B.out.1.size);have a7:=U.out.1.aA X;have ab:Xh w2 J a1 M:=⟨xb,yb,kd,g,TX,X6 0,⟨0,0,0⟩,⟨#[]⟩,0,false,Blk.aA B.out.2.2.1 G,a6,U.out.2.2.bG (Kt.aA X),fun _=>Nb.start kd g,f,yC _,yC _,yC _,by decide⟩;have Y:=U.out.1.fresh;have ae:=B.out.1.size;have af:w.heap.size<=J:=by have:=B.out.2.2.2;simp at this;omega
   have a2:=Hd (II wb n M c J a1 pv qv sv vv kv SS VS KS w2 a7 ab (Y.1 J af) (Y.2 a1 (by omega)) hc (by have:=U.out.1.lo.b;have:=U.out.1.aO.lt;omega) (by have:=U.out.1.lo.b;have:=U.out.1.aO.lt;omega));have V:=Hd X;clear G f a6 ad a7 ab Y X;go_wp2_with fail;refine a2.out.mono ?_;rintro z w3 ⟨rfl,aa,sv',a5,a8⟩;have H3:=Hd2 aa a8;clear aa a8 a2;go_wp2_with fail;go_ret;exact⟨rfl,KN.trans (KN.aA V.out) H3.out.1,_,_,H3.out.2⟩
section
variable{w w' w8:World}{N wb n M c:Nat}{pv qv sv vv kv:Value}{SS:List (Nat×Nat)}{VS:List F3}{KS:List (Value×Nat)}
theorem WI.iK(h:WI N w wb pv qv sv vv n kv SS VS KS M c):∀p∈KS,∀b,p.1.ownBlock=some b->b<w.heap.size:=fun p B b f=>by
 obtain⟨D,G,_⟩:=h.cH p B;exact SX G f
theorem ID{α β:Type}{f:α->β}{l:List α}(h:(l.map f).Nodup){s:α}(J:s∈l){k:Nat}(D:k<l.length)(e:f s=f l[k]):s=l[k]:=by
 obtain⟨i,B,rfl⟩:=List.getElem_of_mem J;have G:(l.map f)[i]'(by simpa using B)=(l.map f)[k]'(by simpa using D):=by simpa using e
 have:=(List.getElem_inj h).1 G;subst this;rfl
theorem WI.lV(h:WI N w wb pv qv sv vv n kv SS VS KS M c){k:Nat}(J:k<SS.length){M':Nat}(X:M<=M')(W:C0 (fun i=>i=SS[k].1\/i=SS[k].2) w w')(Z:Ig w w'->Xh w' SS[k].1 SS[k].2 M'):KN N w w'/\WI N w' wb pv qv sv vv n kv SS VS KS M' c:=by
 obtain⟨⟨c1,B⟩,c2,D⟩:=(h.aX _ (zG J)).blks;have f:Kt [155,157] w w':=Kt.of W (fun i _ e=>by
  rcases e with rfl|rfl
  ·exact⟨_,_,B,by decide⟩
  ·exact⟨_,_,D,by decide⟩)
 have G:Ig w w':=f.mono (by decide);refine⟨⟨G,W.bK (fun i _ e=>by
  have:=h.lo.e _ (zG J);rcases e with rfl|rfl
  ·exact this.1
  ·exact this.2)⟩,f.aO h.aO (by decide),h.p.bG G,h.q.bG G,f.row h.ss (by decide),fun s K=>?_,h.na,h.nb,f.row h.vs (by decide),h.dJ,f.row h.ks (by decide),fun p Y=>(h.cH p Y).kt f (by decide),h.n1,h.n2,h.n3,h.n4,h.lo⟩
 by_cases e:s=SS[k]
 ·rw[e];exact Z G
 ·obtain⟨⟨d1,U⟩,d2,V⟩:=(h.aX s K).blks;refine((h.aX s K).mono X).kept W G (fun q=>?_) (fun q=>?_)
  ·rcases q with q|q
   ·exact e (ID h.na K J q)
   ·exact U.ne D (by decide) q
  ·rcases q with q|q
   ·exact V.ne B (by decide) q
   ·exact e (ID h.nb K J q)
theorem WI.kW(h:WI N w wb pv qv sv vv n kv SS VS KS M c){W:Nat}{U D:Value}{L:List V4}{f:List (Value×Nat)}(Y:P1 w U L)(B:OW w w' wb W (n+1) pv qv sv vv kv U D f)(V:f.length=KS.length+4)(J:∀b,U.ownBlock=some b->N<=b):KN N w w'/\WI N w' wb pv qv sv vv (n+1) D SS VS f M (c+1):=by
 have G:Kt [36,64,66] w w':=Kt.of B.kept (fun i _ e=>by
  rcases e with rfl|e|e
  ·exact⟨_,_,h.aO,by decide⟩
  ·exact Ch.gE h.ks (by decide) e
  ·exact Ch.gE Y (by decide) e)
 have K:Ig w w':=G.mono (by decide);exact⟨⟨K,B.kept.bK (fun i _ e=>by
  rcases e with rfl|e|e
  ·exact h.lo.b
  ·exact h.lo.k i e
  ·exact J i e)⟩,B.aO,h.p.bG K,h.q.bG K,G.row h.ss (by decide),fun s hq=>(h.aX s hq).kt G (by decide) (by decide) (by decide),h.na,h.nb,G.row h.vs (by decide),h.dJ,B.row,fun p Z=>(B.cH p Z).1,by have:=h.n1;omega,by have:=h.n2;omega,by have:=h.n3;omega,by have:=h.n4;omega,h.lo.b,h.lo.s,h.lo.v,fun b X=>by
  rcases B.ko b X with e|e
  ·exact h.lo.k b e
  ·have:=h.lo.b;have:=h.aO.lt;omega,h.lo.e⟩
theorem WI.iQ(h:WI N w wb pv qv sv vv n kv SS VS KS M c){x:F3}{vv':Value}(Y:x.tail.size<=61)(K:AM w8 vv' (VS++ [x]))(U:C0 (fun i=>vv.ownBlock=some i) w w8)(Z:∀i,vv'.ownBlock=some i->N<=i):
  KN N w (w8.setCell ⟨wb,3,none⟩ vv')/\WI N (w8.setCell ⟨wb,3,none⟩ vv') wb pv qv sv vv' n kv SS (VS++ [x]) KS M (c+1):=by
 have B:=h.aO.kept U (L0 h.vs h.aO (by decide));have J:C0 (fun i=>vv.ownBlock=some i\/i=wb) w (w8.setCell ⟨wb,3,none⟩ vv'):=(U.bK (fun _ _ e=>.inl e)).setCell (p:=⟨wb,3,none⟩) (fun _=>.inr rfl) _;have D:Kt [36,27] w (w8.setCell ⟨wb,3,none⟩ vv'):=Kt.of J (fun i _ e=>by
  rcases e with e|e
  ·exact Ch.gE h.vs (by decide) e
  ·subst e;exact⟨_,_,h.aO,by decide⟩)
 have G:Ig w (w8.setCell ⟨wb,3,none⟩ vv'):=D.mono (by decide);refine⟨⟨G,J.bK (fun i _ e=>by
  rcases e with e|e
  ·exact h.lo.v i e
  ·rw[e];exact h.lo.b)⟩,B.set 3 vv',h.p.bG G,h.q.bG G,D.row h.ss (by decide),fun s X=>(h.aX s X).kt D (by decide) (by decide) (by decide),h.na,h.nb,K0 K (C0.setCell (ex:=fun b=>b=wb) (p:=⟨wb,3,none⟩) (C0.refl _ _) (fun _=>rfl) _) (fun b V e=>by subst e;exact L0 K B (by decide) V),fun v f=>?_,D.row h.ks (by decide),fun p W=>(h.cH p W).kt D (by decide),by have:=h.n1;omega,by have:=h.n2;omega,by have:=h.n3;simp;omega,by have:=h.n4;omega,h.lo.b,h.lo.s,Z,h.lo.k,h.lo.e⟩
 rcases zQ.1 f with f|f
 ·exact h.dJ v f
 ·rw[zJ]at f;subst f;exact Y
end
theorem Nb.dJ{R:E0}{kd:Nat->Nat}{g:B0}(J:N3 R=some (kd,g))(D:K8 kd g)(f:(V1 kd g).aT=true){r:Sh}{W:ByteArray}{G:Nat}{x:F3}(h:Nb kd g r W G x):x.tail.size<=61:=by
 obtain⟨p,v,K,B,U,rfl,V,X⟩:=h.ex;have:=BP J D f B.aK.st B.lC;have:=YI D;show v.tail.size<=61;omega
def Uc:List ScT->Nat
 | []=>0
 |o::r=>o.size+Uc r
theorem Tk:∀l m:List ScT,Uc (l++m)=Uc l+Uc m
 | [],m=>by simp[Uc]
 |o::r,m=>by
  have:=Tk r m;show o.size+Uc (r++m)=o.size+Uc r+Uc m;omega
theorem UO{l:List ScT}{i:Nat}(h:i<l.length):Uc (l.take (i+1))=Uc (l.take i)+l[i].size:=by
 rw[List.take_add_one,zF h,Tk];show _+(l[i].size+0)=_;omega
theorem MB(l:List ScT)(i:Nat):Uc (l.take i)<=Uc l:=by
 have:=Tk (l.take i) (l.drop i);rw[yV]at this;omega
structure VV(w:World)(b off:Nat)(o:ScT):Prop where
 c0:w.cell? ⟨b,off,none⟩=some (.int .i64 o.bB)
 c1:w.cell? ⟨b,off+1,none⟩=some (.int .i64 o.l)
 c2:w.cell? ⟨b,off+2,none⟩=some (.int .i64 o.t)
 c3:w.cell? ⟨b,off+3,none⟩=some (.string o.s)
 c4:w.cell? ⟨b,off+4,none⟩=some (.int .i64 o.a)
 c5:w.cell? ⟨b,off+5,none⟩=some (.int .i64 o.e)
 c6:w.cell? ⟨b,off+6,none⟩=some (.int .i64 o.r)
 c7:w.cell? ⟨b,off+7,none⟩=some (.int .i64 o.st)
 c8:w.cell? ⟨b,off+8,none⟩=some (.string o.v)
theorem VV.kept{w w':World}{b f:Nat}{o:ScT}(h:VV w b f o)(k:∀p:Addr,p.block=b->w'.cell? p=w.cell? p):VV w' b f o:=
 ⟨(k _ rfl).trans h.c0,(k _ rfl).trans h.c1,(k _ rfl).trans h.c2,(k _ rfl).trans h.c3,(k _ rfl).trans h.c4,(k _ rfl).trans h.c5,(k _ rfl).trans h.c6,(k _ rfl).trans h.c7,(k _ rfl).trans h.c8⟩
structure Lu(w:World)(v:Value)(ops:List ScT):Prop where
 aV:∃(ad:Option Addr) (cap:Nat),v=.slice ad ops.length cap/\(ops.length=0\/∃b off,ad=some ⟨b,off,none⟩/\b<w.heap.size/\∀j,(h:j<ops.length)->VV w b (off+j*9) ops[j])
 ok:∀o∈ops,o.ok
 bU:ops.length<=900000
 sz:Uc ops<=1048576
theorem Lu.aA{w w':World}{v:Value}{f:List ScT}(h:Lu w v f)(k:Bw w w'):Lu w' v f:=by
 obtain⟨⟨K,B,rfl,D⟩,U,V,W⟩:=h;refine⟨⟨K,B,rfl,?_⟩,U,V,W⟩;rcases D with M|⟨b,J,rfl,G,D⟩
 ·exact .inl M
 ·exact .inr ⟨b,J,rfl,by have:=k.size;omega,fun j X=>(D j X).kept (fun p Y=>k.cell (by rw[Y];exact G))⟩
theorem DZ{α:Type}{l:List α}{a b k:Nat}(B:k<l.length)(f:a<=k)(h:k<b):l[k]∈(l.drop a).take (b-a):=by
 rw[List.mem_iff_getElem];exact⟨k-a,by simp;omega,by simp only[List.getElem_take,List.getElem_drop];congr 1;omega⟩
theorem CX{α:Type}{l:List α}{a k:Nat}(h:k<l.length)(f:a<=k):l[k]∈l.drop a:=by
 rw[List.mem_iff_getElem];exact⟨k-a,by simp;omega,by simp only[List.getElem_drop];congr 1;omega⟩
theorem EP(w:World):P1 w (.slice none 0 0) []:=World.ownsRow_nil _ _ _ _
structure NY(w w2:World)(a b M':Nat)(lv mv:Value)(L:List V4):Prop where
 l:P1 w2 lv L
 m:P1 w2 mv L
 aR:∀i,lv.ownBlock=some i->w.heap.size<=i
 bU:L.length<=4000000
 kept:C0 (fun i=>i=a\/i=b) w w2
 lX:Ig w w2->Xh w2 a b M'
section
variable{w w1 w2:World}{a b M xb yb:Nat}{kd:Nat->Nat}{g:B0}{TX:List ByteArray}{x:F3}{r:Sh}{W:ByteArray}{aK:Nat}{aU:Bool}
theorem Bwx.ne(h:Bwx w a b M xb yb kd g TX x r W aK aU):a≠b:=Blk.ne h.bC h.gH (by decide)
theorem Bwx.dD(h:Bwx w a b M xb yb kd g TX x r W aK aU)(k:C0 (fun i=>i=a) w w1):Ig w w1:=Kt.of k (fun i _ e=>by subst e;exact⟨_,_,h.bC,by decide⟩)
theorem Bwx.still(h:Bwx w a b M xb yb kd g TX x r W aK aU){M':Nat}(f:M<=M')(k:Bw w w1):NY w w1 a b M' (.slice none 0 0) (.slice none 0 0) []:=
 ⟨EP _,EP _,fun i e=>(by cases e),by simp,C0.aM k,fun B=>Xh.mono (Xh.kept ⟨xb,yb,kd,g,TX,x,r,W,aK,aU,h⟩ (C0.aM (ex:=fun _=>False) k) B (fun e=>e) (fun e=>e)) f⟩
theorem QF(h:Bwx w a b M xb yb kd g TX x r W aK aU)(s:ByteArray)(hM:M+s.size<=3000000){M':Nat}(a1:M+s.size<=M'):
  Calls Tryz.prog 34 #[.pointer (some ⟨a,0,none⟩),.string s] w fun e w1=>∃K f L,e=.returned (.tuple #[K,.int .i64 f])/\C0 (fun i=>i=a) w w1/\
   Calls Tryz.prog 35 #[.pointer (some ⟨b,0,none⟩),.string s] w1 fun e' w2=>∃U,e'=.returned (.tuple #[U,.int .i64 f])/\NY w w2 a b M' K U L:=by
 obtain⟨R,hR⟩:=h.lx.R;have J:=h.ne;have a3:=h.sz;have a2:=h.rm;cases aU with
 |true=>
  refine(SF a xb x s w h.bC).mono ?_;rintro e w1 ⟨rfl,rfl⟩;refine⟨_,_,[],rfl,C0.refl _ _,(Dw b yb r W aK s w1 h.gH).mono ?_⟩;rintro e w2 ⟨rfl,rfl⟩;exact⟨_,rfl,h.still (by omega) (Below.refl _ _)⟩
 |false=>
  have hb:=h.kG rfl;obtain⟨z1,z2,z3,z4⟩:=hb.eK;obtain⟨f1,f2,f3,f4,f5⟩:=hb.gY h.lx.fS.ok s;have hv:∀k,(hk:k<(U4 kd g (W++s)).length)->aK<=k->k<Yb kd g (W++s)->r.On (U4 kd g (W++s))[k].fr/\r.l<=(U4 kd g (W++s))[k].tt:=fun k hk q1 q2=>f5 _ (DZ hk q1 q2)
  have Z:(W++s).size=W.size+s.size:=zN
  by_cases G:x.en+x.tail.size+s.size<=1099511627776
  ·refine(LW a xb kd g x s w h.bC h.lx.eQ h.lx.fS.ok (by omega) G z1).mono ?_;rintro e w1 ⟨K,rfl,t1,t2,t3,V⟩;have a0:=h.dD V;have B:O7 w1 b yb r W aK false:=Blk.kept h.gH V (fun e=>J e.symm);refine⟨_,_,(onF kd g x s false).1,rfl,V,(Hv b yb kd g TX r W aK s w1 B (h.lx.eV.bG a0) hR h.lx.fS.ok (by omega) h.e h.l z3 f2 f3 hv).mono ?_⟩;rintro e w2 (⟨q,_⟩|⟨q1,U,rfl,u1,u2,u3,u4⟩)
   ·omega
   ·have kk:C0 (fun i=>i=a\/i=b) w w2:=(V.bK (fun _ _ e=>.inl e)).trans u4 (fun _ _ e=>.inr e);have Y:P1 w2 K (onF kd g x s false).1:=t1.kept u4 (fun i hi e=>by have:=t2 i hi;have:=Blk.lt h.gH;omega);refine⟨U,rfl,⟨Y,by rw[f4];exact u1,t2,?_,kk,fun kc=>?_⟩⟩
    ·rw[f4];have:=Eh (kd:=kd) (g:=g) (s:=W++s);simp;omega
    ·refine⟨xb,yb,kd,g,TX,(onF kd g x s false).2,r,W++s,Yb kd g (W++s),false,Blk.kept t3 u4 J,u3,h.lx.bG kc,fun _=>f1,h.bd,by omega,h.e,h.l,by omega⟩
  ·refine(RF a xb x s w h.bC (by omega) (by omega) (by omega)).mono ?_;rintro e w1 ⟨rfl,D⟩;have B:O7 w1 b yb r W aK false:=Blk.aA h.gH D;refine⟨_,_,[],rfl,C0.aM D,(Hv b yb kd g TX r W aK s w1 B (h.lx.eV.bG (Kt.aA D)) hR h.lx.fS.ok (by omega) h.e h.l z3 f2 f3 hv).mono ?_⟩;rintro e w2 (⟨q,rfl,X⟩|⟨q1,_⟩)
   ·exact⟨_,rfl,h.still (by omega) (D.trans (X.mono D.size))⟩
   ·omega
theorem QA(h:Bwx w a b M xb yb kd g TX x r W aK aU)(hM:M<=3000000){M':Nat}(U:M<=M'):
  Calls Tryz.prog 36 #[.pointer (some ⟨a,0,none⟩)] w fun e w1=>∃G f L,e=.returned (.tuple #[G,.int .i64 f])/\C0 (fun i=>i=a) w w1/\
   Calls Tryz.prog 37 #[.pointer (some ⟨b,0,none⟩)] w1 fun e' w2=>∃J,e'=.returned (.tuple #[J,.int .i64 f])/\NY w w2 a b M' G J L:=by
 have D:=h.ne;have a1:=h.sz;have a0:=h.rm;cases aU with
 |true=>
  refine(RA a xb x w h.bC).mono ?_;rintro e w1 ⟨rfl,rfl⟩;refine⟨_,_,[],rfl,C0.refl _ _,(Zt b yb r W aK w1 h.gH).mono ?_⟩;rintro e w2 ⟨rfl,rfl⟩;exact⟨_,rfl,h.still U (Below.refl _ _)⟩
 |false=>
  have Z:=h.kG rfl;obtain⟨z1,z2,z3,z4⟩:=Z.eK;obtain⟨f1,Y,f3⟩:=Z.eZ;refine(TR a xb kd g x w h.bC h.lx.eQ h.lx.fS.ok (by omega) (by omega) z1).mono ?_;rintro e w1 ⟨G,rfl,t1,t2,t3,K⟩;have X:=h.dD K;have B:O7 w1 b yb r W aK false:=Blk.kept h.gH K (fun e=>D e.symm);refine⟨_,_,(onF kd g x ⟨#[]⟩ true).1,rfl,K,(NG b yb kd g TX r W aK w1 B (h.lx.eV.bG X) (by omega) h.e h.l f1 (fun k hk q1 _=>f3 _ (CX hk q1))).mono ?_⟩;rintro e w2 ⟨J,rfl,u1,u2,u3,u4⟩;have kk:C0 (fun i=>i=a\/i=b) w w2:=(K.bK (fun _ _ e=>.inl e)).trans u4 (fun _ _ e=>.inr e);have V:P1 w2 G (onF kd g x ⟨#[]⟩ true).1:=t1.kept u4 (fun i hi e=>by have:=t2 i hi;have:=Blk.lt h.gH;omega);refine⟨J,rfl,⟨V,by rw[Y];exact u1,t2,?_,kk,fun kc=>?_⟩⟩
  ·rw[Y];have:=Eh (kd:=kd) (g:=g) (s:=W);simp;omega
  ·exact⟨xb,yb,kd,g,TX,(onF kd g x ⟨#[]⟩ true).2,r,W,(U4 kd g W).length,true,Blk.kept t3 u4 D,u3,h.lx.bG kc,fun e=>(by cases e),h.bd,by omega,h.e,h.l,h.rm⟩
end
section
variable{w w2 w3 w4:World}{N wb n M M' c k a b:Nat}{pv qv sv vv kv lv mv:Value}{SS:List (Nat×Nat)}{VS:List F3}{KS:List (Value×Nat)}{L:List V4}
theorem WI.fY(h:WI N w wb pv qv sv vv n kv SS VS KS M c)(hk:k<SS.length)(G:SS[k]=(a,b))(Z:M<=M')(f:NY w w2 a b M' lv mv L)(V:Bw w2 w3)(hc:c<=900000):
  Calls Tryz.prog 20 #[.pointer (some ⟨wb,0,none⟩),lv] w3 fun e w'=>e=.returned (.tuple #[])/\KN N w w'/\∃U D,WI N w' wb pv qv sv vv (n+1) U SS VS D M' (c+1):=by
 obtain⟨k2,Y⟩:=h.lV hk Z (by rw[G];exact f.kept) (by rw[G];exact f.lX);have B:=Y.aA V;have J:=f.l.aA V;have hz:=f.kept.size;have n1:=B.n1;have n4:=B.n4;refine(KY wb w.heap.size n pv qv sv vv kv lv KS L w3 B.aO B.ks (fun p X=>⟨B.cH p X,h.iK p X⟩) J f.aR (by have:=V.size;omega) (by omega) (by omega) f.bU).mono ?_;rintro e w' ⟨rfl,U,D,K,ho⟩;obtain⟨q1,q2⟩:=B.kW J ho K (fun b W=>by have:=f.aR b W;have:=h.lo.b;have:=h.aO.lt;omega);exact⟨rfl,(k2.trans (KN.aA V)).trans q1,_,_,q2⟩
end
theorem VF{N:Nat}(wb n M c k:Nat)(pv qv sv vv kv:Value)(SS:List (Nat×Nat))(VS:List F3)(KS:List (Value×Nat))(o:ScT)(w:World)(h:WI N w wb pv qv sv vv n kv SS VS KS M c)(hk:k<SS.length)(hc:c<=900000)(ho:o.bB=2)(a7:M+o.size<=3000000):
  Calls Tryz.prog 14 #[.pointer (some ⟨wb,0,none⟩),.agg #[.pointer (some ⟨SS[k].1,0,none⟩),.pointer (some ⟨SS[k].2,0,none⟩)],scV o] w fun e w'=>e=.returned (.bool true)/\KN N w w'/\∃n' vv' ac ad a3,WI N w' wb pv qv sv vv' n' ac SS ad a3 (M+o.size) (c+1):=by
 obtain⟨⟨a,b⟩,G⟩:∃p,SS[k]=p:=⟨_,rfl⟩;rw[G];simp only;obtain⟨ok,ol,ot,K,oa,oe,V,X,Z⟩:=o;simp only at ho;subst ho;have ae:ScT.size ⟨2,ol,ot,K,oa,oe,V,X,Z⟩=K.size+Z.size:=rfl;rw[ae]at a7⊢;obtain⟨w0,B⟩:∃w0:World,(w.alloc (.cells #[.pointer (some ⟨a,0,none⟩),.pointer (some ⟨b,0,none⟩)] 55)).alloc (.cells (scC ⟨2,ol,ot,K,oa,oe,V,X,Z⟩) 29)=w0:=⟨_,rfl⟩;have U:Bw w w0:=by rw[<-B];exact F6 _ _ _
 have h0:=h.aA U;have a8:=h0.aX _ (zG hk);rw[G]at a8;obtain⟨xb,yb,kd,g,TX,x,r,W,aK,aU,hS⟩:=a8;have za:a<w.heap.size:=by
  have:=(h.aX _ (zG hk)).blks;rw[G]at this;obtain⟨⟨_,q⟩,_⟩:=this;exact q.lt
 have a4:Blk w0 w.heap.size #[.pointer (some ⟨a,0,none⟩),.pointer (some ⟨b,0,none⟩)] 55:=by rw[<-B];exact Blk.alloc (Blk.aR _ _ _) _
 have a5:Blk w0 (w.heap.size+1) (scC ⟨2,ol,ot,K,oa,oe,V,X,Z⟩) 29:=by rw[<-B];exact Blk.dX _ _ _ _
 have HF:=Hd (QF hS K (by have:=a7;omega) (M':=M+(K.size+Z.size)) (by omega));rw[<-B]at HF;have D:=Hd9 h0 U a4 a5 hk hc G B za;clear hS h0 U h hc B a4 a5 za;clear G;go_enter Tryz.func14,Tryz.ntmps14;go_wp2_with fail;refine HF.out.mono ?_;rintro e w1 ⟨lv,f,L,rfl,J,a6⟩;rw[D.out.2.2.2.2.2.2.2.1]at J;have c1:w1.cell? ⟨w.heap.size,1,none⟩=some (.pointer (some ⟨b,0,none⟩)):=(D.out.2.2.1.kept J (fun e=>by have:=D.out.2.2.2.2.2.2.2.2;omega)).cell 1;have c3:w1.cell? ⟨w.heap.size+1,3,none⟩=some (.string K):=(D.out.2.2.2.1.kept J (fun e=>by have:=D.out.2.2.2.2.2.2.2.2;omega)).cell 3;have a0:=Hd a6;clear J a6 HF;go_wp2_with fail;refine a0.out.mono ?_;rintro e w2 ⟨mv,rfl,Y⟩;rw[D.out.2.2.2.2.2.2.2.1]at Y;have a2:=Hd (Wz L lv mv w2 Y.l Y.m (by have:=Y.bU;omega));have HB:=Hd Y;clear Y a0 c1;go_wp2_with fail;refine a2.out.mono ?_;rintro e w3 ⟨rfl,aa⟩;have a1:=Hd (D.out.1.fY D.out.2.2.2.2.1 D.out.2.2.2.2.2.2.1 (M':=M+(K.size+Z.size)) (by omega) HB.out aa D.out.2.2.2.2.2.1);clear aa a2 HB;go_wp2_with fail;refine a1.out.mono ?_;rintro e w4 ⟨rfl,ab,ac,a3,a9⟩;have H4:=Hd2 ab a9;clear ab a9 a1;go_wp2_with fail;refine(Db f w4).mono ?_;rintro e1 w5 ⟨rfl,rfl⟩;go_wp2_with fail;refine(Db f w5).mono ?_;rintro e1 w6 ⟨rfl,rfl⟩;go_wp2_with fail;go_ret;exact⟨rfl,(KN.aA D.out.2.1).trans H4.out.1,_,_,_,_,_,H4.out.2⟩
theorem YA{N:Nat}(wb n M c k:Nat)(pv qv sv vv kv:Value)(SS:List (Nat×Nat))(VS:List F3)(KS:List (Value×Nat))(o:ScT)(w:World)(h:WI N w wb pv qv sv vv n kv SS VS KS M c)(hk:k<SS.length)(hc:c<=900000)(ho:o.bB=3)(a7:M+o.size<=3000000):
  Calls Tryz.prog 14 #[.pointer (some ⟨wb,0,none⟩),.agg #[.pointer (some ⟨SS[k].1,0,none⟩),.pointer (some ⟨SS[k].2,0,none⟩)],scV o] w fun e w'=>e=.returned (.bool true)/\KN N w w'/\∃n' vv' ac ad a3,WI N w' wb pv qv sv vv' n' ac SS ad a3 (M+o.size) (c+1):=by
 obtain⟨⟨a,b⟩,D⟩:∃p,SS[k]=p:=⟨_,rfl⟩;rw[D];simp only;obtain⟨ok,ol,ot,Y,oa,oe,U,V,Z⟩:=o;simp only at ho;subst ho;have ae:ScT.size ⟨3,ol,ot,Y,oa,oe,U,V,Z⟩=Y.size+Z.size:=rfl;rw[ae]at a7⊢;obtain⟨w0,B⟩:∃w0:World,(w.alloc (.cells #[.pointer (some ⟨a,0,none⟩),.pointer (some ⟨b,0,none⟩)] 55)).alloc (.cells (scC ⟨3,ol,ot,Y,oa,oe,U,V,Z⟩) 29)=w0:=⟨_,rfl⟩;have K:Bw w w0:=by rw[<-B];exact F6 _ _ _
 have h0:=h.aA K;have a8:=h0.aX _ (zG hk);rw[D]at a8;obtain⟨xb,yb,kd,g,TX,x,r,W,aK,aU,hS⟩:=a8;have za:a<w.heap.size:=by
  have:=(h.aX _ (zG hk)).blks;rw[D]at this;obtain⟨⟨_,q⟩,_⟩:=this;exact q.lt
 have a4:Blk w0 w.heap.size #[.pointer (some ⟨a,0,none⟩),.pointer (some ⟨b,0,none⟩)] 55:=by rw[<-B];exact Blk.alloc (Blk.aR _ _ _) _
 have a5:Blk w0 (w.heap.size+1) (scC ⟨3,ol,ot,Y,oa,oe,U,V,Z⟩) 29:=by rw[<-B];exact Blk.dX _ _ _ _
 have HF:=Hd (QA hS (by have:=a7;omega) (M':=M+(Y.size+Z.size)) (by omega));rw[<-B]at HF;have G:=Hd9 h0 K a4 a5 hk hc D B za;clear hS h0 K h hc B a4 a5 za;clear D;go_enter Tryz.func14,Tryz.ntmps14;go_wp2_with fail;refine HF.out.mono ?_;rintro e w1 ⟨lv,f,L,rfl,J,a6⟩;rw[G.out.2.2.2.2.2.2.2.1]at J;have c1:w1.cell? ⟨w.heap.size,1,none⟩=some (.pointer (some ⟨b,0,none⟩)):=(G.out.2.2.1.kept J (fun e=>by have:=G.out.2.2.2.2.2.2.2.2;omega)).cell 1;have a0:=Hd a6;clear J a6 HF;go_wp2_with fail;refine a0.out.mono ?_;rintro e w2 ⟨mv,rfl,X⟩;rw[G.out.2.2.2.2.2.2.2.1]at X;have a2:=Hd (Wz L lv mv w2 X.l X.m (by have:=X.bU;omega));have HB:=Hd X;clear X a0 c1;go_wp2_with fail;refine a2.out.mono ?_;rintro e w3 ⟨rfl,aa⟩;have a1:=Hd (G.out.1.fY G.out.2.2.2.2.1 G.out.2.2.2.2.2.2.1 (M':=M+(Y.size+Z.size)) (by omega) HB.out aa G.out.2.2.2.2.2.1);clear aa a2 HB;go_wp2_with fail;refine a1.out.mono ?_;rintro e w4 ⟨rfl,ab,ac,a3,a9⟩;have H4:=Hd2 ab a9;clear ab a9 a1;go_wp2_with fail;refine(Db f w4).mono ?_;rintro e1 w5 ⟨rfl,rfl⟩;go_wp2_with fail;refine(Db f w5).mono ?_;rintro e1 w6 ⟨rfl,rfl⟩;go_wp2_with fail;go_ret;exact⟨rfl,(KN.aA G.out.2.1).trans H4.out.1,_,_,_,_,_,H4.out.2⟩
theorem Tryz.iX:(Tryz.prog.info? 27).map (fun i=>(i.zero,i.size,i.bytes))=some (some (.agg #[.int .i64 0,.int .i64 0,.int .i64 0,.int .i64 0,.string ⟨#[]⟩]),5,48):=by kernel_rfl
theorem XX(wb a b:Nat)(x1 x2 x3 x4:Int)(x5:ByteArray)(J:Int)(Y:J≠0)(ol ot oa oe Z a0:Int)(os ov:ByteArray)(w:World)
   (V:Hid (∀W,Bw w W->Calls Tryz.prog 38 #[.pointer (some ⟨a,0,none⟩)] W fun e w'=>e=.returned (.tuple #[Ai x1 x2 x3 x4 x5,.int .i64 J])/\Bw W w'))
   (X:Hid (∀W,Bw w W->Calls Tryz.prog 39 #[.pointer (some ⟨b,0,none⟩)] W fun e w'=>e=.returned (.tuple #[Ai x1 x2 x3 x4 x5,.int .i64 J])/\Bw W w')):
    Calls Tryz.prog 14 #[.pointer (some ⟨wb,0,none⟩),.agg #[.pointer (some ⟨a,0,none⟩),.pointer (some ⟨b,0,none⟩)],scV ⟨4,ol,ot,os,oa,oe,Z,a0,ov⟩] w fun e w'=>e=.returned (.bool true)/\Bw w w':=by
  have e9:(J==0)=false:=by simpa using Y
  go_enter Tryz.func14,Tryz.ntmps14;go_wp2_with fail;refine(V.out _ (F6 _ _ _)).mono ?_;rintro e U ⟨rfl,h⟩;have D:Blk U w.heap.size #[.pointer (some ⟨a,0,none⟩),.pointer (some ⟨b,0,none⟩)] 55:=Blk.aA (Blk.alloc (Blk.aR _ _ _) _) h;have c1:U.cell? ⟨w.heap.size,1,none⟩=some (.pointer (some ⟨b,0,none⟩)):=D.cell 1;have zz:=D.lt;have M:Bw w U:=(F6 _ _ _).trans (h.mono (by simp;omega));have f:=Hd M;clear h D M;go_wp2_with fail;refine(X.out _ (f.out.alloc f.out.size _)).mono ?_;rintro e w2 ⟨rfl,B⟩;have G:Blk w2 U.heap.size (La x1 x2 x3 x4 x5) 27:=(Blk.aR _ _ _).aA B;have q0:=G.cell 0;have q1:=G.cell 1;have q2:=G.cell 2;have q3:=G.cell 3;have q4:=G.cell 4;have zq:=G.lt;have K:=Hd ((f.out.alloc f.out.size _).trans (B.mono (f.out.alloc f.out.size _).size));clear G B f c1 zz;go_wp2_with fail;refine(Db J _).mono ?_;rintro e1 w5 ⟨rfl,rfl⟩;go_wp2_with fail;refine(Db J _).mono ?_;rintro e1 w6 ⟨rfl,rfl⟩;go_wp2_with fail;go_ret;exact⟨rfl,K.out.alloc K.out.size _⟩
theorem KU(w:World)(U V X Y:Int)(Z:ByteArray)(wb a b B f:Nat)(vd:Option Addr)(xs:List Value)(y0 y1 y2 y4 y5:Value)(bf:B<=1000000)(Q:World->Prop)(ai:∀W,Bw w W->Blk W wb #[y0,y1,y2,.slice vd B f,y4,y5] 36/\W.ownsRow 0 27 5 (.slice vd B f) B xs)(hQ:∀W w8 gg h,Bw w W->w8.ownsRow 0 27 5 (.slice (some ⟨gg,0,none⟩) (B+1) h) (B+1) (xs++ [.int .i64 U,.int .i64 V,.int .i64 X,.int .i64 Y,.string Z])->C0 (fun i=>(Value.slice vd B f).ownBlock=some i) W w8->((Value.slice vd B f).ownBlock=some gg\/W.heap.size<=gg)->Q (w8.setCell ⟨wb,3,none⟩ (.slice (some ⟨gg,0,none⟩) (B+1) h)))(ol ot oa oe ba bb:Int)(os ov:ByteArray)
   (b0:Hid (∀W,Bw w W->Calls Tryz.prog 38 #[.pointer (some ⟨a,0,none⟩)] W fun e w'=>e=.returned (.tuple #[Ai U V X Y Z,.int .i64 0])/\Bw W w'))
   (b1:Hid (∀W,Bw w W->Calls Tryz.prog 39 #[.pointer (some ⟨b,0,none⟩)] W fun e w'=>e=.returned (.tuple #[Ai U V X Y Z,.int .i64 0])/\Bw W w')):
    Calls Tryz.prog 14 #[.pointer (some ⟨wb,0,none⟩),.agg #[.pointer (some ⟨a,0,none⟩),.pointer (some ⟨b,0,none⟩)],scV ⟨4,ol,ot,os,oa,oe,ba,bb,ov⟩] w fun e w'=>e=.returned (.bool true)/\Q w':=by
  obtain⟨ii,b3,b7,b8,b9⟩:=info_parts Tryz.iX;obtain⟨ae,ad⟩:=ai w (Below.refl _ _);have a1:Hid (Blk w wb #[y0,y1,y2,.slice vd B f,y4,y5] 36/\∀i,(Value.slice vd B f).ownBlock=some i->i<w.heap.size):=Hd ⟨ae,fun i e=>by
    obtain⟨_,_,_,e1,⟨rfl,_⟩|⟨g,cur,rfl,h2,_⟩⟩:=P0 ad
    · cases e1;cases e
    · cases e1
      cases(zE e:g=i);exact h2.lt⟩
  clear ae ad;have ah:=Hd ai;have HQ:=Hd hQ;clear ai hQ;go_enter Tryz.func14,Tryz.ntmps14;go_wp2_with fail;refine(b0.out _ (F6 _ _ _)).mono ?_;rintro e w1 ⟨rfl,aj⟩;have am:Blk w1 w.heap.size #[.pointer (some ⟨a,0,none⟩),.pointer (some ⟨b,0,none⟩)] 55:=Blk.aA (Blk.alloc (Blk.aR _ _ _) _) aj;have c1:w1.cell? ⟨w.heap.size,1,none⟩=some (.pointer (some ⟨b,0,none⟩)):=am.cell 1;have zz:=am.lt;have av:Bw w w1:=(F6 _ _ _).trans (aj.mono (by simp;omega));have G:=Hd av;clear aj am av;go_wp2_with fail;refine(b1.out _ (G.out.alloc G.out.size _)).mono ?_;rintro e w2 ⟨rfl,ak⟩;have hq:Blk w2 w1.heap.size (La U V X Y Z) 27:=(Blk.aR _ _ _).aA ak;have q0:=hq.cell 0;have q1:=hq.cell 1;have q2:=hq.cell 2;have q3:=hq.cell 3;have q4:=hq.cell 4;have zq:=hq.lt;have a9:Bw w w2:=(G.out.alloc G.out.size _).trans (ak.mono (G.out.alloc G.out.size _).size);have ab:Hid (w.heap.size<=w1.heap.size/\w.heap.size<=w2.heap.size):=Hd ⟨G.out.size,a9.size⟩;have ar:=Hd hq;clear q0 q1 q2 q3 q4 zq hq ak G c1 zz;obtain⟨M,a6⟩:∃M:World,w2.alloc (.cells (La U V X Y Z) 27)=M:=⟨_,rfl⟩;have a0:Bw w M:=by rw[<-a6];exact a9.alloc a9.size _
  have ay:Blk M w1.heap.size (La U V X Y Z) 27:=by rw[<-a6];exact ar.out.alloc _
  have K:Blk M w2.heap.size (La U V X Y Z) 27:=by rw[<-a6];exact Blk.aR _ _ _
  obtain⟨aa,b4⟩:=ah.out M a0;have k3:M.cell? ⟨wb,3,none⟩=some (.slice vd B f):=aa.cell 3;have kf:=aa.frozen 3;have zx:=aa.lt;have u0:=K.cell 0;have u1:=K.cell 1;have u2:=K.cell 2;have u3:=K.cell 3;have u4:=K.cell 4;have zu:=K.lt;obtain⟨W2,a2⟩:∃W2:World,(M.alloc (.cells (La U V X Y Z) 27)).drew=W2:=⟨_,rfl⟩;have a4:Bw M W2:=by rw[<-a2];exact T1 (N0 _ _)
  obtain⟨a3,an⟩:=ah.out W2 (a0.trans (a4.mono a0.size));have ax:some wb≠(Value.slice vd B f).ownBlock:=fun e=>L0 an a3 (by decide) e.symm
  have ag:Hid (W2.ownsRow 0 27 5 (.slice vd B f) B xs):=Hd an;have CW:Hid (W2.cell? ⟨wb,3,none⟩=some (.slice vd B f)):=Hd (a3.cell 3);have FW:=Hd (a3.frozen 3);have af:Hid (W2.heap[M.heap.size]?=some (.cells (La U V X Y Z) 27 (0,0))):=Hd (by rw[<-a2];exact heap_alloc_new M (.cells (La U V X Y Z) 27));have a8:Hid (wb<W2.heap.size):=Hd a3.lt;have a7:Hid (W2.heap.size=M.heap.size+1):=Hd (by rw[<-a2];simp);have ap:Hid (B+1<=maxLen):=Hd (by unfold maxLen;omega);have aq:Hid ((B+1)*48<=140737488355328):=Hd (by omega);have J:=Hd3 (a0.trans (a4.mono a0.size)) (ay.aA a4) (K.aA a4);rw[<-a2]at ag CW FW af a8 a7 J;have au:=Hd a6;clear a2 a4 a3 an aa b4 ay K a0 a9 a6 ar ah;go_upto_region 17 with fail;rw[au.out];clear au
  go_cut[] (fun wx=>∃w8 gg h W,Bw w W/\w8.ownsRow 0 27 5 (.slice (some ⟨gg,0,none⟩) (B+1) h) (B+1) (xs++ [.int .i64 U,.int .i64 V,.int .i64 X,.int .i64 Y,.string Z])/\C0 (fun i=>(Value.slice vd B f).ownBlock=some i) W w8/\((Value.slice vd B f).ownBlock=some gg\/W.heap.size<=gg)/\wx=w8.setCell ⟨wb,3,none⟩ (.slice (some ⟨gg,0,none⟩) (B+1) h)/\Blk wx w1.heap.size (La U V X Y Z) 27/\Blk wx w2.heap.size (La U V X Y Z) 27)
  case first=>
    go_region_law ((refine step_append_lies _ (by rfl) _ _ _ (by rfl) 0 27 ii _ 5 48 Tryz.underlying33 b3 b7 b8 b9 rfl (by omega) (.slice vd B f) B xs (by rfl) ag.out ⟨M.heap.size,0,none⟩ 1 1 [.int .i64 U,.int .i64 V,.int .i64 X,.int .i64 Y,.string Z] (by rfl) (by rfl) (World.news_of_block (cs:=La U V X Y Z) (t:=27) (fr:=(0,0)) af.out) (by simp[Value.oneCell']) (Nat.one_pos) ap.out aq.out (yC _) (M.heap.size+1) a7.out ?_;intro gg h w8 a5 D ac bc;have bd:=(D.cell_far ⟨wb,3,none⟩ a8.out ax).trans CW.out;have be:=(D.frozen_far ⟨wb,3,none⟩ a8.out ax).trans FW.out))
    all_goals
      have az:=Hd3 a5 (D8 (O:=fun b=>(Value.slice vd B f).ownBlock=some b) D (fun k e=>e)) ac;clear a5 D ac;go_wp2_with fail;go_meet;obtain⟨g1,g2,g3⟩:=az.out;have aw:=a1.out.1.kept (ex:=fun _=>False) (C0.aM J.out.1) (fun e=>e);have b5:=J.out.2.1.kept g2 (fun e=>by have:=a1.out.2 _ e;have:=ab.out;omega);have b6:=J.out.2.2.kept g2 (fun e=>by have:=a1.out.2 _ e;have:=ab.out;omega);refine⟨w8,gg,h,_,J.out.1,g1,g2,?_,rfl,b5.aG (fun e=>?_) _,b6.aG (fun e=>?_) _⟩
      · rcases g3 with e|e
        · exact .inl e
        · exact .inr (by have:=a7.out;omega)
      · exact J.out.2.1.ne aw (by decide) e
      · exact J.out.2.2.ne aw (by decide) e
  case rest=>
    obtain⟨w8,gg,h,W,y1,y2,y3,y4,rfl,y5,y6⟩:=hcut;have HY:=Hd4 y1 y2 y3 y4;clear J aq ap a7 a8 af FW CW ag y1 y2 y3 y4 u0 u1 u2 u3 u4 zu k3 kf zx;obtain⟨wx,ao⟩:∃wx,w8.setCell ⟨wb,3,none⟩ (.slice (some ⟨gg,0,none⟩) (B+1) h)=wx:=⟨_,rfl⟩;rw[ao]at y5 y6⊢;have q0:=y5.cell 0;have q1:=y5.cell 1;have q2:=y5.cell 2;have q3:=y5.cell 3;have q4:=y5.cell 4;have u0:=y6.cell 0;have u1:=y6.cell 1;have u2:=y6.cell 2;have u3:=y6.cell 3;have u4:=y6.cell 4;have b2:=Hd ao;clear y5 y6 ao;go_wp2_with fail;refine(Db 0 _).mono ?_;rintro e1 w5 ⟨rfl,rfl⟩;go_wp2_with fail;refine(Db 0 _).mono ?_;rintro e1 w6 ⟨rfl,rfl⟩;go_wp2_with fail;go_ret;obtain⟨y1,y2,y3,y4⟩:=HY.out;rw[<-b2.out];exact⟨rfl,HQ.out W w8 gg h y1 y2 y3 y4⟩
theorem WF{N:Nat}(wb n M c k:Nat)(pv qv sv vv kv:Value)(J:List (Nat×Nat))(VS:List F3)(KS:List (Value×Nat))(o:ScT)(w:World)(h:WI N w wb pv qv sv vv n kv J VS KS M c)(hk:k<J.length)(hc:c<=900000)(ho:o.bB=4)(a3:M+o.size<=3000000):
  Calls Tryz.prog 14 #[.pointer (some ⟨wb,0,none⟩),.agg #[.pointer (some ⟨J[k].1,0,none⟩),.pointer (some ⟨J[k].2,0,none⟩)],scV o] w fun e w'=>e=.returned (.bool true)/\KN N w w'/\∃n' vv' U K G,WI N w' wb pv qv sv vv' n' U J K G (M+o.size) (c+1):=by
 obtain⟨⟨a,b⟩,a1⟩:∃p,J[k]=p:=⟨_,rfl⟩;have Z:=h.aX _ (zG hk);rw[a1]at Z⊢;obtain⟨xb,yb,kd,g,TX,x,r,W,aK,aU,f⟩:=Z;simp only at f;obtain⟨ok,ol,ot,os,oa,oe,V,X,ov⟩:=o;simp only at ho;subst ho;obtain⟨R,hR⟩:=f.lx.R;have a6:=h.n3;have a7:=f.sz;have a4:=h.lo.b;have a5:=h.aO.lt;cases aU with
 |true=>
  refine(XX wb a b 0 0 0 0 ⟨#[]⟩ 6 (by decide) ol ot oa oe V X os ov w (Hd fun B q=>XG a xb x B (Blk.aA f.bC q)) (Hd fun B q=>Ew b yb r W aK B (Blk.aA f.gH q))).mono ?_;rintro e w' ⟨rfl,hb⟩;exact⟨rfl,KN.aA hb,_,_,_,_,_,(h.aA hb).mono (by omega) (by omega)⟩
 |false=>
  have D:=(f.kG rfl).dJ hR f.lx.fS f.bd;obtain⟨_,vd,a0,a2,_⟩:=P0 h.vs;subst a2;refine(KU w x.bC x.en x.aB x.aQ x.tail wb a b VS.length a0 vd (Sj VS) pv qv sv (.int .i64 n) kv (by omega) (fun w'=>KN N w w'/\∃n' vv' U K G,WI N w' wb pv qv sv vv' n' U J K G (M+ScT.size ⟨4,ol,ot,os,oa,oe,V,X,ov⟩) (c+1)) (fun B q=>⟨(h.aA q).aO,(h.aA q).vs⟩) ?_ ol ot oa oe V X os ov
   (Hd fun B q=>JU a xb x B (Blk.aA f.bC q)) (Hd fun B q=>VK b yb kd g TX r W aK x B (Blk.aA f.gH q) (f.lx.eV.bG (Kt.aA q)) (I5 hR) (by omega) f.e f.l (f.kG rfl)))
  intro B w8 gg Y y1 y2 y3 y4;obtain⟨q1,q2⟩:=(h.aA y1).iQ D (vv':=.slice (some ⟨gg,0,none⟩) (VS.length+1) Y) (w8:=w8) (by unfold AM;rw[Fs,zL];exact y2) y3 (fun i hi=>by
   cases(zE hi:gg=i);rcases y4 with e|e
   ·exact h.lo.v _ e
   ·have:=y1.size;omega)
  exact⟨(KN.aA y1).trans q1,_,_,_,_,_,q2.mono (by omega) (zD _)⟩
end Go.Proofs.YtcckhngbdoiikabGreat
