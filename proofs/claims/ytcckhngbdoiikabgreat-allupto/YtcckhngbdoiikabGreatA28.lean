import Derived.Test.YtcckhngbdoiikabGreatA26
import Derived.Test.YtcckhngbdoiikabGreatA27
import Derived.Test.YtcckhngbdoiikabGreatA20
set_option maxRecDepth 20000
set_option maxHeartbeats 12800000
set_option linter.unusedVariables false
namespace Go.Proofs.YtcckhngbdoiikabGreat
open Go.RowKit Go.Deep
theorem GI(s:ByteArray)(b:Nat)(f:b<256):Q0 (s++K1 [b])=Q0 s++ [b]:=by
 unfold Q0;rw[ByteArray.data_append];simp[K1];omega
theorem Ky:∀(l:List I0) (i:Nat) (h:i<l.length),l.Nodup->H9 l l[i]=i
 | [],i,h,_=>by simp at h
 |x::l,0,h,_=>by simp[H9]
 |x::l,i+1,h,hn=>by
  rw[List.nodup_cons]at hn;have f:i<l.length:=by simpa using h
  rw[List.getElem_cons_succ];unfold H9;rw[if_neg (fun e=>hn.1 (by rw[e];exact zG f)),Ky l i f hn.2]
section
variable{rs:ByteArray}{R:E0}{ts:List PT}{n b:Nat}{T:List ByteArray}{S:List (Nat×List Bool)}{To:List (Nat×List Int)}{PS PS0:List I0}{g:B0}{row rl:List Int}
structure Ft(ts:List PT)(T:List ByteArray)(S:List (Nat×List Bool))(PS:List I0):Prop where
 sl:S.length=PS.length
 tl:T.length=PS.length
 set:∀i,(h:i<S.length)->0<i->Wo ts ((T.map Q0).getD i []) S[i].2
structure FP(ts:List PT)(R:E0)(n:Nat)(T:List ByteArray)(S:List (Nat×List Bool))(To:List (Nat×List Int))(PS:List I0)(g:B0):Prop where
 bT:Yd R n PS g (T.map Q0)
 aI:Ft ts T S PS
 tl:To.length=n
 lead:∀i,(h:i<To.length)->∀c,c<256->To[i].2.getD c 0=(g.next.getD i []).getD (D3 R.aJ c) 0
structure RP(ts:List PT)(R:E0)(n b:Nat)(T:List ByteArray)(S:List (Nat×List Bool))(PS0 PS:List I0)(row rl:List Int):Prop where
 bT:M8 R n b PS0 PS (T.map Q0) row
 aI:Ft ts T S PS
 eS:rl.length=256
 cell:∀c,c<b->rl.getD c 0=row.getD (D3 R.aJ c) 0
theorem FP.start(ts:List PT)(R:E0)(gb:Nat):FP ts R 0 [noT] [(gb,Ba)] [] [I0.none] B0.aR:=by
 refine⟨?_,⟨rfl,rfl,fun i f h=>by simp at f;omega⟩,rfl,fun i f=>by simp at f⟩;have:([noT].map Q0)= [[]]:=rfl;rw[this];exact Yd.start R
theorem FP.jS(h:FP ts R n T S To PS g){rl:List Int}(f:rl.length=256):RP ts R n 0 T S PS PS [] rl:=⟨M8.start h.bT,h.aI,f,fun c B=>by omega⟩
theorem Mb(l:List Int)(k i:Nat)(x:Int)(f:k<l.length):(l.set k x).getD i 0=if i=k then x else l.getD i 0:=by
 rw[zC,List.getElem?_set]
 by_cases h:k=i
 ·subst h;simp[f]
 ·rw[if_neg h,if_neg (fun e=>h e.symm),zC]
theorem YP(al:Nat->I0){c b:Nat}(h:c<b):D3 al c<(V0 al b).length:=by
 have B:=(Af al c (c+1) (by omega)).1;have f:V0 al (c+1)<+:V0 al b:=by
  have:=Bc al (c+1) (b- (c+1))
  rwa [show c+1+(b- (c+1))=b by omega]at this
 have:=f.length_le;omega
theorem RP.skip(h:RP ts R n b T S PS0 PS row rl)(D:b<256){k:Nat}(B:Ci R.aJ b k)(f:k<b):RP ts R n (b+1) T S PS0 PS row (rl.set b (rl.getD k 0)):=by
 refine⟨h.bT.skip B f,h.aI,by simp[h.eS],fun c G=>?_⟩;rw[Mb _ _ _ _ (by rw[h.eS];exact D)]
 by_cases e:c=b
 ·rw[if_pos e,e,h.cell k f,(SC B f).1]
 ·rw[if_neg e];exact h.cell c (by omega)
theorem RP.push(h:RP ts R n b T S PS0 PS row rl)(K:b<256){D:List ByteArray}{G:List (Nat×List Bool)}{f:List I0}{v:Int}(U:Ci R.aJ b b)(M:M8 R n (b+1) PS0 f (D.map Q0) (row++ [v]))(V:Ft ts D G f):RP ts R n (b+1) D G PS0 f (row++ [v]) (rl.set b v):=by
 refine⟨M,V,by simp[h.eS],fun c W=>?_⟩;rw[Mb _ _ _ _ (by rw[h.eS];exact K)];have J:=h.bT.get
 by_cases e:c=b
 ·rw[if_pos e,e,(Zq U).1,<-J,zC,zY (by omega)];simp
 ·have B:c<b:=by omega
  have:=YP R.aJ B;rw[if_neg e,h.cell c B,zC,zC,zR (by omega)]
theorem Ft.at(U:Di rs R ts)(Z:Ei R PS (T.map Q0))(W:PS.Nodup)(h:Ft ts T S PS){w:List Nat}(Y:w≠ []){l:List Bool}(V:Wo ts w l){r:Int}(hr:Ab9 S l r){x:Bool}(G:x=true↔∀q,l.getD q false=false):
  (x=true/\r= -1/\C6 PS (Kb R w)= -1)\/(x=false/\r= -1/\C6 PS (Kb R w)=(PS.length:Int))\/(x=false/\∃i:Nat,0<i/\i<PS.length/\r=(i:Int)/\C6 PS (Kb R w)=(i:Int)):=by
 rw[TO U Y V]at G;rcases hr with⟨rfl,X⟩|⟨i,K,D,rfl,hs⟩
 ·by_cases f:x=true
  ·exact .inl ⟨f,rfl,by unfold C6;rw[if_pos (G.1 f)]⟩
  ·have B:(Kb R w).isEmpty=false:=by
    cases hh:(Kb R w).isEmpty with
    |false=>rfl
    |true=>exact absurd (G.2 hh) f
   refine .inr (.inl ⟨by simpa using f,rfl,?_⟩);unfold C6;rw[B];simp only[zX,if_false];rw[Ly];intro hm;obtain⟨i,K,e⟩:=List.getElem_of_mem hm;have J:PS.getD i I0.none=PS[i]:=by rw[zC,zF K];rfl
   by_cases D:0<i
   ·obtain⟨t1,M,t3⟩:=Z.set i D K;rw[J,e]at M;have hS:=h.sl;exact X i (by omega) D ((QD U t1 Y (h.set i (by omega) D) V).2 M)
   ·have:i=0:=by omega
    subst this;have h9:=Z.zero.1;rw[J,e]at h9;rw[h9]at B;have:I0.none.isEmpty=true:=(Pd _).2 (fun q=>W9 q);rw[this]at B;cases B
 ·have hS:=h.sl;obtain⟨t1,M,t3⟩:=Z.set i D (by omega);have e:=(QD U t1 Y (h.set i K D) V).1 hs;rw[M]at e;refine .inr (.inr ⟨?_,i,D,by omega,rfl,?_⟩)
  ·rw[<-e,t3]at G;cases x with
   |false=>rfl
   |true=>exact absurd (G.1 rfl) (by simp)
  have J:PS.getD i I0.none=PS[i]'(by omega):=by rw[zC,zF (by omega)];rfl
  unfold C6;rw[<-e,t3];simp only[zX,if_false];rw[J,Ky PS i (by omega) W]
theorem RP.text(h:RP ts R n b T S PS0 PS row rl)(B:n<T.length)(f:b<256):Q0 (T[n]++K1 [b])=(T.map Q0).getD n []++ [b]:=by
 rw[GI _ _ f,zC,List.getElem?_map,zF B];rfl
theorem RP.fF(h:RP ts R n b T S PS0 PS row rl)(K:n<PS0.length)(D:b<256)(G:Ci R.aJ b b)(f:n<T.length){v:Int}(J:C6 PS (Kb R (Q0 (T[n]++K1 [b])))=v)(B:v≠(PS.length:Int)):RP ts R n (b+1) T S PS0 PS (row++ [v]) (rl.set b v):=by
 rw[h.text f D]at J;subst J;exact h.push D G (h.bT.fF K G B) h.aI
theorem RP.fresh(h:RP ts R n b T S PS0 PS row rl)(X:n<PS0.length)(D:b<256)(J:Ci R.aJ b b)(G:n<T.length){l:List Bool}{gb:Nat}(K:Wo ts (Q0 (T[n]++K1 [b])) l)(M:C6 PS (Kb R (Q0 (T[n]++K1 [b])))=(PS.length:Int))(Y:PS.length+1<=61):
  RP ts R n (b+1) (T++ [T[n]++K1 [b]]) (S++ [(gb,l)]) PS0 (PS++ [Kb R (Q0 (T[n]++K1 [b]))]) (row++ [(PS.length:Int)]) (rl.set b (PS.length:Int)):=by
 have B:=h.text G D;rw[B]at K M⊢;have e:(T++ [T[n]++K1 [b]]).map Q0=T.map Q0++ [(T.map Q0).getD n []++ [b]]:=by rw[zV,List.map_singleton,B]
 refine h.push D J (by rw[e];exact h.bT.fresh X D J M Y) ⟨by simp[h.aI.sl],by simp[h.aI.tl],fun i W V=>?_⟩;have Z:=h.aI.sl;have h2:=h.aI.tl;rw[e];simp only[zL,yQ]at W
 by_cases f:i<S.length
 ·rw[List.getElem_append_left f,zC,zR (by simp;omega),<-zC];exact h.aI.set i f V
 ·have:i=S.length:=by omega
  subst this;rw[List.getElem_append_right (zD _),zC,zY (by simp;omega)];have U:S.length- (T.map Q0).length=0:=by rw[yB];omega
  rw[U];simp only[yS,List.getElem_cons_zero,List.getElem?_cons_zero,Option.getD_some];exact K
theorem RP.fail(h:RP ts R n b T S PS0 PS row rl){G:List (List Nat)}(J:Yd R n PS0 g G)(M:n<PS0.length)(B:b<256)(K:Ci R.aJ b b)(f:n<T.length)(D:C6 PS (Kb R (Q0 (T[n]++K1 [b])))=(PS.length:Int))(U:61<PS.length+1):J6 R (V0 R.aJ 256)=none:=by
 rw[h.text f B]at D;exact h.bT.fail J M B K D U
theorem RP.done{J:List ByteArray}{G:List (Nat×List Bool)}(h:RP ts R n 256 T S PS0 PS row rl)(f:FP ts R n J G To PS0 g)(V:n<PS0.length)(W:Nat):FP ts R (n+1) T S (To++ [(W,rl)]) PS ⟨g.aB++ [R.aB (PS.getD n I0.none)],g.next++ [row]⟩:=by
 refine⟨h.bT.done f.bT V,h.aI,by simp[f.tl],fun i U c D=>?_⟩;have K:=f.tl;have M:=f.bT.ex.nl;simp only[zL,yQ]at U
 by_cases B:i<To.length
 ·rw[List.getElem_append_left B,zC (l:=g.next++ [row]),zR (by omega),<-zC];exact f.lead i B c D
 ·have:i=To.length:=by omega
  subst this;rw[List.getElem_append_right (zD _),zC (l:=g.next++ [row]),zY (by omega)];simp[K,M];have:=h.cell c D;simpa[zC]using this
theorem RP.size(h:RP ts R n b T S PS0 PS row rl){i:Nat}(B:i<T.length):T[i].size<=i/\T.length=S.length/\T.length<=61:=by
 have f:=h.bT.bO.dI i;rw[zC,List.getElem?_map,zF B]at f;simp[I1]at f;exact⟨f,h.aI.tl.trans h.aI.sl.symm,by rw[h.aI.tl];exact h.bT.cV⟩
end
section
variable{w w' w6:World}{lo fb:Nat}{tv sv ov:Value}{T:List ByteArray}{S:List (Nat×List Bool)}{To:List (Nat×List Int)}
theorem P3.kept(h:P3 w lo fb tv sv ov T S To){ex:Nat->Prop}(k:C0 ex w w')(B:¬ex fb)(D:∀b,tv.ownBlock=some b->¬ex b)(G:∀b,sv.ownBlock=some b->¬ex b)(J:∀b,ov.ownBlock=some b->¬ex b)(K:∀p∈S,¬ex p.1)(M:∀p∈To,¬ex p.1):P3 w' lo fb tv sv ov T S To:=
 ⟨h.aO.kept k B,K0 h.txt k D,⟨K0 h.aI.row k G,fun p f=>⟨(h.aI.aX p f).1.kept k (K p f),(h.aI.aX p f).2⟩⟩,⟨K0 h.bP.row k J,fun p f=>⟨(h.bP.aX p f).1.kept k (M p f),(h.bP.aX p f).2⟩⟩,h.own⟩
theorem Blk.ne{b B:Nat}{c G:Array Value}{t D:TypeId}(h:Blk w b c t)(J:Blk w B G D)(f:t≠D):b≠B:=fun e=>by subst e;exact f (h.bX J).2
theorem PQ{e:TypeId}{v:Value}{n:Nat}{G:List Value}(h:w.ownsRow 0 e 1 v n G){b:Nat}(f:v.ownBlock=some b):∃c,Blk w b c e:=by
 obtain⟨_,J,B,rfl,⟨rfl,_⟩|⟨g,cur,rfl,D,_⟩⟩:=P0 h
 ·cases f
 ·cases(zE f:g=b);exact⟨_,D⟩
theorem Q9{e D:TypeId}{v G:Value}{n U:Nat}{V B:List Value}(h:w.ownsRow 0 e 1 v n V)(J:w.ownsRow 0 D 1 G U B)(f:e≠D){b:Nat}(K:v.ownBlock=some b):G.ownBlock≠some b:=fun e=>by
 obtain⟨c,M⟩:=PQ h K;exact L0 J M f e
theorem P3.gK(h:P3 w lo fb tv sv ov T S To){f:Nat}{c:Array Value}(D:Blk w f c 3)(J:∀p∈To,p.1≠f)(i:Nat)(v:Value):P3 (w.setCell ⟨f,i,none⟩ v) lo fb tv sv ov T S To:=by
 refine h.kept (ex:=fun x=>x=f) (C0.setCell (ex:=fun x=>x=f) (p:=⟨f,i,none⟩) (C0.refl _ _) (fun _=>rfl) _) (fun e=>?_) (fun b B e=>?_) (fun b B e=>?_) (fun b B e=>?_) (fun p G e=>?_) (fun p G e=>J p G e)
 ·exact h.aO.ne D (by decide) e
 ·subst e;exact L0 h.txt D (by decide) B
 ·subst e;exact L0 h.aI.row D (by decide) B
 ·subst e;exact L0 h.bP.row D (by decide) B
 ·exact(h.aI.aX p G).1.ne D (by decide) e
theorem Ac{v:Value}{fld:Nat}{v6:Value}(f:C0 (fun b=>v.ownBlock=some b) w w6):C0 (fun b=>v.ownBlock=some b\/b=fb) w (w6.setCell ⟨fb,fld,none⟩ v6):=
 (f.bK (fun _ _ e=>.inl e)).setCell (p:=⟨fb,fld,none⟩) (fun _=>.inr rfl) _
theorem P3.text(h:P3 w lo fb tv sv ov T S To){v6:Value}{s:ByteArray}(J:w6.ownsRow 0 9 1 v6 (T.map Value.string++ [Value.string s]).length (T.map Value.string++ [Value.string s]))(V:∀b,v6.ownBlock=some b->lo<=b)(K:C0 (fun b=>tv.ownBlock=some b) w w6):
  P3 (w6.setCell ⟨fb,0,none⟩ v6) lo fb v6 sv ov (T++ [s]) S To:=by
 have D:=Ac (fb:=fb) (fld:=0) (v6:=v6) K;have G:Blk w6 fb #[tv,sv,ov] 146:=h.aO.kept K (fun e=>L0 h.txt h.aO (by decide) e);have M:C0 (fun b=>b=fb) w6 (w6.setCell ⟨fb,0,none⟩ v6):=C0.setCell (ex:=fun b=>b=fb) (p:=⟨fb,0,none⟩) (C0.refl _ _) (fun _=>rfl) _;have U:v6.ownBlock≠some fb:=L0 J G (by decide);refine⟨G.set 0 v6,?_,⟨K0 h.aI.row D (fun b B e=>?_),fun p f=>⟨(h.aI.aX p f).1.kept D (fun e=>?_),(h.aI.aX p f).2⟩⟩,⟨K0 h.bP.row D (fun b B e=>?_),fun p f=>⟨(h.bP.aX p f).1.kept D (fun e=>?_),(h.bP.aX p f).2⟩⟩,h.own.1,V,h.own.2.2.1,h.own.2.2.2⟩
 ·have:=K0 J M (fun b B e=>U (by rw[<-e];exact B));simpa using this
 ·rcases e with e|e
  ·exact Q9 h.txt h.aI.row (by decide) e B
  ·subst e;exact L0 h.aI.row h.aO (by decide) B
 ·rcases e with e|e
  ·exact L0 h.txt (h.aI.aX p f).1 (by decide) e
  ·exact(h.aI.aX p f).1.ne h.aO (by decide) e
 ·rcases e with e|e
  ·exact Q9 h.txt h.bP.row (by decide) e B
  ·subst e;exact L0 h.bP.row h.aO (by decide) B
 ·rcases e with e|e
  ·exact L0 h.txt (h.bP.aX p f).1 (by decide) e
  ·exact(h.bP.aX p f).1.ne h.aO (by decide) e
theorem P3.set(h:P3 w lo fb tv sv ov T S To){v6:Value}{J:Nat}{l:List Bool}(W:Blk w J (Z0 l) 4)(V:l.length=120)(M:w6.ownsRow 0 143 1 v6 (S.map (fun p=>slV 120 p.1)++ [slV 120 J]).length (S.map (fun p=>slV 120 p.1)++ [slV 120 J]))(Z:∀b,v6.ownBlock=some b->lo<=b)(U:C0 (fun b=>sv.ownBlock=some b) w w6):
  P3 (w6.setCell ⟨fb,1,none⟩ v6) lo fb tv v6 ov T (S++ [(J,l)]) To:=by
 have G:=Ac (fb:=fb) (fld:=1) (v6:=v6) U;have K:Blk w6 fb #[tv,sv,ov] 146:=h.aO.kept U (fun e=>L0 h.aI.row h.aO (by decide) e);have X:C0 (fun b=>b=fb) w6 (w6.setCell ⟨fb,1,none⟩ v6):=C0.setCell (ex:=fun b=>b=fb) (p:=⟨fb,1,none⟩) (C0.refl _ _) (fun _=>rfl) _;have Y:v6.ownBlock≠some fb:=L0 M K (by decide);have D:∀{b:Nat} {m:List Bool},Blk w b (Z0 m) 4->Blk (w6.setCell ⟨fb,1,none⟩ v6) b (Z0 m) 4:=fun f=>f.kept G (fun e=>by
  rcases e with e|e
  ·exact L0 h.aI.row f (by decide) e
  ·exact f.ne h.aO (by decide) e)
 refine⟨K.set 1 v6,K0 h.txt G (fun b f e=>?_),⟨?_,fun p B=>?_⟩,⟨K0 h.bP.row G (fun b f e=>?_),fun p B=>⟨(h.bP.aX p B).1.kept G (fun e=>?_),(h.bP.aX p B).2⟩⟩,h.own.1,h.own.2.1,Z,h.own.2.2.2⟩
 ·rcases e with e|e
  ·exact Q9 h.aI.row h.txt (by decide) e f
  ·subst e;exact L0 h.txt h.aO (by decide) f
 ·have:=K0 M X (fun b f e=>Y (by rw[<-e];exact f));simpa using this
 ·rw[zQ,zJ]at B;rcases B with B|rfl
  ·exact⟨D (h.aI.aX p B).1,(h.aI.aX p B).2⟩
  ·exact⟨D W,V⟩
 ·rcases e with e|e
  ·exact Q9 h.aI.row h.bP.row (by decide) e f
  ·subst e;exact L0 h.bP.row h.aO (by decide) f
 ·rcases e with e|e
  ·exact L0 h.aI.row (h.bP.aX p B).1 (by decide) e
  ·exact(h.bP.aX p B).1.ne h.aO (by decide) e
theorem P3.kD(h:P3 w lo fb tv sv ov T S To){v6:Value}{J:Nat}{l:List Int}(W:Blk w J (T3 l) 3)(V:l.length=256)(M:w6.ownsRow 0 68 1 v6 (To.map (fun p=>slV 256 p.1)++ [slV 256 J]).length (To.map (fun p=>slV 256 p.1)++ [slV 256 J]))(Z:∀b,v6.ownBlock=some b->lo<=b)(U:C0 (fun b=>ov.ownBlock=some b) w w6):
  P3 (w6.setCell ⟨fb,2,none⟩ v6) lo fb tv sv v6 T S (To++ [(J,l)]):=by
 have G:=Ac (fb:=fb) (fld:=2) (v6:=v6) U;have K:Blk w6 fb #[tv,sv,ov] 146:=h.aO.kept U (fun e=>L0 h.bP.row h.aO (by decide) e);have X:C0 (fun b=>b=fb) w6 (w6.setCell ⟨fb,2,none⟩ v6):=C0.setCell (ex:=fun b=>b=fb) (p:=⟨fb,2,none⟩) (C0.refl _ _) (fun _=>rfl) _;have Y:v6.ownBlock≠some fb:=L0 M K (by decide);have D:∀{b:Nat} {m:List Int},Blk w b (T3 m) 3->Blk (w6.setCell ⟨fb,2,none⟩ v6) b (T3 m) 3:=fun f=>f.kept G (fun e=>by
  rcases e with e|e
  ·exact L0 h.bP.row f (by decide) e
  ·exact f.ne h.aO (by decide) e)
 refine⟨K.set 2 v6,K0 h.txt G (fun b f e=>?_),⟨K0 h.aI.row G (fun b f e=>?_),fun p B=>⟨(h.aI.aX p B).1.kept G (fun e=>?_),(h.aI.aX p B).2⟩⟩,⟨?_,fun p B=>?_⟩,h.own.1,h.own.2.1,h.own.2.2.1,Z⟩
 ·rcases e with e|e
  ·exact Q9 h.bP.row h.txt (by decide) e f
  ·subst e;exact L0 h.txt h.aO (by decide) f
 ·rcases e with e|e
  ·exact Q9 h.bP.row h.aI.row (by decide) e f
  ·subst e;exact L0 h.aI.row h.aO (by decide) f
 ·rcases e with e|e
  ·exact L0 h.bP.row (h.aI.aX p B).1 (by decide) e
  ·exact(h.aI.aX p B).1.ne h.aO (by decide) e
 ·have:=K0 M X (fun b f e=>Y (by rw[<-e];exact f));simpa using this
 ·rw[zQ,zJ]at B;rcases B with B|rfl
  ·exact⟨D (h.bP.aX p B).1,(h.bP.aX p B).2⟩
  ·exact⟨D W,V⟩
theorem P3.eG(h:P3 w lo fb tv sv ov T S To){v v6:Value}{e:TypeId}{n:Nat}{K:List Value}(G:w.ownsRow 0 e 1 v n K)(J:C0 (fun b=>v.ownBlock=some b) w w6)(fld:Nat){b:Nat}{c:Array Value}{t:TypeId}(f:Blk w b c t)(B:t≠e)(D:t≠146):Blk (w6.setCell ⟨fb,fld,none⟩ v6) b c t:=
 f.kept (Ac (fb:=fb) (fld:=fld) (v6:=v6) J) (fun e=>by
  rcases e with e|e
  ·exact L0 G f B e
  ·exact f.ne h.aO D e)
theorem WX{f:List MT}{B:List PT}(h:ntL f=B.map PT.dL)(P:NT->Prop):(∃T∈f,P T.nt)↔∃t∈B,P t.dL:=by
 rw[Sb]at h;have D:(∃T∈f,P T.nt)↔∃x∈f.map MT.nt,P x:=⟨fun⟨T,a,b⟩=>⟨_,List.mem_map_of_mem a,b⟩,fun⟨x,a,b⟩=>by obtain⟨T,c,rfl⟩:=List.mem_map.1 a;exact⟨T,c,b⟩⟩;have G:(∃t∈B,P t.dL)↔∃x∈B.map PT.dL,P x:=⟨fun⟨T,a,b⟩=>⟨_,List.mem_map_of_mem a,b⟩,fun⟨x,a,b⟩=>by obtain⟨T,c,rfl⟩:=List.mem_map.1 a;exact⟨T,c,b⟩⟩;rw[D,G,h]
end
def TG:List Int:=List.replicate 256 0
theorem Rz:TG.length=256:=yD
theorem BQ(W:World):(Instr.makeSlice 68 (.int .i64 256) (.int .i64 256)).run Tryz.prog W=.ok (.slice (some ⟨W.heap.size,0,none⟩) 256 256) (W.alloc (.cells (T3 TG) 3)):=Je 256 (by omega) W
theorem T5{w:World}{b:Nat}{l:List Int}(h:Blk w b (T3 l) 3)(i:Nat)(f:i<l.length):w.cell? ⟨b,i,none⟩=some (.int .i64 (l.getD i 0)):=by
 rw[Aa h i f];simp[f]
structure XAt(w:World)(xb:Nat)(rv pn pv tv ov fv:Value)(TX:List ByteArray)(OX:List (Nat×List Int))(FX:List Int):Prop where
 aO:Blk w xb #[rv,pn,pv,tv,ov,fv] 87
 txt:w.ownsRow 0 9 1 tv TX.length (TX.map Value.string)
 bP:Ac2 w ov OX
 of:Q2 w fv FX
 lA:∀p∈OX,fv.ownBlock≠some p.1
section
variable{w w' w6:World}{xb:Nat}{rv pn pv tv ov fv:Value}{TX:List ByteArray}{OX:List (Nat×List Int)}{FX:List Int}
theorem XAt.kept(h:XAt w xb rv pn pv tv ov fv TX OX FX){ex:Nat->Prop}(k:C0 ex w w')(B:¬ex xb)(D:∀b,tv.ownBlock=some b->¬ex b)(G:∀b,ov.ownBlock=some b->¬ex b)(J:∀b,fv.ownBlock=some b->¬ex b)(K:∀p∈OX,¬ex p.1):XAt w' xb rv pn pv tv ov fv TX OX FX:=
 ⟨h.aO.kept k B,K0 h.txt k D,⟨K0 h.bP.row k G,fun p f=>⟨(h.bP.aX p f).1.kept k (K p f),(h.bP.aX p f).2⟩⟩,K0 h.of k J,h.lA⟩
theorem XAt.aA(h:XAt w xb rv pn pv tv ov fv TX OX FX)(k:Bw w w'):XAt w' xb rv pn pv tv ov fv TX OX FX:=h.kept (ex:=fun _=>False) (C0.aM k) (fun e=>e) (fun _ _ e=>e) (fun _ _ e=>e) (fun _ _ e=>e) (fun _ _ e=>e)
theorem XAt.to(h:XAt w xb rv pn pv tv ov fv TX OX FX){v6:Value}{J:Nat}{l:List Int}(X:Blk w J (T3 l) 3)(W:l.length=256)(G:fv.ownBlock≠some J)(U:w6.ownsRow 0 68 1 v6 (OX.map (fun p=>slV 256 p.1)++ [slV 256 J]).length (OX.map (fun p=>slV 256 p.1)++ [slV 256 J]))(V:C0 (fun b=>ov.ownBlock=some b) w w6):
  XAt (w6.setCell ⟨xb,4,none⟩ v6) xb rv pn pv tv v6 fv TX (OX++ [(J,l)]) FX:=by
 have K:=Ac (fb:=xb) (fld:=4) (v6:=v6) V;have M:Blk w6 xb #[rv,pn,pv,tv,ov,fv] 87:=h.aO.kept V (fun e=>L0 h.bP.row h.aO (by decide) e);have Y:C0 (fun b=>b=xb) w6 (w6.setCell ⟨xb,4,none⟩ v6):=C0.setCell (ex:=fun b=>b=xb) (p:=⟨xb,4,none⟩) (C0.refl _ _) (fun _=>rfl) _;have Z:v6.ownBlock≠some xb:=L0 U M (by decide);have D:∀{b:Nat} {m:List Int},Blk w b (T3 m) 3->Blk (w6.setCell ⟨xb,4,none⟩ v6) b (T3 m) 3:=fun f=>f.kept K (fun e=>by
  rcases e with e|e
  ·exact L0 h.bP.row f (by decide) e
  ·exact f.ne h.aO (by decide) e)
 refine⟨M.set 4 v6,K0 h.txt K (fun b f e=>?_),⟨?_,fun p B=>?_⟩,K0 h.of K (fun b f e=>?_),fun p B=>?_⟩
 ·rcases e with e|e
  ·exact Q9 h.bP.row h.txt (by decide) e f
  ·subst e;exact L0 h.txt h.aO (by decide) f
 ·have:=K0 U Y (fun b f e=>Z (by rw[<-e];exact f));simpa using this
 ·rw[zQ,zJ]at B;rcases B with B|rfl
  ·exact⟨D (h.bP.aX p B).1,(h.bP.aX p B).2⟩
  ·exact⟨D X,W⟩
 ·rcases e with e|e
  ·exact Q9 h.bP.row h.of (by decide) e f
  ·subst e;exact L0 h.of h.aO (by decide) f
 ·rw[zQ,zJ]at B;rcases B with B|rfl
  ·exact h.lA p B
  ·exact G
theorem XAt.text(h:XAt w xb rv pn pv tv ov fv TX OX FX){v6:Value}{s:ByteArray}(J:w6.ownsRow 0 9 1 v6 (TX.map Value.string++ [Value.string s]).length (TX.map Value.string++ [Value.string s]))(K:C0 (fun b=>tv.ownBlock=some b) w w6):
  XAt (w6.setCell ⟨xb,3,none⟩ v6) xb rv pn pv v6 ov fv (TX++ [s]) OX FX:=by
 have D:=Ac (fb:=xb) (fld:=3) (v6:=v6) K;have G:Blk w6 xb #[rv,pn,pv,tv,ov,fv] 87:=h.aO.kept K (fun e=>L0 h.txt h.aO (by decide) e);have M:C0 (fun b=>b=xb) w6 (w6.setCell ⟨xb,3,none⟩ v6):=C0.setCell (ex:=fun b=>b=xb) (p:=⟨xb,3,none⟩) (C0.refl _ _) (fun _=>rfl) _;have U:v6.ownBlock≠some xb:=L0 J G (by decide);refine⟨G.set 3 v6,?_,⟨K0 h.bP.row D (fun b f e=>?_),fun p B=>⟨(h.bP.aX p B).1.kept D (fun e=>?_),(h.bP.aX p B).2⟩⟩,K0 h.of D (fun b f e=>?_),h.lA⟩
 ·have:=K0 J M (fun b f e=>U (by rw[<-e];exact f));simpa using this
 ·rcases e with e|e
  ·exact Q9 h.txt h.bP.row (by decide) e f
  ·subst e;exact L0 h.bP.row h.aO (by decide) f
 ·rcases e with e|e
  ·exact L0 h.txt (h.bP.aX p B).1 (by decide) e
  ·exact(h.bP.aX p B).1.ne h.aO (by decide) e
 ·rcases e with e|e
  ·exact Q9 h.txt h.of (by decide) e f
  ·subst e;exact L0 h.of h.aO (by decide) f
theorem XAt.aB(h:XAt w xb rv pn pv tv ov fv TX OX FX){v6:Value}{r:Int}(K:Q2 w6 v6 (FX++ [r]))(W:∀b,v6.ownBlock=some b->fv.ownBlock=some b\/w.heap.size<=b)(M:C0 (fun b=>fv.ownBlock=some b) w w6):
  XAt (w6.setCell ⟨xb,5,none⟩ v6) xb rv pn pv tv ov v6 TX OX (FX++ [r]):=by
 have D:=Ac (fb:=xb) (fld:=5) (v6:=v6) M;have G:Blk w6 xb #[rv,pn,pv,tv,ov,fv] 87:=h.aO.kept M (fun e=>L0 h.of h.aO (by decide) e);have U:C0 (fun b=>b=xb) w6 (w6.setCell ⟨xb,5,none⟩ v6):=C0.setCell (ex:=fun b=>b=xb) (p:=⟨xb,5,none⟩) (C0.refl _ _) (fun _=>rfl) _;have V:v6.ownBlock≠some xb:=L0 K G (by decide);refine⟨G.set 5 v6,K0 h.txt D (fun b f e=>?_),⟨K0 h.bP.row D (fun b f e=>?_),fun p B=>⟨(h.bP.aX p B).1.kept D (fun e=>?_),(h.bP.aX p B).2⟩⟩,K0 K U (fun b f e=>V (by rw[<-e];exact f)),fun p B e=>?_⟩
 ·rcases e with e|e
  ·exact Q9 h.of h.txt (by decide) e f
  ·subst e;exact L0 h.txt h.aO (by decide) f
 ·rcases e with e|e
  ·exact Q9 h.of h.bP.row (by decide) e f
  ·subst e;exact L0 h.bP.row h.aO (by decide) f
 ·rcases e with e|e
  ·exact h.lA p B e
  ·exact(h.bP.aX p B).1.ne h.aO (by decide) e
 ·rcases W _ e with J|J
  ·exact h.lA p B J
  ·have:=(h.bP.aX p B).1.lt;omega
end
theorem Wh.iH{w w':World}{xb:Nat}{K:ByteArray}{f:Nat->Int}{D:List MT}{ex:Nat->Prop}(h:Wh w xb K f D)(k:C0 ex w w')(hx:∀x,Xd D x->¬ex x){G:Array Value}(Y:Blk w' xb G 87)
  {c:Array Value} (Z:Blk w xb c 87) (W:G[0]?=c[0]?) (X:G[1]?=c[1]?) (hr:∀B,c[0]?=some B->∀b,B.ownBlock=some b->¬ex b):Wh w' xb K f D:=by
 obtain⟨c2,B,M,J,U,V⟩:=h.aO;have e:=(Z.bX M).1;subst e;exact⟨⟨G,B,Y,by rw[W];exact J,by rw[X];exact U,K0 V k (hr B J)⟩,AtL.kept k D h.cQ hx,h.num,h.wf,h.lK,h.iZ,h.bE⟩
theorem Tryz.fB:(Tryz.prog.info? 9).map (fun i=>(i.zero,i.size,i.bytes))=some (some (.string ⟨#[]⟩),1,16):=by kernel_rfl
def PY(w w':World)(G:List PT)(R:E0)(v:Value):Prop:=
 (v=.tuple #[.pointer none,.bool false]/\J6 R (V0 R.aJ 256)=none)\/
 ∃fb J D B T S h f g,v=.tuple #[.pointer (some ⟨fb,0,none⟩),.bool true]/\P3 w' w.heap.size fb J D B T S h/\FP G R f.length T S h f g/\J6 R (V0 R.aJ 256)=some g
theorem P3.start(w:World)(B h gb fb:Nat)(J:Blk w B #[.string noT] 9)(K:Blk w h #[slV 120 gb] 143)(M:Blk w gb (Z0 Ba) 4)(U:Blk w fb #[.slice (some ⟨B,0,none⟩) 1 1,.slice (some ⟨h,0,none⟩) 1 1,.slice none 0 0] 146)(G:Nat)(V:G<=B)(W:G<=h)(X:G<=fb):
  P3 w G fb (.slice (some ⟨B,0,none⟩) 1 1) (.slice (some ⟨h,0,none⟩) 1 1) (.slice none 0 0) [noT] [(gb,Ba)] []:=
 ⟨U,J5 (by simp) J (zD _) (by unfold maxLen;omega) (by simp) (by simp),⟨J5 (by simp) K (zD _) (by unfold maxLen;omega) (by simp) (by simp),fun p D=>by rw[zJ]at D;subst D;exact⟨M,Qz⟩⟩,⟨World.ownsRow_nil _ _ _ _,fun p D=>by simp at D⟩,X,fun b f=>by cases(zE f:B=b);exact V,fun b f=>by cases(zE f:h=b);exact W,fun b f=>by simp[Value.ownBlock]at f⟩
theorem Ab3(b:Nat)(h:b<256)(w:World):(convert 147 9 (.slice (some ⟨w.heap.size,0,none⟩) 1 1)).run Tryz.prog (w.alloc (.cells #[.int .u8 (b:Int)] 5)).drew=.ok (.string (K1 [b])) (w.alloc (.cells #[.int .u8 (b:Int)] 5)).drew:=
 run_convert_bytes_back _ 147 9 5 _ 1 [UInt8.ofNat b] Tryz.underlying147 Tryz.underlying5 Tryz.underlying9 (fun j f=>by
  have:j=0:=by simp at f;omega
  subst this;have e:(UInt8.ofNat b).toNat=b:=by simp;omega
  simp only[List.getElem_cons_zero,e];exact World.cell?_alloc_mark w _ _ _ 0)
structure MV(w:World)(xb:Nat)(rs:ByteArray)(f:Nat->Int)(aD:List MT)(ts:List PT)(R:E0)(lv:Value)(low:List Int):Prop where
 eQ:Wh w xb rs f aD
 nt:ntL aD=ts.map PT.dL
 read:Di rs R ts
 row:Q2 w lv low
 len:low.length=256
 low:∀b,b<256->∃k:Nat,low.getD b 0=(k:Int)/\Ci R.aJ b k
theorem MV.aA{w w':World}{xb:Nat}{J:ByteArray}{f:Nat->Int}{D:List MT}{K:List PT}{R:E0}{G:Value}{B:List Int}(h:MV w xb J f D K R G B)(k:Bw w w'):MV w' xb J f D K R G B:=⟨h.eQ.aA k,h.nt,h.read,h.row.aA k,h.len,h.low⟩
theorem RK(xb:Nat)(rs:ByteArray)(f:Nat->Int)(aD:List MT)(ts:List PT)(R:E0)(lv:Value)(cd:List Int)(w:World)(h:MV w xb rs f aD ts R lv cd):
  Calls Tryz.prog 31 #[.pointer (some ⟨xb,0,none⟩),lv] w fun e w'=>∃v,e=.returned v/\PY w w' ts R v/\Bw w w':=by
 have d1:=AQ;have d2:=BQ;obtain⟨ld,cz,rfl,aj⟩:=h.row.aV;have bl:=h.len;rw[bl]at aj;rcases aj with e|⟨lg,rfl⟩
 ·omega
 obtain⟨L,hL⟩:∃L,cd.length=L:=⟨_,rfl⟩;have HC:=Hd h;rw[hL]at HC bl⊢;subst bl;have zx:=h.eQ.cells.1;clear h hL;go_enter Tryz.func31,Tryz.ntmps31;go_wp2_with fail;obtain⟨F,b7⟩:∃F,w.heap.size+1+1+1=F:=⟨_,rfl⟩;have cg:=Hd b7;have bb:w.heap.size<=F:=by omega
 try rw[b7]
 clear b7
 go_loopg[7] 62 (fun G nv wr=>∃(n:Nat) (tv sv ov:Value) (T:List ByteArray) (S:List (Nat×List Bool)) (To:List (Nat×List Int)) (PS:List I0) (g:B0),nv=.int .i64 n/\n<=T.length/\G=62-n/\P3 wr w.heap.size F tv sv ov T S To/\FP ts R n T S To PS g/\Bw w wr)
 case atStart=>
  have e:=cg.out;subst e;have b1:Blk (w.alloc (.cells #[.string noT] 9)) w.heap.size #[.string noT] 9:=Blk.aR _ _ _;have b2:Blk ((w.alloc (.cells #[.string noT] 9)).alloc (.cells (Z0 Ba) 4)) (w.heap.size+1) (Z0 Ba) 4:=by
   have:=Blk.aR (w.alloc (.cells #[.string noT] 9)) (Z0 Ba) 4
   rwa [show(w.alloc (.cells #[.string noT] 9)).heap.size=w.heap.size+1 by simp]at this
  have b3:Blk (((w.alloc (.cells #[.string noT] 9)).alloc (.cells (Z0 Ba) 4)).alloc (.cells #[slV 120 (w.heap.size+1)] 143)) (w.heap.size+1+1) #[slV 120 (w.heap.size+1)] 143:=by
   have:=Blk.aR ((w.alloc (.cells #[.string noT] 9)).alloc (.cells (Z0 Ba) 4)) #[slV 120 (w.heap.size+1)] 143
   rwa [show((w.alloc (.cells #[.string noT] 9)).alloc (.cells (Z0 Ba) 4)).heap.size=w.heap.size+1+1 by simp]at this
  have b4:Blk ((((w.alloc (.cells #[.string noT] 9)).alloc (.cells (Z0 Ba) 4)).alloc (.cells #[slV 120 (w.heap.size+1)] 143)).alloc (.cells #[.slice (some ⟨w.heap.size,0,none⟩) 1 1,.slice (some ⟨w.heap.size+1+1,0,none⟩) 1 1,.slice none 0 0] 146)) (w.heap.size+1+1+1) #[.slice (some ⟨w.heap.size,0,none⟩) 1 1,.slice (some ⟨w.heap.size+1+1,0,none⟩) 1 1,.slice none 0 0] 146:=by
   have:=Blk.aR (((w.alloc (.cells #[.string noT] 9)).alloc (.cells (Z0 Ba) 4)).alloc (.cells #[slV 120 (w.heap.size+1)] 143)) #[.slice (some ⟨w.heap.size,0,none⟩) 1 1,.slice (some ⟨w.heap.size+1+1,0,none⟩) 1 1,.slice none 0 0] 146
   rwa [show(((w.alloc (.cells #[.string noT] 9)).alloc (.cells (Z0 Ba) 4)).alloc (.cells #[slV 120 (w.heap.size+1)] 143)).heap.size=w.heap.size+1+1+1 by simp]at this
  exact⟨0,_,_,_,[noT],[(w.heap.size+1,Ba)],[],_,_,rfl,by simp,rfl,P3.start _ w.heap.size (w.heap.size+1+1) (w.heap.size+1) (w.heap.size+1+1+1) (((b1.alloc _).alloc _).alloc _) (b3.alloc _) ((b2.alloc _).alloc _) b4 _ (by omega) (by omega) (by omega),FP.start ts R _,(((N0 _ _).alloc (by simp) _).alloc (by simp;omega) _).alloc (by simp;omega) _⟩
 case round=>
  obtain⟨n,tv,sv,ov,T,S,To,PS,g,rfl,hn,rfl,hF,hP,hB⟩:=hrel;obtain⟨_,td,ce,rfl,ca⟩:=P0 hF.txt;have c0:wr.cell? ⟨F,0,none⟩=some (.slice td T.length ce):=hF.aO.cell 0;have cx:T.length<=61:=by rw[hP.aI.tl];exact hP.bT.cV
  have zf:=hF.aO.lt
  by_cases bx:n<T.length
  ·have e0:decide ((n:Int)<(T.length:Int))=true:=by simp;omega
   have HI:=Hd3 hF hP hB;clear hF hP hB ca;obtain⟨wo,rfl⟩:∃wo:World,wo=wr:=⟨_,rfl⟩;go_wp2_with fail
   go_loopg[9] 256 (fun G bv wr=>∃(b:Nat) (tv sv:Value) (U:List ByteArray) (S:List (Nat×List Bool)) (a0:List I0) (ap rl:List Int),bv=.int .i64 b/\b<=256/\G=256-b/\P3 wr w.heap.size F tv sv ov U S To/\RP ts R n b U S PS a0 ap rl/\Blk wr wo.heap.size (T3 rl) 3/\Bw w wr)
   case atStart=>
    obtain⟨hF,hP,hB⟩:=HI.out;exact⟨0,_,_,T,S,PS,[],TG,rfl,by omega,rfl,hF.aA (N0 _ _),hP.jS Rz,Blk.aR _ _ _,hB.alloc hB.size _⟩
   case round=>
    obtain⟨b,cf,bq,U,S2,a0,ap,rl,rfl,hb,rfl,K,hR,a5,a6⟩:=hrel
    by_cases J:b<256
    ·obtain⟨k,bj,ai⟩:=HC.out.low b J;have cl:wr.cell? ⟨lg,b,none⟩=some (.int .i64 k):=by rw[<-bj];exact(HC.out.aA a6).row.getD b (by rw[HC.out.len];exact J)
     have e1:decide ((b:Int)<256)=true:=by simp;omega
     have b0:(0:Int)<=(b:Int):=by omega
     have b1:(b:Int)<256:=by omega
     have k0:(0:Int)<=(k:Int):=by omega
     have cb:=T5 a5 b (by rw[hR.eS];exact J);have fb:=a5.frozen b;have zr:=a5.lt;have bt:∀p∈To,p.1≠wo.heap.size:=fun p hp e=>by have:=(HI.out.1.bP.aX p hp).1.lt;omega
     have ak:=Hd bt;clear bt
     by_cases co:k<b
     ·have e2:decide ((k:Int)<(b:Int))=true:=by simp;omega
      have k1:(k:Int)<256:=by omega
      have ck:=T5 a5 k (by rw[hR.eS];omega);have HJ:=Hd5 K hR a5 a6 ai;clear K hR a5 a6 ai bj;generalize hx:rl.getD k 0=x at ck;generalize rl.getD b 0=y at cb;have HX:=Hd hx;clear hx;go_wp2_with fail
      go_roundg (256- (b+1))
      case measure=>omega
      case rel=>
       obtain⟨q1,Y,q3,q4,q5⟩:=HJ.out;have q9:=Y.skip J q5 co;rw[HX.out]at q9;refine⟨b+1,_,_,U,S2,a0,ap,_,by go_num,by omega,rfl,q1.gK q3 ak.out b _,q9,by rw[<-Z3];exact q3.set b _,q4.setCell (show w.heap.size<=wo.heap.size by omega) _⟩
     ·obtain rfl:k=b:=by have:=ai.1;omega
      have e2:decide ((k:Int)<(k:Int))=false:=by simp
      have c3:=hR.bT.cY.length_le;have bm:n<PS.length:=by rw[<-HI.out.2.1.aI.tl];exact bx
      have bg:=hR.aI.tl;have a9:n<U.length:=by omega
      obtain⟨_,d3,M,rfl,cn⟩:=P0 K.txt;rcases cn with⟨_,e⟩|⟨tg,tc,rfl,c5,_⟩
      ·omega
      have ci:wr.cell? ⟨F,0,none⟩=some (.slice (some ⟨tg,0,none⟩) U.length M):=K.aO.cell 0;have ct:wr.cell? ⟨tg,n,none⟩=some (.string U[n]):=by rw[Y0 K.txt n (by omega)];simp[a9]
      have c4:=(hR.size a9).1;have d0:=(hR.size a9).2.2;obtain⟨s,hs⟩:∃s,U[n]++K1 [k]=s:=⟨_,rfl⟩;have cr:s.size<=20000:=by rw[<-hs,zN,Qc];simp;omega
      have n0:(0:Int)<=(n:Int):=by omega
      have n1:(n:Int)<(U.length:Int):=by omega
      have cm:=Ab3 k J wr;have cp:IntKind.u8.wrap (k:Int)=(k:Int):=by unfold IntKind.wrap;simp[IntKind.bits,IntKind.signed];omega
      have cw:=K.aO.lt;have d7:=c5.lt;have c1:¬(9223372036854775807<U[n].size+(K1 [k]).size):=by rw[Qc];simp;omega
      have HS:=Hd hs;have ac:=Hd hs;have HJ:=Hd5 K hR a5 a6 ai;have cc:=a6.size;clear K hR a5 a6 ai bj bg c3 c5;generalize U[n]=tn at ct HS hs c4 c1;clear hs;go_upto_region 11 with fail
      go_cut[10] (fun sv wx=>sv=.string s/\Bw wr wx)
      case first=>
       go_region
       all_goals
        go_wp2_with fail;go_meet;exact⟨by rw[<-HS.out],C2 ((Below.refl _ _).alloc (zD _) _) 1⟩
      case rest=>
       obtain⟨rfl,ao⟩:=hcut;obtain⟨q1,Y,q3,q4,q5⟩:=HJ.out;have g1:=q1.aA ao;have g3:=q3.aA ao;have g4:Bw w wc:=q4.trans (ao.mono q4.size);have aq:=Hd (LO xb rs s f aD wc (HC.out.aA g4).eQ cr);have be:S2.length<=100:=by have:=(Y.size a9).2.1;omega
       have HG:=Hd3 g1 g3 g4;clear q1 Y q3 q4 q5 g1 g3 g4 ao ci ct cl cb fb cm cp c1 c4 c0;go_wp2_with fail;refine aq.out.mono ?_;rintro e w1 ⟨l,rfl,hl,bw,bk,bu⟩;have HE:=Hd (OG wc.heap.size 120 120 l w1 bk hl (by omega));have HL:=Hd4 hl bw bk bu;clear hl bw bk bu aq;go_wp2_with fail;refine HE.out.mono ?_;rintro e w2 ⟨x,rfl,hx,an⟩;have aw:=Hd (CU F wc.heap.size w.heap.size _ _ _ U S2 To l w2 ((HG.out.1.aA HL.out.2.2.2).aA an) (HL.out.2.2.1.aA an) HL.out.1 be);unfold slV at aw;have HX:=Hd2 hx an;clear hx an HE;go_wp2_with fail;refine aw.out.mono ?_;rintro e w3 ⟨r,rfl,hr,bh⟩;obtain⟨q1,Y,q3,q4,q5⟩:=HJ.out;obtain⟨g1,g3,g4⟩:=HG.out;obtain⟨l1,l2,l3,l4⟩:=HL.out;obtain⟨x1,x2⟩:=HX.out;have aa:Bw wc w3:=(l4.trans (x2.mono l4.size)).trans (bh.mono (yI l4.size x2.size));have am:=g1.aA aa;have ag:=g3.aA aa;have ay:Bw w w3:=g4.trans (aa.mono g4.size);have bs:=(l3.aA x2).aA bh;have X:Wo ts (Q0 s) l:=⟨l1,fun a=>by rw[l2 a];exact WX HC.out.nt (fun x=>x.aY (Q0 s) a)⟩;have bz:Q0 s≠ []:=fun e=>by
        have:=congrArg List.length e;rw[I1,<-ac.out,zN,Qc]at this;simp at this
       have cj:=Ft.at HC.out.read Y.bT.bO Y.bT.bR Y.aI bz X hr x1;have c0:w3.cell? ⟨F,0,none⟩=some (.slice (some ⟨tg,0,none⟩) U.length M):=am.aO.cell 0;have cb:=T5 ag k (by rw[Y.eS];exact J);generalize rl.getD k 0=y at cb;have fb:=ag.frozen k;have d4:=am.aO.lt;have d5:=ag.lt;have ax:=Hd Y.aI.tl;have hh:Hid (∀v,C6 a0 (Kb R (Q0 s))=v->v≠(a0.length:Int)->RP ts R n (k+1) U S2 PS a0 (ap++ [v]) (rl.set k v)):=Hd fun v hv cq=>Y.fF bm J q5 a9 (by rw[ac.out];exact hv) cq
       have HF:=Hd4 am ag ay bs;have HQ:=Hd3 Y q5 X;have cv:=ay.size;clear q1 Y q3 q4 q5 g1 g3 g4 l1 l2 l3 l4 x1 x2 aa am ag ay bs X bz hr bh HG HL HX HJ aw;rcases cj with⟨rfl,rfl,hf⟩|⟨rfl,rfl,hf⟩|⟨rfl,i,h0,hi,rfl,hf⟩
       ·have HV:=Hd (hh.out _ hf (by omega));have e3:decide ((60:Int)<(U.length:Int)-1)=false:=by simp;omega
        clear hh hf HQ;go_wp2_with fail
        go_roundg (256- (k+1))
        case measure=>omega
        case rel=>
         obtain⟨a1,a2,a3,a4⟩:=HF.out;exact⟨k+1,_,_,U,S2,a0,_,_,by go_num,by omega,rfl,a1.gK a2 ak.out k _,HV.out,by rw[<-Z3];exact a2.set k _,a3.setCell (show w.heap.size<=wo.heap.size by omega) _⟩
       ·have au:(U.map Value.string).length+1<=4000000:=by rw[yB];omega
        have av:(S2.map (fun p:Nat×List Bool=>slV 120 p.1)).length+1<=4000000:=by rw[yB];omega
        have HA:Hid ((w3.alloc (.cells #[.string s] 9)).ownsRow 0 9 1 (.slice (some ⟨tg,0,none⟩) U.length M) (U.map Value.string).length (U.map Value.string)):=by rw[yB];exact Hd (Vm HF.out.1.txt _)
        have W:Hid (∀x,(Value.slice (some ⟨tg,0,none⟩) U.length M).ownBlock=some x->w.heap.size<=x):=Hd HF.out.1.own.2.1;obtain⟨m,hm⟩:∃m,U.length+1=m:=⟨_,rfl⟩;have HV:=Hd hf;have HM:=Hd hm;have cy:m<=62:=by omega
        clear hf hh hm;go_wp2_with(at_builtin;(refine Kf Tryz.underlying85 Tryz.fB rfl (by omega) (la:=U.map Value.string) (ll:=[.string s]) (va:=.slice (some ⟨tg,0,none⟩) U.length M) (vl:=.slice (some ⟨w3.heap.size,0,none⟩) 1 1) (by rfl) _ _ (by rfl) (by rfl) (by rfl) HA.out (Lf w3 9 (.string s)) (fun u hu=>by rw[zJ]at hu;rw[hu];rfl) w.heap.size (by simp;omega) W.out au ?_));intro v6 w6 r1 r2 r3;obtain⟨d6,B,rfl⟩:∃d6 B,v6=.slice d6 m B:=by obtain⟨_,d6,B,e,_⟩:=P0 r1;exact⟨d6,B,by rw[<-HM.out];simpa using e⟩
        have D:=HF.out.1.aA (N0 w3 (.cells #[.string s] 9));have af:=HF.out.2.1.aA (N0 w3 (.cells #[.string s] 9));have ah:=HF.out.2.2.2.aA (N0 w3 (.cells #[.string s] 9));have b6:Blk w6 F #[.slice (some ⟨tg,0,none⟩) U.length M,bq,ov] 146:=D.aO.kept r3 (fun e=>L0 D.txt D.aO (by decide) e);have c6:w6.cell? ⟨F,0,none⟩=some (.slice (some ⟨tg,0,none⟩) U.length M):=b6.cell 0;have f6:=b6.frozen 0;have z6:=b6.lt;have ae:Bw w w6:=C3 (HF.out.2.2.1.alloc cv _) r3 (by simp;omega) (fun x hx e=>by have:=W.out x e;omega);have b9:=D.text (by simpa using r1) r2 r3;have bc:=D.eG (v6:=.slice d6 m B) D.txt r3 0 af (by decide) (by decide);have bf:=D.eG (v6:=.slice d6 m B) D.txt r3 0 ah (by decide) (by decide);have az:=ae.setCell (p:=⟨F,0,none⟩) bb (.slice d6 m B);obtain⟨w7,bo⟩:∃w7,w6.setCell ⟨F,0,none⟩ (.slice d6 m B)=w7:=⟨_,rfl⟩;rw[bo]at b9 bc bf az;have Z:=Hd4 b9 bc az bf;clear r1 r2 r3 D af ah b6 ae b9 bc bf az HA W au cb fb c0;go_upto_region 18 with fail
        try rw[bo]
        clear bo c6 f6;obtain⟨_,ad,V,e9,_⟩:=P0 Z.out.1.aI.row;subst e9;have c7:w7.cell? ⟨F,1,none⟩=some (.slice ad S2.length V):=Z.out.1.aO.cell 1;have z7:=Z.out.1.aO.lt;have cu:=Z.out.2.2.1.size;have HA:Hid ((w7.alloc (.cells #[slV 120 wc.heap.size] 143)).ownsRow 0 143 1 (.slice ad S2.length V) (S2.map (fun p:Nat×List Bool=>slV 120 p.1)).length (S2.map (fun p:Nat×List Bool=>slV 120 p.1))):=by rw[yB];exact Hd (Vm Z.out.1.aI.row _)
        have W:Hid (∀x,(Value.slice ad S2.length V).ownBlock=some x->w.heap.size<=x):=Hd Z.out.1.own.2.2.1;go_wp2_with(at_builtin;(refine Kf Tryz.underlying144 Tryz.eO rfl (by omega) (la:=S2.map (fun p:Nat×List Bool=>slV 120 p.1)) (ll:=[slV 120 wc.heap.size]) (va:=.slice ad S2.length V) (vl:=.slice (some ⟨w7.heap.size,0,none⟩) 1 1) (by rfl) _ _ (by rfl) (by rfl) (by rfl) HA.out (Lf w7 143 (slV 120 wc.heap.size)) (fun u hu=>by rw[zJ]at hu;rw[hu];rfl) w.heap.size (by simp;omega) W.out av ?_));intro v8 w8 r1 r2 r3;obtain⟨d8,m8,a7,rfl⟩:∃d8 m8 a7,v8=.slice d8 m8 a7:=by obtain⟨_,d6,B,e,_⟩:=P0 r1;exact⟨_,_,_,e⟩
        have D:=Z.out.1.aA (N0 w7 (.cells #[slV 120 wc.heap.size] 143));have af:=Z.out.2.1.aA (N0 w7 (.cells #[slV 120 wc.heap.size] 143));have ah:=Z.out.2.2.2.aA (N0 w7 (.cells #[slV 120 wc.heap.size] 143));have b8:Blk w8 F #[.slice d6 m B,.slice ad S2.length V,ov] 146:=D.aO.kept r3 (fun e=>L0 D.aI.row D.aO (by decide) e);have c8:w8.cell? ⟨F,1,none⟩=some (.slice ad S2.length V):=b8.cell 1;have f8:=b8.frozen 1;have br:Bw w w8:=C3 (Z.out.2.2.1.alloc cu _) r3 (by simp;omega) (fun x hx e=>by have:=W.out x e;omega);have ba:=D.set ah HQ.out.2.2.1 (by simpa using r1) r2 r3;have bd:=D.eG (v6:=.slice d8 m8 a7) D.aI.row r3 1 af (by decide) (by decide);have b5:=br.setCell (p:=⟨F,1,none⟩) bb (.slice d8 m8 a7);obtain⟨w9,bp⟩:∃w9,w8.setCell ⟨F,1,none⟩ (.slice d8 m8 a7)=w9:=⟨_,rfl⟩;rw[bp]at ba bd b5;have ab:=Hd3 ba bd b5;clear r1 r2 r3 D af ah b8 br ba bd b5 HA W av c7;go_upto_region 19 with fail
        try rw[bp]
        clear bp c8 f8;have c9:w9.cell? ⟨F,0,none⟩=some (.slice d6 m B):=ab.out.1.aO.cell 0;have z9:=ab.out.1.aO.lt
        by_cases ht:a0.length+1<=61
        ·have e3:decide ((60:Int)<(m:Int)-1)=false:=by have:=ax.out;have:=HM.out;simp;omega
         obtain⟨Y,q5,X⟩:=HQ.out;have bi:=Y.fresh (gb:=wc.heap.size) (l:=l) bm J q5 a9 (by rw[ac.out];exact X) (by rw[ac.out];exact HV.out) ht;rw[ac.out,<-ax.out]at bi;have cb:=T5 ab.out.2.1 k (by rw[Y.eS];exact J);generalize rl.getD k 0=y at cb;have fb:=ab.out.2.1.frozen k;have ch:=Hd bi;clear Y q5 X bi;go_wp2_with fail
         go_roundg (256- (k+1))
         case measure=>omega
         case rel=>
          obtain⟨a1,a2,a3⟩:=ab.out;exact⟨k+1,_,_,_,_,_,_,_,by go_num,by omega,rfl,a1.gK a2 ak.out k _,ch.out,by rw[<-Z3];exact a2.set k _,a3.setCell (show w.heap.size<=wo.heap.size by omega) _⟩
        ·have e3:decide ((60:Int)<(m:Int)-1)=true:=by have:=ax.out;have:=HM.out;simp;omega
         go_wp2_with fail
         go_ret2
         obtain⟨Y,q5,X⟩:=HQ.out;exact⟨_,rfl,.inl ⟨rfl,Y.fail HI.out.2.1.bT bm J q5 a9 (by rw[ac.out];exact HV.out) (by omega)⟩,ab.out.2.2⟩
       ·have HV:=Hd (hh.out _ hf (by omega));have e3:decide ((60:Int)<(U.length:Int)-1)=false:=by simp;omega
        have e4:decide ((i:Int)<0)=false:=by simp
        clear hh hf HQ;go_wp2_with fail
        go_roundg (256- (k+1))
        case measure=>omega
        case rel=>
         obtain⟨a1,a2,a3,a4⟩:=HF.out;exact⟨k+1,_,_,U,S2,a0,_,_,by go_num,by omega,rfl,a1.gK a2 ak.out k _,HV.out,by rw[<-Z3];exact a2.set k _,a3.setCell (show w.heap.size<=wo.heap.size by omega) _⟩
    ·obtain rfl:b=256:=by omega
     have e1:decide (((256:Nat):Int)<256)=false:=by simp
     obtain⟨_,od,a8,e',_⟩:=P0 K.bP.row;have c2:wr.cell? ⟨F,2,none⟩=some (.slice od To.length a8):=by rw[<-e'];exact K.aO.cell 2
     have HO:Hid (ov=.slice od To.length a8):=Hd e';have cw:=K.aO.lt;have cc:=a6.size;have bg:(To.map (fun p:Nat×List Int=>slV 256 p.1)).length+1<=4000000:=by rw[yB,HI.out.2.1.tl];omega
     have HA:Hid ((wr.alloc (.cells #[slV 256 wo.heap.size] 68)).ownsRow 0 68 1 (.slice od To.length a8) (To.map (fun p:Nat×List Int=>slV 256 p.1)).length (To.map (fun p:Nat×List Int=>slV 256 p.1))):=by rw[<-e',yB];exact Hd (Vm K.bP.row _)
     have W:Hid (∀x,(Value.slice od To.length a8).ownBlock=some x->w.heap.size<=x):=by rw[<-e'];exact Hd K.own.2.2.2
     have HJ:=Hd4 K hR a5 a6;clear K hR a5 a6 e';go_wp2_with(at_builtin;(refine Kf Tryz.underlying69 Tryz.dP rfl (by omega) (la:=To.map (fun p:Nat×List Int=>slV 256 p.1)) (ll:=[slV 256 wo.heap.size]) (va:=.slice od To.length a8) (vl:=.slice (some ⟨wr.heap.size,0,none⟩) 1 1) (by rfl) _ _ (by rfl) (by rfl) (by rfl) HA.out (Lf wr 68 (slV 256 wo.heap.size)) (fun u hu=>by rw[zJ]at hu;rw[hu];rfl) w.heap.size (by simp;omega) W.out bg ?_));intro v6 w6 r1 r2 r3;obtain⟨d6,m6,B,rfl⟩:∃d6 m6 B,v6=.slice d6 m6 B:=by obtain⟨_,d6,B,e,_⟩:=P0 r1;exact⟨_,_,_,e⟩
     have D:=HJ.out.1.aA (N0 wr (.cells #[slV 256 wo.heap.size] 68));have ar:=HJ.out.2.2.1.aA (N0 wr (.cells #[slV 256 wo.heap.size] 68));have b6:Blk w6 F #[cf,bq,ov] 146:=D.aO.kept r3 (fun e=>by rw[<-HO.out]at e;exact L0 D.bP.row D.aO (by decide) e);have c6:w6.cell? ⟨F,2,none⟩=some ov:=b6.cell 2;have f6:=b6.frozen 2;have ae:Bw w w6:=C3 (HJ.out.2.2.2.alloc cc _) r3 (by simp;omega) (fun x hx e=>by have:=W.out x e;omega);have HK:Hid (P3 (w6.setCell ⟨F,2,none⟩ (.slice d6 m6 B)) w.heap.size F cf bq (.slice d6 m6 B) U S2 (To++ [(wo.heap.size,rl)])/\Bw w (w6.setCell ⟨F,2,none⟩ (.slice d6 m6 B))):=Hd ⟨D.kD ar HJ.out.2.1.eS (by simpa using r1) r2 (by rw[HO.out];exact r3),ae.setCell bb _⟩;clear r1 r2 r3 D ar b6 ae HA W;go_wp2_with fail
     go_roundg (62- (n+1))
     case measure=>omega
     case rel=>
      obtain⟨q1,Y,q3,q4⟩:=HJ.out;obtain⟨p1,p2,p3⟩:=HI.out;have bn:n<PS.length:=by rw[<-p2.aI.tl];exact bx
      have:=Y.bT.cY.length_le;have:=Y.aI.tl;refine⟨n+1,_,_,_,U,S2,_,a0,_,by go_num,by omega,rfl,HK.out.1,Y.done p2 bn wo.heap.size,HK.out.2⟩
  ·have e0:decide ((n:Int)<(T.length:Int))=false:=by simp;omega
   have HI:=Hd3 hF hP hB;clear hF hP hB ca;go_wp2_with fail
   go_ret2
   obtain⟨hF,hP,hB⟩:=HI.out;have bn:n=PS.length:=by have:=hP.aI.tl;omega
   exact⟨_,rfl,.inr ⟨_,_,_,_,T,S,To,PS,g,rfl,hF,by rw[<-bn];exact hP,hP.bT.done (by omega)⟩,hB⟩
structure GP(T:List ByteArray)(To:List (Nat×List Int))(g:B0)(K:Nat)(kd:Nat->Nat)(aD:List MT):Prop where
 tl:T.length=g.aB.length
 ol:To.length=g.aB.length
 ok:GOk g K
 cV:0<g.aB.length/\g.aB.length<=61
 size:∀i,(h:i<T.length)->T[i].size<=20000
 step:∀i b,(h:i<To.length)->b<256->To[i].2.getD b 0=W0 g (i:Int) (kd b)
 lI:∀b,b<256->kd b<K
 kV:∀k,k<K->∃b,b<256/\kd b=k
 bM:∀i r,(h:i<T.length)->WE aD (Q0 T[i]) r->r=g.aB.getD i 0
section
variable{T:List ByteArray}{To:List (Nat×List Int)}{g:B0}{K:Nat}{kd:Nat->Nat}{aD:List MT}{l l0:List Bool}
theorem GP.leads(h:GP T To g K kd aD){i b:Nat}(G:i<g.aB.length)(f:b<256):W0 g (i:Int) (kd b)= -1\/∃t:Nat,t<g.aB.length/\W0 g (i:Int) (kd b)=(t:Int):=by
 rcases J8 h.ok (s:=(i:Int)) (by omega) (by omega) (h.lI b f)with e|⟨B,D⟩
 ·exact .inl e
 ·exact .inr ⟨(W0 g (i:Int) (kd b)).toNat,by omega,by omega⟩
theorem Ln(g:B0)(i:Nat):Z4 g (i:Int)=g.aB.getD i 0:=by unfold Z4;rw[if_neg (by omega),zH]
theorem WS{g:B0}{K i:Nat}(h:g.aB.getD i 0≠ -1):R6 g K (i:Int):=⟨[],by simp,by show Z4 g (i:Int)≠ -1;rw[Ln];exact h⟩
theorem Ty{g:B0}{K i k t:Nat}(J:k<K)(e:W0 g (i:Int) k=(t:Int))(h:R6 g K (t:Int)):R6 g K (i:Int):=by
 obtain⟨B,D,G⟩:=h;refine⟨k::B,fun x f=>?_,?_⟩
 ·rw[zU]at f;rcases f with rfl|f
  ·exact J
  ·exact D x f
 ·show Z4 g (A3 g (W0 g (i:Int) k) B)≠ -1;rw[e];exact G
def BM(g:B0)(K:Nat)(l:List Bool):Prop:=∀i:Nat,i<g.aB.length->l.getD i false=true->R6 g K (i:Int)
def MY(g:B0)(l:List Bool):Prop:=∀i,i<g.aB.length->g.aB.getD i 0≠ -1->l.getD i false=true
def PH(g:B0)(kd:Nat->Nat)(l:List Bool)(n b:Nat):Prop:=∀i c t:Nat,i<g.aB.length->c<256->(i<n\/(i=n/\c<b))->W0 g (i:Int) (kd c)=(t:Int)->l.getD t false=true->l.getD i false=true
def RE(g:B0)(kd:Nat->Nat)(l:List Bool):Prop:=PH g kd l g.aB.length 0
theorem PH.row{n:Nat}(h:PH g kd l n 256):PH g kd l (n+1) 0:=fun i c t B f D=>h i c t B f (by omega)
theorem PH.next{n b:Nat}(h:PH g kd l n b)(D:∀t:Nat,W0 g (n:Int) (kd b)=(t:Int)->l.getD t false=true->l.getD n false=true):PH g kd l n (b+1):=fun i c t B f G=>by
 by_cases e:i=n/\c=b
 ·obtain⟨rfl,rfl⟩:=e;exact D t
 ·exact h i c t B f (by omega)
theorem Tq(h:GP T To g K kd aD)(G:MY g l)(M:RE g kd l):∀(B:List Nat) (i:Nat),i<g.aB.length->(∀k∈B,k<K)->Z4 g (A3 g (i:Int) B)≠ -1->l.getD i false=true
 | [],i,hi,_,D=>G i hi (by rw[<-Ln];exact D)
 |k::B,i,hi,hk,D=>by
  have f:Z4 g (A3 g (W0 g (i:Int) k) B)≠ -1:=D;obtain⟨b,J,rfl⟩:=h.kV k (hk k (by simp));rcases h.leads hi J with e|⟨t,V,e⟩
  ·rw[e,S9 g B (-1) (by omega)]at f
   exfalso
   apply f;have U:Z4 g (-1)= -1:=by unfold Z4;rw[if_pos (by omega)]
   split <;>exact U
  ·rw[e]at f;have:=Tq h G M B t V (fun x D=>hk x (by simp[D])) f;exact M i b t hi J (.inl hi) e this
structure Vc(g:B0)(K:Nat)(kd:Nat->Nat)(l0 l:List Bool)(n b:Nat):Prop where
 len:l.length=g.aB.length
 cS:BM g K l
 aS:MY g l
 or:(l=l0/\PH g kd l0 n b)\/(¬RE g kd l0/\l0.count true<l.count true)
theorem Ux:∀(l:List Bool) (i:Nat),i<l.length->l.getD i false=false->(l.set i true).count true=l.count true+1
 | [],i,h,_=>by simp at h
 |a::l,0,_,h=>by
  simp at h;subst h;simp
 |a::l,i+1,h,hx=>by
  have:=Ux l i (by simpa using h) (by simpa using hx);rw[List.set_cons_succ,List.count_cons,List.count_cons,this];omega
theorem Vc.start(f:l0.length=g.aB.length)(h:BM g K l0)(B:MY g l0):Vc g K kd l0 l0 0 0:=⟨f,h,B,.inl ⟨rfl,fun i c t G D J=>by omega⟩⟩
theorem Vc.row{n:Nat}(h:Vc g K kd l0 l n 256):Vc g K kd l0 l (n+1) 0:=⟨h.len,h.cS,h.aS,h.or.imp (fun e=>⟨e.1,e.2.row⟩) id⟩
theorem Vc.iN{n b:Nat}(h:Vc g K kd l0 l n b)(D:∀t:Nat,W0 g (n:Int) (kd b)=(t:Int)->l.getD t false=false):Vc g K kd l0 l n (b+1):=⟨h.len,h.cS,h.aS,h.or.imp (fun e=>⟨e.1,e.2.next (fun t B f=>by rw[<-e.1,D t B]at f;cases f)⟩) id⟩
theorem Vc.mark(hg:GP T To g K kd aD){n b t:Nat}(h:Vc g K kd l0 l n b)(Y:n<g.aB.length)(W:b<256)(ht:t<g.aB.length)(e:W0 g (n:Int) (kd b)=(t:Int))(X:l.getD t false=true):Vc g K kd l0 (l.set n true) n (b+1):=by
 have D:=h.len;refine⟨by simp[D],fun i V G=>?_,fun i V G=>?_,?_⟩
 ·rw[C7 _ _ _ _ (by omega)]at G
  by_cases B:i=n
  ·rw[B];exact Ty (hg.lI b W) e (h.cS t ht X)
  ·rw[if_neg B]at G;exact h.cS i V G
 ·rw[C7 _ _ _ _ (by omega)]
  by_cases B:i=n
  ·rw[if_pos B]
  ·rw[if_neg B];exact h.aS i V G
 ·cases hln:l.getD n false with
  |true=>
   have es:l.set n true=l:=by
    refine Qn (by simp) fun a=>?_
    rw[C7 _ _ _ _ (by omega)]
    by_cases M:a=n
    ·rw[if_pos M,M,hln]
    ·rw[if_neg M]
   rw[es];refine h.or.imp (fun J=>⟨J.1,J.2.next (fun t' _ _=>by rw[<-J.1];exact hln)⟩) id
  |false=>
   have hc:=Ux l n (by omega) hln;rcases h.or with⟨f,Z⟩|⟨f,Z⟩
   ·refine .inr ⟨fun U=>?_,by rw[hc,f];omega⟩;have:=U n b t Y W (.inl Y) e (by rw[<-f];exact X);rw[<-f,hln]at this;cases this
   ·exact .inr ⟨f,by omega⟩
structure GR(g:B0)(K:Nat)(kd:Nat->Nat)(l:List Bool)(k:Nat):Prop where
 len:l.length=g.aB.length
 cS:BM g K l
 aS:MY g l
 or:RE g kd l\/k<=l.count true
theorem Vc.done{k:Nat}(h:Vc g K kd l0 l g.aB.length 0)(D:GR g K kd l0 k):GR g K kd l (k+1):=by
 refine⟨h.len,h.cS,h.aS,?_⟩;rcases h.or with⟨f,B⟩|⟨f,B⟩
 ·exact .inl (by rw[f];exact B)
 ·rcases D.or with e|e
  ·exact absurd e f
  ·exact .inr (by omega)
theorem GR.end(M:GP T To g K kd aD)(h:GR g K kd l g.aB.length){i:Nat}(B:i<g.aB.length):l.getD i false=true↔R6 g K (i:Int):=by
 refine⟨h.cS i B,fun⟨U,G,J⟩=>?_⟩;rcases h.or with e|e
 ·exact Tq M h.aS e U i B G J
 ·have f:l.count true=l.length:=Nat.le_antisymm List.count_le_length (by rw[h.len];exact e);rw[List.count_eq_length]at f;have D:=h.len;rw[zC,zF (by omega)];exact(f _ (zG _)).symm
end
theorem P3.to{w:World}{M fb:Nat}{W V U:Value}{T:List ByteArray}{S:List (Nat×List Bool)}{B:List (Nat×List Int)}(h:P3 w M fb W V U T S B)(X:0<B.length):∃D f,w.cell? ⟨fb,2,none⟩=some (.slice (some ⟨D,0,none⟩) B.length f)/\∀i,(G:i<B.length)->w.cell? ⟨D,i,none⟩=some (.slice (some ⟨B[i].1,0,none⟩) 256 256)/\∀b,b<256->w.cell? ⟨B[i].1,b,none⟩=some (.int .i64 (B[i].2.getD b 0)):=by
 have J:=h.bP.row;obtain⟨_,od,f,rfl,⟨_,e⟩|⟨D,oc,rfl,_⟩⟩:=P0 J
 ·omega
 refine⟨D,f,h.aO.cell 2,fun i G=>⟨by rw[Y0 J i (by omega)];simp[slV,G],fun b Z=>?_⟩⟩;obtain⟨K,Y⟩:=h.bP.aX B[i] (zG G);exact T5 K b (by omega)
theorem P3.eU{w:World}{M fb:Nat}{X W V:Value}{T:List ByteArray}{S:List (Nat×List Bool)}{K:List (Nat×List Int)}(h:P3 w M fb X W V T S K)(Y:0<T.length):∃J B,w.cell? ⟨fb,0,none⟩=some (.slice (some ⟨J,0,none⟩) T.length B)/\∀i,(D:i<T.length)->w.cell? ⟨J,i,none⟩=some (.string T[i]):=by
 have G:=h.txt;obtain⟨_,od,f,rfl,⟨_,e⟩|⟨U,Z,rfl,_⟩⟩:=P0 G
 ·omega
 exact⟨U,f,h.aO.cell 0,fun i D=>by rw[Y0 G i (by omega)];simp[D]⟩
theorem MG(xb fb lo:Nat)(rs:ByteArray)(f:Nat->Int)(aD:List MT)(tv sv ov:Value)(T:List ByteArray)(S:List (Nat×List Bool))(To:List (Nat×List Int))(g:B0)(K:Nat)(kd:Nat->Nat)(w:World)(hL:Wh w xb rs f aD)(U:P3 w lo fb tv sv ov T S To)(V:GP T To g K kd aD):
  Calls Tryz.prog 66 #[.pointer (some ⟨xb,0,none⟩),.pointer (some ⟨fb,0,none⟩)] w fun e w'=>∃l,e=.returned (.slice (some ⟨w.heap.size,0,none⟩) T.length T.length)/\Blk w' w.heap.size (Z0 l) 4/\l.length=T.length/\(∀i:Nat,i<T.length->(l.getD i false=true↔R6 g K (i:Int)))/\Bw w w':=by
 have aa:=V.tl;have au:=V.cV;obtain⟨N,hN⟩:∃N,T.length=N:=⟨_,rfl⟩;have ay:N<=61:=by omega
 have b5:0<N:=by omega
 have ap:=A8 N (by omega);obtain⟨tg,ak,c0,ct⟩:=U.eU (by omega);have zf:=U.aO.lt;have HC:=Hd5 hL U V hN ct;rw[hN]at c0⊢;obtain⟨w1,ab⟩:∃w1:World,w.alloc (.cells (Z0 (List.replicate N false)) 4)=w1:=⟨_,rfl⟩;have ah:Bw w w1:=by rw[<-ab];exact N0 _ _
 have ai:Blk w1 w.heap.size (Z0 (List.replicate N false)) 4:=by rw[<-ab];exact Blk.aR _ _ _
 have H1:=Hd2 ah ai;clear hL U V hN ct aa au ah ai;go_enter Tryz.func66,Tryz.ntmps66;go_upto_region 2 with fail
 try rw[ab]
 clear ab ap;go_wp2_with fail
 go_loopg[6] N (fun G nv wr=>∃(n:Nat) (l:List Bool),nv=.int .i64 n/\n<=N/\G=N-n/\l.length=N/\(∀i,i<N->l.getD i false=decide (i<n/\g.aB.getD i 0≠ -1))/\Blk wr w.heap.size (Z0 l) 4/\Bw w wr)
 case atStart=>
  refine⟨0,_,rfl,by omega,rfl,by simp,fun i hi=>?_,H1.out.2,H1.out.1⟩;rw[zC,yM];split <;>simp
 case round=>
  obtain⟨n,l,rfl,hn,rfl,hl,Y,B,h⟩:=hrel;have zo:=B.lt;have b8:=h.size
  by_cases b7:n<N
  ·have e0:decide ((n:Int)<(N:Int))=true:=by simp;omega
   obtain⟨hL,U,V,hN,ct⟩:=HC.out;have a9:n<T.length:=by omega
   have am:wr.cell? ⟨fb,0,none⟩=some (.slice (some ⟨tg,0,none⟩) N ak):=by rw[h.cell zf];exact c0
   obtain⟨ax,aw,c9,ag⟩:=(U.aA h).eU (by omega);have e9:ax=tg:=by rw[am]at c9;injection c9 with e;injection e with e;injection e with e;injection e with e;exact e.symm
   subst e9;have an:=ag n a9;have HT:=Hd (Np xb rs T[n] f aD wr (hL.aA h) (V.size n a9));have a0:=Hd (V.bM n · a9);generalize T[n]=tn at an HT a0;have n0:(0:Int)<=(n:Int):=by omega
   have n1:(n:Int)<(N:Int):=by omega
   have HI:=Hd4 hl Y B h;clear hL U V hN ct ag c9 a9 hl Y B h;go_wp2_with fail;refine HT.out.mono ?_;rintro e w2 ⟨r,rfl,hr,ae⟩;have aj:=a0.out r hr;obtain⟨x,hx⟩:∃x,(r != -1)=x:=⟨_,rfl⟩;obtain⟨D,M,J,a4⟩:=HI.out;have a7:=J.aA ae;have cb:=P2 a7 n (by omega);generalize l.getD n false=y at cb;have b4:=a7.frozen n;have b9:=a7.lt;have HR:=Hd3 aj ae hx;clear aj ae hr D M J a4 a7 HT a0;go_wp2_with fail
   go_roundg (N- (n+1))
   case measure=>omega
   case rel=>
    obtain⟨D,M,J,a4⟩:=HI.out;obtain⟨b1,b2,b3⟩:=HR.out;refine⟨n+1,l.set n x,by go_num,by omega,rfl,by simp[D],fun i hi=>?_,by rw[<-D4];exact(J.aA b2).set n _,(a4.trans (b2.mono a4.size)).setCell (zD _) _⟩;rw[C7 _ _ _ _ (by omega)]
    by_cases ei:i=n
    ·subst ei;rw[if_pos rfl,<-b3,b1];generalize g.aB.getD i 0=q
     by_cases e5:q= -1
     ·simp[e5]
     ·simp[e5]
    ·rw[if_neg ei,M i hi];have:(i<n+1/\g.aB.getD i 0≠ -1)↔(i<n/\g.aB.getD i 0≠ -1):=by
      constructor
      ·rintro⟨p,q⟩;exact⟨by omega,q⟩
      ·rintro⟨p,q⟩;exact⟨by omega,q⟩
     simp only[this]
  ·have e0:decide ((n:Int)<(N:Int))=false:=by simp;omega
   have Z:n=N:=by omega
   obtain⟨hL,U,V,hN,ct⟩:=HC.out;have aa:=V.tl;have ac:GR g K kd l 0:=by
    refine⟨by omega,fun i hi hx=>?_,fun i hi hx=>?_,.inr (yC _)⟩
    ·rw[Y i (by omega)]at hx;exact WS (of_decide_eq_true hx).2
    ·rw[Y i (by omega)];exact decide_eq_true ⟨by omega,hx⟩
   have W:To.length=N:=by have:=V.ol;omega
   have HO:=Hd2 W U;have HN:=Hd (hN.symm.trans aa);have HG:=Hd V;have ad:=Hd3 ac B h;clear hL U V hN ct aa ac hl Y B h Z c0 W HC;go_wp2_with fail
   go_loopg[7] N (fun G kv wr=>∃(k:Nat) (l:List Bool),kv=.int .i64 k/\k<=N/\G=N-k/\GR g K kd l k/\Blk wr w.heap.size (Z0 l) 4/\Bw w wr)
   case atStart=>exact⟨0,l,rfl,by omega,rfl,ad.out.1,ad.out.2.1,ad.out.2.2⟩
   case round=>
    obtain⟨k,l,rfl,hk,rfl,hT,B,h⟩:=hrel
    by_cases b6:k<N
    ·have e1:decide ((k:Int)<(N:Int))=true:=by simp;omega
     have HI:=Hd3 hT B h;clear hT B h;go_wp2_with fail
     go_loopg[8] N (fun G nv wr=>∃(n:Nat) (l2:List Bool),nv=.int .i64 n/\n<=N/\G=N-n/\Vc g K kd l l2 n 0/\Blk wr w.heap.size (Z0 l2) 4/\Bw w wr)
     case atStart=>exact⟨0,l,rfl,by omega,rfl,Vc.start HI.out.1.len HI.out.1.cS HI.out.1.aS,HI.out.2.1,HI.out.2.2⟩
     case round=>
      obtain⟨n,l2,rfl,hn,rfl,X,B,h⟩:=hrel
      by_cases Z:n<N
      ·have e2:decide ((n:Int)<(N:Int))=true:=by simp;omega
       have HJ:=Hd3 X B h;clear X B h;go_wp2_with fail
       go_loopg[9] 256 (fun G bv wr=>∃(b:Nat) (l3:List Bool),bv=.int .i64 b/\b<=256/\G=256-b/\Vc g K kd l l3 n b/\Blk wr w.heap.size (Z0 l3) 4/\Bw w wr)
       case atStart=>exact⟨0,l2,rfl,by omega,rfl,HJ.out.1,HJ.out.2.1,HJ.out.2.2⟩
       case round=>
        obtain⟨b,l3,rfl,hb,rfl,X,B,h⟩:=hrel
        by_cases a8:b<256
        ·have e3:decide ((b:Int)<256)=true:=by simp;omega
         obtain⟨W,U⟩:=HO.out;obtain⟨og,az,o1,o2⟩:=(U.aA h).to (by omega);obtain⟨p1,p2⟩:=o2 n (by omega);have p3:=p2 b a8;rw[HG.out.step n b (by omega) a8]at p3;rw[W]at o1;generalize To[n].1=ob at p1 p3;have n0:(0:Int)<=(n:Int):=by omega
         have n1:(n:Int)<(N:Int):=by omega
         have b0:(0:Int)<=(b:Int):=by omega
         have b1:(b:Int)<256:=by omega
         have cn:=P2 B n (by rw[X.len,<-HN.out];exact Z);have fn:=B.frozen n;generalize av:l3.getD n false=yn at cn;clear av;have ba:=B.lt;rcases HG.out.leads (i:=n) (b:=b) (by rw[<-HN.out];exact Z) a8 with e|⟨t,ht,e⟩
         ·rw[e]at p3;have HQ:=Hd4 X B h e;clear X B h e U o2 p2 W;go_wp2_with fail
          go_roundg (256- (b+1))
          case measure=>omega
          case rel=>
           obtain⟨D,M,J,a4⟩:=HQ.out;exact⟨b+1,l3,by go_num,by omega,rfl,D.iN (fun t ht=>by rw[a4]at ht;omega),M,J⟩
         ·rw[e]at p3;have ar:t<N:=by rw[HN.out];exact ht
          have t0:(0:Int)<=(t:Int):=by omega
          have t1:(t:Int)<(N:Int):=by omega
          have e5:decide ((0:Int)<=(t:Int))=true:=by simp
          have cy:=P2 B t (by rw[X.len,<-HN.out];exact ar);generalize hy:l3.getD t false=y at cy;have HQ:=Hd6 X B h e hy ht;clear X B h e U o2 p2 W hy ht;cases y with
          |true=>
           go_wp2_with fail
           go_roundg (256- (b+1))
           case measure=>omega
           case rel=>
            obtain⟨D,M,J,a4,a5,a6⟩:=HQ.out;exact⟨b+1,l3.set n true,by go_num,by omega,rfl,D.mark HG.out (by rw[<-HN.out];exact Z) a8 a6 a4 a5,by rw[<-D4];exact M.set n _,J.setCell (zD _) _⟩
          |false=>
           go_wp2_with fail
           go_roundg (256- (b+1))
           case measure=>omega
           case rel=>
            obtain⟨D,M,J,a4,a5,a6⟩:=HQ.out;exact⟨b+1,l3,by go_num,by omega,rfl,D.iN (fun t' ht=>by rw[a4]at ht;rw[show t'=t by omega];exact a5),M,J⟩
        ·have e3:decide ((b:Int)<256)=false:=by simp;omega
         have af:b=256:=by omega
         have HQ:=Hd3 X B h;clear X B h;go_wp2_with fail
         go_roundg (N- (n+1))
         case measure=>omega
         case rel=>
          obtain⟨D,M,J⟩:=HQ.out;rw[af]at D;exact⟨n+1,l3,by go_num,by omega,rfl,D.row,M,J⟩
      ·have e2:decide ((n:Int)<(N:Int))=false:=by simp;omega
       have aq:n=N:=by omega
       have HQ:=Hd3 X B h;clear X B h;go_wp2_with fail
       go_roundg (N- (k+1))
       case measure=>omega
       case rel=>
        obtain⟨D,M,J⟩:=HQ.out;rw[aq,HN.out]at D;exact⟨k+1,l2,by go_num,by omega,rfl,D.done HI.out.1,M,J⟩
    ·have e1:decide ((k:Int)<(N:Int))=false:=by simp;omega
     have ao:k=N:=by omega
     have HQ:=Hd3 hT B h;clear hT B h;go_wp2_with fail;go_ret;obtain⟨D,M,J⟩:=HQ.out;rw[ao,HN.out]at D;refine⟨l,rfl,M,by rw[D.len];exact HN.out.symm,fun i hi=>D.end HG.out (by rw[<-HN.out];exact hi),J⟩
end Go.Proofs.YtcckhngbdoiikabGreat
