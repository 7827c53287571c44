import Derived.Test.YtcckhngbdoiikabGreatA22
import Derived.Laws.AppendOwnNone
set_option maxRecDepth 20000
set_option maxHeartbeats 12800000
set_option linter.unusedVariables false
namespace Go.Proofs.YtcckhngbdoiikabGreat
open Go.RowKit Go.Deep
def upd(f:Nat->Int)(b n:Nat):Nat->Int:=fun x=>if x=b then(n:Int)else f x
mutual
def MT.num:MT->Nat->(Nat->Int)->Nat->Int
 |.place b i e A,n,f=>upd f b n
 |.node b v k l,n,f=>Hg l (n+1) (upd f b n)
def Hg:List MT->Nat->(Nat->Int)->Nat->Int
 | [],n,f=>f
 |y::l,n,f=>Hg l (n+y.nt.aH) (y.num n f)
end
mutual
def MT.Numd(f:Nat->Int):MT->Nat->Prop
 |.place b i e A,n=>f b=(n:Int)
 |.node b v k l,n=>f b=(n:Int)/\N6 f l (n+1)
def N6(f:Nat->Int):List MT->Nat->Prop
 | [],n=>True
 |y::l,n=>y.Numd f n/\N6 f l (n+y.nt.aH)
end
mutual
theorem MT.gP:∀(T:MT) (n:Nat) (f:Nat->Int) (x:Nat),x∉T.blks->T.num n f x=f x
 |.place b i e A,n,f,x,h=>by simp[MT.blks]at h;simp[MT.num,upd,h]
 |.node b v k l,n,f,x,h=>by
  simp only[MT.blks,zU,not_or]at h;simp only[MT.num];rw[Kk l _ _ x h.2];simp[upd,h.1]
theorem Kk:∀(l:List MT) (n:Nat) (f:Nat->Int) (x:Nat),x∉M9 l->Hg l n f x=f x
 | [],n,f,x,h=>by simp[Hg]
 |y::l,n,f,x,h=>by
  simp only[M9,zQ,not_or]at h;simp only[Hg];rw[Kk l _ _ x h.2,MT.gP y _ _ x h.1]
end
mutual
theorem MT.Numd.congr{f g:Nat->Int}:∀(T:MT) (n:Nat),T.Numd f n->(∀x∈T.blks,g x=f x)->T.Numd g n
 |.place b i e A,n,h,hx=>by
  simp only[MT.Numd]at h⊢;rw[hx b (by simp[MT.blks])];exact h
 |.node b v k l,n,h,hx=>by
  simp only[MT.Numd]at h⊢;exact⟨by rw[hx b (by simp[MT.blks])];exact h.1,N6.congr l _ h.2 (fun x e=>hx x (by simp[MT.blks,e]))⟩
theorem N6.congr{f g:Nat->Int}:∀(l:List MT) (n:Nat),N6 f l n->(∀x∈M9 l,g x=f x)->N6 g l n
 | [],n,h,hx=>by simp[N6]
 |y::l,n,h,hx=>by
  simp only[N6]at h⊢;exact⟨MT.Numd.congr y _ h.1 (fun x e=>hx x (by simp[M9,e])),N6.congr l _ h.2 (fun x e=>hx x (by simp[M9,e]))⟩
end
mutual
theorem MT.iM:∀(T:MT) (n:Nat) (f:Nat->Int),T.blks.Nodup->T.Numd (T.num n f) n
 |.place b i e A,n,f,h=>by simp[MT.Numd,MT.num,upd]
 |.node b v k l,n,f,h=>by
  simp only[MT.blks,List.nodup_cons]at h;simp only[MT.Numd,MT.num];exact⟨by rw[Kk l _ _ b h.1];simp[upd],Ut l _ _ h.2⟩
theorem Ut:∀(l:List MT) (n:Nat) (f:Nat->Int),(M9 l).Nodup->N6 (Hg l n f) l n
 | [],n,f,h=>by simp[N6]
 |y::l,n,f,h=>by
  simp only[M9,List.nodup_append]at h;simp only[N6,Hg];refine⟨MT.Numd.congr y n (MT.iM y n f h.1) (fun x B=>?_),Ut l _ _ h.2.1⟩;exact Kk l _ _ x (fun e=>h.2.2 x B x e rfl)
end
theorem Lm:∀(l m:List MT) (n:Nat) (f:Nat->Int),Hg (l++m) n f=Hg m (n+J1 (ntL l)) (Hg l n f)
 | [],m,n,f=>by simp[Hg,ntL,J1]
 |y::l,m,n,f=>by
  simp only[List.cons_append,Hg,ntL,J1];rw[Lm l m]
  congr 1;omega
theorem N6.append{f:Nat->Int}:∀(l m:List MT) (n:Nat),N6 f (l++m) n↔(N6 f l n/\N6 f m (n+J1 (ntL l)))
 | [],m,n=>by simp[N6,ntL,J1]
 |y::l,m,n=>by
  simp only[List.cons_append,N6,ntL,J1];rw[N6.append l m,show n+y.nt.aH+J1 (ntL l)=n+(y.nt.aH+J1 (ntL l)) by omega,and_assoc]
theorem Pm(l:List MT)(y:MT):J1 (ntL (l++ [y]))=J1 (ntL l)+y.nt.aH:=by
 rw[Fc,L7];simp[J1]
mutual
theorem MT.At.eJ{w:World}{s:ByteArray}{f:Nat->Int}{b n:Nat}{c:Array Value}(B:Blk w b c 142):∀(U:MT),U.At w s f->U.At (w.setCell ⟨b,1,none⟩ (.int .i64 n)) s (upd f b n)
 |.place b' i e A,h=>by
  simp only[MT.At]at h⊢
  by_cases e:b'=b
  ·subst e;have:=h.set 1 (.int .i64 n);simp only[upd,if_true];exact this
  ·simp only[upd,if_neg e];exact h.aG (p:=⟨b,1,none⟩) e _
 |.node b' v k l,h=>by
  simp only[MT.At]at h⊢;refine⟨?_,U2 h.2.1 (p:=⟨b,1,none⟩) (L0 h.2.1 B (by decide)) _,AtL.eJ B l h.2.2⟩
  by_cases e:b'=b
  ·subst e;have:=h.1.set 1 (.int .i64 n);simp only[upd,if_true];exact this
  ·simp only[upd,if_neg e];exact h.1.aG (p:=⟨b,1,none⟩) e _
theorem AtL.eJ{w:World}{s:ByteArray}{f:Nat->Int}{b n:Nat}{c:Array Value}(B:Blk w b c 142):∀(l:List MT),AtL w s f l->AtL (w.setCell ⟨b,1,none⟩ (.int .i64 n)) s (upd f b n) l
 | [],h=>by simp[AtL]
 |y::l,h=>by
  simp only[AtL]at h⊢;exact⟨MT.At.eJ B y h.1,AtL.eJ B l h.2⟩
end
theorem Gc:∀l:List MT,l.length<=J1 (ntL l)
 | []=>by simp
 |y::l=>by have:=y.nt.parts_pos;have:=Gc l;simp only[ntL,J1,yH];omega
def QV(T:MT):Prop:=∀(w:World) (s:ByteArray) (f:Nat->Int) (n:Nat),T.At w s f->n+T.nt.aH<=100000->
 Calls Tryz.prog 29 #[.pointer (some ⟨T.aL,0,none⟩),.int .i64 n] w fun e w'=>e=.returned (.int .i64 ((n+T.nt.aH:Nat):Int))/\(∀U:MT,U.At w s f->U.At w' s (T.num n f))/\C0 (fun x=>x∈T.blks) w w'
theorem KT(b i e:Nat)(A:Nat->Bool):QV (.place b i e A):=by
 intro w s f n h K;have D:=h;simp only[MT.At]at h;simp only[MT.nt,NT.aH]at K⊢;have W:w.cell? ⟨b,1,none⟩=some (.int .i64 (f b)):=h.cell 1;have Y:=h.frozen 1;have X:w.cell? ⟨b,4,none⟩=some (.slice none 0 0):=h.cell 4;have B:=Hd h;clear D h;simp only[MT.aL];go_enter Tryz.func29,Tryz.ntmps29;go_wp2_with fail
 go_loopg[1,5] 1 (fun G V M wr=>V=.int .i64 ((n+1:Nat):Int)/\M=.int .i64 0/\wr=w.setCell ⟨b,1,none⟩ (.int .i64 n))
 case atStart=>exact⟨by go_num,rfl,rfl⟩
 case round=>
  obtain⟨rfl,rfl,rfl⟩:=hrel;go_wp2_with fail;go_ret;refine⟨rfl,fun U J=>?_,?_⟩
  ·have:=MT.At.eJ (n:=n) B.out U J;simpa[MT.num]using this
  ·exact(C0.refl _ _).setCell (p:=⟨b,1,none⟩) (fun _=>by simp[MT.blks]) _
theorem IX(b k:Nat)(v:Value)(l:List MT)(hl:∀y∈l,QV y):QV (.node b v k l):=by
 intro w s f n h hn;have h0:=h;simp only[MT.At]at h;simp only[MT.nt,NT.aH]at hn⊢;obtain⟨hb,hr,hk⟩:=h;have aa:w.ownsRow 0 89 1 v l.length (Q5 (l.map MT.aL)):=by unfold NH at hr;rwa [yB]at hr
 obtain⟨_,ad,W,rfl,V⟩:=P0 aa;have ag:=Gc l;have c1:w.cell? ⟨b,1,none⟩=some (.int .i64 (f b)):=hb.cell 1;have f1:=hb.frozen 1;have ae:Hid (∀U:MT,U.At w s f->U.At (w.setCell ⟨b,1,none⟩ (.int .i64 n)) s (upd f b n)):=Hd (fun U D=>MT.At.eJ hb U D);have H0:=Hd h0;have HL:=Hd hl;have af:=hb.lt;have Z:l.length=0\/∃g,ad=some ⟨g,0,none⟩:=by
  rcases V with⟨_,e⟩|⟨g,_,e,_⟩
  ·exact .inl e
  ·exact .inr ⟨g,e⟩
 clear h0 hb hr hk hl aa V;simp only[MT.aL];go_enter Tryz.func29,Tryz.ntmps29;go_wp2_with fail
 go_loopg[1,5] l.length (fun G nv kv wr=>∃i:Nat,kv=.int .i64 i/\i<=l.length/\G=l.length-i/\nv=.int .i64 ((n+1+J1 (ntL (l.take i)):Nat):Int)/\(∀U:MT,U.At w s f->U.At wr s (Hg (l.take i) (n+1) (upd f b n)))/\C0 (fun x=>x∈(MT.node b (.slice ad l.length W) k l).blks) w wr)
 case atStart=>
  refine⟨0,rfl,by omega,rfl,by simp[ntL,J1],fun U D=>?_,?_⟩
  ·simpa[Hg]using ae.out U D
  ·exact(C0.refl _ _).setCell (p:=⟨b,1,none⟩) (fun _=>by simp[MT.blks]) _
 case round=>
  obtain⟨i,rfl,hi,rfl,rfl,D,B⟩:=hrel;have J:=D _ H0.out;simp only[MT.At]at J;obtain⟨X,M,Y⟩:=J;have c4:wr.cell? ⟨b,4,none⟩=some (.slice ad l.length W):=X.cell 4
  by_cases K:i<l.length
  ·rcases Z with e|⟨g,rfl⟩
   ·omega
   have e0:decide ((i:Int)<(l.length:Int))=true:=by simp;omega
   have cg:wr.cell? ⟨g,i,none⟩=some (.pointer (some ⟨l[i].aL,0,none⟩)):=by
    have ab:wr.ownsRow 0 89 1 (.slice (some ⟨g,0,none⟩) l.length W) l.length (Q5 (l.map MT.aL)):=by unfold NH at M;rwa [yB]at M
    rw[Y0 ab i (by omega)];simp[Q5,K]
   have i0:(0:Int)<=(i:Int):=by omega
   have i1:(i:Int)<(l.length:Int):=by omega
   have a0:l.take (i+1)=l.take i++ [l[i]]:=(yL K).symm;have a9:J1 (ntL (l.take (i+1)))=J1 (ntL (l.take i))+l[i].nt.aH:=by rw[a0,Pm]
   have a8:J1 (ntL (l.take (i+1)))<=J1 (ntL l):=by
    have:=L7 (ntL (l.take (i+1))) (ntL (l.drop (i+1)));have e:ntL l=ntL (l.take (i+1))++ntL (l.drop (i+1)):=by rw[Sb,Sb,Sb,<-zV,yV]
    rw[e,this];omega
   have HC:=Hd (HL.out l[i] (zG K) wr s (Hg (l.take i) (n+1) (upd f b n)) (n+1+J1 (ntL (l.take i))) ((Bd l).1 Y _ (zG K)) (by omega));have HH:=Hd5 D B a0 a9 a8;clear D B X M Y a0 a9 a8;go_wp2_with fail;refine HC.out.mono ?_;rintro e w1 ⟨rfl,a6,a7⟩;have ac:=Hd2 a6 a7;clear a6 a7 HC;go_wp2_with fail
   go_roundg (l.length- (i+1))
   case measure=>omega
   case rel=>
    obtain⟨a1,a2,a3,a4,a5⟩:=HH.out;obtain⟨b1,b2⟩:=ac.out;refine⟨i+1,by go_num,by omega,rfl,by rw[a4];exact congrArg (Value.int .i64) (by push_cast;omega),fun U D=>?_,a2.trans b2 (fun x _ hx=>?_)⟩
    ·have:=b1 U (a1 U D);rw[a3,Lm];simpa[Hg]using this
    ·simp only[MT.blks,zU]
     right
     have e:l=l.take i++(l[i]::l.drop (i+1)):=by rw[List.getElem_cons_drop,yV]
     rw[e,Lg];simp only[M9,zQ];exact .inr (.inl hx)
  ·obtain rfl:i=l.length:=by omega
   have e0:decide ((l.length:Int)<(l.length:Int))=false:=by simp
   have HH:=Hd2 D B;clear D B X M Y;go_wp2_with fail;go_ret;obtain⟨a1,a2⟩:=HH.out;refine⟨?_,fun U D=>?_,a2⟩
   ·rw[zO (zD _)];show Ending.returned (Value.int .i64 _)=Ending.returned (Value.int .i64 _)
    congr 2;push_cast;omega
   have:=a1 U D;rw[zO (zD _)]at this;simpa[MT.num]using this
mutual
theorem JQ:∀T:MT,QV T
 |.place b i e A=>KT b i e A
 |.node b v k l=>IX b k v l (EK l)
theorem EK:∀(l:List MT),∀y∈l,QV y
 | [],y,h=>by simp at h
 |x::l,y,h=>by
  rw[zU]at h;rcases h with rfl|h
  ·exact JQ y
  ·exact EK l y h
end
theorem CC{la ll:List Nat}{va vl:Value}{M:Array Oper}{rest:List Oper}{o:Oper}{a:Act}{w:World}{Q:Exit->Act->World->Prop}(V:o.guard=none)(s x:Operand)
  (ho:o.op=.call { callee:=.builtin .append,args:=#[s,x],argTypes:=#[83,83] })
  (hs:a.eval s=va) (hx:a.eval x=vl) (ha:w.ownsRow 0 89 1 va la.length (Q5 la)) (hl:w.ownsRow 0 89 1 vl ll.length (Q5 ll)) (N:Nat) (hN:N<=w.heap.size) (X:∀b,va.ownBlock=some b->N<=b) (a3:la.length+ll.length<=4000000)
  (h:∀D w',w'.ownsRow 0 89 1 D (la++ll).length (Q5 (la++ll))->(∀b,D.ownBlock=some b->N<=b)->C0 (fun b=>va.ownBlock=some b) w w'->wpList Tryz.prog M Q rest (a.put o.dst D) w'):wpList Tryz.prog M Q (o::rest) a w:=by
 obtain⟨ii,W,a0,a1,a2⟩:=info_parts Tryz.fU;have K:w.ownsRow N 89 1 va la.length (Q5 la):=by
  obtain⟨U,G|⟨g,f,cur,rfl,B,J⟩⟩:=ha
  ·exact⟨U,.inl G⟩
  ·exact⟨U,.inr ⟨g,f,cur,rfl,X g rfl,J⟩⟩
 have Z:∀D w',w'.ownsRow N 89 1 D (la.length+ll.length) (Q5 la++Q5 ll)->w.grownBy w' va.ownBlock->wpList Tryz.prog M Q rest (a.put o.dst D) w':=fun D w' G B=>by
  refine h D w' ?_ ?_ ⟨B.os,B.tape,B.output,B.size,fun k hk he=>B.block k hk (fun e=>he e.symm)⟩
  ·have e:Q5 (la++ll)=Q5 la++Q5 ll:=by simp[Q5]
   rw[e,zL];obtain⟨J,h5|⟨g,f,cur,rfl,h6,h7⟩⟩:=G
   ·exact⟨J,.inl h5⟩
   ·exact⟨J,.inr ⟨g,f,cur,rfl,yC _,h7⟩⟩
  ·intro b hb;obtain⟨J,⟨rfl,_⟩|⟨g,f,cur,rfl,h6,h7⟩⟩:=G
   ·cases hb
   ·cases(zE hb:g=b);exact h6
 obtain⟨U,⟨rfl,G⟩|⟨g,f,cur,rfl,B,J⟩⟩:=hl
 ·refine wpList_append_own_none V s x 83 ho N 89 ii 1 Tryz.underlying83 W va la.length (Q5 la) hs K hx ?_;have e:ll= []:=yN G;subst e;exact Z va w (by simpa[Q5]using K) ⟨rfl,rfl,rfl,zD _,fun _ _ _=>rfl⟩
 ·have Y:w.ownsRow 0 89 1 (.slice (some ⟨g,0,none⟩) ll.length f) ll.length (Q5 ll):=⟨U,.inr ⟨g,f,cur,rfl,B,J⟩⟩;exact wpList_append_own w V s x 83 ho N 89 ii _ 1 8 Tryz.underlying83 W a0 a1 a2 rfl (by omega) va la.length (Q5 la) hs K ⟨g,0,none⟩ ll.length f (Q5 ll) hx U (Y.cells (g:=g) rfl) (fun u hu=>by simp only[Q5,List.mem_map]at hu;obtain⟨b,_,rfl⟩:=hu;rfl) (by unfold maxLen;omega) (by omega) hN (fun D w' G B _=>Z D w' G B)
mutual
def MT.pl:MT->List MT
 |.place b i e A=>[.place b i e A]
 |.node b v k l=>plL l
def plL:List MT->List MT
 | []=>[]
 |y::l=>y.pl++plL l
end
theorem Ef:∀l m:List MT,plL (l++m)=plL l++plL m
 | [],m=>rfl
 |x::l,m=>by simp[plL,Ef l m]
mutual
theorem MT.jZ:∀T:MT,T.pl.length<=T.nt.aH
 |.place b i e A=>by simp[MT.pl,MT.nt,NT.aH]
 |.node b v k l=>by have:=Qr l;simp only[MT.pl,MT.nt,NT.aH];omega
theorem Qr:∀l:List MT,(plL l).length<=J1 (ntL l)
 | []=>by simp[plL]
 |y::l=>by have:=MT.jZ y;have:=Qr l;simp only[plL,ntL,J1,zL];omega
end
theorem Ez:∀(l:List MT) (y:MT),y∈l->y.nt.aH<=J1 (ntL l)
 | [],y,h=>by simp at h
 |x::l,y,h=>by
  rw[zU]at h;simp only[ntL,J1];rcases h with rfl|h
  ·omega
  ·have:=Ez l y h;omega
def PlC(T:MT):Prop:=∀(w:World) (s:ByteArray) (f:Nat->Int),T.At w s f->(match T with|.place ..=>True|.node _ _ k _=>0<k)->T.nt.aH<=100000->
 Calls Tryz.prog 30 #[.pointer (some ⟨T.aL,0,none⟩)] w fun e w'=>∃v,e=.returned v/\w'.ownsRow 0 89 1 v T.pl.length (Q5 (T.pl.map MT.aL))/\(∀b,v.ownBlock=some b->w.heap.size<=b)/\Bw w w'
mutual
def MT.KindOk:MT->Prop
 |.place _ _ _ _=>True
 |.node b v k l=>(k=1\/k=2\/k=3\/k=4)/\He l
def He:List MT->Prop
 | []=>True
 |y::l=>y.KindOk/\He l
end
theorem Yu:∀l:List MT,He l↔∀y∈l,y.KindOk
 | []=>by simp[He]
 |y::l=>by simp[He,Yu l]
theorem dT(b i e:Nat)(A:Nat->Bool):PlC (.place b i e A):=by
 intro w s f h _ _;simp only[MT.At]at h;have G:w.cell? ⟨b,0,none⟩=some (.int .i64 0):=h.cell 0;clear h;simp only[MT.aL,MT.pl];go_enter Tryz.func30,Tryz.ntmps30;go_wp2_with fail;go_ret;refine⟨_,rfl,?_,fun x D=>?_,N0 _ _⟩
 ·have B:=Blk.aR w #[.pointer (some ⟨b,0,none⟩)] 89;exact J5 (by simp[Q5]) B (zD _) (by unfold maxLen;omega) (by simp) (by simp[Q5,MT.aL])
 ·cases(zE D:w.heap.size=x);omega
theorem KZ(b k:Nat)(v:Value)(l:List MT)(hl:∀y∈l,PlC y)(a8:He l):PlC (.node b v k l):=by
 intro w s f h ac hn;simp only[MT.At]at h;simp only[MT.nt,NT.aH]at hn;simp only at ac;obtain⟨hb,hr,hk⟩:=h;have X:w.ownsRow 0 89 1 v l.length (Q5 (l.map MT.aL)):=by unfold NH at hr;rwa [yB]at hr
 obtain⟨_,ad,ab,rfl,M⟩:=P0 X;have ah:=Gc l;have c0:w.cell? ⟨b,0,none⟩=some (.int .i64 k):=hb.cell 0;have ai:((k:Int)==0)=false:=by simp;omega
 have Y:l.length=0\/∃g,ad=some ⟨g,0,none⟩:=by
  rcases M with⟨_,e⟩|⟨g,_,e,_⟩
  ·exact .inl e
  ·exact .inr ⟨g,e⟩
 have HL:=Hd hl;have H0:=Hd3 hb X hk;have aa:=Hd a8;have ag:=hb.lt;clear hb hr hk hl X M a8;simp only[MT.aL,MT.pl];go_enter Tryz.func30,Tryz.ntmps30;go_wp2_with fail
 go_loopg[3,4] l.length (fun G lv kv wr=>∃i:Nat,kv=.int .i64 i/\i<=l.length/\G=l.length-i/\wr.ownsRow 0 89 1 lv (plL (l.take i)).length (Q5 ((plL (l.take i)).map MT.aL))/\(∀x,lv.ownBlock=some x->w.heap.size<=x)/\Bw w wr)
 case atStart=>exact⟨0,rfl,by omega,rfl,World.ownsRow_nil _ _ _ _,fun x hx=>by simp[Value.ownBlock]at hx,Below.refl _ _⟩
 case round=>
  obtain⟨i,rfl,hi,rfl,hL,K,B⟩:=hrel;have hz:=B.size;have c4:wr.cell? ⟨b,4,none⟩=some (.slice ad l.length ab):=(H0.out.1.aA B).cell 4;obtain⟨_,ld,V,rfl,_⟩:=P0 hL
  by_cases W:i<l.length
  ·rcases Y with e|⟨g,rfl⟩
   ·omega
   have e0:decide ((i:Int)<(l.length:Int))=true:=by simp;omega
   have cg:wr.cell? ⟨g,i,none⟩=some (.pointer (some ⟨l[i].aL,0,none⟩)):=by
    have af:=K0 (ex:=fun _=>False) H0.out.2.1 (C0.aM B) (fun _ _ e=>e);rw[Y0 af i (by omega)];simp[Q5,W]
   have i0:(0:Int)<=(i:Int):=by omega
   have i1:(i:Int)<(l.length:Int):=by omega
   have Z:plL (l.take (i+1))=plL (l.take i)++l[i].pl:=by rw[(yL W).symm,Ef];simp[plL]
   have D:=zG W;have ae:=Ez l l[i] D;have a9:(plL (l.take i)).length+l[i].pl.length<=4000000:=by
    have h1:=Qr l;have e:l=l.take (i+1)++l.drop (i+1):=(yV _ _).symm;rw[e,Ef,Z]at h1;rw[<-e]at h1;simp only[zL]at h1;omega
   have a7:(match l[i]with|.place ..=>True|.node _ _ k _=>0<k):=by
    have:=(Yu l).1 aa.out l[i] D;cases hh:l[i]with
    |place=>trivial
    |node b v k l=>rw[hh]at this;simp only[MT.KindOk]at this;show 0<k;omega
   have HC:=Hd (HL.out l[i] D wr s f ((Bd l).1 (AtL.kept (ex:=fun _=>False) (C0.aM B) l H0.out.2.2 (fun _ _ e=>e)) _ D) a7 (by omega));have HH:=Hd5 hL K B Z a9;clear hL K B Z a9 ae a7 D;go_wp2_with fail;refine HC.out.mono ?_;rintro e w1 ⟨v1,rfl,q1,q2,q3⟩;have aj:=q3.size;have a0:w1.ownsRow 0 89 1 (.slice ld (plL (l.take i)).length V) ((plL (l.take i)).map MT.aL).length (Q5 ((plL (l.take i)).map MT.aL)):=by
    rw[yB];exact K0 (ex:=fun _=>False) HH.out.1 (C0.aM q3) (fun _ _ e=>e)
   have a6:w1.ownsRow 0 89 1 v1 (l[i].pl.map MT.aL).length (Q5 (l[i].pl.map MT.aL)):=by rw[yB];exact q1
   have J:=Hd4 a0 a6 HH.out.2.1 q3;have hN:w.heap.size<=w1.heap.size:=by omega
   have U:((plL (l.take i)).map MT.aL).length+(l[i].pl.map MT.aL).length<=4000000:=by rw[yB,yB];exact HH.out.2.2.2.2
   clear a0 a6 q1 q2 q3 HC;go_wp2_with(at_builtin;(refine CC (la:=(plL (l.take i)).map MT.aL) (ll:=l[i].pl.map MT.aL) (va:=.slice ld (plL (l.take i)).length V) (vl:=v1) (by rfl) _ _ (by rfl) (by rfl) (by rfl) J.out.1 J.out.2.1 w.heap.size hN J.out.2.2.1 U ?_));intro v2 w2 r1 r2 r3;have HR:=Hd3 r1 r2 r3;clear r1 r2 r3 U;go_wp2_with fail
   go_roundg (l.length- (i+1))
   case measure=>omega
   case rel=>
    obtain⟨a1,a2,a3,a4,a5⟩:=HH.out;obtain⟨r1,r2,r3⟩:=HR.out;refine⟨i+1,by go_num,by omega,rfl,?_,r2,?_⟩
    ·rw[a4,zV,zL];simpa using r1
    ·exact C3 (C3 (ex:=fun _=>False) a3 (C0.aM J.out.2.2.2) hz (fun _ _ e=>e)) r3 hN (fun x hx e=>by have:=a2 x e;omega)
  ·obtain rfl:i=l.length:=by omega
   have e0:decide ((l.length:Int)<(l.length:Int))=false:=by simp
   have HH:=Hd3 hL K B;clear hL K B;go_wp2_with fail;go_ret;obtain⟨a1,a2,a3⟩:=HH.out;rw[zO (zD _)]at a1 a2⊢;exact⟨_,rfl,a1,a2,a3⟩
mutual
theorem NX:∀T:MT,T.KindOk->PlC T
 |.place b i e A,_=>dT b i e A
 |.node b v k l,h=>by
  simp only[MT.KindOk]at h;exact KZ b k v l (SQ l h.2) h.2
theorem SQ:∀(l:List MT),He l->∀y∈l,PlC y
 | [],_,y,h=>by simp at h
 |x::l,hk,y,h=>by
  simp only[He]at hk;rw[zU]at h;rcases h with rfl|h
  ·exact NX y hk.1
  ·exact SQ l hk.2 y h
end
theorem Kf{t e:TypeId}{nb:Nat}{z:Value}(hu:Tryz.prog.underlying t=some (.slice e))(M:(Tryz.prog.info? e).map (fun i=>(i.zero,i.size,i.bytes))=some (some z,1,nb))(a7:z.cells.size=1)(a2:nb<=64)
  {la ll:List Value} {va vl:Value} {U:Array Oper} {rest:List Oper} {o:Oper} {a:Act} {w:World} {Q:Exit->Act->World->Prop} (W:o.guard=none) (s x:Operand)
  (ho:o.op=.call { callee:=.builtin .append,args:=#[s,x],argTypes:=#[t,t] })
  (hs:a.eval s=va) (hx:a.eval x=vl) (ha:w.ownsRow 0 e 1 va la.length la) (hl:w.ownsRow 0 e 1 vl ll.length ll) (Y:∀u∈ll,u.oneCell'=true) (N:Nat) (hN:N<=w.heap.size) (Z:∀b,va.ownBlock=some b->N<=b) (a3:la.length+ll.length<=4000000)
  (h:∀D w',w'.ownsRow 0 e 1 D (la++ll).length (la++ll)->(∀b,D.ownBlock=some b->N<=b)->C0 (fun b=>va.ownBlock=some b) w w'->wpList Tryz.prog U Q rest (a.put o.dst D) w'):wpList Tryz.prog U Q (o::rest) a w:=by
 obtain⟨ii,X,a4,a5,a6⟩:=info_parts M;have K:w.ownsRow N e 1 va la.length la:=by
  obtain⟨V,G|⟨g,f,cur,rfl,B,J⟩⟩:=ha
  ·exact⟨V,.inl G⟩
  ·exact⟨V,.inr ⟨g,f,cur,rfl,Z g rfl,J⟩⟩
 have a1:∀D w',w'.ownsRow N e 1 D (la.length+ll.length) (la++ll)->w.grownBy w' va.ownBlock->wpList Tryz.prog U Q rest (a.put o.dst D) w':=fun D w' G B=>by
  refine h D w' ?_ ?_ ⟨B.os,B.tape,B.output,B.size,fun k hk he=>B.block k hk (fun e=>he e.symm)⟩
  ·rw[zL];obtain⟨J,h5|⟨g,f,cur,rfl,h6,h7⟩⟩:=G
   ·exact⟨J,.inl h5⟩
   ·exact⟨J,.inr ⟨g,f,cur,rfl,yC _,h7⟩⟩
  ·intro b hb;obtain⟨J,⟨rfl,_⟩|⟨g,f,cur,rfl,h6,h7⟩⟩:=G
   ·cases hb
   ·cases(zE hb:g=b);exact h6
 obtain⟨V,⟨rfl,G⟩|⟨g,f,cur,rfl,B,J⟩⟩:=hl
 ·refine wpList_append_own_none W s x t ho N e ii 1 hu X va la.length la hs K hx ?_;have e:ll= []:=yN G;subst e;exact a1 va w (by simpa using K) ⟨rfl,rfl,rfl,zD _,fun _ _ _=>rfl⟩
 ·have a0:w.ownsRow 0 e 1 (.slice (some ⟨g,0,none⟩) ll.length f) ll.length ll:=⟨V,.inr ⟨g,f,cur,rfl,B,J⟩⟩;refine wpList_append_own w W s x t ho N e ii z 1 nb hu X a4 a5 a6 a7 (by omega) va la.length la hs K ⟨g,0,none⟩ ll.length f ll hx V (a0.cells (g:=g) rfl) Y (by unfold maxLen;omega) ?_ hN (fun D w' G B _=>a1 D w' G B);have:(la.length+ll.length)*nb<=4000000*64:=Nat.mul_le_mul a3 a2;omega
theorem Lf(w:World)(e:TypeId)(u:Value):(w.alloc (.cells #[u] e)).ownsRow 0 e 1 (.slice (some ⟨w.heap.size,0,none⟩) 1 1) [u].length [u]:=
 J5 (by simp) (Blk.aR w #[u] e) (zD _) (by unfold maxLen;omega) (by simp) (by simp)
def Z7(l:List Int):List Value:=l.map (Value.int .i64)
theorem Ze(l:List Int):(Z7 l).length=l.length:=by simp[Z7]
theorem Q2.lF{w:World}{v:Value}{l:List Int}(h:Q2 w v l):w.ownsRow 0 3 1 v (Z7 l).length (Z7 l):=by rw[Ze];exact h
theorem Q2.fJ{w:World}{v:Value}{l:List Int}(h:w.ownsRow 0 3 1 v (Z7 l).length (Z7 l)):Q2 w v l:=by rw[Ze]at h;exact h
theorem Vm{w:World}{e:TypeId}{v:Value}{n:Nat}{f:List Value}(h:w.ownsRow 0 e 1 v n f)(o:Obj):(w.alloc o).ownsRow 0 e 1 v n f:=K0 (ex:=fun _=>False) h (C0.aM (N0 _ _)) (fun _ _ e=>e)
theorem JS(s:ByteArray)(q z:Nat)(l:List Int)(w:World)(hs:s.size<=120)(hc:Cls s l q z):
  Calls Tryz.prog 128 #[.string s,.int .i64 q] w fun e w'=>∃v,e=.returned v/\Q2 w' v l/\(∀b,v.ownBlock=some b->w.heap.size<=b)/\Bw w w':=by
 have HC:=Hd hc;have aa:=hc.le;have HZ:=Hd aa;clear hc aa;go_enter Tryz.func128,Tryz.ntmps128;go_wp2_with fail
 go_loopg[1,5] (s.size-q) (fun G iv lv wr=>∃(p:Nat) (f rest:List Int),iv=.int .i64 p/\G=s.size-p/\l=f++rest/\Cls s rest p z/\Q2 wr lv f/\(∀b,lv.ownBlock=some b->w.heap.size<=b)/\Bw w wr)
 case atStart=>exact⟨q,[],l,rfl,rfl,rfl,HC.out,World.ownsRow_nil _ _ _ _,fun x hx=>by simp[Value.ownBlock]at hx,Below.refl _ _⟩
 case round=>
  obtain⟨p,f,rest,rfl,rfl,hl,hc,h,J,D⟩:=hrel;have a6:=hc.le;have a5:p<s.size:=by omega
  have p0:(0:Int)<=(p:Int):=by omega
  have p1:(p:Int)<(s.size:Int):=by omega
  have hz:=D.size;have a0:f.length<=1000:=by
   have:=HZ.out.1;rw[hl,zL]at this;have:=HZ.out.2.1;omega
  obtain⟨ad,Z,rfl,_⟩:=h.aV;cases rest with
  |nil=>
   obtain⟨rfl,a8⟩:=hc;rw[R3 a5]at a8;have e3:(((s[p].toNat:Nat):Int) !=93)=false:=by simp;omega
   have HH:=Hd4 hl h J D;clear a8 a6 hl h J D a0;go_wp2_with fail;go_ret;obtain⟨a1,a2,a3,a4⟩:=HH.out;rw[yP]at a1;rw[a1];exact⟨_,rfl,a2,a3,a4⟩
  |cons v rest=>
   have M:l=(f++ [v])++rest:=by rw[hl];simp
   have V:Hid (∀(W Y:World) (v6:Value),Bw wr W->Y.ownsRow 0 3 1 v6 ((Z7 f).length+1) (Z7 f++ [Value.int .i64 v])->C0 (fun b=>(Value.slice ad f.length Z).ownBlock=some b) W Y->Q2 Y v6 (f++ [v])/\Bw w Y):=by
    refine Hd fun W Y v6 a1 a2 a3=>⟨Q2.fJ (by rw[show Z7 (f++ [v])=Z7 f++ [.int .i64 v] by simp[Z7],zL];exact a2),?_⟩
    exact C3 (C3 (ex:=fun _=>False) D (C0.aM a1) hz (fun _ _ e=>e)) a3 (by have:=a1.size;omega) (fun x hx e=>by have:=J x e;omega)
   have HR:=Hd h.lF;have K:=Hd J;have U:(Z7 f).length+1<=4000000:=by rw[Ze];omega
   rcases hc with⟨h1,hv,h2⟩|⟨h1,a9,_,hv,h2⟩|⟨_,_,a7,h1,h3,hv,h2⟩
   ·subst hv;rw[R3 a5]at h1;have e3:(((s[p].toNat:Nat):Int) !=93)=true:=by simp;omega
    have e4:(((s[p].toNat:Nat):Int)==45)=true:=by simp;omega
    have B:=Hd2 h2 M;clear h1 a6 h2 hl M h J D a0;go_wp2_with(at_builtin;(refine Kf Tryz.underlying68 Tryz.cG rfl (by omega) (la:=Z7 f) (ll:=[.int .i64 (-1)]) (va:=.slice ad f.length Z) (vl:=.slice (some ⟨wr.heap.size,0,none⟩) 1 1) (by rfl) _ _ (by rfl) (by rfl) (by rfl) (Vm HR.out _) (Lf wr 3 (.int .i64 (-1))) (fun u hu=>by rw[zJ]at hu;rw[hu];rfl) w.heap.size (by simp;omega) K.out U ?_));intro v6 Y r1 r2 r3;have X:=Hd2 (V.out _ Y v6 (N0 wr _) r1 r3) r2;clear r1 r2 r3 V HR K U;go_wp2_with fail
    go_roundg (s.size- (p+1))
    case measure=>omega
    case rel=>exact⟨p+1,f++ [-1],rest,by go_num,rfl,B.out.2,B.out.1,X.out.1.1,X.out.2,X.out.1.2⟩
   ·have ae:=A1 a9;rw[R3 ae]at hv;rw[R3 a5]at h1;have e3:(((s[p].toNat:Nat):Int) !=93)=true:=by simp;omega
    have e4:(((s[p].toNat:Nat):Int)==45)=false:=by simp;omega
    have e5:(((s[p].toNat:Nat):Int)==92)=true:=by simp;omega
    have q0:(0:Int)<=(p:Int)+1:=by omega
    have q1:(p:Int)+1<(s.size:Int):=by omega
    have HM:=Hd (fun W=>Tn s[p+1].toNat W (s[p+1].toNat_lt));have B:=Hd2 h2 M;have ac:=Hd hv;clear h1 a6 h2 hl M h J D a0 a9 hv;go_wp2_with fail;refine(HM.out _).mono ?_;rintro e w1 ⟨rfl,rfl⟩;rw[<-ac.out];go_wp2_with(at_builtin;(refine Kf Tryz.underlying68 Tryz.cG rfl (by omega) (la:=Z7 f) (ll:=[.int .i64 v]) (va:=.slice ad f.length Z) (vl:=.slice (some ⟨w1.heap.size,0,none⟩) 1 1) (by rfl) _ _ (by rfl) (by rfl) (by rfl) (Vm HR.out _) (Lf w1 3 (.int .i64 v)) (fun u hu=>by rw[zJ]at hu;rw[hu];rfl) w.heap.size (by simp;omega) K.out U ?_));intro v6 Y r1 r2 r3;have X:=Hd2 (V.out _ Y v6 (N0 w1 _) r1 r3) r2;clear r1 r2 r3 V HR K U;go_wp2_with fail
    go_roundg (s.size- (p+2))
    case measure=>omega
    case rel=>exact⟨p+2,f++ [v],rest,by go_num,rfl,B.out.2,B.out.1,X.out.1.1,X.out.2,X.out.1.2⟩
   ·rw[R3 a5]at h1 h3 a7 hv;have e3:(((s[p].toNat:Nat):Int) !=93)=true:=by simp;omega
    have e4:(((s[p].toNat:Nat):Int)==45)=false:=by simp;omega
    have e5:(((s[p].toNat:Nat):Int)==92)=false:=by simp;omega
    have ab:=s[p].toNat_lt;have af:wrap64 ((s[p].toNat:Nat):Int)=v:=by rw[hv];unfold wrap64;omega
    have B:=Hd2 h2 M;clear h1 h3 a7 a6 h2 hl M h J D a0 hv ab;go_wp2_with(at_builtin;(refine Kf Tryz.underlying68 Tryz.cG rfl (by omega) (la:=Z7 f) (ll:=[.int .i64 v]) (va:=.slice ad f.length Z) (vl:=.slice (some ⟨wr.heap.size,0,none⟩) 1 1) (by rfl) _ _ (by rfl) (by rfl) (by rfl) (Vm HR.out _) (Lf wr 3 (.int .i64 v)) (fun u hu=>by rw[zJ]at hu;rw[hu];rfl) w.heap.size (by simp;omega) K.out U ?_));intro v6 Y r1 r2 r3;have X:=Hd2 (V.out _ Y v6 (N0 wr _) r1 r3) r2;clear r1 r2 r3 V HR K U af;go_wp2_with fail
    go_roundg (s.size- (p+1))
    case measure=>omega
    case rel=>exact⟨p+1,f++ [v],rest,by go_num,rfl,B.out.2,B.out.1,X.out.1.1,X.out.2,X.out.1.2⟩
theorem Ck{s:ByteArray}{i e:Nat}(f:e<=s.size):(s.extract i e).size=e-i:=by rw[ByteArray.size_extract];omega
theorem Sd{s:ByteArray}{i e k:Nat}(h:e<=s.size)(B:i+k<e):F0 (s.extract i e) k=F0 s (i+k):=by
 have f:k<(s.extract i e).size:=by rw[Ck h];omega
 rw[R3 f,R3 (by omega),ByteArray.getElem_extract]
theorem Cls.sub{s:ByteArray}{i e:Nat}(B:e<=s.size):∀{l:List Int} {q z:Nat},Cls s l (i+q) (i+z)->i+z<e->Cls (s.extract i e) l q z
 | [],q,z,h,hz=>⟨by have:=h.1;omega,by rw[Sd B hz];exact h.2⟩
 |v::l,q,z,h,hz=>by
  rcases h with⟨G,J,D⟩|⟨G,J,D,M,K⟩|⟨G,J,D,M,K,V,U⟩
  ·have:=D.le;exact .inl ⟨by rw[Sd B (by omega)];exact G,J,Cls.sub B (by rw[show i+(q+1)=i+q+1 by omega];exact D) hz⟩
  ·have:=K.le;have f:F0 (s.extract i e) (q+1)=F0 s (i+q+1):=by rw[Sd B (by omega)];congr 1
   exact .inr (.inl ⟨by rw[Sd B (by omega)];exact G,by rw[f];exact J,by rw[f];exact D,by rw[f];exact M,Cls.sub B (by rw[show i+(q+2)=i+q+2 by omega];exact K) hz⟩)
  ·have:=U.le;have f:F0 (s.extract i e) q=F0 s (i+q):=Sd B (by omega);exact .inr (.inr ⟨by rw[f];exact G,by rw[f];exact J,by rw[f];exact D,by rw[f];exact M,by rw[f];exact K,by rw[f];exact V,Cls.sub B (by rw[show i+(q+1)=i+q+1 by omega];exact U) hz⟩)
theorem L8.sub{s:ByteArray}{i e:Nat}{A:Nat->Bool}(h:L8 s i e A):L8 (s.extract i e) 0 (s.extract i e).size A:=by
 have D:=h.lt;have G:=Ck (i:=i) D.2;have f:F0 (s.extract i e) 0=F0 s i:=by rw[Sd D.2 (by omega)];rfl
 rw[G];cases h with
 |any h1 h2 h3=>exact .any (by rw[f];exact h1) (by omega) h3
 |esc h1 h2 h3 h4 h5=>
  have B:F0 (s.extract i e) (0+1)=F0 s (i+1):=Sd D.2 (by omega);exact .esc (by rw[f];exact h1) (by omega) (by rw[B];exact h3) (by rw[B];exact h4) (by rw[B];exact h5)
 |aE l neg z h1 h2 h3 h4 h5=>
  have J:=h4.le;have K:neg.toNat<=1:=by cases neg <;>simp
  have B:F0 (s.extract i e) (0+1)=F0 s (i+1):=Sd D.2 (by omega);refine .aE l neg (z-i) (by rw[f];exact h1) (by omega) (by rw[B];exact h3) ?_ h5;refine Cls.sub D.2 ?_ (by omega);rw[show i+(0+1+neg.toNat)=i+1+neg.toNat by omega,show i+(z-i)=z by omega];exact h4
 |bX h1 h2 h3 h4 h5 h6=>exact .bX (by rw[f];exact h1) (by rw[f];exact h2) (by rw[f];exact h3) (by rw[f];exact h4) (by omega) (by rw[f];exact h6)
def Yv(t:ByteArray)(A:Nat->Bool):Prop:=∀(c:Nat) (w:World),c<256->Calls Tryz.prog 102 #[.string t,.int .i64 c] w fun e w'=>e=.returned (.bool (A c))/\Bw w w'
theorem VH(t:ByteArray)(A:Nat->Bool)(f:F0 t 0=46)(h:∀c:Nat,A c=true):Yv t A:=by
 intro c w G;have B:=A1 (s:=t) (p:=0) (by rw[f];decide);rw[R3 B]at f;rw[h c];have J:(0:Int)<(t.size:Int):=by omega
 have D:(((t[0].toNat:Nat):Int)==46)=true:=by simp;omega
 clear f h;go_enter Tryz.func102,Tryz.ntmps102;go_wp2_with fail;go_ret;exact⟨rfl,Below.refl _ _⟩
theorem LM(t:ByteArray)(A:Nat->Bool)(K:¬S7 (F0 t 0))(B:F0 t 0≠46)(D:F0 t 0≠91)(J:F0 t 0≠92)(G:∀c:Nat,A c=decide (F0 t 0=(c:Int))):Yv t A:=by
 intro c w W;have h:=A1 (s:=t) (p:=0) (fun e=>K (.inl e));rw[R3 h]at B D J;rw[G c,R3 h];have Y:(0:Int)<(t.size:Int):=by omega
 have M:(((t[0].toNat:Nat):Int)==46)=false:=by simp;omega
 have U:(((t[0].toNat:Nat):Int)==92)=false:=by simp;omega
 have V:(((t[0].toNat:Nat):Int)==91)=false:=by simp;omega
 have f:=t[0].toNat_lt;have X:wrap64 ((t[0].toNat:Nat):Int)=((t[0].toNat:Nat):Int):=by unfold wrap64;omega
 clear B D J G K f;go_enter Tryz.func102,Tryz.ntmps102;go_wp2_with fail;go_ret;refine⟨?_,Below.refl _ _⟩;show Ending.returned (Value.bool (((t[0].toNat:Nat):Int)==(c:Int)))=_
 congr 2
theorem KM(t:ByteArray)(A:Nat->Bool)(f:F0 t 0=92)(B:F0 t 1≠ -1)(D:∀c:Nat,A c=decide (Cb (F0 t 1)=(c:Int))):Yv t A:=by
 intro c w U;have G:=A1 (s:=t) (p:=0) (by rw[f];decide);have J:=A1 B;rw[R3 G]at f;rw[D c,R3 J];have V:(0:Int)<(t.size:Int):=by omega
 have X:(1:Int)<(t.size:Int):=by omega
 have K:(((t[0].toNat:Nat):Int)==46)=false:=by simp;omega
 have M:(((t[0].toNat:Nat):Int)==92)=true:=by simp;omega
 have h:=Hd (fun W=>Tn t[1].toNat W (t[1].toNat_lt));generalize Cb ((t[1].toNat:Nat):Int)=mm at h⊢;clear f B D;go_enter Tryz.func102,Tryz.ntmps102;go_wp2_with fail;refine(h.out _).mono ?_;rintro e Y ⟨rfl,rfl⟩;go_wp2_with fail;go_ret;refine⟨?_,Below.refl _ _⟩;show Ending.returned (Value.bool (mm==(c:Int)))=_
 congr 2
theorem YS{l:List Int}{i:Nat}{c:Int}(h:i<l.length)(G:¬(i+2<l.length/\l.getD (i+1) 0= -1)):Gg (l.drop i) c=(decide (c=l.getD i 0) || Gg (l.drop (i+1)) c):=by
 rw[yA h,AK]
 ·simp[h]
 ·intro d b r' e B;apply G;have D:=congrArg List.length e;simp only[List.length_drop,yH]at D;refine⟨by omega,?_⟩;have f:=congrArg (fun l=>l.getD 0 0) e;simp only[List.getD_cons_zero]at f;rw[<-B,<-f];simp
theorem ZS{l:List Int}{i:Nat}{c:Int}(h:i+2<l.length)(f:l.getD (i+1) 0= -1):Gg (l.drop i) c=((decide (l.getD i 0<=c) && decide (c<=l.getD (i+2) 0)) || Gg (l.drop (i+3)) c):=by
 have B:l.getD i 0=l[i]:=by simp[show i<l.length by omega]
 have D:l.getD (i+1) 0=l[i+1]:=by simp[show i+1<l.length by omega]
 have G:l.getD (i+2) 0=l[i+2]:=by simp[h]
 rw[D]at f;rw[yA (show i<l.length by omega),yA (show i+1<l.length by omega),yA (show i+1+1<l.length by omega),f,ED,B,G]
theorem Q2.getD{w:World}{l:List Int}{g n f:Nat}(h:Q2 w (.slice (some ⟨g,0,none⟩) n f) l)(j:Nat)(D:j<l.length):w.cell? ⟨g,j,none⟩=some (.int .i64 (l.getD j 0)):=by
 obtain⟨_,G,B,e,_⟩:=P0 h
 injection e with e1 e2 e3
 subst e2;rw[h.cell j D];simp[D]
theorem JM(t:ByteArray)(A:Nat->Bool)(l:List Int)(neg:Bool)(z:Nat)(hs:t.size<=120)(h1:F0 t 0=91)(h2:neg=decide (F0 t 1=94))(hc:Cls t l (1+neg.toNat) z)(h3:∀c:Nat,A c=(Gg l (c:Int) !=neg)):Yv t A:=by
 intro c w aa;have a5:=hc.le;have h0:=A1 (s:=t) (p:=0) (by rw[h1];decide);have h9:1<t.size:=by omega
 rw[R3 h0]at h1;rw[R3 h9]at h2;rw[h3 c];have i1:(0:Int)<(t.size:Int):=by omega
 have i2:(1:Int)<(t.size:Int):=by omega
 have e1:(((t[0].toNat:Nat):Int)==46)=false:=by simp;omega
 have e2:(((t[0].toNat:Nat):Int)==92)=false:=by simp;omega
 have e3:(((t[0].toNat:Nat):Int)==91)=true:=by simp;omega
 have ac:l.length<=120:=by omega
 have HM:∃M,M=Gg l (c:Int):=⟨_,rfl⟩;obtain⟨M,hM⟩:=HM;rw[<-hM];have a4:=Hd hM;have W:=Hd (JS t (1+neg.toNat) z l w hs hc);clear h1 h3 hc a5 hM;have e4:(((t[1].toNat:Nat):Int)==94)=neg:=h2.symm;clear h2;cases neg
 all_goals
  go_enter Tryz.func102,Tryz.ntmps102;go_wp2_with fail;refine W.out.mono ?_;rintro e w1 ⟨v,rfl,h,a6,Z⟩;obtain⟨ad,a9,rfl,a7⟩:=h.aV;have X:=Hd2 h Z;clear h a6 Z W;go_wp2_with fail
  go_loopg[8,9] l.length (fun G bv iv wr=>∃(i:Nat) (x:Bool),bv=.bool x/\iv=.int .i64 i/\i<=l.length/\G=l.length-i/\(x || Gg (l.drop i) (c:Int))=M/\wr=w1)
  case atStart=>exact⟨0,false,rfl,rfl,by omega,rfl,by simp[a4.out],rfl⟩
  case round=>
   obtain⟨i,x,rfl,rfl,hi,rfl,f,rfl⟩:=hrel
   by_cases a3:i<l.length
   ·rcases a7 with e|⟨g,rfl⟩
    ·omega
    have f0:decide ((i:Int)<(l.length:Int))=true:=by simp;omega
    have c0:=X.out.1.getD i a3;have j0:(0:Int)<=(i:Int):=by omega
    have j1:(i:Int)<(l.length:Int):=by omega
    by_cases D:i+2<l.length/\l.getD (i+1) 0= -1
    ·have f1:decide ((i:Int)+2<(l.length:Int))=true:=by simp;omega
     have c1:=X.out.1.getD (i+1) (by omega);have c2:=X.out.1.getD (i+2) (by omega);rw[D.2]at c1;have j2:(0:Int)<=(i:Int)+1:=by omega
     have j3:(i:Int)+1<(l.length:Int):=by omega
     have j4:(0:Int)<=(i:Int)+2:=by omega
     have j5:(i:Int)+2<(l.length:Int):=by omega
     have j6:((i:Int)+1).toNat=i+1:=by omega
     have j7:((i:Int)+2).toNat=i+2:=by omega
     have B:=ZS (c:=(c:Int)) D.1 D.2;generalize J:decide (l.getD i 0<=(c:Int))=x1 at B;generalize K:decide ((c:Int)<=l.getD (i+2) 0)=x2 at B;have HI:=Hd2 f B;have ab:=D.1;generalize l.getD i 0=a0 at c0 J;generalize l.getD (i+2) 0=a2 at c2 K;clear f B D;cases x <;>cases x1 <;>cases x2
     all_goals
      go_wp2_with fail
      go_roundg (l.length- (i+3))
      case measure=>omega
      case rel=>
       obtain⟨U,Y⟩:=HI.out;rw[Y]at U;exact⟨i+3,_,rfl,by go_num,by omega,rfl,by simpa using U,rfl⟩
    ·have V:=YS (c:=(c:Int)) a3 D;generalize J:decide ((c:Int)=l.getD i 0)=x1 at V;have K:((c:Int)==l.getD i 0)=x1:=J;have HI:=Hd2 f V;clear J f V
     by_cases a8:i+2<l.length
     ·have f1:decide ((i:Int)+2<(l.length:Int))=true:=by simp;omega
      have c1:=X.out.1.getD (i+1) (by omega);have j2:(0:Int)<=(i:Int)+1:=by omega
      have j3:(i:Int)+1<(l.length:Int):=by omega
      have j6:((i:Int)+1).toNat=i+1:=by omega
      have f2:(l.getD (i+1) 0== -1)=false:=by
       cases hh:(l.getD (i+1) 0== -1)with
       |false=>rfl
       |true=>exact absurd ⟨a8,by simpa using hh⟩ D
      generalize l.getD i 0=a0 at c0 K;generalize l.getD (i+1) 0=a1 at c1 f2;clear D;cases x <;>cases x1
      all_goals
       go_wp2_with fail
       go_roundg (l.length- (i+1))
       case measure=>omega
       case rel=>
        obtain⟨U,Y⟩:=HI.out;rw[Y]at U;exact⟨i+1,_,rfl,by go_num,by omega,rfl,by simpa using U,rfl⟩
     ·have f1:decide ((i:Int)+2<(l.length:Int))=false:=by simp;omega
      generalize l.getD i 0=a0 at c0 K;clear D;cases x <;>cases x1
      all_goals
       go_wp2_with fail
       go_roundg (l.length- (i+1))
       case measure=>omega
       case rel=>
        obtain⟨U,Y⟩:=HI.out;rw[Y]at U;exact⟨i+1,_,rfl,by go_num,by omega,rfl,by simpa using U,rfl⟩
   ·obtain rfl:i=l.length:=by omega
    have f0:decide ((l.length:Int)<(l.length:Int))=false:=by simp
    rw[List.drop_length,ZJ,Bool.or_false]at f;subst f;go_wp2_with fail;go_ret;exact⟨by cases x <;>rfl,X.out.2⟩
theorem EF{t:ByteArray}{A:Nat->Bool}(f:t.size<=120)(h:L8 t 0 t.size A):Yv t A:=by
 cases h with
 |any h1 h2 h3=>exact VH t A h1 h3
 |esc h1 h2 h3 h4 h5=>exact KM t A h1 h3 h5
 |aE l neg z h1 h2 h3 h4 h5=>exact JM t A l neg z f h1 h3 (by simpa using h4) h5
 |bX h1 h2 h3 h4 h5 h6=>exact LM t A h1 h2 h3 h4 h6
structure PlT where
 b:Nat
 t:ByteArray
 A:Nat->Bool
structure UB(w:World)(xb:Nat)(bL:List PlT):Prop where
 aO:∃c pv,Blk w xb c 87/\c[2]?=some pv/\w.ownsRow 0 89 1 pv bL.length (Q5 (bL.map PlT.b))
 pl:∀p∈bL,∃c,Blk w p.b c 142/\c[3]?=some (.string p.t)
 al:∀p∈bL,Yv p.t p.A
theorem UB.aA{w w':World}{xb:Nat}{D:List PlT}(h:UB w xb D)(k:Bw w w'):UB w' xb D:=by
 obtain⟨c,K,f,B,G⟩:=h.aO;refine⟨⟨c,K,f.aA k,B,K0 (ex:=fun _=>False) G (C0.aM k) (fun _ _ e=>e)⟩,fun p J=>?_,h.al⟩;obtain⟨c,f,B⟩:=h.pl p J;exact⟨c,f.aA k,B⟩
def twF(f:List PlT)(a b:Nat):Bool:=f.all (fun p=>p.A a==p.A b)
theorem Ss{f:List PlT}{a b:Nat}:twF f a b=true↔∀p∈f,p.A a=p.A b:=by simp[twF]
theorem IY(f:List PlT)(a:Nat):twF f a a=true:=Ss.2 fun _ _=>rfl
theorem ME{f:List PlT}{a b c:Nat}(h:twF f a b=true)(g:twF f b c=true):twF f a c=true:=Ss.2 fun p B=>(Ss.1 h p B).trans (Ss.1 g p B)
theorem GY{f:List PlT}{a b i:Nat}(h:i<f.length):twF (f.drop i) a b=((f[i].A a==f[i].A b) && twF (f.drop (i+1)) a b):=by
 rw[yA h];rfl
theorem H6(w:World):Bw w w.drew:=⟨rfl,rfl,rfl,zD _,fun _ _=>rfl⟩
theorem JY(f:List PlT)(xb a b:Nat)(w:World)(h:UB w xb f)(ha:a<256)(hb:b<256)(hn:f.length<=1000):
  Calls Tryz.prog 65 #[.pointer (some ⟨xb,0,none⟩),.int .i64 a,.int .i64 b] w fun e w'=>e=.returned (.bool (twF f a b))/\Bw w w':=by
 obtain⟨TW,a4⟩:∃TW,twF f a b=TW:=⟨_,rfl⟩;rw[a4];have ac:=Hd a4;have HP:=Hd h;clear a4 h;go_enter Tryz.func65,Tryz.ntmps65;go_wp2_with fail
 go_loopg[7] f.length (fun G iv wr=>∃i:Nat,iv=.int .i64 i/\i<=f.length/\G=f.length-i/\twF (f.drop i) a b=TW/\Bw w wr)
 case atStart=>exact⟨0,rfl,by omega,rfl,by simpa using ac.out,Below.refl _ _⟩
 case round=>
  obtain⟨i,rfl,hi,rfl,B,K⟩:=hrel;have hz:=K.size;have hP:=HP.out.aA K;obtain⟨cx,pv,Z,M,a0⟩:=hP.aO;have c2:wr.cell? ⟨xb,2,none⟩=some pv:=by rw[Z.cell];exact M
  obtain⟨_,pd,a3,rfl,U⟩:=P0 a0
  by_cases X:i<f.length
  ·have e0:decide ((i:Int)<(f.length:Int))=true:=by simp;omega
   rcases U with⟨_,e⟩|⟨pg,pc,rfl,aa,_⟩
   ·omega
   have cg:wr.cell? ⟨pg,i,none⟩=some (.pointer (some ⟨f[i].b,0,none⟩)):=by rw[Y0 a0 i (by omega)];simp[Q5,X]
   obtain⟨cp,Y,a9⟩:=hP.pl f[i] (zG X);have c3:wr.cell? ⟨f[i].b,3,none⟩=some (.string f[i].t):=by rw[Y.cell];exact a9
   have HA:=Hd (hP.al f[i] (zG X));unfold Yv at HA;have a8:=GY (a:=a) (b:=b) X;rw[a8]at B;generalize f[i].A=A at HA B;generalize f[i].b=pb at cg c3 Y;generalize f[i].t=pt at c3 HA;have i0:(0:Int)<=(i:Int):=by omega
   have i1:(i:Int)<(f.length:Int):=by omega
   have z1:=Z.lt;have z2:=aa.lt;have z3:=Y.lt;have HI:=Hd2 B K;clear B K hP Z M a0 aa Y a9 a8;go_upto_region 4 with fail
   go_cut[41] (fun bv wx=>bv=.bool (A a !=A b)/\Bw wr wx)
   case first=>
    have S0:wr.drew.cell? ⟨xb,2,none⟩=some (.slice (some ⟨pg,0,none⟩) f.length a3)/\wr.drew.cell? ⟨pg,i,none⟩=some (.pointer (some ⟨pb,0,none⟩))/\wr.drew.cell? ⟨pb,3,none⟩=some (.string pt):=⟨c2,cg,c3⟩
    go_region_held3 (fun W=>W.cell? ⟨xb,2,none⟩=some (.slice (some ⟨pg,0,none⟩) f.length a3)/\W.cell? ⟨pg,i,none⟩=some (.pointer (some ⟨pb,0,none⟩))/\W.cell? ⟨pb,3,none⟩=some (.string pt))
     (first|with_reducible exact S0|with_reducible exact S1|with_reducible exact S2)
     (first
      |(go_at_call_of 102 (Value.int IntKind.i64 (a:Int));with_reducible refine(HA.out a _ ha).mono ?_;rintro e w1 ⟨rfl,a5⟩;have D:=(H6 wr).trans (a5.mono (zD _));have g0:=(D.cell (p:=⟨xb,2,none⟩) z1).trans c2;have g1:=(D.cell (p:=⟨pg,i,none⟩) z2).trans cg;have g2:=(D.cell (p:=⟨pb,3,none⟩) z3).trans c3;have S1:=And.intro g0 (And.intro g1 g2);clear a5)
      |(go_at_call_of 102 (Value.int IntKind.i64 (b:Int));with_reducible refine(HA.out b _ hb).mono ?_;rintro e w2 ⟨rfl,a6⟩;have J:=D.trans (a6.mono D.size);have k0:=(J.cell (p:=⟨xb,2,none⟩) z1).trans c2;have k1:=(J.cell (p:=⟨pg,i,none⟩) z2).trans cg;have k2:=(J.cell (p:=⟨pb,3,none⟩) z3).trans c3;have S2:=And.intro k0 (And.intro k1 k2);clear a6))
    all_goals
     go_wp2_with fail;go_meet;exact⟨rfl,J⟩
   case rest=>
    obtain⟨rfl,a7⟩:=hcut;have HB:=Hd a7;clear a7 c2 cg c3;generalize ab:(A a !=A b)=xx;have M:(A a==A b)=!xx:=by rw[<-ab];simp[bne]
    have HX:=Hd M;clear ab M;cases xx with
    |true=>
     go_wp2_with fail;go_ret;obtain⟨V,a2⟩:=HI.out;rw[HX.out]at V;simp only[xH,xB]at V;refine⟨by rw[<-V];rfl,a2.trans (HB.out.mono hz)⟩
    |false=>
     go_wp2_with fail
     go_roundg (f.length- (i+1))
     case measure=>omega
     case rel=>
      obtain⟨V,a2⟩:=HI.out;rw[HX.out]at V;simp only[xC,Bool.true_and]at V;exact⟨i+1,by go_num,by omega,rfl,V,a2.trans (HB.out.mono hz)⟩
  ·obtain rfl:i=f.length:=by omega
   have e0:decide ((f.length:Int)<(f.length:Int))=false:=by simp
   have HI:=Hd2 B K;clear B K hP Z M a0 U;go_wp2_with fail;go_ret;obtain⟨V,a2⟩:=HI.out;rw[List.drop_length]at V;exact⟨by rw[<-V];rfl,a2⟩
def VE(f:List PlT)(b k:Nat):Prop:=k<=b/\twF f k b=true/\∀j,j<k->twF f j b=false
theorem VE.step{B:List PlT}{f:List Int}{b:Nat}(h:∀c,c<b->∃k:Nat,f.getD c 0=(k:Int)/\VE B c k){k:Nat}(hk:k<=b)(U:∀j,j<k->¬(f.getD j 0=(j:Int)/\twF B j b=true)):∀j,j<k->twF B j b=false:=by
 intro j Z;cases hh:twF B j b with
 |false=>rfl
 |true=>
  exfalso
  obtain⟨m,X,Y,G,M⟩:=h j (by omega);obtain⟨D,J,V,K,W⟩:=h m (by omega);have:D=m:=by
   rcases yE D m with e|e
   ·have:=M D e;rw[ME K G]at this;cases this
   ·omega
  subst this;exact U D (by omega) ⟨J,ME G hh⟩
theorem MN(bL:List PlT)(xb:Nat)(w:World)(h:UB w xb bL)(hn:bL.length<=1000):
  Calls Tryz.prog 32 #[.pointer (some ⟨xb,0,none⟩)] w fun e w'=>∃v f,e=.returned v/\Q2 w' v f/\f.length=256/\(∀b,b<256->∃k:Nat,f.getD b 0=(k:Int)/\VE bL b k)/\(∀b,v.ownBlock=some b->w.heap.size<=b)/\Bw w w':=by
 have HP:=Hd h;clear h;go_enter Tryz.func32,Tryz.ntmps32;go_wp2_with fail
 go_loopg[3,4] 256 (fun G lv bv wr=>∃(b:Nat) (f:List Int),bv=.int .i64 b/\b<=256/\G=256-b/\Q2 wr lv f/\f.length=b/\(∀c,c<b->∃k:Nat,f.getD c 0=(k:Int)/\VE bL c k)/\(∀x,lv.ownBlock=some x->w.heap.size<=x)/\Bw w wr)
 case atStart=>exact⟨0,[],rfl,by omega,rfl,World.ownsRow_nil _ _ _ _,rfl,fun c hc=>by omega,fun x hx=>by simp[Value.ownBlock]at hx,Below.refl _ _⟩
 case round=>
  obtain⟨b,f,rfl,hb,rfl,V,M,X,a8,a3⟩:=hrel;have hz:=a3.size;obtain⟨ld,U,rfl,a5⟩:=V.aV;rw[M]at a5
  by_cases ak:b<256
  ·have e0:decide ((b:Int)<256)=true:=by simp;omega
   have HI:=Hd5 V M X a8 a3;have HL:Hid (f.length=b):=Hd M;have a9:(Z7 f).length+1<=4000000:=by rw[Ze];omega
   obtain⟨n,af⟩:∃n,f.length=n:=⟨_,rfl⟩;rw[af];have HN:=Hd af;clear V M X a8 a3 af;obtain⟨wo,rfl⟩:∃wo:World,wo=wr:=⟨_,rfl⟩;go_wp2_with fail
   go_loopg[5] b (fun G kv wi=>∃k:Nat,kv=.int .i64 k/\k<=b/\G=b-k/\(∀j,j<k->¬(f.getD j 0=(j:Int)/\twF bL j b=true))/\Bw wo wi)
   case atStart=>exact⟨0,rfl,by omega,rfl,fun j hj=>by omega,Below.refl _ _⟩
   case round=>
    obtain⟨k,rfl,hk,rfl,B,D⟩:=hrel
    by_cases aj:k<b
    ·have e1:decide ((k:Int)<(b:Int))=true:=by simp;omega
     rcases a5 with e|⟨lg,rfl⟩
     ·omega
     have ae:n=b:=HN.out.symm.trans HL.out;have k0:(0:Int)<=(k:Int):=by omega
     have k1:(k:Int)<(n:Int):=by omega
     have cl:wr.cell? ⟨lg,k,none⟩=some (.int .i64 (f.getD k 0)):=(HI.out.1.aA D).getD k (by rw[HL.out];exact aj);generalize Z:f.getD k 0=lk at cl;have ab:=Hd (fun W (hb:Bw wr W)=>JY bL xb k b W (((HP.out.aA HI.out.2.2.2.2).aA D).aA hb) (by omega) ak hn)
     by_cases Y:lk=(k:Int)
     ·subst Y;have e2:((k:Int)==(k:Int))=true:=by simp
      have a7:=Hd (ab.out wr (Below.refl _ _));have an:=Hd Z;have ao:=Hd ae;have HB:=Hd2 B D;clear ab Z ae B D;generalize ah:twF bL k b=tw at a7;have ag:=Hd ah;clear ah;cases tw with
      |true=>
       go_wp2_with fail;refine a7.out.mono ?_;rintro e w1 ⟨rfl,a1⟩;obtain⟨B,J⟩:=HB.out;have D:Bw wo w1:=J.trans (a1.mono J.size);obtain⟨wr,rfl⟩:∃wr:World,wr=w1:=⟨_,rfl⟩;obtain⟨q1,q2,q3,q4,q5⟩:=HI.out;have a2:Bw w wr:=q5.trans (D.mono hz);have a6:Q2 wr (.slice (some ⟨lg,0,none⟩) n U) f:=by have h9:=q1.aA D;rw[HN.out]at h9;exact h9
       have am:=D.size;have HR:=Hd a6.lF;have K:Hid (∀x,(Value.slice (some ⟨lg,0,none⟩) n U).ownBlock=some x->w.heap.size<=x):=by have h9:=q4;rw[HN.out]at h9;exact Hd h9
       have aa:Hid (VE bL b k):=Hd ⟨hk,ag.out,VE.step q3 hk B⟩;have a0:=Hd a2;clear q1 q2 q3 q4 q5 a2 a6 D B a1 J HB;go_wp2_with(at_builtin;(refine Kf Tryz.underlying68 Tryz.cG rfl (by omega) (la:=Z7 f) (ll:=[.int .i64 k]) (va:=.slice (some ⟨lg,0,none⟩) n U) (vl:=.slice (some ⟨wr.heap.size,0,none⟩) 1 1) (by rfl) _ _ (by rfl) (by rfl) (by rfl) (Vm HR.out _) (Lf wr 3 (.int .i64 k)) (fun u hu=>by rw[zJ]at hu;rw[hu];rfl) w.heap.size (by simp;omega) K.out a9 ?_));intro v6 w6 r1 r2 r3;have HK:Hid (Q2 w6 v6 (f++ [(k:Int)])/\(∀x,v6.ownBlock=some x->w.heap.size<=x)/\Bw w w6):=by
        refine Hd ⟨Q2.fJ ?_,r2,?_⟩
        ·have e9:Z7 (f++ [(k:Int)])=Z7 f++ [.int .i64 k]:=by simp[Z7]
         rw[e9,zL];exact r1
        ·exact C3 (a0.out.alloc (by omega) _) r3 (by simp;omega) (fun x hx e=>by have:=K.out x e;omega)
       clear r1 r2 r3 HR K a0 a9;go_wp2_with fail
       go_roundg (256- (b+1))
       case measure=>omega
       case rel=>
        obtain⟨q1,q2,q3,q4,q5⟩:=HI.out;obtain⟨k1,k2,k3⟩:=HK.out;refine⟨b+1,f++ [(k:Int)],by go_num,by omega,rfl,k1,by rw[zL,q2];rfl,fun c hc=>?_,k2,k3⟩
        by_cases ac:c<b
        ·obtain⟨m,m1,m2⟩:=q3 c ac;exact⟨m,by rw[zC,zR (by omega),<-zC];exact m1,m2⟩
        ·have a4:c=b:=by omega
         subst a4;exact⟨k,by rw[zC,zY (by omega),q2];simp,aa.out⟩
      |false=>
       go_wp2_with fail;refine a7.out.mono ?_;rintro e w1 ⟨rfl,a1⟩;have ai:=Hd a1;clear a1 a7;go_wp2_with fail
       go_roundg (b- (k+1))
       case measure=>omega
       case rel=>
        obtain⟨B,J⟩:=HB.out;refine⟨k+1,by go_num,by omega,rfl,fun j hj=>?_,J.trans (ai.out.mono J.size)⟩
        by_cases ad:j<k
        ·exact B j ad
        ·have:j=k:=by omega
         subst this;rw[ag.out];simp
     ·have e2:(lk==(k:Int))=false:=by simp;exact Y
      have HB:=Hd4 B D Z Y;clear ab Z ae B D Y;go_wp2_with fail
      go_roundg (b- (k+1))
      case measure=>omega
      case rel=>
       obtain⟨B,J,Z,Y⟩:=HB.out;refine⟨k+1,by go_num,by omega,rfl,fun j hj=>?_,J⟩
       by_cases ad:j<k
       ·exact B j ad
       ·have:j=k:=by omega
        subst this;exact fun e=>Y (Z.symm.trans e.1)
    ·obtain rfl:k=b:=by omega
     have e1:decide ((k:Int)<(k:Int))=false:=by simp
     obtain⟨q1,q2,q3,q4,q5⟩:=HI.out;have a2:Bw w wr:=q5.trans (D.mono hz);have a6:Q2 wr (.slice ld n U) f:=by have h9:=q1.aA D;rw[HN.out]at h9;exact h9
     have am:=D.size;have HR:=Hd a6.lF;have K:Hid (∀x,(Value.slice ld n U).ownBlock=some x->w.heap.size<=x):=by have h9:=q4;rw[HN.out]at h9;exact Hd h9
     have aa:Hid (VE bL k k):=Hd ⟨hk,IY _ _,VE.step q3 hk B⟩;have a0:=Hd a2;clear q1 q2 q3 q4 q5 a2 a6 D B;go_wp2_with(at_builtin;(refine Kf Tryz.underlying68 Tryz.cG rfl (by omega) (la:=Z7 f) (ll:=[.int .i64 k]) (va:=.slice ld n U) (vl:=.slice (some ⟨wr.heap.size,0,none⟩) 1 1) (by rfl) _ _ (by rfl) (by rfl) (by rfl) (Vm HR.out _) (Lf wr 3 (.int .i64 k)) (fun u hu=>by rw[zJ]at hu;rw[hu];rfl) w.heap.size (by simp;omega) K.out a9 ?_));intro v6 w6 r1 r2 r3;have HK:Hid (Q2 w6 v6 (f++ [(k:Int)])/\(∀x,v6.ownBlock=some x->w.heap.size<=x)/\Bw w w6):=by
      refine Hd ⟨Q2.fJ ?_,r2,?_⟩
      ·have e9:Z7 (f++ [(k:Int)])=Z7 f++ [.int .i64 k]:=by simp[Z7]
       rw[e9,zL];exact r1
      ·exact C3 (a0.out.alloc (by omega) _) r3 (by simp;omega) (fun x hx e=>by have:=K.out x e;omega)
     clear r1 r2 r3 HR K a0 a9;go_wp2_with fail
     go_roundg (256- (k+1))
     case measure=>omega
     case rel=>
      obtain⟨q1,q2,q3,q4,q5⟩:=HI.out;obtain⟨k1,k2,k3⟩:=HK.out;refine⟨k+1,f++ [(k:Int)],by go_num,by omega,rfl,k1,by rw[zL,q2];rfl,fun c hc=>?_,k2,k3⟩
      by_cases ac:c<k
      ·obtain⟨m,m1,m2⟩:=q3 c ac;exact⟨m,by rw[zC,zR (by omega),<-zC];exact m1,m2⟩
      ·have a4:c=k:=by omega
       subst a4;exact⟨c,by rw[zC,zY (by omega),q2];simp,aa.out⟩
  ·obtain rfl:b=256:=by omega
   have e0:decide (((256:Nat):Int)<256)=false:=by simp
   have HI:=Hd5 V M X a8 a3;clear V X a8 a3 M;go_wp2_with fail;go_ret;obtain⟨q1,q2,q3,q4,q5⟩:=HI.out;exact⟨_,f,rfl,q1,q2,q3,q4,q5⟩
def Mr(i n:Nat):List Bool:=(List.replicate n false).set i true
theorem Cf(i n:Nat):(Mr i n).length=n:=by simp[Mr]
theorem Lk{i n q:Nat}(f:i<n)(B:q<n):(Mr i n).getD q false=decide (q=i):=by
 unfold Mr;rw[C7 _ _ _ _ (by simp;exact f)]
 by_cases h:q=i
 ·simp[h]
 ·simp[h,B]
theorem Um(i n:Nat)(w:World)(h:i<n)(K:n<=50000):Calls Tryz.prog 124 #[.int .i64 i,.int .i64 n] w fun e w'=>e=.returned (.slice (some ⟨w.heap.size,0,none⟩) n n)/\Blk w' w.heap.size (Z0 (Mr i n)) 4/\Bw w w':=by
 have B:=A8 n (by omega);have f:=Blk.aR w (Z0 (List.replicate n false)) 4;have G:=P2 f i (by simp;exact h);have J:=f.frozen i;have M:(0:Int)<=(i:Int):=by omega
 have U:(i:Int)<(n:Int):=by omega
 have D:=Hd f;clear f;go_enter Tryz.func124,Tryz.ntmps124;go_wp2_with fail;go_ret;refine⟨rfl,?_,N0 _ _⟩;rw[D4];exact Blk.aR _ _ _
def orL:List Bool->List Bool->List Bool
 |a::l,b::m=>(a || b)::orL l m
 |l,_=>l
theorem Vn:∀l m:List Bool,(orL l m).length=l.length
 | [],m=>by cases m <;>simp[orL]
 |a::l,[]=>by simp[orL]
 |a::l,b::m=>by simp[orL,Vn l m]
theorem Nm:∀(l m:List Bool) (i:Nat),i<l.length->i<m.length->(orL l m).getD i false=(l.getD i false || m.getD i false)
 | [],m,i,h,_=>by simp at h
 |a::l,[],i,_,h=>by simp at h
 |a::l,b::m,0,_,_=>by simp[orL]
 |a::l,b::m,i+1,h,g=>by
  have:=Nm l m i (by simpa using h) (by simpa using g);simpa[orL]using this
theorem Mp(g n a8:Nat)(l m:List Bool)(v:Value)(w:World)(hl:Blk w g (Z0 l) 4)(hm:E6 w v m)(X:l.length=n)(M:m.length=n)(hg:v.ownBlock≠some g)(hn:n<=50000):
  Calls Tryz.prog 139 #[.slice (some ⟨g,0,none⟩) n a8,v] w fun e w'=>e=.returned (.tuple #[])/\Blk w' g (Z0 (orL l m)) 4/\C0 (fun x=>x=g) w w':=by
 obtain⟨md,a7,rfl,Y⟩:=hm.aV;rw[M]at Y;have K:=Hd5 hl hm X M hg;obtain⟨k,hk⟩:∃k,m.length=k:=⟨_,rfl⟩;rw[hk];have ab:k=n:=hk.symm.trans M;have HK:=Hd hk;clear hl hm X M hg hk;go_enter Tryz.func139,Tryz.ntmps139;go_wp2_with fail
 go_loopg[4] n (fun G iv wr=>∃(i:Nat) (V:List Bool),iv=.int .i64 i/\i<=n/\G=n-i/\V.length=n/\(∀q,q<n->V.getD q false=if q<i then(orL l m).getD q false else l.getD q false)/\Blk wr g (Z0 V) 4/\C0 (fun x=>x=g) w wr)
 case atStart=>exact⟨0,l,rfl,by omega,rfl,K.out.2.2.1,fun q hq=>by simp,K.out.1,C0.refl _ _⟩
 case round=>
  obtain⟨i,V,rfl,hi,rfl,h,J,W,f⟩:=hrel
  by_cases B:i<n
  ·have e0:decide ((i:Int)<(n:Int))=true:=by simp;omega
   rcases Y with e|⟨mg,rfl⟩
   ·omega
   have aa:mg≠g:=fun e=>K.out.2.2.2.2 (by rw[e];rfl)
   have cO:=P2 W i (by rw[h];exact B);have fO:=W.frozen i;have Z:E6 wr (.slice (some ⟨mg,0,none⟩) m.length a7) m:=K.out.2.1.kept f (fun b' a9 e=>by cases(zE a9:mg=b');exact aa e);have cE:=Z.cellD i (by rw[K.out.2.2.2.1];exact B);have U:=J i B;rw[if_neg (by omega)]at U;have D:=Nm l m i (by rw[K.out.2.2.1];exact B) (by rw[K.out.2.2.2.1];exact B);rw[<-U]at D;generalize hx:V.getD i false=x at cO D;generalize m.getD i false=y at cE D;have i0:(0:Int)<=(i:Int):=by omega
   have i1:(i:Int)<(n:Int):=by omega
   have i2:(i:Int)<(k:Int):=by omega
   have HI:=Hd5 h J W f D;clear h J W f D Z U hx;cases x <;>cases y
   all_goals
    go_wp2_with fail
    go_roundg (n- (i+1))
    case measure=>omega
    case rel=>
     obtain⟨a1,a2,a3,a4,a5⟩:=HI.out;refine⟨i+1,V.set i _,by go_num,by omega,rfl,by simp[a1],fun q hq=>?_,by rw[<-D4];exact a3.set i _,a4.setCell (p:=⟨g,i,none⟩) (fun _=>rfl) _⟩;rw[C7 _ _ _ _ (by omega)]
     by_cases a6:q=i
     ·subst a6;rw[if_pos rfl,if_pos (by omega),a5];rfl
     ·rw[if_neg a6,a2 q hq]
      by_cases a0:q<i
      ·rw[if_pos a0,if_pos (by omega)]
      ·rw[if_neg a0,if_neg (by omega)]
  ·obtain rfl:i=n:=by omega
   have e0:decide ((i:Int)<(i:Int))=false:=by simp
   have HI:=Hd4 h J W f;clear h J W f;go_wp2_with fail
   go_end0
   obtain⟨a1,a2,a3,a4⟩:=HI.out;have:V=orL l m:=by
    refine Qn (by rw[a1,Vn,K.out.2.2.1]) fun q=>?_
    by_cases hq:q<i
    ·rw[a2 q hq,if_pos hq]
    ·rw[zC,yJ (by omega),zC,yJ (by rw[Vn,K.out.2.2.1];omega)]
   rw[<-this];exact⟨rfl,a3,a4⟩
end Go.Proofs.YtcckhngbdoiikabGreat
