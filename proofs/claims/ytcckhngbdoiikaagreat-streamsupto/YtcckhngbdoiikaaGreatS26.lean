import Derived.Test.YtcckhngbdoiikaaGreatS25
import Derived.Laws.AppendOwnNone
set_option maxRecDepth 20000
set_option maxHeartbeats 12800000
set_option linter.unusedVariables false
namespace Go.Proofs.YtcckhngbdoiikaaGreat
open Go.RowKit Go.Deep
def upd(f:Nat->Int)(b n:Nat):Nat->Int:=fun x=>if x=b then(n:Int)else f x
mutual
def MT.num:MT->Nat->(Nat->Int)->Nat->Int
 |.place b i e A,n,f=>upd f b n
 |.node b v k l,n,f=>Bg l (n+1) (upd f b n)
def Bg:List MT->Nat->(Nat->Int)->Nat->Int
 | [],n,f=>f
 |y::l,n,f=>Bg l (n+y.nt.aH) (y.num n f)
end
mutual
def MT.Numd(f:Nat->Int):MT->Nat->Prop
 |.place b i e A,n=>f b=(n:Int)
 |.node b v k l,n=>f b=(n:Int)/\K6 f l (n+1)
def K6(f:Nat->Int):List MT->Nat->Prop
 | [],n=>True
 |y::l,n=>y.Numd f n/\K6 f l (n+y.nt.aH)
end
mutual
theorem MT.gJ:∀(T:MT) (n:Nat) (f:Nat->Int) (x:Nat),x∉T.blks->T.num n f x=f x
 |.place b i e A,n,f,x,h=>by simp[MT.blks]at h;simp[MT.num,upd,h]
 |.node b v k l,n,f,x,h=>by
  simp only[MT.blks,zU,not_or]at h;simp only[MT.num];rw[Zj l _ _ x h.2];simp[upd,h.1]
theorem Zj:∀(l:List MT) (n:Nat) (f:Nat->Int) (x:Nat),x∉B9 l->Bg l n f x=f x
 | [],n,f,x,h=>by simp[Bg]
 |y::l,n,f,x,h=>by
  simp only[B9,zO,not_or]at h;simp only[Bg];rw[Zj l _ _ x h.2,MT.gJ y _ _ x h.1]
end
mutual
theorem MT.Numd.congr{f g:Nat->Int}:∀(T:MT) (n:Nat),T.Numd f n->(∀x∈T.blks,g x=f x)->T.Numd g n
 |.place b i e A,n,h,hx=>by
  simp only[MT.Numd]at h⊢;rw[hx b (by simp[MT.blks])];exact h
 |.node b v k l,n,h,hx=>by
  simp only[MT.Numd]at h⊢;exact⟨by rw[hx b (by simp[MT.blks])];exact h.1,K6.congr l _ h.2 (fun x e=>hx x (by simp[MT.blks,e]))⟩
theorem K6.congr{f g:Nat->Int}:∀(l:List MT) (n:Nat),K6 f l n->(∀x∈B9 l,g x=f x)->K6 g l n
 | [],n,h,hx=>by simp[K6]
 |y::l,n,h,hx=>by
  simp only[K6]at h⊢;exact⟨MT.Numd.congr y _ h.1 (fun x e=>hx x (by simp[B9,e])),K6.congr l _ h.2 (fun x e=>hx x (by simp[B9,e]))⟩
end
mutual
theorem MT.iH:∀(T:MT) (n:Nat) (f:Nat->Int),T.blks.Nodup->T.Numd (T.num n f) n
 |.place b i e A,n,f,h=>by simp[MT.Numd,MT.num,upd]
 |.node b v k l,n,f,h=>by
  simp only[MT.blks,List.nodup_cons]at h;simp only[MT.Numd,MT.num];exact⟨by rw[Zj l _ _ b h.1];simp[upd],Ws l _ _ h.2⟩
theorem Ws:∀(l:List MT) (n:Nat) (f:Nat->Int),(B9 l).Nodup->K6 (Bg l n f) l n
 | [],n,f,h=>by simp[K6]
 |y::l,n,f,h=>by
  simp only[B9,List.nodup_append]at h;simp only[K6,Bg];refine⟨MT.Numd.congr y n (MT.iH y n f h.1) (fun x B=>?_),Ws l _ _ h.2.1⟩;exact Zj l _ _ x (fun e=>h.2.2 x B x e rfl)
end
theorem Tl:∀(l m:List MT) (n:Nat) (f:Nat->Int),Bg (l++m) n f=Bg m (n+J1 (ntL l)) (Bg l n f)
 | [],m,n,f=>by simp[Bg,ntL,J1]
 |y::l,m,n,f=>by
  simp only[List.cons_append,Bg,ntL,J1];rw[Tl l m]
  congr 1;omega
theorem K6.append{f:Nat->Int}:∀(l m:List MT) (n:Nat),K6 f (l++m) n↔(K6 f l n/\K6 f m (n+J1 (ntL l)))
 | [],m,n=>by simp[K6,ntL,J1]
 |y::l,m,n=>by
  simp only[List.cons_append,K6,ntL,J1];rw[K6.append l m,show n+y.nt.aH+J1 (ntL l)=n+(y.nt.aH+J1 (ntL l)) by omega,and_assoc]
theorem Xl(l:List MT)(y:MT):J1 (ntL (l++ [y]))=J1 (ntL l)+y.nt.aH:=by
 rw[Wb,F7];simp[J1]
mutual
theorem MT.At.eJ{w:World}{s:ByteArray}{f:Nat->Int}{b n:Nat}{c:Array Value}(B:Blk w b c 129):∀(U:MT),U.At w s f->U.At (w.setCell ⟨b,1,none⟩ (.int .i64 n)) s (upd f b n)
 |.place b' i e A,h=>by
  simp only[MT.At]at h⊢
  by_cases e:b'=b
  ·subst e;have:=h.set 1 (.int .i64 n);simp only[upd,if_true];exact this
  ·simp only[upd,if_neg e];exact h.aG (p:=⟨b,1,none⟩) e _
 |.node b' v k l,h=>by
  simp only[MT.At]at h⊢;refine⟨?_,P2 h.2.1 (p:=⟨b,1,none⟩) (K0 h.2.1 B (by decide)) _,AtL.eJ B l h.2.2⟩
  by_cases e:b'=b
  ·subst e;have:=h.1.set 1 (.int .i64 n);simp only[upd,if_true];exact this
  ·simp only[upd,if_neg e];exact h.1.aG (p:=⟨b,1,none⟩) e _
theorem AtL.eJ{w:World}{s:ByteArray}{f:Nat->Int}{b n:Nat}{c:Array Value}(B:Blk w b c 129):∀(l:List MT),AtL w s f l->AtL (w.setCell ⟨b,1,none⟩ (.int .i64 n)) s (upd f b n) l
 | [],h=>by simp[AtL]
 |y::l,h=>by
  simp only[AtL]at h⊢;exact⟨MT.At.eJ B y h.1,AtL.eJ B l h.2⟩
end
theorem Xb:∀l:List MT,l.length<=J1 (ntL l)
 | []=>by simp
 |y::l=>by have:=y.nt.parts_pos;have:=Xb l;simp only[ntL,J1,yH];omega
def OT(T:MT):Prop:=∀(w:World) (s:ByteArray) (f:Nat->Int) (n:Nat),T.At w s f->n+T.nt.aH<=100000->
 Calls Tryz.prog 26 #[.pointer (some ⟨T.aL,0,none⟩),.int .i64 n] w fun e w'=>e=.returned (.int .i64 ((n+T.nt.aH:Nat):Int))/\(∀U:MT,U.At w s f->U.At w' s (T.num n f))/\C0 (fun x=>x∈T.blks) w w'
theorem CR(b i e:Nat)(A:Nat->Bool):OT (.place b i e A):=by
 intro w s f n h K;have D:=h;simp only[MT.At]at h;simp only[MT.nt,NT.aH]at K⊢;have W:w.cell? ⟨b,1,none⟩=some (.int .i64 (f b)):=h.cell 1;have Y:=h.frozen 1;have X:w.cell? ⟨b,4,none⟩=some (.slice none 0 0):=h.cell 4;have B:=Hd h;clear D h;simp only[MT.aL];go_enter Tryz.func26,Tryz.ntmps26;go_wp2_with fail
 go_loopg[1,5] 1 (fun G V M wr=>V=.int .i64 ((n+1:Nat):Int)/\M=.int .i64 0/\wr=w.setCell ⟨b,1,none⟩ (.int .i64 n))
 case atStart=>exact⟨by go_num,rfl,rfl⟩
 case round=>
  obtain⟨rfl,rfl,rfl⟩:=hrel;go_wp2_with fail;go_ret;refine⟨rfl,fun U J=>?_,?_⟩
  ·have:=MT.At.eJ (n:=n) B.out U J;simpa[MT.num]using this
  ·exact(C0.refl _ _).setCell (p:=⟨b,1,none⟩) (fun _=>by simp[MT.blks]) _
theorem FV(b k:Nat)(v:Value)(l:List MT)(hl:∀y∈l,OT y):OT (.node b v k l):=by
 intro w s f n h hn;have h0:=h;simp only[MT.At]at h;simp only[MT.nt,NT.aH]at hn⊢;obtain⟨hb,hr,hk⟩:=h;have aa:w.ownsRow 0 80 1 v l.length (K5 (l.map MT.aL)):=by unfold TF at hr;rwa [yA]at hr
 obtain⟨_,ad,W,rfl,V⟩:=L0 aa;have ag:=Xb l;have c1:w.cell? ⟨b,1,none⟩=some (.int .i64 (f b)):=hb.cell 1;have f1:=hb.frozen 1;have ae:Hid (∀U:MT,U.At w s f->U.At (w.setCell ⟨b,1,none⟩ (.int .i64 n)) s (upd f b n)):=Hd (fun U D=>MT.At.eJ hb U D);have H0:=Hd h0;have HL:=Hd hl;have af:=hb.lt;have Z:l.length=0\/∃g,ad=some ⟨g,0,none⟩:=by
  rcases V with⟨_,e⟩|⟨g,_,e,_⟩
  ·exact .inl e
  ·exact .inr ⟨g,e⟩
 clear h0 hb hr hk hl aa V;simp only[MT.aL];go_enter Tryz.func26,Tryz.ntmps26;go_wp2_with fail
 go_loopg[1,5] l.length (fun G nv kv wr=>∃i:Nat,kv=.int .i64 i/\i<=l.length/\G=l.length-i/\nv=.int .i64 ((n+1+J1 (ntL (l.take i)):Nat):Int)/\(∀U:MT,U.At w s f->U.At wr s (Bg (l.take i) (n+1) (upd f b n)))/\C0 (fun x=>x∈(MT.node b (.slice ad l.length W) k l).blks) w wr)
 case atStart=>
  refine⟨0,rfl,by omega,rfl,by simp[ntL,J1],fun U D=>?_,?_⟩
  ·simpa[Bg]using ae.out U D
  ·exact(C0.refl _ _).setCell (p:=⟨b,1,none⟩) (fun _=>by simp[MT.blks]) _
 case round=>
  obtain⟨i,rfl,hi,rfl,rfl,D,B⟩:=hrel;have J:=D _ H0.out;simp only[MT.At]at J;obtain⟨X,M,Y⟩:=J;have c4:wr.cell? ⟨b,4,none⟩=some (.slice ad l.length W):=X.cell 4
  by_cases K:i<l.length
  ·rcases Z with e|⟨g,rfl⟩
   ·omega
   have e0:decide ((i:Int)<(l.length:Int))=true:=by simp;omega
   have cg:wr.cell? ⟨g,i,none⟩=some (.pointer (some ⟨l[i].aL,0,none⟩)):=by
    have ab:wr.ownsRow 0 80 1 (.slice (some ⟨g,0,none⟩) l.length W) l.length (K5 (l.map MT.aL)):=by unfold TF at M;rwa [yA]at M
    rw[Y0 ab i (by omega)];simp[K5,K]
   have i0:(0:Int)<=(i:Int):=by omega
   have i1:(i:Int)<(l.length:Int):=by omega
   have a0:l.take (i+1)=l.take i++ [l[i]]:=(yJ K).symm;have a9:J1 (ntL (l.take (i+1)))=J1 (ntL (l.take i))+l[i].nt.aH:=by rw[a0,Xl]
   have a8:J1 (ntL (l.take (i+1)))<=J1 (ntL l):=by
    have:=F7 (ntL (l.take (i+1))) (ntL (l.drop (i+1)));have e:ntL l=ntL (l.take (i+1))++ntL (l.drop (i+1)):=by rw[Lb,Lb,Lb,<-yB,yT]
    rw[e,this];omega
   have HC:=Hd (HL.out l[i] (zG K) wr s (Bg (l.take i) (n+1) (upd f b n)) (n+1+J1 (ntL (l.take i))) ((Tc l).1 Y _ (zG K)) (by omega));have HH:=Hd5 D B a0 a9 a8;clear D B X M Y a0 a9 a8;go_wp2_with fail;refine HC.out.mono ?_;rintro e w1 ⟨rfl,a6,a7⟩;have ac:=Hd2 a6 a7;clear a6 a7 HC;go_wp2_with fail
   go_roundg (l.length- (i+1))
   case measure=>omega
   case rel=>
    obtain⟨a1,a2,a3,a4,a5⟩:=HH.out;obtain⟨b1,b2⟩:=ac.out;refine⟨i+1,by go_num,by omega,rfl,by rw[a4];exact congrArg (Value.int .i64) (by push_cast;omega),fun U D=>?_,a2.trans b2 (fun x _ hx=>?_)⟩
    ·have:=b1 U (a1 U D);rw[a3,Tl];simpa[Bg]using this
    ·simp only[MT.blks,zU]
     right
     have e:l=l.take i++(l[i]::l.drop (i+1)):=by rw[List.getElem_cons_drop,yT]
     rw[e,Fg];simp only[B9,zO];exact .inr (.inl hx)
  ·obtain rfl:i=l.length:=by omega
   have e0:decide ((l.length:Int)<(l.length:Int))=false:=by simp
   have HH:=Hd2 D B;clear D B X M Y;go_wp2_with fail;go_ret;obtain⟨a1,a2⟩:=HH.out;refine⟨?_,fun U D=>?_,a2⟩
   ·rw[zN (zD _)];show Ending.returned (Value.int .i64 _)=Ending.returned (Value.int .i64 _)
    congr 2;push_cast;omega
   have:=a1 U D;rw[zN (zD _)]at this;simpa[MT.num]using this
mutual
theorem EO:∀T:MT,OT T
 |.place b i e A=>CR b i e A
 |.node b v k l=>FV b k v l (CI l)
theorem CI:∀(l:List MT),∀y∈l,OT y
 | [],y,h=>by simp at h
 |x::l,y,h=>by
  rw[zU]at h;rcases h with rfl|h
  ·exact EO y
  ·exact CI l y h
end
theorem VA{la ll:List Nat}{va vl:Value}{M:Array Oper}{rest:List Oper}{o:Oper}{a:Act}{w:World}{Q:Exit->Act->World->Prop}(V:o.guard=none)(s x:Operand)
  (ho:o.op=.call { callee:=.builtin .append,args:=#[s,x],argTypes:=#[74,74] })
  (hs:a.eval s=va) (hx:a.eval x=vl) (ha:w.ownsRow 0 80 1 va la.length (K5 la)) (hl:w.ownsRow 0 80 1 vl ll.length (K5 ll)) (N:Nat) (hN:N<=w.heap.size) (X:∀b,va.ownBlock=some b->N<=b) (a3:la.length+ll.length<=4000000)
  (h:∀D w',w'.ownsRow 0 80 1 D (la++ll).length (K5 (la++ll))->(∀b,D.ownBlock=some b->N<=b)->C0 (fun b=>va.ownBlock=some b) w w'->wpList Tryz.prog M Q rest (a.put o.dst D) w'):wpList Tryz.prog M Q (o::rest) a w:=by
 obtain⟨ii,W,a0,a1,a2⟩:=info_parts Tryz.fL;have K:w.ownsRow N 80 1 va la.length (K5 la):=by
  obtain⟨U,G|⟨g,f,cur,rfl,B,J⟩⟩:=ha
  ·exact⟨U,.inl G⟩
  ·exact⟨U,.inr ⟨g,f,cur,rfl,X g rfl,J⟩⟩
 have Z:∀D w',w'.ownsRow N 80 1 D (la.length+ll.length) (K5 la++K5 ll)->w.grownBy w' va.ownBlock->wpList Tryz.prog M Q rest (a.put o.dst D) w':=fun D w' G B=>by
  refine h D w' ?_ ?_ ⟨B.os,B.tape,B.output,B.size,fun k hk he=>B.block k hk (fun e=>he e.symm)⟩
  ·have e:K5 (la++ll)=K5 la++K5 ll:=by simp[K5]
   rw[e,zL];obtain⟨J,h5|⟨g,f,cur,rfl,h6,h7⟩⟩:=G
   ·exact⟨J,.inl h5⟩
   ·exact⟨J,.inr ⟨g,f,cur,rfl,yC _,h7⟩⟩
  ·intro b hb;obtain⟨J,⟨rfl,_⟩|⟨g,f,cur,rfl,h6,h7⟩⟩:=G
   ·cases hb
   ·cases(zE hb:g=b);exact h6
 obtain⟨U,⟨rfl,G⟩|⟨g,f,cur,rfl,B,J⟩⟩:=hl
 ·refine wpList_append_own_none V s x 74 ho N 80 ii 1 Tryz.underlying74 W va la.length (K5 la) hs K hx ?_;have e:ll= []:=yM G;subst e;exact Z va w (by simpa[K5]using K) ⟨rfl,rfl,rfl,zD _,fun _ _ _=>rfl⟩
 ·have Y:w.ownsRow 0 80 1 (.slice (some ⟨g,0,none⟩) ll.length f) ll.length (K5 ll):=⟨U,.inr ⟨g,f,cur,rfl,B,J⟩⟩;exact wpList_append_own w V s x 74 ho N 80 ii _ 1 8 Tryz.underlying74 W a0 a1 a2 rfl (by omega) va la.length (K5 la) hs K ⟨g,0,none⟩ ll.length f (K5 ll) hx U (Y.cells (g:=g) rfl) (fun u hu=>by simp only[K5,List.mem_map]at hu;obtain⟨b,_,rfl⟩:=hu;rfl) (by unfold maxLen;omega) (by omega) hN (fun D w' G B _=>Z D w' G B)
mutual
def MT.pl:MT->List MT
 |.place b i e A=>[.place b i e A]
 |.node b v k l=>plL l
def plL:List MT->List MT
 | []=>[]
 |y::l=>y.pl++plL l
end
theorem Ye:∀l m:List MT,plL (l++m)=plL l++plL m
 | [],m=>rfl
 |x::l,m=>by simp[plL,Ye l m]
mutual
theorem MT.jV:∀T:MT,T.pl.length<=T.nt.aH
 |.place b i e A=>by simp[MT.pl,MT.nt,NT.aH]
 |.node b v k l=>by have:=Xq l;simp only[MT.pl,MT.nt,NT.aH];omega
theorem Xq:∀l:List MT,(plL l).length<=J1 (ntL l)
 | []=>by simp[plL]
 |y::l=>by have:=MT.jV y;have:=Xq l;simp only[plL,ntL,J1,zL];omega
end
theorem Fy:∀(l:List MT) (y:MT),y∈l->y.nt.aH<=J1 (ntL l)
 | [],y,h=>by simp at h
 |x::l,y,h=>by
  rw[zU]at h;simp only[ntL,J1];rcases h with rfl|h
  ·omega
  ·have:=Fy l y h;omega
def PlC(T:MT):Prop:=∀(w:World) (s:ByteArray) (f:Nat->Int),T.At w s f->(match T with|.place ..=>True|.node _ _ k _=>0<k)->T.nt.aH<=100000->
 Calls Tryz.prog 27 #[.pointer (some ⟨T.aL,0,none⟩)] w fun e w'=>∃v,e=.returned v/\w'.ownsRow 0 80 1 v T.pl.length (K5 (T.pl.map MT.aL))/\(∀b,v.ownBlock=some b->w.heap.size<=b)/\Bw w w'
mutual
def MT.KindOk:MT->Prop
 |.place _ _ _ _=>True
 |.node b v k l=>(k=1\/k=2\/k=3\/k=4)/\De l
def De:List MT->Prop
 | []=>True
 |y::l=>y.KindOk/\De l
end
theorem Cu:∀l:List MT,De l↔∀y∈l,y.KindOk
 | []=>by simp[De]
 |y::l=>by simp[De,Cu l]
theorem dT(b i e:Nat)(A:Nat->Bool):PlC (.place b i e A):=by
 intro w s f h _ _;simp only[MT.At]at h;have G:w.cell? ⟨b,0,none⟩=some (.int .i64 0):=h.cell 0;clear h;simp only[MT.aL,MT.pl];go_enter Tryz.func27,Tryz.ntmps27;go_wp2_with fail;go_ret;refine⟨_,rfl,?_,fun x D=>?_,P0 _ _⟩
 ·have B:=Blk.aQ w #[.pointer (some ⟨b,0,none⟩)] 80;exact D5 (by simp[K5]) B (zD _) (by unfold maxLen;omega) (by simp) (by simp[K5,MT.aL])
 ·cases(zE D:w.heap.size=x);omega
theorem UX(b k:Nat)(v:Value)(l:List MT)(hl:∀y∈l,PlC y)(a8:De l):PlC (.node b v k l):=by
 intro w s f h ac hn;simp only[MT.At]at h;simp only[MT.nt,NT.aH]at hn;simp only at ac;obtain⟨hb,hr,hk⟩:=h;have X:w.ownsRow 0 80 1 v l.length (K5 (l.map MT.aL)):=by unfold TF at hr;rwa [yA]at hr
 obtain⟨_,ad,ab,rfl,M⟩:=L0 X;have ah:=Xb l;have c0:w.cell? ⟨b,0,none⟩=some (.int .i64 k):=hb.cell 0;have ai:((k:Int)==0)=false:=by simp;omega
 have Y:l.length=0\/∃g,ad=some ⟨g,0,none⟩:=by
  rcases M with⟨_,e⟩|⟨g,_,e,_⟩
  ·exact .inl e
  ·exact .inr ⟨g,e⟩
 have HL:=Hd hl;have H0:=Hd3 hb X hk;have aa:=Hd a8;have ag:=hb.lt;clear hb hr hk hl X M a8;simp only[MT.aL,MT.pl];go_enter Tryz.func27,Tryz.ntmps27;go_wp2_with fail
 go_loopg[3,4] l.length (fun G lv kv wr=>∃i:Nat,kv=.int .i64 i/\i<=l.length/\G=l.length-i/\wr.ownsRow 0 80 1 lv (plL (l.take i)).length (K5 ((plL (l.take i)).map MT.aL))/\(∀x,lv.ownBlock=some x->w.heap.size<=x)/\Bw w wr)
 case atStart=>exact⟨0,rfl,by omega,rfl,World.ownsRow_nil _ _ _ _,fun x hx=>by simp[Value.ownBlock]at hx,Below.refl _ _⟩
 case round=>
  obtain⟨i,rfl,hi,rfl,hL,K,B⟩:=hrel;have hz:=B.size;have c4:wr.cell? ⟨b,4,none⟩=some (.slice ad l.length ab):=(H0.out.1.aA B).cell 4;obtain⟨_,ld,V,rfl,_⟩:=L0 hL
  by_cases W:i<l.length
  ·rcases Y with e|⟨g,rfl⟩
   ·omega
   have e0:decide ((i:Int)<(l.length:Int))=true:=by simp;omega
   have cg:wr.cell? ⟨g,i,none⟩=some (.pointer (some ⟨l[i].aL,0,none⟩)):=by
    have af:=J0 (ex:=fun _=>False) H0.out.2.1 (C0.aM B) (fun _ _ e=>e);rw[Y0 af i (by omega)];simp[K5,W]
   have i0:(0:Int)<=(i:Int):=by omega
   have i1:(i:Int)<(l.length:Int):=by omega
   have Z:plL (l.take (i+1))=plL (l.take i)++l[i].pl:=by rw[(yJ W).symm,Ye];simp[plL]
   have D:=zG W;have ae:=Fy l l[i] D;have a9:(plL (l.take i)).length+l[i].pl.length<=4000000:=by
    have h1:=Xq l;have e:l=l.take (i+1)++l.drop (i+1):=(yT _ _).symm;rw[e,Ye,Z]at h1;rw[<-e]at h1;simp only[zL]at h1;omega
   have a7:(match l[i]with|.place ..=>True|.node _ _ k _=>0<k):=by
    have:=(Cu l).1 aa.out l[i] D;cases hh:l[i]with
    |place=>trivial
    |node b v k l=>rw[hh]at this;simp only[MT.KindOk]at this;show 0<k;omega
   have HC:=Hd (HL.out l[i] D wr s f ((Tc l).1 (AtL.kept (ex:=fun _=>False) (C0.aM B) l H0.out.2.2 (fun _ _ e=>e)) _ D) a7 (by omega));have HH:=Hd5 hL K B Z a9;clear hL K B Z a9 ae a7 D;go_wp2_with fail;refine HC.out.mono ?_;rintro e w1 ⟨v1,rfl,q1,q2,q3⟩;have aj:=q3.size;have a0:w1.ownsRow 0 80 1 (.slice ld (plL (l.take i)).length V) ((plL (l.take i)).map MT.aL).length (K5 ((plL (l.take i)).map MT.aL)):=by
    rw[yA];exact J0 (ex:=fun _=>False) HH.out.1 (C0.aM q3) (fun _ _ e=>e)
   have a6:w1.ownsRow 0 80 1 v1 (l[i].pl.map MT.aL).length (K5 (l[i].pl.map MT.aL)):=by rw[yA];exact q1
   have J:=Hd4 a0 a6 HH.out.2.1 q3;have hN:w.heap.size<=w1.heap.size:=by omega
   have U:((plL (l.take i)).map MT.aL).length+(l[i].pl.map MT.aL).length<=4000000:=by rw[yA,yA];exact HH.out.2.2.2.2
   clear a0 a6 q1 q2 q3 HC;go_wp2_with(at_builtin;(refine VA (la:=(plL (l.take i)).map MT.aL) (ll:=l[i].pl.map MT.aL) (va:=.slice ld (plL (l.take i)).length V) (vl:=v1) (by rfl) _ _ (by rfl) (by rfl) (by rfl) J.out.1 J.out.2.1 w.heap.size hN J.out.2.2.1 U ?_));intro v2 w2 r1 r2 r3;have HR:=Hd3 r1 r2 r3;clear r1 r2 r3 U;go_wp2_with fail
   go_roundg (l.length- (i+1))
   case measure=>omega
   case rel=>
    obtain⟨a1,a2,a3,a4,a5⟩:=HH.out;obtain⟨r1,r2,r3⟩:=HR.out;refine⟨i+1,by go_num,by omega,rfl,?_,r2,?_⟩
    ·rw[a4,yB,zL];simpa using r1
    ·exact Y2 (Y2 (ex:=fun _=>False) a3 (C0.aM J.out.2.2.2) hz (fun _ _ e=>e)) r3 hN (fun x hx e=>by have:=a2 x e;omega)
  ·obtain rfl:i=l.length:=by omega
   have e0:decide ((l.length:Int)<(l.length:Int))=false:=by simp
   have HH:=Hd3 hL K B;clear hL K B;go_wp2_with fail;go_ret;obtain⟨a1,a2,a3⟩:=HH.out;rw[zN (zD _)]at a1 a2⊢;exact⟨_,rfl,a1,a2,a3⟩
mutual
theorem MV:∀T:MT,T.KindOk->PlC T
 |.place b i e A,_=>dT b i e A
 |.node b v k l,h=>by
  simp only[MT.KindOk]at h;exact UX b k v l (PO l h.2) h.2
theorem PO:∀(l:List MT),De l->∀y∈l,PlC y
 | [],_,y,h=>by simp at h
 |x::l,hk,y,h=>by
  simp only[De]at hk;rw[zU]at h;rcases h with rfl|h
  ·exact MV y hk.1
  ·exact PO l hk.2 y h
end
theorem Df{t e:TypeId}{nb:Nat}{z:Value}(hu:Tryz.prog.underlying t=some (.slice e))(M:(Tryz.prog.info? e).map (fun i=>(i.zero,i.size,i.bytes))=some (some z,1,nb))(a7:z.cells.size=1)(a2:nb<=64)
  {la ll:List Value} {va vl:Value} {U:Array Oper} {rest:List Oper} {o:Oper} {a:Act} {w:World} {Q:Exit->Act->World->Prop} (W:o.guard=none) (s x:Operand)
  (ho:o.op=.call { callee:=.builtin .append,args:=#[s,x],argTypes:=#[t,t] })
  (hs:a.eval s=va) (hx:a.eval x=vl) (ha:w.ownsRow 0 e 1 va la.length la) (hl:w.ownsRow 0 e 1 vl ll.length ll) (Y:∀u∈ll,u.oneCell'=true) (N:Nat) (hN:N<=w.heap.size) (Z:∀b,va.ownBlock=some b->N<=b) (a3:la.length+ll.length<=4000000)
  (h:∀D w',w'.ownsRow 0 e 1 D (la++ll).length (la++ll)->(∀b,D.ownBlock=some b->N<=b)->C0 (fun b=>va.ownBlock=some b) w w'->wpList Tryz.prog U Q rest (a.put o.dst D) w'):wpList Tryz.prog U Q (o::rest) a w:=by
 obtain⟨ii,X,a4,a5,a6⟩:=info_parts M;have K:w.ownsRow N e 1 va la.length la:=by
  obtain⟨V,G|⟨g,f,cur,rfl,B,J⟩⟩:=ha
  ·exact⟨V,.inl G⟩
  ·exact⟨V,.inr ⟨g,f,cur,rfl,Z g rfl,J⟩⟩
 have a1:∀D w',w'.ownsRow N e 1 D (la.length+ll.length) (la++ll)->w.grownBy w' va.ownBlock->wpList Tryz.prog U Q rest (a.put o.dst D) w':=fun D w' G B=>by
  refine h D w' ?_ ?_ ⟨B.os,B.tape,B.output,B.size,fun k hk he=>B.block k hk (fun e=>he e.symm)⟩
  ·rw[zL];obtain⟨J,h5|⟨g,f,cur,rfl,h6,h7⟩⟩:=G
   ·exact⟨J,.inl h5⟩
   ·exact⟨J,.inr ⟨g,f,cur,rfl,yC _,h7⟩⟩
  ·intro b hb;obtain⟨J,⟨rfl,_⟩|⟨g,f,cur,rfl,h6,h7⟩⟩:=G
   ·cases hb
   ·cases(zE hb:g=b);exact h6
 obtain⟨V,⟨rfl,G⟩|⟨g,f,cur,rfl,B,J⟩⟩:=hl
 ·refine wpList_append_own_none W s x t ho N e ii 1 hu X va la.length la hs K hx ?_;have e:ll= []:=yM G;subst e;exact a1 va w (by simpa using K) ⟨rfl,rfl,rfl,zD _,fun _ _ _=>rfl⟩
 ·have a0:w.ownsRow 0 e 1 (.slice (some ⟨g,0,none⟩) ll.length f) ll.length ll:=⟨V,.inr ⟨g,f,cur,rfl,B,J⟩⟩;refine wpList_append_own w W s x t ho N e ii z 1 nb hu X a4 a5 a6 a7 (by omega) va la.length la hs K ⟨g,0,none⟩ ll.length f ll hx V (a0.cells (g:=g) rfl) Y (by unfold maxLen;omega) ?_ hN (fun D w' G B _=>a1 D w' G B);have:(la.length+ll.length)*nb<=4000000*64:=Nat.mul_le_mul a3 a2;omega
theorem Ef(w:World)(e:TypeId)(u:Value):(w.alloc (.cells #[u] e)).ownsRow 0 e 1 (.slice (some ⟨w.heap.size,0,none⟩) 1 1) [u].length [u]:=
 D5 (by simp) (Blk.aQ w #[u] e) (zD _) (by unfold maxLen;omega) (by simp) (by simp)
def T7(l:List Int):List Value:=l.map (Value.int .i64)
theorem Te(l:List Int):(T7 l).length=l.length:=by simp[T7]
theorem O2.lC{w:World}{v:Value}{l:List Int}(h:O2 w v l):w.ownsRow 0 3 1 v (T7 l).length (T7 l):=by rw[Te];exact h
theorem O2.fC{w:World}{v:Value}{l:List Int}(h:w.ownsRow 0 3 1 v (T7 l).length (T7 l)):O2 w v l:=by rw[Te]at h;exact h
theorem Dm{w:World}{e:TypeId}{v:Value}{n:Nat}{f:List Value}(h:w.ownsRow 0 e 1 v n f)(o:Obj):(w.alloc o).ownsRow 0 e 1 v n f:=J0 (ex:=fun _=>False) h (C0.aM (P0 _ _)) (fun _ _ e=>e)
theorem JQ(s:ByteArray)(q z:Nat)(l:List Int)(w:World)(hs:s.size<=120)(hc:Cls s l q z):
  Calls Tryz.prog 130 #[.string s,.int .i64 q] w fun e w'=>∃v,e=.returned v/\O2 w' v l/\(∀b,v.ownBlock=some b->w.heap.size<=b)/\Bw w w':=by
 have HC:=Hd hc;have aa:=hc.le;have HZ:=Hd aa;clear hc aa;go_enter Tryz.func130,Tryz.ntmps130;go_wp2_with fail
 go_loopg[1,5] (s.size-q) (fun G iv lv wr=>∃(p:Nat) (f rest:List Int),iv=.int .i64 p/\G=s.size-p/\l=f++rest/\Cls s rest p z/\O2 wr lv f/\(∀b,lv.ownBlock=some b->w.heap.size<=b)/\Bw w wr)
 case atStart=>exact⟨q,[],l,rfl,rfl,rfl,HC.out,World.ownsRow_nil _ _ _ _,fun x hx=>by simp[Value.ownBlock]at hx,Below.refl _ _⟩
 case round=>
  obtain⟨p,f,rest,rfl,rfl,hl,hc,h,J,D⟩:=hrel;have a6:=hc.le;have a5:p<s.size:=by omega
  have p0:(0:Int)<=(p:Int):=by omega
  have p1:(p:Int)<(s.size:Int):=by omega
  have hz:=D.size;have a0:f.length<=1000:=by
   have:=HZ.out.1;rw[hl,zL]at this;have:=HZ.out.2.1;omega
  obtain⟨ad,Z,rfl,_⟩:=h.aT;cases rest with
  |nil=>
   obtain⟨rfl,a8⟩:=hc;rw[L3 a5]at a8;have e3:(((s[p].toNat:Nat):Int) !=93)=false:=by simp;omega
   have HH:=Hd4 hl h J D;clear a8 a6 hl h J D a0;go_wp2_with fail;go_ret;obtain⟨a1,a2,a3,a4⟩:=HH.out;rw[yS]at a1;rw[a1];exact⟨_,rfl,a2,a3,a4⟩
  |cons v rest=>
   have M:l=(f++ [v])++rest:=by rw[hl];simp
   have V:Hid (∀(W Y:World) (v6:Value),Bw wr W->Y.ownsRow 0 3 1 v6 ((T7 f).length+1) (T7 f++ [Value.int .i64 v])->C0 (fun b=>(Value.slice ad f.length Z).ownBlock=some b) W Y->O2 Y v6 (f++ [v])/\Bw w Y):=by
    refine Hd fun W Y v6 a1 a2 a3=>⟨O2.fC (by rw[show T7 (f++ [v])=T7 f++ [.int .i64 v] by simp[T7],zL];exact a2),?_⟩
    exact Y2 (Y2 (ex:=fun _=>False) D (C0.aM a1) hz (fun _ _ e=>e)) a3 (by have:=a1.size;omega) (fun x hx e=>by have:=J x e;omega)
   have HR:=Hd h.lC;have K:=Hd J;have U:(T7 f).length+1<=4000000:=by rw[Te];omega
   rcases hc with⟨h1,hv,h2⟩|⟨h1,a9,_,hv,h2⟩|⟨_,_,a7,h1,h3,hv,h2⟩
   ·subst hv;rw[L3 a5]at h1;have e3:(((s[p].toNat:Nat):Int) !=93)=true:=by simp;omega
    have e4:(((s[p].toNat:Nat):Int)==45)=true:=by simp;omega
    have B:=Hd2 h2 M;clear h1 a6 h2 hl M h J D a0;go_wp2_with(at_builtin;(refine Df Tryz.underlying60 Tryz.cG rfl (by omega) (la:=T7 f) (ll:=[.int .i64 (-1)]) (va:=.slice ad f.length Z) (vl:=.slice (some ⟨wr.heap.size,0,none⟩) 1 1) (by rfl) _ _ (by rfl) (by rfl) (by rfl) (Dm HR.out _) (Ef wr 3 (.int .i64 (-1))) (fun u hu=>by rw[zJ]at hu;rw[hu];rfl) w.heap.size (by simp;omega) K.out U ?_));intro v6 Y r1 r2 r3;have X:=Hd2 (V.out _ Y v6 (P0 wr _) r1 r3) r2;clear r1 r2 r3 V HR K U;go_wp2_with fail
    go_roundg (s.size- (p+1))
    case measure=>omega
    case rel=>exact⟨p+1,f++ [-1],rest,by go_num,rfl,B.out.2,B.out.1,X.out.1.1,X.out.2,X.out.1.2⟩
   ·have ae:=A1 a9;rw[L3 ae]at hv;rw[L3 a5]at h1;have e3:(((s[p].toNat:Nat):Int) !=93)=true:=by simp;omega
    have e4:(((s[p].toNat:Nat):Int)==45)=false:=by simp;omega
    have e5:(((s[p].toNat:Nat):Int)==92)=true:=by simp;omega
    have q0:(0:Int)<=(p:Int)+1:=by omega
    have q1:(p:Int)+1<(s.size:Int):=by omega
    have HM:=Hd (fun W=>Ym s[p+1].toNat W (s[p+1].toNat_lt));have B:=Hd2 h2 M;have ac:=Hd hv;clear h1 a6 h2 hl M h J D a0 a9 hv;go_wp2_with fail;refine(HM.out _).mono ?_;rintro e w1 ⟨rfl,rfl⟩;rw[<-ac.out];go_wp2_with(at_builtin;(refine Df Tryz.underlying60 Tryz.cG rfl (by omega) (la:=T7 f) (ll:=[.int .i64 v]) (va:=.slice ad f.length Z) (vl:=.slice (some ⟨w1.heap.size,0,none⟩) 1 1) (by rfl) _ _ (by rfl) (by rfl) (by rfl) (Dm HR.out _) (Ef w1 3 (.int .i64 v)) (fun u hu=>by rw[zJ]at hu;rw[hu];rfl) w.heap.size (by simp;omega) K.out U ?_));intro v6 Y r1 r2 r3;have X:=Hd2 (V.out _ Y v6 (P0 w1 _) r1 r3) r2;clear r1 r2 r3 V HR K U;go_wp2_with fail
    go_roundg (s.size- (p+2))
    case measure=>omega
    case rel=>exact⟨p+2,f++ [v],rest,by go_num,rfl,B.out.2,B.out.1,X.out.1.1,X.out.2,X.out.1.2⟩
   ·rw[L3 a5]at h1 h3 a7 hv;have e3:(((s[p].toNat:Nat):Int) !=93)=true:=by simp;omega
    have e4:(((s[p].toNat:Nat):Int)==45)=false:=by simp;omega
    have e5:(((s[p].toNat:Nat):Int)==92)=false:=by simp;omega
    have ab:=s[p].toNat_lt;have af:wrap64 ((s[p].toNat:Nat):Int)=v:=by rw[hv];unfold wrap64;omega
    have B:=Hd2 h2 M;clear h1 h3 a7 a6 h2 hl M h J D a0 hv ab;go_wp2_with(at_builtin;(refine Df Tryz.underlying60 Tryz.cG rfl (by omega) (la:=T7 f) (ll:=[.int .i64 v]) (va:=.slice ad f.length Z) (vl:=.slice (some ⟨wr.heap.size,0,none⟩) 1 1) (by rfl) _ _ (by rfl) (by rfl) (by rfl) (Dm HR.out _) (Ef wr 3 (.int .i64 v)) (fun u hu=>by rw[zJ]at hu;rw[hu];rfl) w.heap.size (by simp;omega) K.out U ?_));intro v6 Y r1 r2 r3;have X:=Hd2 (V.out _ Y v6 (P0 wr _) r1 r3) r2;clear r1 r2 r3 V HR K U af;go_wp2_with fail
    go_roundg (s.size- (p+1))
    case measure=>omega
    case rel=>exact⟨p+1,f++ [v],rest,by go_num,rfl,B.out.2,B.out.1,X.out.1.1,X.out.2,X.out.1.2⟩
theorem Sj{s:ByteArray}{i e:Nat}(f:e<=s.size):(s.extract i e).size=e-i:=by rw[ByteArray.size_extract];omega
theorem Kd{s:ByteArray}{i e k:Nat}(h:e<=s.size)(B:i+k<e):F0 (s.extract i e) k=F0 s (i+k):=by
 have f:k<(s.extract i e).size:=by rw[Sj h];omega
 rw[L3 f,L3 (by omega),ByteArray.getElem_extract]
theorem Cls.sub{s:ByteArray}{i e:Nat}(B:e<=s.size):∀{l:List Int} {q z:Nat},Cls s l (i+q) (i+z)->i+z<e->Cls (s.extract i e) l q z
 | [],q,z,h,hz=>⟨by have:=h.1;omega,by rw[Kd B hz];exact h.2⟩
 |v::l,q,z,h,hz=>by
  rcases h with⟨G,J,D⟩|⟨G,J,D,M,K⟩|⟨G,J,D,M,K,V,U⟩
  ·have:=D.le;exact .inl ⟨by rw[Kd B (by omega)];exact G,J,Cls.sub B (by rw[show i+(q+1)=i+q+1 by omega];exact D) hz⟩
  ·have:=K.le;have f:F0 (s.extract i e) (q+1)=F0 s (i+q+1):=by rw[Kd B (by omega)];congr 1
   exact .inr (.inl ⟨by rw[Kd B (by omega)];exact G,by rw[f];exact J,by rw[f];exact D,by rw[f];exact M,Cls.sub B (by rw[show i+(q+2)=i+q+2 by omega];exact K) hz⟩)
  ·have:=U.le;have f:F0 (s.extract i e) q=F0 s (i+q):=Kd B (by omega);exact .inr (.inr ⟨by rw[f];exact G,by rw[f];exact J,by rw[f];exact D,by rw[f];exact M,by rw[f];exact K,by rw[f];exact V,Cls.sub B (by rw[show i+(q+1)=i+q+1 by omega];exact U) hz⟩)
theorem D8.sub{s:ByteArray}{i e:Nat}{A:Nat->Bool}(h:D8 s i e A):D8 (s.extract i e) 0 (s.extract i e).size A:=by
 have D:=h.lt;have G:=Sj (i:=i) D.2;have f:F0 (s.extract i e) 0=F0 s i:=by rw[Kd D.2 (by omega)];rfl
 rw[G];cases h with
 |any h1 h2 h3=>exact .any (by rw[f];exact h1) (by omega) h3
 |esc h1 h2 h3 h4 h5=>
  have B:F0 (s.extract i e) (0+1)=F0 s (i+1):=Kd D.2 (by omega);exact .esc (by rw[f];exact h1) (by omega) (by rw[B];exact h3) (by rw[B];exact h4) (by rw[B];exact h5)
 |aE l neg z h1 h2 h3 h4 h5=>
  have J:=h4.le;have K:neg.toNat<=1:=by cases neg <;>simp
  have B:F0 (s.extract i e) (0+1)=F0 s (i+1):=Kd D.2 (by omega);refine .aE l neg (z-i) (by rw[f];exact h1) (by omega) (by rw[B];exact h3) ?_ h5;refine Cls.sub D.2 ?_ (by omega);rw[show i+(0+1+neg.toNat)=i+1+neg.toNat by omega,show i+(z-i)=z by omega];exact h4
 |bX h1 h2 h3 h4 h5 h6=>exact .bX (by rw[f];exact h1) (by rw[f];exact h2) (by rw[f];exact h3) (by rw[f];exact h4) (by omega) (by rw[f];exact h6)
def Cv(t:ByteArray)(A:Nat->Bool):Prop:=∀(c:Nat) (w:World),c<256->Calls Tryz.prog 97 #[.string t,.int .i64 c] w fun e w'=>e=.returned (.bool (A c))/\Bw w w'
theorem BG(t:ByteArray)(A:Nat->Bool)(f:F0 t 0=46)(h:∀c:Nat,A c=true):Cv t A:=by
 intro c w G;have B:=A1 (s:=t) (p:=0) (by rw[f];decide);rw[L3 B]at f;rw[h c];have J:(0:Int)<(t.size:Int):=by omega
 have D:(((t[0].toNat:Nat):Int)==46)=true:=by simp;omega
 clear f h;go_enter Tryz.func97,Tryz.ntmps97;go_wp2_with fail;go_ret;exact⟨rfl,Below.refl _ _⟩
theorem MK(t:ByteArray)(A:Nat->Bool)(K:¬M7 (F0 t 0))(B:F0 t 0≠46)(D:F0 t 0≠91)(J:F0 t 0≠92)(G:∀c:Nat,A c=decide (F0 t 0=(c:Int))):Cv t A:=by
 intro c w W;have h:=A1 (s:=t) (p:=0) (fun e=>K (.inl e));rw[L3 h]at B D J;rw[G c,L3 h];have Y:(0:Int)<(t.size:Int):=by omega
 have M:(((t[0].toNat:Nat):Int)==46)=false:=by simp;omega
 have U:(((t[0].toNat:Nat):Int)==92)=false:=by simp;omega
 have V:(((t[0].toNat:Nat):Int)==91)=false:=by simp;omega
 have f:=t[0].toNat_lt;have X:wrap64 ((t[0].toNat:Nat):Int)=((t[0].toNat:Nat):Int):=by unfold wrap64;omega
 clear B D J G K f;go_enter Tryz.func97,Tryz.ntmps97;go_wp2_with fail;go_ret;refine⟨?_,Below.refl _ _⟩;show Ending.returned (Value.bool (((t[0].toNat:Nat):Int)==(c:Int)))=_
 congr 2
theorem LK(t:ByteArray)(A:Nat->Bool)(f:F0 t 0=92)(B:F0 t 1≠ -1)(D:∀c:Nat,A c=decide (Ua (F0 t 1)=(c:Int))):Cv t A:=by
 intro c w U;have G:=A1 (s:=t) (p:=0) (by rw[f];decide);have J:=A1 B;rw[L3 G]at f;rw[D c,L3 J];have V:(0:Int)<(t.size:Int):=by omega
 have X:(1:Int)<(t.size:Int):=by omega
 have K:(((t[0].toNat:Nat):Int)==46)=false:=by simp;omega
 have M:(((t[0].toNat:Nat):Int)==92)=true:=by simp;omega
 have h:=Hd (fun W=>Ym t[1].toNat W (t[1].toNat_lt));generalize Ua ((t[1].toNat:Nat):Int)=mm at h⊢;clear f B D;go_enter Tryz.func97,Tryz.ntmps97;go_wp2_with fail;refine(h.out _).mono ?_;rintro e Y ⟨rfl,rfl⟩;go_wp2_with fail;go_ret;refine⟨?_,Below.refl _ _⟩;show Ending.returned (Value.bool (mm==(c:Int)))=_
 congr 2
theorem TQ{l:List Int}{i:Nat}{c:Int}(h:i<l.length)(G:¬(i+2<l.length/\l.getD (i+1) 0= -1)):Ag (l.drop i) c=(decide (c=l.getD i 0) || Ag (l.drop (i+1)) c):=by
 rw[zY h,YH]
 ·simp[h]
 ·intro d b r' e B;apply G;have D:=congrArg List.length e;simp only[List.length_drop,yH]at D;refine⟨by omega,?_⟩;have f:=congrArg (fun l=>l.getD 0 0) e;simp only[List.getD_cons_zero]at f;rw[<-B,<-f];simp
theorem UQ{l:List Int}{i:Nat}{c:Int}(h:i+2<l.length)(f:l.getD (i+1) 0= -1):Ag (l.drop i) c=((decide (l.getD i 0<=c) && decide (c<=l.getD (i+2) 0)) || Ag (l.drop (i+3)) c):=by
 have B:l.getD i 0=l[i]:=by simp[show i<l.length by omega]
 have D:l.getD (i+1) 0=l[i+1]:=by simp[show i+1<l.length by omega]
 have G:l.getD (i+2) 0=l[i+2]:=by simp[h]
 rw[D]at f;rw[zY (show i<l.length by omega),zY (show i+1<l.length by omega),zY (show i+1+1<l.length by omega),f,XB,B,G]
theorem O2.getD{w:World}{l:List Int}{g n f:Nat}(h:O2 w (.slice (some ⟨g,0,none⟩) n f) l)(j:Nat)(D:j<l.length):w.cell? ⟨g,j,none⟩=some (.int .i64 (l.getD j 0)):=by
 obtain⟨_,G,B,e,_⟩:=L0 h
 injection e with e1 e2 e3
 subst e2;rw[h.cell j D];simp[D]
theorem KK(t:ByteArray)(A:Nat->Bool)(l:List Int)(neg:Bool)(z:Nat)(hs:t.size<=120)(h1:F0 t 0=91)(h2:neg=decide (F0 t 1=94))(hc:Cls t l (1+neg.toNat) z)(h3:∀c:Nat,A c=(Ag l (c:Int) !=neg)):Cv t A:=by
 intro c w aa;have a5:=hc.le;have h0:=A1 (s:=t) (p:=0) (by rw[h1];decide);have h9:1<t.size:=by omega
 rw[L3 h0]at h1;rw[L3 h9]at h2;rw[h3 c];have i1:(0:Int)<(t.size:Int):=by omega
 have i2:(1:Int)<(t.size:Int):=by omega
 have e1:(((t[0].toNat:Nat):Int)==46)=false:=by simp;omega
 have e2:(((t[0].toNat:Nat):Int)==92)=false:=by simp;omega
 have e3:(((t[0].toNat:Nat):Int)==91)=true:=by simp;omega
 have ac:l.length<=120:=by omega
 have HM:∃M,M=Ag l (c:Int):=⟨_,rfl⟩;obtain⟨M,hM⟩:=HM;rw[<-hM];have a4:=Hd hM;have W:=Hd (JQ t (1+neg.toNat) z l w hs hc);clear h1 h3 hc a5 hM;have e4:(((t[1].toNat:Nat):Int)==94)=neg:=h2.symm;clear h2;cases neg
 all_goals
  go_enter Tryz.func97,Tryz.ntmps97;go_wp2_with fail;refine W.out.mono ?_;rintro e w1 ⟨v,rfl,h,a6,Z⟩;obtain⟨ad,a9,rfl,a7⟩:=h.aT;have X:=Hd2 h Z;clear h a6 Z W;go_wp2_with fail
  go_loopg[8,9] l.length (fun G bv iv wr=>∃(i:Nat) (x:Bool),bv=.bool x/\iv=.int .i64 i/\i<=l.length/\G=l.length-i/\(x || Ag (l.drop i) (c:Int))=M/\wr=w1)
  case atStart=>exact⟨0,false,rfl,rfl,by omega,rfl,by simp[a4.out],rfl⟩
  case round=>
   obtain⟨i,x,rfl,rfl,hi,rfl,f,rfl⟩:=hrel
   by_cases a3:i<l.length
   ·rcases a7 with e|⟨g,rfl⟩
    ·omega
    have f0:decide ((i:Int)<(l.length:Int))=true:=by simp;omega
    have c0:=X.out.1.getD i a3;have j0:(0:Int)<=(i:Int):=by omega
    have j1:(i:Int)<(l.length:Int):=by omega
    by_cases D:i+2<l.length/\l.getD (i+1) 0= -1
    ·have f1:decide ((i:Int)+2<(l.length:Int))=true:=by simp;omega
     have c1:=X.out.1.getD (i+1) (by omega);have c2:=X.out.1.getD (i+2) (by omega);rw[D.2]at c1;have j2:(0:Int)<=(i:Int)+1:=by omega
     have j3:(i:Int)+1<(l.length:Int):=by omega
     have j4:(0:Int)<=(i:Int)+2:=by omega
     have j5:(i:Int)+2<(l.length:Int):=by omega
     have j6:((i:Int)+1).toNat=i+1:=by omega
     have j7:((i:Int)+2).toNat=i+2:=by omega
     have B:=UQ (c:=(c:Int)) D.1 D.2;generalize J:decide (l.getD i 0<=(c:Int))=x1 at B;generalize K:decide ((c:Int)<=l.getD (i+2) 0)=x2 at B;have HI:=Hd2 f B;have ab:=D.1;generalize l.getD i 0=a0 at c0 J;generalize l.getD (i+2) 0=a2 at c2 K;clear f B D;cases x <;>cases x1 <;>cases x2
     all_goals
      go_wp2_with fail
      go_roundg (l.length- (i+3))
      case measure=>omega
      case rel=>
       obtain⟨U,Y⟩:=HI.out;rw[Y]at U;exact⟨i+3,_,rfl,by go_num,by omega,rfl,by simpa using U,rfl⟩
    ·have V:=TQ (c:=(c:Int)) a3 D;generalize J:decide ((c:Int)=l.getD i 0)=x1 at V;have K:((c:Int)==l.getD i 0)=x1:=J;have HI:=Hd2 f V;clear J f V
     by_cases a8:i+2<l.length
     ·have f1:decide ((i:Int)+2<(l.length:Int))=true:=by simp;omega
      have c1:=X.out.1.getD (i+1) (by omega);have j2:(0:Int)<=(i:Int)+1:=by omega
      have j3:(i:Int)+1<(l.length:Int):=by omega
      have j6:((i:Int)+1).toNat=i+1:=by omega
      have f2:(l.getD (i+1) 0== -1)=false:=by
       cases hh:(l.getD (i+1) 0== -1)with
       |false=>rfl
       |true=>exact absurd ⟨a8,by simpa using hh⟩ D
      generalize l.getD i 0=a0 at c0 K;generalize l.getD (i+1) 0=a1 at c1 f2;clear D;cases x <;>cases x1
      all_goals
       go_wp2_with fail
       go_roundg (l.length- (i+1))
       case measure=>omega
       case rel=>
        obtain⟨U,Y⟩:=HI.out;rw[Y]at U;exact⟨i+1,_,rfl,by go_num,by omega,rfl,by simpa using U,rfl⟩
     ·have f1:decide ((i:Int)+2<(l.length:Int))=false:=by simp;omega
      generalize l.getD i 0=a0 at c0 K;clear D;cases x <;>cases x1
      all_goals
       go_wp2_with fail
       go_roundg (l.length- (i+1))
       case measure=>omega
       case rel=>
        obtain⟨U,Y⟩:=HI.out;rw[Y]at U;exact⟨i+1,_,rfl,by go_num,by omega,rfl,by simpa using U,rfl⟩
   ·obtain rfl:i=l.length:=by omega
    have f0:decide ((l.length:Int)<(l.length:Int))=false:=by simp
    rw[List.drop_length,XH,Bool.or_false]at f;subst f;go_wp2_with fail;go_ret;exact⟨by cases x <;>rfl,X.out.2⟩
theorem PD{t:ByteArray}{A:Nat->Bool}(f:t.size<=120)(h:D8 t 0 t.size A):Cv t A:=by
 cases h with
 |any h1 h2 h3=>exact BG t A h1 h3
 |esc h1 h2 h3 h4 h5=>exact LK t A h1 h3 h5
 |aE l neg z h1 h2 h3 h4 h5=>exact KK t A l neg z f h1 h3 (by simpa using h4) h5
 |bX h1 h2 h3 h4 h5 h6=>exact MK t A h1 h2 h3 h4 h6
end Go.Proofs.YtcckhngbdoiikaaGreat
