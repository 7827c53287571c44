import Derived.Test.YtcckhngbdoiikaaGreatS22
set_option maxRecDepth 20000
set_option maxHeartbeats 12800000
set_option linter.unusedVariables false
namespace Go.Proofs.YtcckhngbdoiikaaGreat
open Go.RowKit Go.Deep
structure S4 where
 aB:Int
 fr:Nat
 tt:Nat
 deriving DecidableEq,Inhabited
abbrev Yk(t:S4):Array Value:=#[.int .i64 t.aB,.int .i64 (t.fr:Int),.int .i64 (t.tt:Int)]
def Ra(kd:Nat->Nat)(g:B0)(s:ByteArray)(fr:Nat):Nat->Nat->Int->S4->S4
 |0,_,_,bN=>bN
 |n+1,p,st,bN=>
  if p<s.size then
   if X0 kd g st (F0 s p)= -1 then bN
   else Ra kd g s fr n (p+1) (X0 kd g st (F0 s p)) (if N0 g (X0 kd g st (F0 s p))= -1 then bN else⟨N0 g (X0 kd g st (F0 s p)),fr,p+1⟩)
  else bN
def Q3(kd:Nat->Nat)(g:B0)(s:ByteArray)(fr:Nat):S4:=Ra kd g s fr (s.size-fr+1) fr 0 ⟨-1,fr,fr+1⟩
theorem Il(kd:Nat->Nat)(g:B0)(s:ByteArray)(fr:Nat):∀(n p:Nat) (st:Int) (f:S4),fr<=p->fr<f.tt->f.tt<=s.size->f.fr=fr->fr<(Ra kd g s fr n p st f).tt/\(Ra kd g s fr n p st f).tt<=s.size/\(Ra kd g s fr n p st f).fr=fr
 |0,p,st,f,_,h1,h2,h3=>⟨h1,h2,h3⟩
 |n+1,p,st,f,h0,h1,h2,h3=>by
  unfold Ra;split
  ·split
   ·exact⟨h1,h2,h3⟩
   ·split
    ·exact Il kd g s fr n _ _ _ (by omega) h1 h2 h3
    ·exact Il kd g s fr n _ _ _ (by omega) (by show fr<p+1;omega) (by show p+1<=s.size;omega) rfl
  ·exact⟨h1,h2,h3⟩
theorem Vb(kd:Nat->Nat)(g:B0)(s:ByteArray)(fr:Nat)(h:fr<s.size):fr<(Q3 kd g s fr).tt/\(Q3 kd g s fr).tt<=s.size/\(Q3 kd g s fr).fr=fr:=
 Il kd g s fr _ _ _ _ (zD _) (by show fr<fr+1;omega) (by show fr+1<=s.size;omega) rfl
def Xf(kd:Nat->Nat)(g:B0)(s:ByteArray):Nat->Nat->List S4->List S4
 |0,_,aR=>aR
 |n+1,p,aR=>if p<s.size then Xf kd g s n (Q3 kd g s p).tt (aR++ [Q3 kd g s p])else aR
def M5(kd:Nat->Nat)(g:B0)(s:ByteArray):List S4:=Xf kd g s (s.size+1) 0 []
def S5:List S4->List Value
 | []=>[]
 |t::r=>.int .i64 t.aB::.int .i64 (t.fr:Int)::.int .i64 (t.tt:Int)::S5 r
theorem Kc:∀l:List S4,(S5 l).length=l.length*3
 | []=>rfl
 |s::r=>by simp[S5,Kc r];omega
theorem Lg:∀l m:List S4,S5 (l++m)=S5 l++S5 m
 | [],m=>rfl
 |s::r,m=>by simp[S5,Lg r m]
theorem Nd:∀(l:List S4) (k:Nat) (h:k<l.length),(S5 l)[k*3]?=some (.int .i64 l[k].aB)/\(S5 l)[k*3+1]?=some (.int .i64 (l[k].fr:Int))/\(S5 l)[k*3+2]?=some (.int .i64 (l[k].tt:Int))
 |s::r,0,_=>⟨rfl,rfl,rfl⟩
 |s::r,k+1,h=>by
  rw[show(k+1)*3=k*3+1+1+1 by omega];simp only[S5,List.getElem?_cons_succ,List.getElem_cons_succ,show k*3+1+1+1+1=(k*3+1)+1+1+1 by omega,show k*3+1+1+1+2=(k*3+2)+1+1+1 by omega];exact Nd r k (by simpa using h)
def T1(w:World)(v:Value)(l:List S4):Prop:=w.ownsRow 0 106 3 v l.length (S5 l)
theorem Tryz.dQ:(Tryz.prog.info? 106).map (fun i=>(i.zero,i.size,i.bytes))=some (some (.agg #[.int .i64 0,.int .i64 0,.int .i64 0]),3,24):=by kernel_rfl
theorem T1.kept{w w':World}{v:Value}{l:List S4}{ex:Nat->Prop}(h:T1 w v l)(k:C0 ex w w')(f:∀b,v.ownBlock=some b->¬ex b):T1 w' v l:=J0 h k f
theorem T1.aA{w w':World}{v:Value}{l:List S4}(h:T1 w v l)(k:Bw w w'):T1 w' v l:=h.kept (ex:=fun _=>False) (C0.aM k) (fun _ _ e=>e)
theorem T1.aT{w:World}{v:Value}{l:List S4}(h:T1 w v l):∃(B:Option Addr) (f:Nat),v=.slice B l.length f/\(l.length=0\/∃g,B=some ⟨g,0,none⟩):=by
 obtain⟨_,B,f,rfl,⟨_,h⟩|⟨g,_,rfl,_⟩⟩:=L0 h
 ·exact⟨B,f,rfl,.inl h⟩
 ·exact⟨_,f,rfl,.inr ⟨g,rfl⟩⟩
theorem Rm(s:ByteArray)(p:Nat)(h:p<s.size):wrap64 ((s[p].toNat:Nat):Int)=F0 s p:=by
 have f:((s[p].toNat:Nat):Int)<256:=by have:=s[p].toNat_lt;omega
 rw[Mk ((s[p].toNat:Nat):Int) (by omega) (by omega)];simp[F0,h]
structure D3 where
 bA:Nat
 en:Nat
 aB:Int
 aZ:Int
 tail:ByteArray
abbrev Jr(x:D3):Value:=.agg #[.int .i64 (x.bA:Int),.int .i64 (x.en:Int),.int .i64 x.aB,.int .i64 x.aZ,.string x.tail]
abbrev Hi(x:D3):Array Value:=#[.int .i64 (x.bA:Int),.int .i64 (x.en:Int),.int .i64 x.aB,.int .i64 x.aZ,.string x.tail]
def Ea(p:Nat):D3:=⟨p,p,-1,0,⟨#[]⟩⟩
def U5(g:B0)(s:Int):Bool:=if s<0\/(g.next.length:Int)<=s then false else(g.next.getD s.toNat []).any (fun t=>t != -1)
def Q4(kd:Nat->Nat)(g:B0)(f:ByteArray)(h:Nat):Nat->Nat->Int->D3->D3×Bool
 |0,_,_,x=>(x,false)
 |n+1,i,st,x=>
  if i<f.size then
   if X0 kd g st (F0 f i)= -1 then(x,false)
   else Q4 kd g f h n (i+1) (X0 kd g st (F0 f i)) (if N0 g (X0 kd g st (F0 f i))= -1 then x else⟨x.bA,h+i+1,N0 g (X0 kd g st (F0 f i)),X0 kd g st (F0 f i),f.extract (i+1) f.size⟩)
  else(x,U5 g st)
def P4(kd:Nat->Nat)(g:B0)(x:D3):D3×Bool:=Q4 kd g x.tail x.en (x.tail.size+1) 0 x.aZ x
def Z8(x:D3):D3:=if x.en=x.bA then{ x with en:=x.en+1,tail:=x.tail.extract 1 x.tail.size }else x
def B4(kd:Nat->Nat)(g:B0)(f:Bool):Nat->D3->List S4->List S4×D3
 |0,x,aR=>(aR,x)
 |n+1,x,aR=>
  if x.bA<x.en\/x.tail.size≠0 then
   if(P4 kd g x).2=true/\f=false then(aR,(P4 kd g x).1)
   else B4 kd g f n ⟨(Z8 (P4 kd g x).1).en,(Z8 (P4 kd g x).1).en,-1,0,(Z8 (P4 kd g x).1).tail⟩ (aR++ [⟨(Z8 (P4 kd g x).1).aB,(Z8 (P4 kd g x).1).bA,(Z8 (P4 kd g x).1).en⟩])
  else(aR,x)
def onF(kd:Nat->Nat)(g:B0)(x:D3)(bytes:ByteArray)(f:Bool):List S4×D3:=B4 kd g f (x.en-x.bA+(x.tail++bytes).size+1) { x with tail:=x.tail++bytes } []
structure VT(x y:D3):Prop where
 bA:y.bA=x.bA
 up:x.en<=y.en
 sum:y.en+y.tail.size=x.en+x.tail.size
 dG:y.en=x.en->y=x
theorem M3(s:ByteArray)(a:Nat):(s.extract a s.size).size=s.size-a:=by rw[ByteArray.size_extract];omega
theorem Fh(kd:Nat->Nat)(g:B0)(x:D3):∀(n i:Nat) (st:Int) (y:D3),i<=x.tail.size->VT x y->VT x (Q4 kd g x.tail x.en n i st y).1
 |0,i,st,y,_,h=>h
 |n+1,i,st,y,hi,h=>by
  unfold Q4;split
  ·rename_i f;split
   ·exact h
   ·split
    ·exact Fh kd g x n _ _ _ f h
    ·refine Fh kd g x n _ _ _ f ⟨h.bA,?_,?_,?_⟩
     ·show x.en<=x.en+i+1;omega
     ·show x.en+i+1+(x.tail.extract (i+1) x.tail.size).size=x.en+x.tail.size;rw[M3];omega
     ·intro e;have B:x.en+i+1=x.en:=e;omega
  ·exact h
theorem Hm(kd:Nat->Nat)(g:B0)(x:D3):VT x (P4 kd g x).1:=
 Fh kd g x _ _ _ _ (yC _) ⟨rfl,zD _,rfl,fun _=>rfl⟩
theorem Wq(s:ByteArray)(p i:Nat)(h:p<=s.size)(f:i<(s.extract p s.size).size):F0 (s.extract p s.size) i=F0 s (p+i):=by
 have B:p+i<s.size:=by rw[M3]at f;omega
 unfold F0;rw[dif_pos f,dif_pos B,ByteArray.getElem_extract]
theorem extract_extract(s:ByteArray)(p i:Nat)(f:p<=s.size):(s.extract p s.size).extract i (s.extract p s.size).size=s.extract (p+i) s.size:=by
 rw[ByteArray.extract_extract,M3]
 congr 1
 omega
def XT(s:ByteArray)(p:Nat)(f:S4)(x:D3):Prop:=
 x.bA=p/\((x.en=p/\x=⟨p,p,-1,0,s.extract p s.size⟩/\f=⟨-1,p,p+1⟩)\/(p<x.en/\x.en<=s.size/\f=⟨x.aB,p,x.en⟩/\x.tail=s.extract x.en s.size))
theorem Im(kd:Nat->Nat)(g:B0)(s:ByteArray)(p:Nat)(G:p<=s.size):∀(n i:Nat) (st:Int) (D:S4) (x:D3),i<=s.size-p->XT s p D x->XT s p (Ra kd g s p n (p+i) st D) (Q4 kd g (s.extract p s.size) p n i st x).1
 |0,i,st,D,x,_,h=>h
 |n+1,i,st,D,x,hi,h=>by
  unfold Ra Q4;have J:=M3 s p
  by_cases B:p+i<s.size
  ·have f:i<(s.extract p s.size).size:=by omega
   rw[if_pos B,if_pos f,Wq s p i G f];split
   ·exact h
   ·refine Im kd g s p G n (i+1) _ _ _ (by omega) ?_;split
    ·exact h
    ·refine⟨h.1,.inr ⟨?_,?_,rfl,?_⟩⟩
     ·show p<p+i+1;omega
     ·show p+i+1<=s.size;omega
     ·show(s.extract p s.size).extract (i+1) (s.extract p s.size).size=s.extract (p+i+1) s.size;rw[extract_extract s p (i+1) G];rfl
  ·have f:¬i<(s.extract p s.size).size:=by omega
   rw[if_neg B,if_neg f];exact h
theorem AM(kd:Nat->Nat)(g:B0)(s:ByteArray):∀(n p:Nat) (B:List S4),p<=s.size->s.size<n+p->(B4 kd g true n ⟨p,p,-1,0,s.extract p s.size⟩ B).1=Xf kd g s n p B
 |0,p,B,_,_=>rfl
 |n+1,p,B,hp,hn=>by
  unfold B4 Xf;have W:=M3 s p
  by_cases f:p<s.size
  ·rw[if_pos f,if_pos (.inr (by show(s.extract p s.size).size≠0;omega)),if_neg (by simp)];have h:=Im kd g s p hp (s.size-p+1) 0 0 ⟨-1,p,p+1⟩ ⟨p,p,-1,0,s.extract p s.size⟩ (by omega) ⟨rfl,.inl ⟨rfl,rfl,rfl⟩⟩;have G:P4 kd g ⟨p,p,-1,0,s.extract p s.size⟩=Q4 kd g (s.extract p s.size) p (s.size-p+1) 0 0 ⟨p,p,-1,0,s.extract p s.size⟩:=by
    unfold P4;simp only[W]
   rw[G];have J:Q3 kd g s p=Ra kd g s p (s.size-p+1) (p+0) 0 ⟨-1,p,p+1⟩:=rfl;rw[J];generalize(Q4 kd g (s.extract p s.size) p (s.size-p+1) 0 0 ⟨p,p,-1,0,s.extract p s.size⟩).1=x at h;generalize Ra kd g s p (s.size-p+1) (p+0) 0 ⟨-1,p,p+1⟩=bN at h;obtain⟨K,⟨M,rfl,rfl⟩|⟨M,U,rfl,V⟩⟩:=h
   ·have D:Z8 ⟨p,p,-1,0,s.extract p s.size⟩=⟨p,p+1,-1,0,s.extract (p+1) s.size⟩:=by
     unfold Z8;rw[if_pos rfl,extract_extract s p 1 hp]
    rw[D];exact AM kd g s n (p+1) _ (by omega) (by omega)
   ·have D:Z8 x=x:=by unfold Z8;rw[if_neg (by omega)]
    rw[D,K,V];exact AM kd g s n x.en _ U (by omega)
  ·rw[if_neg f,if_neg (by simp only[not_or];exact⟨by omega,by omega⟩)]
theorem O2.bV{w:World}{v:Value}{l:List Int}(h:O2 w v l):l.length<=maxLen:=by
 obtain⟨_,B,f,_,⟨_,D⟩|⟨g,cur,_,_,G,J,_⟩⟩:=L0 h
 ·unfold maxLen;omega
 ·omega
theorem Px(pb:Nat)(kd:Nat->Nat)(g:B0)(s:Int)(w:World)(h:A9 w pb kd g):
  Calls Tryz.prog 136 #[.pointer (some ⟨pb,0,none⟩),.int .i64 s] w fun e w'=>e=.returned (.bool (U5 g s))/\w'=w:=by
 obtain⟨a7,a4,h1,h2⟩:=h;obtain⟨V,W,J,K⟩:=h2.next;have c0:w.cell? ⟨pb,257,none⟩=some a4:=by rw[h1.cell];exact Dp _ _ _
 obtain⟨ad,a6,rfl,Z⟩:=W.aT;generalize D:U5 g s=F;unfold U5 at D;rw[<-J]at D
 by_cases a0:s<0
 ·have e0:decide (s<0)=true:=by simp[a0]
  rw[if_pos (.inl a0)]at D;subst D;clear h1 h2 W J K;go_enter Tryz.func136,Tryz.ntmps136;go_wp2_with fail;go_ret;exact⟨rfl,rfl⟩
 ·have e0:decide (s<0)=false:=by simp;omega
  by_cases a1:(V.length:Int)<=s
  ·have e1:decide ((V.length:Int)<=s)=true:=by simp[a1]
   rw[if_pos (.inr a1)]at D;subst D;clear h1 h2 W J K;go_enter Tryz.func136,Tryz.ntmps136;go_wp2_with fail;go_ret;exact⟨rfl,rfl⟩
  ·have e1:decide ((V.length:Int)<=s)=false:=by simp;omega
   rw[if_neg (by omega)]at D;obtain⟨j,rfl⟩:∃j:Nat,s=(j:Int):=⟨s.toNat,by omega⟩;have hj:j<V.length:=by omega
   rcases Z with h0|⟨ng,rfl⟩
   ·omega
   have n0:=W.cell j hj;have Y:=K j V[j] (zF _);rw[zH]at D;generalize g.next.getD j []=B at Y D;generalize V[j]=vj at n0 Y;obtain⟨ed,a5,rfl,M⟩:=Y.aT;have a3:=Y.bV;unfold maxLen at a3;have i0:(0:Int)<=(j:Int):=by omega
   have i1:(j:Int)<(V.length:Int):=by omega
   have HF:=Hd D;clear h1 h2 W J K D;go_enter Tryz.func136,Tryz.ntmps136;go_wp2_with fail
   go_loopg[28] B.length (fun G i wr=>∃k:Nat,k<=B.length/\G=B.length-k/\i=.int .i64 k/\wr=w/\(B.drop k).any (fun t=>t != -1)=F)
   case atStart=>exact⟨0,by omega,rfl,rfl,rfl,by simpa using HF.out⟩
   case round=>
    obtain⟨k,hk,rfl,rfl,rfl,f⟩:=hrel;clear HF
    by_cases X:k<B.length
    ·have e2:decide ((k:Int)<(B.length:Int))=true:=by simp;omega
     rcases M with h0|⟨eg,rfl⟩
     ·omega
     have r0:=Y.cell k X;have i2:(0:Int)<=(k:Int):=by omega
     have i3:(k:Int)<(B.length:Int):=by omega
     rw[zY X,List.any_cons]at f;generalize B[k]=tt at r0 f
     by_cases hn:tt= -1
     ·subst hn;have a2:=Hd f;clear f;go_wp2_with fail
      go_roundg (B.length- (k+1))
      case measure=>omega
      case rel=>exact⟨k+1,by omega,rfl,by go_num,rfl,by simpa using a2.out⟩
     ·have e3:(tt != -1)=true:=by simp[hn]
      have U:F=true:=by rw[e3]at f;simpa using f.symm
      subst U;clear f hn;go_wp2_with fail;go_ret;exact⟨rfl,rfl⟩
    ·have e2:decide ((k:Int)<(B.length:Int))=false:=by simp;omega
     rw[xF (by omega)]at f;have U:F=false:=by simpa using f.symm
     subst U;clear f;go_wp2_with fail;go_ret;exact⟨rfl,rfl⟩
end Go.Proofs.YtcckhngbdoiikaaGreat

namespace Go.Proofs.YtcckhngbdoiikaaGreat
def L1(s:ByteArray)(p:Nat):List Int:=(s.data.toList.drop p).map (fun b=>((b.toNat:Nat):Int))
theorem Ze{s:ByteArray}{p:Nat}(h:s.size<=p):L1 s p= []:=by
 have f:s.data.size=s.size:=rfl;unfold L1;rw[List.drop_eq_nil_of_le (by simp;omega)];rfl
theorem Yo{s:ByteArray}{p:Nat}(h:p<s.size):L1 s p=F0 s p::L1 s (p+1):=by
 have f:p<s.data.toList.length:=by simpa using h
 unfold L1;rw[zY f,List.map_cons]
 congr 1
 unfold F0;rw[dif_pos h];rfl
theorem V7(s:ByteArray)(p:Nat):(L1 s p).length=s.size-p:=by
 have f:s.data.size=s.size:=rfl;simp[L1]
theorem Hj(x y:ByteArray)(p:Nat)(h:p<=x.size):L1 (x++y) p=L1 x p++L1 y 0:=by
 have f:x.data.size=x.size:=rfl;have e:(x++y).data.toList=x.data.toList++y.data.toList:=by simp
 unfold L1;rw[e,List.drop_append_of_le_length (by simp;omega),yB,List.drop_zero]
theorem Zo(s:ByteArray)(p k:Nat):(L1 s p).drop k=L1 s (p+k):=by
 unfold L1;rw[<-List.map_drop,List.drop_drop]
abbrev Ih:Type:=Nat×Int×Int
def C2(kd:Nat->Nat)(g:B0):List Int->Nat->Int->Ih->Ih×Option Int
 | [],q,st,info=>(info,some st)
 |b::r,q,st,info=>if X0 kd g st b= -1 then(info,none)else C2 kd g r (q+1) (X0 kd g st b) (if N0 g (X0 kd g st b)= -1 then info else(q+1,N0 g (X0 kd g st b),X0 kd g st b))
theorem E7(kd:Nat->Nat)(g:B0)(b:Int)(r:List Int)(q:Nat)(st:Int)(f:Ih):C2 kd g (b::r) q st f=if X0 kd g st b= -1 then(f,none)else C2 kd g r (q+1) (X0 kd g st b) (if N0 g (X0 kd g st b)= -1 then f else(q+1,N0 g (X0 kd g st b),X0 kd g st b)):=rfl
theorem Cf(kd:Nat->Nat)(g:B0):∀(L M:List Int) (q:Nat) (st:Int) (f:Ih),C2 kd g (L++M) q st f=match(C2 kd g L q st f).2 with
  |none=>C2 kd g L q st f
  |some st'=>C2 kd g M (q+L.length) st' (C2 kd g L q st f).1
 | [],M,q,st,f=>rfl
 |b::r,M,q,st,f=>by
  show C2 kd g (b::(r++M)) q st f=_;rw[E7,E7]
  by_cases h:X0 kd g st b= -1
  ·rw[if_pos h,if_pos h]
  ·rw[if_neg h,if_neg h];have B:q+1+r.length=q+(b::r).length:=by simp;omega
   rw[<-B];exact Cf kd g r M (q+1) _ _
theorem Pm(kd:Nat->Nat)(g:B0):∀(L:List Int) (q:Nat) (st:Int) (f:Ih) (B:Int),(C2 kd g L q st f).2=some B->
  (C2 kd g L q st f).1=f\/∃k,0<k/\k<=L.length/\(C2 kd g L q st f).1.1=q+k/\C2 kd g (L.drop k) (q+k) (C2 kd g L q st f).1.2.2 (C2 kd g L q st f).1=C2 kd g L q st f
 | [],q,st,f,B,h=>.inl rfl
 |b::r,q,st,f,B,h=>by
  rw[E7]at h⊢
  by_cases D:X0 kd g st b= -1
  ·rw[if_pos D]at h;cases h
  ·rw[if_neg D]at h⊢;rcases Pm kd g r (q+1) _ _ B h with e|⟨k,M,U,J,K⟩
   ·by_cases G:N0 g (X0 kd g st b)= -1
    ·rw[if_pos G]at e⊢;exact .inl e
    ·rw[if_neg G]at e⊢;refine .inr ⟨1,by omega,by simp,by rw[e],?_⟩;rw[e];simp only[List.drop_succ_cons,List.drop_zero]
   ·refine .inr ⟨k+1,by omega,by simp;omega,by rw[J];omega,?_⟩;rw[List.drop_succ_cons,show q+(k+1)=q+1+k by omega];exact K
theorem Od(kd:Nat->Nat)(g:B0):∀(L:List Int) (q:Nat) (st:Int) (f:Ih),(C2 kd g L q st f).1=f\/(q<(C2 kd g L q st f).1.1/\(C2 kd g L q st f).1.1<=q+L.length/\(C2 kd g L q st f).1.2.1≠ -1)
 | [],q,st,f=>.inl rfl
 |b::r,q,st,f=>by
  rw[E7];split
  ·exact .inl rfl
  ·rename_i J;rcases Od kd g r (q+1) (X0 kd g st b) (if N0 g (X0 kd g st b)= -1 then f else(q+1,N0 g (X0 kd g st b),X0 kd g st b))with e|⟨D,G,h⟩
   ·rw[e];split
    ·exact .inl rfl
    ·rename_i B;exact .inr ⟨by show q<q+1;omega,by show q+1<=_;simp,B⟩
   ·exact .inr ⟨by omega,by simp;omega,h⟩
def I4(p:Nat)(s:ByteArray)(i:Ih):D3:=⟨p,i.1,i.2.1,i.2.2,s.extract i.1 s.size⟩
def Hb(g:B0):Option Int->Bool
 |none=>false
 |some st=>U5 g st
theorem Kk(kd:Nat->Nat)(g:B0)(s:ByteArray)(p b:Nat)(D:b<=s.size):∀(n i:Nat) (st:Int) (f:Ih),s.size<n+(b+i)->b+i<=s.size->
  Q4 kd g (s.extract b s.size) b n i st (I4 p s f)=(I4 p s (C2 kd g (L1 s (b+i)) (b+i) st f).1,Hb g (C2 kd g (L1 s (b+i)) (b+i) st f).2)
 |0,i,st,f,hn,hi=>by omega
 |n+1,i,st,f,hn,hi=>by
  unfold Q4;have K:=M3 s b
  by_cases G:b+i<s.size
  ·have h:i<(s.extract b s.size).size:=by omega
   rw[if_pos h,Wq s b i D h,Yo G];rw[E7]
   by_cases B:X0 kd g st (F0 s (b+i))= -1
   ·rw[if_pos B,if_pos B];rfl
   ·rw[if_neg B,if_neg B];have J:=Kk kd g s p b D n (i+1) (X0 kd g st (F0 s (b+i))) (if N0 g (X0 kd g st (F0 s (b+i)))= -1 then f else(b+i+1,N0 g (X0 kd g st (F0 s (b+i))),X0 kd g st (F0 s (b+i)))) (by omega) (by omega);rw[show b+(i+1)=b+i+1 by omega]at J;rw[<-J]
    congr 1
    split
    ·rfl
    ·show D3.mk p (b+i+1) _ _ _=D3.mk _ _ _ _ _;rw[extract_extract s b (i+1) D];rfl
  ·have h:¬i<(s.extract b s.size).size:=by omega
   rw[if_neg h,Ze (by omega)];rfl
theorem W9(kd:Nat->Nat)(g:B0)(s:ByteArray)(p:Nat)(f:Ih)(B:f.1<=s.size):
  P4 kd g (I4 p s f)=(I4 p s (C2 kd g (L1 s f.1) f.1 f.2.2 f).1,Hb g (C2 kd g (L1 s f.1) f.1 f.2.2 f).2):=by
 have h:=Kk kd g s p f.1 B ((s.extract f.1 s.size).size+1) 0 f.2.2 f (by rw[M3];omega) (by omega);exact h
abbrev Q1(p:Nat):Ih:=(p,-1,0)
structure Lf(kd:Nat->Nat)(g:B0)(x:ByteArray)(p:Nat)(v:D3):Prop where
 le:p<=x.size
 eq:v=I4 p x (C2 kd g (L1 x p) p 0 (Q1 p)).1
 fE:(C2 kd g (L1 x p) p 0 (Q1 p)).2≠none
theorem XR(p:Nat)(x y:ByteArray)(i:Ih)(h:i.1<=x.size):({ I4 p x i with tail:=(I4 p x i).tail++y }:D3)=I4 p (x++y) i:=by
 unfold I4;simp only
 congr 1
 rw[ByteArray.ext_iff];apply Array.toList_inj.1;have f:x.data.toList.length=x.size:=by simp
 simp only[ByteArray.data_append,ByteArray.data_extract,Array.toList_append,Array.toList_extract,List.extract,zR];rw[List.drop_append_of_le_length (by omega),zN (by simp),zN (by simp;omega)]
theorem Lf.more{kd:Nat->Nat}{g:B0}{x:ByteArray}{p:Nat}{v:D3}(h:Lf kd g x p v)(y:ByteArray):
  ∃i:Ih,({ v with tail:=v.tail++y }:D3)=I4 p (x++y) i/\p<=i.1/\i.1<=x.size/\(i.1=p->i=Q1 p)/\P4 kd g (I4 p (x++y) i)=P4 kd g (I4 p (x++y) (Q1 p)):=by
 obtain⟨K,rfl,M⟩:=h;have a0:(x++y).size=x.size+y.size:=zR;have B:=Od kd g (L1 x p) p 0 (Q1 p);rw[V7]at B;obtain⟨U,G⟩:∃U,(C2 kd g (L1 x p) p 0 (Q1 p)).2=some U:=by
  cases hh:(C2 kd g (L1 x p) p 0 (Q1 p)).2 with
  |none=>exact absurd hh M
  |some U=>exact⟨U,rfl⟩
 have J:=Pm kd g (L1 x p) p 0 (Q1 p) U G;have f:=Cf kd g (L1 x p) (L1 y 0) p 0 (Q1 p);rw[G]at f;generalize Z:C2 kd g (L1 x p) p 0 (Q1 p)=r at B G J f M⊢;have D:r.1.1<=x.size:=by
  rcases B with e|⟨_,h2,_⟩
  ·rw[e];exact K
  ·omega
 refine⟨r.1,XR p x y r.1 D,?_,D,?_,?_⟩
 ·rcases B with e|⟨X,_⟩
  ·rw[e];exact zD _
  ·omega
 ·intro e;rcases B with W|⟨X,_⟩
  ·exact W
  ·omega
 ·rw[W9 kd g (x++y) p r.1 (by omega),W9 kd g (x++y) p (Q1 p) (by show p<=_;omega)];have Y:C2 kd g (L1 (x++y) r.1.1) r.1.1 r.1.2.2 r.1=C2 kd g (L1 (x++y) p) p 0 (Q1 p):=by
   rw[Hj x y p K,f,Hj x y r.1.1 D];rcases J with e|⟨k,k0,k1,k2,V⟩
   ·rw[e];show C2 kd g (L1 x p++L1 y 0) p 0 (Q1 p)=_;rw[Cf,Z,G,e]
   ·rw[Zo,<-k2]at V;rw[Cf,V,G,V7,V7,show r.1.1+(x.size-r.1.1)=p+(x.size-p) by omega]
  rw[Y]
theorem Wm{kd:Nat->Nat}{g:B0}(D:B8 kd g){st b:Int}(h:U5 g st=false):X0 kd g st b= -1:=by
 unfold U5 at h;unfold X0;split
 ·rfl
 ·rename_i G;rw[if_neg (by omega)]at h;have f:=D st.toNat (by omega) b.toNat (by omega);have B:(g.next.getD st.toNat []).getD (kd b.toNat) 0∈g.next.getD st.toNat []:=by
   generalize g.next.getD st.toNat []=row at f;rw[zC,zF f];exact zG f
  rw[List.any_eq_false]at h;have:=h _ B;simpa using this
theorem GN{kd:Nat->Nat}{g:B0}(B:B8 kd g)(L M:List Int)(q:Nat)(st:Int)(f:Ih)(h:Hb g (C2 kd g L q st f).2=false):(C2 kd g (L++M) q st f).1=(C2 kd g L q st f).1:=by
 rw[Cf];cases hh:(C2 kd g L q st f).2 with
 |none=>rfl
 |some s'=>
  rw[hh]at h;simp only;cases M with
  |nil=>rfl
  |cons b r=>
   rw[E7,if_pos (Wm B h)]
def Fc(p:Nat)(i:Ih):S4:=if i.1=p then⟨-1,p,p+1⟩else⟨i.2.1,p,i.1⟩
theorem Su(p:Nat)(s:ByteArray):I4 p s (Q1 p)=⟨p,p,-1,0,s.extract p s.size⟩:=rfl
theorem Hg(kd:Nat->Nat)(g:B0)(s:ByteArray)(p:Nat)(J:p<=s.size):Q3 kd g s p=Fc p (C2 kd g (L1 s p) p 0 (Q1 p)).1:=by
 have h:=Im kd g s p J (s.size-p+1) 0 0 ⟨-1,p,p+1⟩ ⟨p,p,-1,0,s.extract p s.size⟩ (by omega) ⟨rfl,.inl ⟨rfl,rfl,rfl⟩⟩;have G:=Kk kd g s p p J (s.size-p+1) 0 0 (Q1 p) (by omega) (by omega);rw[Su,Nat.add_zero]at G;rw[G]at h;have K:Q3 kd g s p=Ra kd g s p (s.size-p+1) (p+0) 0 ⟨-1,p,p+1⟩:=rfl;rw[K];generalize(C2 kd g (L1 s p) p 0 (Q1 p)).1=i at h;generalize Ra kd g s p (s.size-p+1) (p+0) 0 ⟨-1,p,p+1⟩=bN at h;obtain⟨M,⟨B,_,D⟩|⟨B,U,D,_⟩⟩:=h
 ·have f:i.1=p:=B;unfold Fc;rw[if_pos f,D]
 ·have f:p<i.1:=B;unfold Fc;rw[if_neg (by omega),D];rfl
def Y8(kd:Nat->Nat)(g:B0)(s:ByteArray):Nat->List S4->Nat->Prop
 |p,[],p'=>p=p'
 |p,t::r,p'=>p<s.size/\t=Q3 kd g s p/\Y8 kd g s t.tt r p'
theorem Ux(p:Nat)(s:ByteArray)(i:Ih)(D:p<s.size)(h:i=Q1 p\/(p<i.1/\i.1<=s.size)):
  (⟨(Z8 (I4 p s i)).en,(Z8 (I4 p s i)).en,-1,0,(Z8 (I4 p s i)).tail⟩:D3)=I4 (Fc p i).tt s (Q1 (Fc p i).tt)/\(⟨(Z8 (I4 p s i)).aB,(Z8 (I4 p s i)).bA,(Z8 (I4 p s i)).en⟩:S4)=Fc p i/\p<(Fc p i).tt/\(Fc p i).tt<=s.size:=by
 rcases h with rfl|⟨f,B⟩
 ·have e:Z8 (I4 p s (Q1 p))=⟨p,p+1,-1,0,s.extract (p+1) s.size⟩:=by
   unfold Z8;rw[if_pos (show(I4 p s (Q1 p)).en=(I4 p s (Q1 p)).bA from rfl)];show D3.mk p (p+1) (-1) 0 ((s.extract p s.size).extract 1 (s.extract p s.size).size)=_;rw[extract_extract s p 1 (by omega)]
  rw[e];unfold Fc;rw[if_pos rfl];exact⟨rfl,rfl,by show p<p+1;omega,by show p+1<=s.size;omega⟩
 ·have e:Z8 (I4 p s i)=I4 p s i:=by
   unfold Z8;rw[if_neg (by show ¬i.1=p;omega)]
  rw[e];unfold Fc;rw[if_neg (by omega)];exact⟨rfl,rfl,f,B⟩
theorem KO{kd:Nat->Nat}{g:B0}(ho:B8 kd g)(s:ByteArray):∀(n p:Nat) (D:List S4),p<=s.size->s.size<n+p->
  ∃l B K,B4 kd g false n (I4 p s (Q1 p)) D=(D++l,K)/\Lf kd g s B K/\p<=B/\∀z,Y8 kd g (s++z) p l B
 |0,p,D,_,_=>by omega
 |n+1,p,D,hp,hn=>by
  unfold B4;have hz:=M3 s p
  by_cases U:p<s.size
  ·rw[if_pos (.inr (by show(s.extract p s.size).size≠0;omega)),W9 kd g s p (Q1 p) hp];have h:=Od kd g (L1 s p) p 0 (Q1 p);rw[V7]at h;have V:=Hg kd g s p hp;have G:=fun M=>GN ho (L1 s p) M p 0 (Q1 p)
   have J:Lf kd g s p (I4 p s (C2 kd g (L1 s p) p 0 (Q1 p)).1)\/(C2 kd g (L1 s p) p 0 (Q1 p)).2=none:=by
    by_cases e:(C2 kd g (L1 s p) p 0 (Q1 p)).2=none
    ·exact .inr e
    ·exact .inl ⟨hp,rfl,e⟩
   show ∃l B K,(if Hb g (C2 kd g (L1 s p) p 0 (Q1 p)).2=true/\false=false then _ else _)=_/\_;generalize C2 kd g (L1 s p) p 0 (Q1 p)=r at h V G J
   by_cases f:Hb g r.2=true
   ·rw[if_pos ⟨f,rfl⟩];refine⟨[],p,I4 p s r.1,by simp,?_,zD _,fun z=>rfl⟩;rcases J with e|e
    ·exact e
    ·rw[e]at f;cases f
   ·rw[if_neg (fun e=>f e.1)];have W:Hb g r.2=false:=by simpa using f
    obtain⟨X,Y,a3,a4⟩:=Ux p s r.1 U (by rcases h with e|⟨e1,e2,_⟩;exact .inl e;exact .inr ⟨e1,by omega⟩);simp only at X Y⊢;rw[X,Y];obtain⟨l,B,K,b1,b2,b3,b4⟩:=KO ho s n (Fc p r.1).tt (D++ [Fc p r.1]) a4 (by omega);refine⟨Fc p r.1::l,B,K,by rw[b1];simp,b2,by omega,fun z=>?_⟩;have a0:(s++z).size=s.size+z.size:=zR;refine⟨by omega,?_,b4 z⟩;rw[Hg kd g (s++z) p (by omega),Hj s z p hp,G (L1 z 0) W]
  ·have e:p=s.size:=by omega
   subst e;rw[if_neg (by simp only[not_or];exact⟨by show ¬s.size<s.size;omega,by show ¬(s.extract s.size s.size).size≠0;omega⟩)];have Z:C2 kd g (L1 s s.size) s.size 0 (Q1 s.size)=(Q1 s.size,some 0):=by rw[Ze (zD _)];rfl
   exact⟨[],s.size,_,by simp;rfl,⟨zD _,by rw[Z],by rw[Z];simp⟩,zD _,fun z=>rfl⟩
end Go.Proofs.YtcckhngbdoiikaaGreat
