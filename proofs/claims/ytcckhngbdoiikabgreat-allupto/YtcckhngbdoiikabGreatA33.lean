import Derived.Test.YtcckhngbdoiikabGreatA30
import Derived.Test.YtcckhngbdoiikabGreatA32
set_option maxRecDepth 20000
set_option maxHeartbeats 12800000
set_option linter.unusedVariables false
namespace Go.Proofs.YtcckhngbdoiikabGreat
open Go.RowKit Go.Deep
section
variable{kd:Nat->Nat}{g:B0}{s:ByteArray}{fr:Nat}
theorem SN(kd:Nat->Nat)(g:B0)(b:Int):X0 kd g (-1) b= -1:=by unfold X0;rw[if_pos (.inl (by omega))]
theorem Ds(g:B0):M0 g (-1)= -1:=by unfold M0;rw[if_pos (.inl (by omega))]
def Aq(kd:Nat->Nat)(g:B0)(s:ByteArray)(fr q:Nat)(st f:Int)(h:Nat):Prop:=(st= -1/\(⟨f,fr,h⟩:V4)=V3 kd g s fr)\/Xa kd g s fr (s.size-q+1) q st ⟨f,fr,h⟩=V3 kd g s fr
theorem Aq.start:Aq kd g s fr fr 0 (-1) (fr+1):=.inr rfl
theorem Aq.next{q D:Nat}{st B:Int}(h:Aq kd g s fr q st B D)(G:q<s.size):Aq kd g s fr (q+1) (X0 kd g st (F0 s q)) (if M0 g (X0 kd g st (F0 s q))= -1 then B else M0 g (X0 kd g st (F0 s q))) (if M0 g (X0 kd g st (F0 s q))= -1 then D else q+1):=by
 rcases h with⟨rfl,h⟩|h
 ·rw[SN,Ds,if_pos rfl,if_pos rfl];exact .inl ⟨rfl,h⟩
 ·rw[show s.size-q+1=(s.size- (q+1)+1)+1 by omega]at h;unfold Xa at h;rw[if_pos G]at h
  by_cases e:X0 kd g st (F0 s q)= -1
  ·rw[if_pos e]at h;rw[e,Ds,if_pos rfl,if_pos rfl];exact .inl ⟨rfl,h⟩
  ·rw[if_neg e]at h
   right
   rw[<-h]
   by_cases f:M0 g (X0 kd g st (F0 s q))= -1
   ·rw[if_pos f,if_pos f,if_pos f]
   ·rw[if_neg f,if_neg f,if_neg f]
theorem Aq.done{q B:Nat}{st f:Int}(h:Aq kd g s fr q st f B)(D:s.size<=q):(⟨f,fr,B⟩:V4)=V3 kd g s fr:=by
 rcases h with⟨_,h⟩|h
 ·exact h
 ·unfold Xa at h;rw[if_neg (by omega)]at h;exact h
end
theorem Tm(X:Nat)(kd:Nat->Nat)(g:B0)(TX:List ByteArray)(s:ByteArray)(fr:Nat)(w:World)(h:P5 w X kd g TX)(hs:s.size<=4000000)(hf:fr<=s.size):
  Calls Tryz.prog 71 #[.pointer (some ⟨X,0,none⟩),.string s,.int .i64 fr] w fun e w'=>e=.returned (.tuple #[.int .i64 (V3 kd g s fr).aB,.int .i64 ((V3 kd g s fr).tt:Int)])/\Bw w w':=by
 have HP:=Hd h;clear h;go_enter Tryz.func71,Tryz.ntmps71;go_wp2_with fail
 go_loopg[8,9,10,11] (s.size-fr) (fun G rv ev sv qv wr=>∃(q Z:Nat) (st Y:Int),rv=.int .i64 Y/\ev=.int .i64 Z/\sv=.int .i64 st/\qv=.int .i64 q/\fr<=q/\q<=s.size/\G=s.size-q/\Aq kd g s fr q st Y Z/\Bw w wr)
 case atStart=>exact⟨fr,fr+1,0,-1,rfl,by go_num,rfl,rfl,zD _,hf,rfl,Aq.start,Below.refl _ _⟩
 case round=>
  obtain⟨q,Z,st,Y,rfl,rfl,rfl,rfl,a0,hq,rfl,hI,M⟩:=hrel
  by_cases V:q<s.size
  ·have e0:decide ((q:Int)<(s.size:Int))=true:=by simp;omega
   have p0:(0:Int)<=(q:Int):=by omega
   have p1:(q:Int)<(s.size:Int):=by omega
   have HN:=Hd (Ic X kd g TX st (F0 s q) wr (HP.out.aA M));have HR:Hid (∀W n,Bw wr W->Calls Tryz.prog 76 #[.pointer (some ⟨X,0,none⟩),.int .i64 n] W fun e w'=>e=.returned (.int .i64 (M0 g n))/\w'=W):=Hd fun W n k=>Yf X kd g TX n W ((HP.out.aA M).aA k)
   have f:=Hd2 (hI.next V) M;generalize X0 kd g st (F0 s q)=n at HN f;clear hI M;go_wp2_with fail;rw[Vj s q V];refine HN.out.mono ?_;rintro e w1 ⟨rfl,J⟩;have D:=Hd (HR.out w1 n J);have U:Hid (Bw w w1):=Hd (f.out.2.trans (J.mono f.out.2.size));clear J HN HR;generalize M0 g n=r at D f;go_wp2_with fail;refine D.out.mono ?_;rintro e w2 ⟨rfl,rfl⟩;clear D
   by_cases B:r= -1
   ·have e2:(r != -1)=false:=by simp[B]
    have K:=f.out.1;rw[if_pos B,if_pos B]at K;have HX:=Hd K;clear K f B;go_wp2_with fail
    go_roundg (s.size- (q+1))
    case measure=>omega
    case rel=>exact⟨q+1,Z,n,Y,rfl,rfl,rfl,by go_num,by omega,by omega,rfl,HX.out,U.out⟩
   ·have e2:(r != -1)=true:=by simp[B]
    have K:=f.out.1;rw[if_neg B,if_neg B]at K;have HX:=Hd K;clear K f B;go_wp2_with fail
    go_roundg (s.size- (q+1))
    case measure=>omega
    case rel=>exact⟨q+1,q+1,n,r,rfl,by go_num,rfl,by go_num,by omega,by omega,rfl,HX.out,U.out⟩
  ·have e0:decide ((q:Int)<(s.size:Int))=false:=by rw[decide_eq_false_iff_not];omega
   have hd:=hI.done (by omega);have HD:=Hd2 hd M;clear hI M hd;go_wp2_with fail
   go_ret2
   rw[<-HD.out.1];exact⟨rfl,HD.out.2⟩
theorem KE:∀(l:List V4),∀u∈Y5 l,u.oneCell'=true
 | [],u,h=>by simp[Y5]at h
 |t::r,u,h=>by
  simp only[Y5,zU]at h;rcases h with rfl|rfl|rfl|h
  ·rfl
  ·rfl
  ·rfl
  ·exact KE r u h
theorem Kx{la ll:List V4}{va vl:Value}{M:Array Oper}{rest:List Oper}{o:Oper}{a:Act}{w:World}{Q:Exit->Act->World->Prop}(V:o.guard=none)(s x:Operand)
  (ho:o.op=.call { callee:=.builtin .append,args:=#[s,x],argTypes:=#[58,58] })
  (hs:a.eval s=va) (hx:a.eval x=vl) (ha:P1 w va la) (hl:P1 w vl ll) (N:Nat) (hN:N<=w.heap.size) (X:∀b,va.ownBlock=some b->N<=b) (a3:la.length+ll.length<=4000001)
  (h:∀D w',P1 w' D (la++ll)->(∀b,D.ownBlock=some b->N<=b)->C0 (fun b=>va.ownBlock=some b) w w'->wpList Tryz.prog M Q rest (a.put o.dst D) w'):wpList Tryz.prog M Q (o::rest) a w:=by
 obtain⟨ii,W,a0,a1,a2⟩:=info_parts Tryz.dQ;have K:w.ownsRow N 66 3 va la.length (Y5 la):=by
  obtain⟨U,G|⟨g,f,cur,rfl,B,J⟩⟩:=ha
  ·exact⟨U,.inl G⟩
  ·exact⟨U,.inr ⟨g,f,cur,rfl,X g rfl,J⟩⟩
 have Z:∀D w',w'.ownsRow N 66 3 D (la.length+ll.length) (Y5 la++Y5 ll)->w.grownBy w' va.ownBlock->wpList Tryz.prog M Q rest (a.put o.dst D) w':=fun D w' G B=>by
  refine h D w' ?_ ?_ ⟨B.os,B.tape,B.output,B.size,fun k hk he=>B.block k hk (fun e=>he e.symm)⟩
  ·unfold P1;rw[Sg,zL];obtain⟨J,h5|⟨g,f,cur,rfl,h6,h7⟩⟩:=G
   ·exact⟨J,.inl h5⟩
   ·exact⟨J,.inr ⟨g,f,cur,rfl,yC _,h7⟩⟩
  ·intro b hb;obtain⟨J,⟨rfl,_⟩|⟨g,f,cur,rfl,h6,h7⟩⟩:=G
   ·cases hb
   ·cases(zE hb:g=b);exact h6
 obtain⟨U,⟨rfl,G⟩|⟨g,f,cur,rfl,B,J⟩⟩:=hl
 ·refine wpList_append_own_none V s x 58 ho N 66 ii 3 Tryz.underlying58 W va la.length (Y5 la) hs K hx ?_;have e:ll= []:=yN G;subst e;exact Z va w (by simpa[Y5]using K) ⟨rfl,rfl,rfl,zD _,fun _ _ _=>rfl⟩
 ·have Y:w.ownsRow 0 66 3 (.slice (some ⟨g,0,none⟩) ll.length f) ll.length (Y5 ll):=⟨U,.inr ⟨g,f,cur,rfl,B,J⟩⟩;exact wpList_append_own w V s x 58 ho N 66 ii _ 3 24 Tryz.underlying58 W a0 a1 a2 rfl (by omega) va la.length (Y5 la) hs K ⟨g,0,none⟩ ll.length f (Y5 ll) hx U (Y.cells (g:=g) rfl) (KE ll) (by unfold maxLen;omega) (by omega) hN (fun D w' G B _=>Z D w' G B)
theorem AR(w:World)(t:V4):P1 (w.alloc (.cells (Jl t) 66)) (.slice (some ⟨w.heap.size,0,none⟩) 1 1) [t]:=
 J5 (by simp[Y5]) (Blk.aR _ _ _) (zD _) (by unfold maxLen;omega) (by simp) (by simp[Y5])
theorem Hx{kd:Nat->Nat}{g:B0}{s:ByteArray}:∀(n p:Nat) (f:List V4),f.length<=p->(Dg kd g s n p f).length<=max p s.size
 |0,p,f,h=>by unfold Dg;omega
 |n+1,p,f,h=>by
  unfold Dg;split
  ·rename_i B;have D:=Ec kd g s p B;have:=Hx (kd:=kd) (g:=g) (s:=s) n (V3 kd g s p).tt (f++ [V3 kd g s p]) (by simp;omega);omega
  ·omega
theorem Kh(yb:Nat)(kd:Nat->Nat)(g:B0)(TX:List ByteArray)(s:ByteArray)(w:World)(h:P5 w yb kd g TX)(hs:s.size<=4000000):
  Calls Tryz.prog 48 #[.pointer (some ⟨yb,0,none⟩),.string s] w fun e w'=>∃v,e=.returned v/\P1 w' v (U4 kd g s)/\(∀b,v.ownBlock=some b->w.heap.size<=b)/\Bw w w':=by
 have HP:=Hd h;clear h;go_enter Tryz.func48,Tryz.ntmps48;go_wp2_with fail
 go_loopg[5,6] (s.size+1) (fun G lv pv wr=>∃(p f:Nat) (l:List V4),pv=.int .i64 p/\p<=s.size/\G=s.size+1-p/\s.size-p<f/\l.length<=p/\Dg kd g s f p l=U4 kd g s/\P1 wr lv l/\(∀b,lv.ownBlock=some b->w.heap.size<=b)/\Bw w wr)
 case atStart=>exact⟨0,s.size+1,[],rfl,by omega,rfl,by omega,by simp,rfl,World.ownsRow_nil _ _ _ _,fun b hb=>by simp[Value.ownBlock]at hb,Below.refl _ _⟩
 case round=>
  obtain⟨p,f,l,rfl,hp,rfl,hf,a7,B,Y,hO,V⟩:=hrel
  by_cases J:p<s.size
  ·have e0:decide ((p:Int)<(s.size:Int))=true:=by simp;omega
   have HL:=Hd (Tm yb kd g TX s p wr (HP.out.aA V) hs (by omega));have K:=Ec kd g s p J;obtain⟨U,rfl⟩:∃U,f=U+1:=⟨f-1,by omega⟩;unfold Dg at B;rw[if_pos J]at B;obtain⟨ad,X,rfl,_⟩:=Y.aV;have a0:=V.size;generalize V3 kd g s p=t at HL K B;obtain⟨tr,Z,tt⟩:=t;simp only at K;have a5:Z=p:=K.2.2;subst a5;have M:=Hd4 B Y hO V;have a6:l.length+1<=4000001:=by omega
   clear B Y hO V;go_wp2_with fail;refine HL.out.mono ?_;rintro e w1 ⟨rfl,D⟩;have a8:=D.size;have HA:Hid (P1 (w1.alloc (.cells (Jl ⟨tr,Z,tt⟩) 66)) (.slice ad l.length X) l):=Hd ((M.out.2.1.aA D).aA (N0 _ _));have HO:=Hd M.out.2.2.1;have W:Hid (Bw w w1):=Hd (M.out.2.2.2.trans (D.mono a0));clear D HL;go_wp2_with(at_builtin;(refine Kx (la:=l) (ll:=[⟨tr,Z,tt⟩]) (va:=.slice ad l.length X) (vl:=.slice (some ⟨w1.heap.size,0,none⟩) 1 1) (by rfl) _ _ (by rfl) (by rfl) (by rfl) HA.out (AR w1 ⟨tr,Z,tt⟩) w.heap.size (by simp;omega) HO.out (by simpa using a6) ?_));intro v2 w2 r1 r2 r3;have HR:=Hd3 r1 r2 (C3 (W.out.alloc W.out.size _) r3 (by simp;omega) (fun x hx e=>by have:=HO.out x e;omega));clear r1 r2 r3;go_wp2_with fail
   go_roundg (s.size+1-tt)
   case measure=>omega
   case rel=>exact⟨tt,U,l++ [⟨tr,Z,tt⟩],rfl,by omega,rfl,by omega,by simp;omega,M.out.1,HR.out.1,HR.out.2.1,HR.out.2.2⟩
  ·have e0:decide ((p:Int)<(s.size:Int))=false:=by rw[decide_eq_false_iff_not];omega
   obtain⟨U,rfl⟩:∃U,f=U+1:=⟨f-1,by omega⟩;unfold Dg at B;rw[if_neg J]at B;have M:=Hd4 B Y hO V;clear B Y hO V;go_wp2_with fail;go_ret;obtain⟨a1,a2,a3,a4⟩:=M.out;rw[<-a1];exact⟨_,rfl,a2,a3,a4⟩
theorem Wz(l:List V4)(a b:Value)(w:World)(h:P1 w a l)(Y:P1 w b l)(hl:l.length<=4000001):
  Calls Tryz.prog 19 #[a,b] w fun e w'=>e=.returned (.bool true)/\Bw w w':=by
 obtain⟨ld,a3,rfl,B⟩:=h.aV;obtain⟨md,a4,rfl,D⟩:=Y.aV;have HL:=Hd h;have HM:=Hd Y;have e0:((l.length:Int) !=(l.length:Int))=false:=by simp
 clear h Y;go_enter Tryz.func19,Tryz.ntmps19;go_wp2_with fail
 go_loopg[5] l.length (fun G iv wr=>∃i:Nat,iv=.int .i64 i/\i<=l.length/\G=l.length-i/\Bw w wr)
 case atStart=>exact⟨0,rfl,by omega,rfl,Below.refl _ _⟩
 case round=>
  obtain⟨i,rfl,hi,rfl,f⟩:=hrel
  by_cases X:i<l.length
  ·have e1:decide ((i:Int)<(l.length:Int))=true:=by simp;omega
   rcases B with h9|⟨lg,rfl⟩
   ·omega
   rcases D with h9|⟨mg,rfl⟩
   ·omega
   obtain⟨U,V,W⟩:=Vd l i X;have K:=HL.out.aA f;have J:=HM.out.aA f;have Z:=(Y0 K (i*3) (by omega)).trans U;have a1:=(Y0 K (i*3+1) (by omega)).trans V;have a2:=(Y0 K (i*3+2) (by omega)).trans W;have b0:=(Y0 J (i*3) (by omega)).trans U;have b1:=(Y0 J (i*3+1) (by omega)).trans V;have b2:=(Y0 J (i*3+2) (by omega)).trans W;generalize l[i]=t at Z a1 a2 b0 b1 b2;obtain⟨tr,tf,tt⟩:=t;simp only at Z a1 a2 b0 b1 b2;have i0:(0:Int)<=(i:Int):=by omega
   have i1:(i:Int)<(l.length:Int):=by omega
   have M:=Hd f;clear U V W K J f;go_wp2_with fail;go_quiet(fail);go_wp2_with fail
   go_roundg (l.length- (i+1))
   case measure=>omega
   case rel=>exact⟨i+1,by go_num,by omega,rfl,C2 M.out _⟩
  ·have e1:decide ((i:Int)<(l.length:Int))=false:=by simp;omega
   have M:=Hd f;clear f;go_wp2_with fail;go_ret;exact⟨rfl,M.out⟩
theorem RG(D:Nat)(kd:Nat->Nat)(g:B0)(J:List ByteArray)(s:ByteArray)(w:World)(h:P5 w D kd g J)(W:s.size<=maxLen):
  Calls Tryz.prog 18 #[.pointer (some ⟨D,0,none⟩),.string s] w fun e w'=>Bw w w'/\
   ((4096<s.size/\e=.returned (.tuple #[.slice none 0 0,.int .i64 5]))\/(s.size<=4096/\∃v,e=.returned (.tuple #[v,.int .i64 0])/\P1 w' v (U4 kd g s)/\∀b,v.ownBlock=some b->w.heap.size<=b)):=by
 by_cases B:4096<s.size
 ·have V:decide ((4096:Int)<(s.size:Int))=true:=by simp;omega
  clear h;go_enter Tryz.func18,Tryz.ntmps18;go_wp2_with fail
  go_ret2
  exact⟨Below.refl _ _,.inl ⟨B,rfl⟩⟩
 ·have V:decide ((4096:Int)<(s.size:Int))=false:=by simp;omega
  have G:=Hd (Kh D kd g J s w h (by omega));clear h;go_enter Tryz.func18,Tryz.ntmps18;go_wp2_with fail;refine G.out.mono ?_;rintro e X ⟨v,rfl,K,M,U⟩;have f:=Hd3 K M U;clear K M U G;go_wp2_with fail
  go_ret2
  exact⟨f.out.2.2,.inr ⟨by omega,v,rfl,f.out.1,f.out.2.1⟩⟩
theorem Eh{kd:Nat->Nat}{g:B0}{s:ByteArray}:(U4 kd g s).length<=s.size:=by
 have:=Hx (kd:=kd) (g:=g) (s:=s) (s.size+1) 0 [] (by simp);unfold U4;omega
end Go.Proofs.YtcckhngbdoiikabGreat
