import Derived.Test.YtcckhngbdoiikabGreatA08
import Derived.Deep.RegionHeld3
import Derived.Deep.AppendLies
set_option maxRecDepth 20000
set_option maxHeartbeats 12800000
set_option linter.unusedVariables false
namespace Go.Proofs.YtcckhngbdoiikabGreat
open Go.RowKit Go.Deep
def W8:List I0->List Value
 | []=>[]
 |s::r=>.int .u64 (s.lo.toNat:Int)::.int .u64 (s.hi.toNat:Int)::W8 r
theorem Js:∀l:List I0,(W8 l).length=l.length*2
 | []=>rfl
 |s::r=>by simp[W8,Js r];omega
theorem Rg:∀l m:List I0,W8 (l++m)=W8 l++W8 m
 | [],m=>rfl
 |s::r,m=>by simp[W8,Rg r m]
theorem Mc:∀(l:List I0) (k:Nat) (h:k<l.length),(W8 l)[k*2]?=some (.int .u64 (l[k].lo.toNat:Int))
 |s::r,0,_=>rfl
 |s::r,k+1,h=>by
  rw[show(k+1)*2=k*2+1+1 by omega];simp only[W8,List.getElem?_cons_succ,List.getElem_cons_succ];exact Mc r k (by simpa using h)
theorem Nc:∀(l:List I0) (k:Nat) (h:k<l.length),(W8 l)[k*2+1]?=some (.int .u64 (l[k].hi.toNat:Int))
 |s::r,0,_=>rfl
 |s::r,k+1,h=>by
  rw[show(k+1)*2+1=k*2+1+1+1 by omega];simp only[W8,List.getElem?_cons_succ,List.getElem_cons_succ];exact Nc r k (by simpa using h)
theorem Eu:∀(l:List I0) (k:Nat) (s:I0),((W8 l).set (k*2) (.int .u64 (s.lo.toNat:Int))).set (k*2+1) (.int .u64 (s.hi.toNat:Int))=W8 (l.set k s)
 | [],k,s=>by simp[W8]
 |t::r,0,s=>by simp[W8]
 |t::r,k+1,s=>by
  rw[show(k+1)*2=k*2+1+1 by omega];simp only[W8,List.set_cons_succ];rw[Eu r k s]
def D5(al:Nat->I0)(f:I0)(fv lv:Value):Array Value:=
 (W8 ((List.range 256).map al)++ [.int .u64 (f.lo.toNat:Int),.int .u64 (f.hi.toNat:Int),fv,lv]).toArray
theorem N2(al:Nat->I0):(W8 ((List.range 256).map al)).length=512:=by simp[Js]
theorem FV:Tryz.zeroCells126=D5 (fun _=>I0.none) I0.none (.slice none 0 0) (.slice none 0 0):=by kernel_rfl
section
variable(al:Nat->I0)(f:I0)(fv lv:Value)
theorem BL(b:Nat)(h:b<256):(D5 al f fv lv)[b*2]?=some (.int .u64 ((al b).lo.toNat:Int)):=by
 rw[D5,yT,zR (by rw[N2];omega),Mc _ b (by simpa using h)];simp
theorem CL(b:Nat)(h:b<256):(D5 al f fv lv)[b*2+1]?=some (.int .u64 ((al b).hi.toNat:Int)):=by
 rw[D5,yT,zR (by rw[N2];omega),Nc _ b (by simpa using h)];simp
theorem Tp:(D5 al f fv lv)[512]?=some (.int .u64 (f.lo.toNat:Int)):=by
 rw[D5,yT,zY (by rw[N2];omega),N2];rfl
theorem Up:(D5 al f fv lv)[513]?=some (.int .u64 (f.hi.toNat:Int)):=by
 rw[D5,yT,zY (by rw[N2];omega),N2];rfl
theorem Hf:(D5 al f fv lv)[514]?=some fv:=by
 rw[D5,yT,zY (by rw[N2];omega),N2];rfl
theorem Tz:(D5 al f fv lv)[515]?=some lv:=by
 rw[D5,yT,zY (by rw[N2];omega),N2];rfl
theorem Fw(b:Nat)(h:b<256)(s:I0):
  ((D5 al f fv lv).setIfInBounds (b*2) (.int .u64 (s.lo.toNat:Int))).setIfInBounds (b*2+1) (.int .u64 (s.hi.toNat:Int))=D5 (fun j=>if j=b then s else al j) f fv lv:=by
 simp only[D5,List.setIfInBounds_toArray];rw[List.set_append_left _ _ (by rw[N2];omega),List.set_append_left _ _ (by rw[xF,N2];omega),Eu]
 congr 3
 apply List.ext_getElem?;intro j;rw[List.getElem?_set]
 by_cases e:b=j
 ·subst e;simp[h]
 ·simp[e]
  by_cases B:j<256
  ·simp[B,show ¬j=b from fun x=>e x.symm]
  ·simp[B]
theorem Gw(s:I0):
  ((D5 al f fv lv).setIfInBounds 512 (.int .u64 (s.lo.toNat:Int))).setIfInBounds 513 (.int .u64 (s.hi.toNat:Int))=D5 al s fv lv:=by
 simp only[D5,List.setIfInBounds_toArray];rw[List.set_append_right _ _ (by rw[N2];omega),List.set_append_right _ _ (by rw[N2];omega),N2];rfl
theorem Au(v:Value):(D5 al f fv lv).setIfInBounds 514 v=D5 al f v lv:=by
 simp only[D5,List.setIfInBounds_toArray];rw[List.set_append_right _ _ (by rw[N2];omega),N2];rfl
theorem Uz(v:Value):(D5 al f fv lv).setIfInBounds 515 v=D5 al f fv v:=by
 simp only[D5,List.setIfInBounds_toArray];rw[List.set_append_right _ _ (by rw[N2];omega),N2];rfl
end
def W4(w:World)(v:Value)(l:List I0):Prop:=w.ownsRow 0 122 2 v l.length (W8 l)
structure C1(w:World)(gb:Nat)(O:Nat->Prop)(R:E0)(fv lv:Value):Prop where
 aO:Blk w gb (D5 R.aJ R.first fv lv) 126
 fA:W4 w fv R.aC
 iJ:W4 w lv R.last
 og:O gb
 dN:∀k,fv.ownBlock=some k->O k/\k≠gb
 ola:∀k,lv.ownBlock=some k->O k/\k≠gb
 ne:∀k,fv.ownBlock=some k->lv.ownBlock≠some k
 olt:∀k,O k->k<w.heap.size
theorem K0{w w':World}{ex:Nat->Prop}{K:Nat}{e:TypeId}{B:Nat}{v:Value}{n:Nat}{U:List Value}(h:w.ownsRow K e B v n U)(k:C0 ex w w')(Y:∀b,v.ownBlock=some b->¬ex b):w'.ownsRow K e B v n U:=by
 obtain⟨M,h|⟨g,D,cur,rfl,V,G,W⟩⟩:=h
 ·exact⟨M,.inl h⟩
 ·have J:g<w.heap.size:=by
   by_cases X:g<w.heap.size
   ·exact X
   ·rw[Array.getElem?_eq_none (by omega)]at G;cases G
  exact⟨M,.inr ⟨g,D,cur,rfl,V,by rw[k.block g J (Y g rfl)];exact G,W⟩⟩
theorem C1.kept{w w':World}{gb:Nat}{O ex:Nat->Prop}{R:E0}{fv lv:Value}(h:C1 w gb O R fv lv)(k:C0 ex w w')(D:∀b,O b->¬ex b):C1 w' gb O R fv lv:=
 ⟨h.aO.kept k (D _ h.og),K0 h.fA k (fun b B=>D b (h.dN b B).1),K0 h.iJ k (fun b B=>D b (h.ola b B).1),h.og,h.dN,h.ola,h.ne,fun b B=>yG (h.olt b B) k.size⟩
theorem C1.aA{w w':World}{gb:Nat}{O:Nat->Prop}{R:E0}{fv lv:Value}(h:C1 w gb O R fv lv)(k:Bw w w'):C1 w' gb O R fv lv:=
 h.kept (ex:=fun _=>False) (C0.aM k) (fun _ _ e=>e)
theorem P0{w:World}{e:TypeId}{B:Nat}{v:Value}{n:Nat}{J:List Value}(h:w.ownsRow 0 e B v n J):
  J.length=n*B/\∃(G:Option Addr) (D:Nat),v=.slice G n D/\((G=none/\n=0)\/∃g cur,G=some ⟨g,0,none⟩/\Blk w g cur e/\n<=D/\D<=maxLen/\cur.size=D*B/\cur.toList.take (n*B)=J):=by
 obtain⟨K,⟨rfl,rfl⟩|⟨g,D,cur,rfl,_,M,U,V,W,X⟩⟩:=h
 ·exact⟨K,none,0,rfl,.inl ⟨rfl,rfl⟩⟩
 ·exact⟨K,some ⟨g,0,none⟩,D,rfl,.inr ⟨g,cur,rfl,M,U,V,W,X⟩⟩
theorem J5{w:World}{e:TypeId}{h n B g:Nat}{cur:Array Value}{D:List Value}(G:D.length=n*h)(V:Blk w g cur e)(J:n<=B)(K:B<=maxLen)(M:cur.size=B*h)(U:cur.toList.take (n*h)=D):
  w.ownsRow 0 e h (.slice (some ⟨g,0,none⟩) n B) n D:=⟨G,.inr ⟨g,B,cur,rfl,yC _,V,J,K,M,U⟩⟩
theorem Y0{w:World}{e:TypeId}{B n D g:Nat}{J:List Value}(h:w.ownsRow 0 e B (.slice (some ⟨g,0,none⟩) n D) n J)(j:Nat)(V:j<n*B):w.cell? ⟨g,j,none⟩=J[j]?:=by
 obtain⟨X,⟨h,_⟩|⟨W,G,cur,K,_,M,Y,Z,h6,U⟩⟩:=h
 ·cases h
 ·cases K;have:w.cell? ⟨g,j,none⟩=cur[j]?:=Blk.cell M j;rw[this,<-U,List.getElem?_take,if_pos V];simp
theorem Om{w:World}{e:TypeId}{B n D g:Nat}{M:List Value}(h:w.ownsRow 0 e B (.slice (some ⟨g,0,none⟩) n D) n M)(j:Nat):w.frozen? ⟨g,j,none⟩=false:=by
 obtain⟨V,⟨h,_⟩|⟨U,G,cur,J,_,K,W,X,Y,Z⟩⟩:=h
 ·cases h
 ·cases J;exact Blk.frozen K j
theorem Dv{w:World}{e:TypeId}{B n D g:Nat}{J:List Value}(h:w.ownsRow 0 e B (.slice (some ⟨g,0,none⟩) n D) n J)(j:Nat)(v:Value)(hj:j<n*B):
  (w.setCell ⟨g,j,none⟩ v).ownsRow 0 e B (.slice (some ⟨g,0,none⟩) n D) n (J.set j v):=by
 obtain⟨M,⟨h,_⟩|⟨Z,G,cur,K,_,U,V,W,X,Y⟩⟩:=h
 ·cases h
 ·cases K;refine J5 (by simpa using M) (Blk.set U j v) V W (by simpa using X) ?_;rw[Array.toList_setIfInBounds,List.take_set,Y]
theorem U2{w:World}{e:TypeId}{B:Nat}{v:Value}{n:Nat}{D:List Value}(h:w.ownsRow 0 e B v n D){p:Addr}(K:v.ownBlock≠some p.block)(u:Value):(w.setCell p u).ownsRow 0 e B v n D:=by
 have J:C0 (fun k=>k=p.block) w (w.setCell p u):=C0.setCell (ex:=fun k=>k=p.block) (p:=p) (C0.refl _ w) (fun _=>rfl) u;exact K0 h J (fun b G e=>K (e ▸ G))
theorem C1.drew{w:World}{gb:Nat}{O:Nat->Prop}{R:E0}{fv lv:Value}(h:C1 w gb O R fv lv):C1 w.drew gb O R fv lv:=
 h.kept (ex:=fun _=>False) (C0.refl _ _).drew (fun _ _ e=>e)
theorem C1.alloc{w:World}{gb:Nat}{O:Nat->Prop}{R:E0}{fv lv:Value}(h:C1 w gb O R fv lv)(o:Obj):C1 (w.alloc o) gb O R fv lv:=
 h.kept (ex:=fun _=>False) ((C0.refl _ _).alloc o) (fun _ _ e=>e)
theorem C1.gS{w:World}{gb fb B:Nat}{O:Nat->Prop}{R:E0}{lv:Value}(h:C1 w gb O R (.slice (some ⟨fb,0,none⟩) R.aC.length B) lv)(k:Nat)(K:k<R.aC.length)(s:I0):
  C1 ((w.setCell ⟨fb,k*2,none⟩ (.int .u64 (s.lo.toNat:Int))).setCell ⟨fb,k*2+1,none⟩ (.int .u64 (s.hi.toNat:Int))) gb O { R with aC:=R.aC.set k s } (.slice (some ⟨fb,0,none⟩) R.aC.length B) lv:=by
 have G:=(h.dN fb rfl).2;refine⟨(h.aO.aG (Ne.symm G) _).aG (Ne.symm G) _,?_,?_,h.og,h.dN,h.ola,h.ne,fun b J=>by simpa using h.olt b J⟩
 ·have D:=Dv (Dv h.fA (k*2) (.int .u64 (s.lo.toNat:Int)) (by omega)) (k*2+1) (.int .u64 (s.hi.toNat:Int)) (by omega);rw[Eu]at D;show World.ownsRow _ 0 122 2 _ (R.aC.set k s).length _;rw[xF];exact D
 ·exact U2 (U2 h.iJ (h.ne fb rfl) _) (h.ne fb rfl) _
theorem C1.iS{w:World}{gb:Nat}{O:Nat->Prop}{R:E0}{fv lv:Value}(h:C1 w gb O R fv lv)(b:Nat)(B:b<256)(s:I0):
  C1 ((w.setCell ⟨gb,b*2,none⟩ (.int .u64 (s.lo.toNat:Int))).setCell ⟨gb,b*2+1,none⟩ (.int .u64 (s.hi.toNat:Int))) gb O { R with aJ:=fun j=>if j=b then s else R.aJ j } fv lv:=by
 refine⟨?_,?_,?_,h.og,h.dN,h.ola,h.ne,fun b B=>by simpa using h.olt b B⟩
 ·have:=(h.aO.set (b*2) (.int .u64 (s.lo.toNat:Int))).set (b*2+1) (.int .u64 (s.hi.toNat:Int));rw[Fw _ _ _ _ b B s]at this;exact this
 ·exact U2 (U2 h.fA (fun e=>(h.dN _ e).2 rfl) _) (fun e=>(h.dN _ e).2 rfl) _
 ·exact U2 (U2 h.iJ (fun e=>(h.ola _ e).2 rfl) _) (fun e=>(h.ola _ e).2 rfl) _
theorem C1.iT{w:World}{gb:Nat}{O:Nat->Prop}{R:E0}{fv lv:Value}(h:C1 w gb O R fv lv)(s:I0):
  C1 ((w.setCell ⟨gb,512,none⟩ (.int .u64 (s.lo.toNat:Int))).setCell ⟨gb,513,none⟩ (.int .u64 (s.hi.toNat:Int))) gb O { R with first:=s } fv lv:=by
 refine⟨?_,?_,?_,h.og,h.dN,h.ola,h.ne,fun b B=>by simpa using h.olt b B⟩
 ·have:=(h.aO.set 512 (.int .u64 (s.lo.toNat:Int))).set 513 (.int .u64 (s.hi.toNat:Int));rw[Gw]at this;exact this
 ·exact U2 (U2 h.fA (fun e=>(h.dN _ e).2 rfl) _) (fun e=>(h.dN _ e).2 rfl) _
 ·exact U2 (U2 h.iJ (fun e=>(h.ola _ e).2 rfl) _) (fun e=>(h.ola _ e).2 rfl) _
def O8(a b:I0)(l:List I0)(k:Nat):List I0:=Q7 a b 0 (l.take k)++l.drop k
theorem No(a b:I0)(l:List I0)(k:Nat):(O8 a b l k).length=l.length:=by
 simp[O8,Jb];omega
theorem Sy(a b:I0)(l:List I0)(k:Nat)(h:k<l.length):(O8 a b l k)[k]?=some l[k]:=by
 unfold O8;have f:(Q7 a b 0 (l.take k)).length=k:=by rw[Jb,List.length_take];omega
 rw[zY (by omega),f];simp[h]
theorem Av(a b:I0)(l:List I0)(k:Nat)(h:k<l.length):
  O8 a b l (k+1)=(O8 a b l k).set k (if a.has k then l[k].or b else l[k]):=by
 unfold O8;have f:(Q7 a b 0 (l.take k)).length=k:=by rw[Jb,List.length_take];omega
 have B:l.drop k=l[k]::l.drop (k+1):=yA h;rw[yO h,Dl,List.set_append_right _ _ (by omega),f,B,yS,List.set_cons_zero,yF];have D:(l.take k).length=k:=by rw[List.length_take];omega
 rw[D,yX];rfl
theorem VJ(a b:I0)(l:List I0)(k:Nat)(h:k<l.length)(f:a.has k=false):O8 a b l (k+1)=O8 a b l k:=by
 rw[Av a b l k h];apply List.ext_getElem?;intro j;rw[List.getElem?_set]
 by_cases e:k=j
 ·subst e;rw[if_pos rfl,if_pos (by rw[No];exact h),Sy a b l k h,if_neg (by simp[f])]
 ·simp[e]
theorem IN(a b:I0)(l:List I0)(k:Nat)(h:l.length<=k):O8 a b l k=Q7 a b 0 l:=by
 unfold O8;rw[zO h,yY h,yP]
theorem Jj(R:E0)(gb:Nat)(O:Nat->Prop)(fv lv:Value)(a b:I0)(w:World)(h:C1 w gb O R fv lv)(hl:R.aC.length<=1000):
  Calls Tryz.prog 144 #[.pointer (some ⟨gb,0,none⟩),Qg a,Qg b] w fun e w'=>
   e=.returned (.tuple #[])/\C1 w' gb O (R.link a b) fv lv/\C0 O w w':=by
 obtain⟨_,ad,V,rfl,a4⟩:=P0 h.fA;have cg:w.cell? ⟨gb,514,none⟩=some (.slice ad R.aC.length V):=by rw[h.aO.cell];exact Hf _ _ _ _
 have ab:=h.aO.lt;go_enter Tryz.func144,Tryz.ntmps144;go_wp2_with fail;have hK:C0 O w w:=C0.refl _ _
 go_loopg[12] R.aC.length (fun g i wr=>∃k:Nat,k<=R.aC.length/\g=R.aC.length-k/\i=.int .i64 k/\
  C1 wr gb O { R with aC:=O8 a b R.aC k } (.slice ad R.aC.length V) lv/\C0 O w wr/\Blk wr w.heap.size (K5 a) 122/\Blk wr (w.heap.size+1) (K5 b) 122)
 case atStart=>
  refine⟨0,by omega,rfl,rfl,?_,(hK.alloc _).alloc _,(Blk.aR w _ _).alloc _,?_⟩
  ·have e0:O8 a b R.aC 0=R.aC:=by simp[O8,Q7]
   rw[e0];exact h.aA (F6 _ _ _)
  ·have:=Blk.aR (w.alloc (.cells (K5 a) 122)) (K5 b) 122;simpa using this
 case round=>
  obtain⟨k,hk,rfl,rfl,hR,Y,hA,hB⟩:=hrel
  by_cases W:k<R.aC.length
  ·have a0:wr.cell? ⟨w.heap.size,0,none⟩=some (.int .u64 (a.lo.toNat:Int)):=hA.cell 0;have a1:wr.cell? ⟨w.heap.size,1,none⟩=some (.int .u64 (a.hi.toNat:Int)):=hA.cell 1;have e0:decide ((k:Int)<(R.aC.length:Int))=true:=by simp;omega
   rcases a4 with⟨rfl,h0⟩|⟨fb,cur,rfl,_⟩
   ·omega
   have HH:Hid (C1 wr gb O { R with aC:=O8 a b R.aC k } (.slice (some ⟨fb,0,none⟩) R.aC.length V) lv/\C0 O w wr/\Blk wr w.heap.size (K5 a) 122/\Blk wr (w.heap.size+1) (K5 b) 122):=⟨hR,Y,hA,hB⟩;clear hR Y hA hB;go_wp2_with fail;refine(WP a k (by omega) _).mono ?_;rintro e U ⟨rfl,X⟩;obtain⟨hR,Y,hA,hB⟩:=HH.out;have f:=hR.aA X;have M:=Y.aA X;have K:=hA.aA X;have D:=hB.aA X;clear hR Y hA hB HH;cases hh:a.has k with
   |false=>
    have HH:Hid (C1 U gb O { R with aC:=O8 a b R.aC k } (.slice (some ⟨fb,0,none⟩) R.aC.length V) lv/\C0 O w U/\Blk U w.heap.size (K5 a) 122/\Blk U (w.heap.size+1) (K5 b) 122):=⟨f,M,K,D⟩;have HF:=Hd hh;clear f M K D X hh;go_wp2_with fail
    go_roundg (R.aC.length- (k+1))
    case measure=>omega
    case rel=>
     obtain⟨f,M,K,D⟩:=HH.out;exact⟨k+1,by omega,rfl,by go_num,by rw[VJ a b _ k W HF.out];exact f,M,K,D⟩
   |true=>
    have g0:U.cell? ⟨gb,514,none⟩=some (.slice (some ⟨fb,0,none⟩) R.aC.length V):=by rw[f.aO.cell];exact Hf _ _ _ _
    have b0:U.cell? ⟨w.heap.size+1,0,none⟩=some (.int .u64 (b.lo.toNat:Int)):=D.cell 0;have b1:U.cell? ⟨w.heap.size+1,1,none⟩=some (.int .u64 (b.hi.toNat:Int)):=D.cell 1;have hL:(O8 a b R.aC k)[k]?=some R.aC[k]:=Sy a b R.aC k W;have G:(O8 a b R.aC k).length=R.aC.length:=No a b R.aC k;have B:U.ownsRow 0 122 2 (.slice (some ⟨fb,0,none⟩) R.aC.length V) R.aC.length (W8 (O8 a b R.aC k)):=by have:=f.fA;unfold W4 at this;simp only[G]at this;exact this
    have a2:(O8 a b R.aC k)[k]'(by rw[G];exact W)=R.aC[k]:=zE ((zF _).symm.trans hL);have r0:U.cell? ⟨fb,k*2,none⟩=some (.int .u64 (R.aC[k].lo.toNat:Int)):=by rw[Y0 B _ (by omega),Mc _ k (by rw[G];exact W),a2]
    have r1:U.cell? ⟨fb,k*2+1,none⟩=some (.int .u64 (R.aC[k].hi.toNat:Int)):=by rw[Y0 B _ (by omega),Nc _ k (by rw[G];exact W),a2]
    have a5:=Om B (k*2);have a6:=Om B (k*2+1);have i0:(0:Int)<=(k:Int):=by omega
    have i1:(k:Int)<(R.aC.length:Int):=by omega
    have n1:fb≠gb:=(f.dN fb rfl).2;have aa:fb<w.heap.size:=h.olt _ (f.dN fb rfl).1;have n2:fb≠w.heap.size+1:=by omega
    have z1:gb<U.heap.size:=f.aO.lt;have z2:w.heap.size+1<U.heap.size:=D.lt;have z3:fb<U.heap.size:=f.olt _ (f.dN fb rfl).1;have HH:Hid (C1 U gb O { R with aC:=O8 a b R.aC k } (.slice (some ⟨fb,0,none⟩) R.aC.length V) lv/\C0 O w U/\Blk U w.heap.size (K5 a) 122/\Blk U (w.heap.size+1) (K5 b) 122):=⟨f,M,K,D⟩;have HL:=Hd hL;have a9:=Hd B;have a3:=Hd hh;have Z:=Hd G;clear f M K D X hL a2 B hh G h cg a0 a1;go_wp2_with fail
    go_region_with (go_at_call 118;refine(Ni R.aC[k] b _).mono ?_;rintro e w2 ⟨rfl,J⟩;have q0:=(J.cell (p:=⟨fb,k*2,none⟩) z3).trans r0;have q1:=(J.cell (p:=⟨fb,k*2+1,none⟩) z3).trans r1;have p0:=(J.frozen (p:=⟨fb,k*2,none⟩) z3).trans a5;have p1:=(J.frozen (p:=⟨fb,k*2+1,none⟩) z3).trans a6;have q2:=J.cell (p:=⟨gb,514,none⟩) z1)
    all_goals
     go_wp2_with fail
     go_roundg (R.aC.length- (k+1))
     case measure=>omega
     case rel=>
      obtain⟨f,M,K,D⟩:=HH.out;have a7:=(f.drew.aA J);have a8:=C1.gS (R:={ R with aC:=O8 a b R.aC k }) (by simpa[Z.out]using a7) k (by simpa[Z.out]using W) (R.aC[k].or b);have e3:O8 a b R.aC (k+1)=(O8 a b R.aC k).set k (R.aC[k].or b):=by rw[Av a b _ k W,if_pos a3.out]
      refine⟨k+1,by omega,rfl,by go_num,?_,?_,?_,?_⟩
      ·rw[e3];simpa[Z.out]using a8
      ·exact(((M.drew).aA J).setCell (fun _=>(f.dN fb rfl).1) _).setCell (fun _=>(f.dN fb rfl).1) _
      ·exact((K.drew.aA J).aG (by simp;omega) _).aG (by simp;omega) _
      ·exact((D.drew.aA J).aG (by simp;omega) _).aG (by simp;omega) _
  ·have e0:decide ((k:Int)<(R.aC.length:Int))=false:=by simp;omega
   go_wp2_with fail
   go_end0
   have e3:=IN a b R.aC k (by omega);rw[e3]at hR;exact⟨rfl,hR,Y⟩
abbrev M2(p:Z6):Array Value:=#[.int .u64 (p.first.lo.toNat:Int),.int .u64 (p.first.hi.toNat:Int),.int .u64 (p.last.lo.toNat:Int),.int .u64 (p.last.hi.toNat:Int),.bool p.empty]
abbrev X9(p:Z6):Value:=.agg (M2 p)
theorem Tryz.gC:(Tryz.prog.info? 196).map (·.size)=some 5:=by kernel_rfl
theorem Ud{B:Func}{p:Tmp}(h:B.results=#[.cell p 196]){q:Z6}(f:Array Value){w:World}{g:Nat}
  (G:f.getD p undef=.pointer (some ⟨g,0,none⟩)) (D:Blk w g (M2 q) 196):(results B f).run Tryz.prog w=.ok (X9 q) w:=
 results_cell_row h f w g 196 _ (0,0) _ G D Tryz.underlying196 rfl Tryz.gC
abbrev X1:Array Value:=#[.int .u64 0,.int .u64 0,.int .u64 0,.int .u64 0,.bool false]
theorem UM(a b:Z6)(w:World):Calls Tryz.prog 137 #[X9 a,X9 b] w fun e w'=>
  e=.returned (X9 (E8 a b))/\Bw w w':=by
 obtain⟨D,al,Y⟩:=a;obtain⟨G,K,Z⟩:=b;have M:∀o1 o2 o3,Bw w (((w.alloc o1).alloc o2).alloc o3):=Pw w;cases Y <;>cases Z <;>
 ·go_enter Tryz.func137,Tryz.ntmps137;go_wp2_with fail;refine(Ni D G _).mono ?_;rintro e B ⟨rfl,f⟩;obtain⟨a0,a2⟩:=Mx f;have a4:w.heap.size+2<B.heap.size:=by have:=f.size;simp at this;omega
  have y0:w.heap.size<B.heap.size:=by omega
  have y1:w.heap.size+1<B.heap.size:=by omega
  have y2:w.heap.size+1+1<B.heap.size:=by omega
  go_wp2_with fail;refine(Ni al K _).mono ?_;rintro e J ⟨rfl,h⟩;obtain⟨a1,a3⟩:=Mx h;have a5:B.heap.size<J.heap.size:=by have:=h.size;simp at this;omega
  have x0:w.heap.size<J.heap.size:=by omega
  have x1:w.heap.size+1<J.heap.size:=by omega
  have x2:w.heap.size+1+1<J.heap.size:=by omega
  go_wp2_with fail;have W:Blk B (w.heap.size+1+1) X1 196:=by
   have:=(Blk.aR ((w.alloc (.cells (M2 ⟨D,al,_⟩) 196)).alloc (.cells (M2 ⟨G,K,_⟩) 196)) X1 196).aA f;simpa using this
  have X:=(W.alloc _).aA h;have U:=((M _ _ _).trans (f.mono (by simp;omega))).alloc (by omega) (.cells (K5 (D.or G)) 122);have V:=U.trans (h.mono (by simp;omega));exact bodyPost_ret (Ud (q:=E8 ⟨D,al,_⟩ ⟨G,K,_⟩) Tryz.results137 _ rfl ((((((X.set 0 _).set 1 _).set 2 _).set 3 _).set 4 _).alloc _)) rfl
   ⟨rfl,(((((V.setCell (by simp;omega) _).setCell (by simp;omega) _).setCell (by simp;omega) _).setCell (by simp;omega) _).setCell (by simp;omega) _).alloc (by simp;omega) _⟩
theorem Tryz.eP:(Tryz.prog.info? 122).map (fun i=>(i.zero,i.size,i.bytes))=some (some (.agg #[.int .u64 0,.int .u64 0]),2,16):=by kernel_rfl
theorem SW(A:Nat->Bool)(k:Nat)(f:k<256)(w:World):(Instr.index 228 (.agg (Z1 A)) (.int .i64 k)).run Tryz.prog w=.ok (.bool (A k)) w:=by
 have h:k<(Z1 A).size:=by rw[Z2];exact f
 have B:(Z1 A)[k]=.bool (A k):=zE ((Array.getElem?_eq_getElem h).symm.trans (Gd A k f));have D:(Z1 A)[k]?=some (.bool (A k)):=Gd A k f;have G:0<=(k:Int)/\(k:Int)<(256:Nat):=by omega
 simp[Instr.index,asIntOf,run_underlying Tryz.underlying228,part,Tryz.isAgg4,Tryz.sizeOf4,f,B,h]
theorem D8{O:Nat->Prop}{w w':World}{h:Option Nat}(f:w.grownBy w' h)(G:∀k,h=some k->O k):C0 O w w':=
 ⟨f.os,f.tape,f.output,f.size,fun k D B=>f.block k D (fun e=>B (G k e.symm))⟩
theorem C1.fT{w w':World}{gb g f:Nat}{O:Nat->Prop}{R:E0}{G B:Value}{s:I0}(h:C1 w gb O R G B)
  (M:w'.ownsRow 0 122 2 (.slice (some ⟨g,0,none⟩) (R.aC.length+1) f) (R.aC.length+1) (W8 R.aC++W8 [s]))
  (U:w.grownBy w' G.ownBlock) (J:G.ownBlock=some g\/g=w.heap.size) (a0:g<w'.heap.size):
  C1 (w'.setCell ⟨gb,514,none⟩ (.slice (some ⟨g,0,none⟩) (R.aC.length+1) f)) gb (fun k=>O k\/k=g) { R with aC:=R.aC++ [s] } (.slice (some ⟨g,0,none⟩) (R.aC.length+1) f) B/\C0 O w w'/\Blk w' gb (D5 R.aJ R.first G B) 126:=by
 have Y:C0 O w w':=D8 U (fun k e=>(h.dN k e).1);have V:=h.aO.lt;have K:g≠gb:=by
  rcases J with e|e
  ·exact(h.dN g e).2
  ·omega
 have W:∀k,B.ownBlock=some k->k≠g:=by
  intro k e Z;subst Z;rcases J with D|D
  ·exact h.ne _ D e
  ·have:=h.olt _ (h.ola _ e).1;omega
 have X:Blk w' gb (D5 R.aJ R.first G B) 126:=by
  have:=U.block gb V (fun e=>(h.dN gb e.symm).2 rfl);unfold Blk;rw[this];exact h.aO
 have hl:w'.ownsRow 0 122 2 B R.last.length (W8 R.last):=h.iJ.kept U (by
  cases e:B.ownBlock with
  |none=>exact .inl rfl
  |some k=>exact .inr (fun D=>h.ne k D.symm e))
 refine⟨⟨?_,?_,?_,.inl h.og,?_,?_,?_,?_⟩,Y,X⟩
 ·have:=X.set 514 (.slice (some ⟨g,0,none⟩) (R.aC.length+1) f);rw[Au]at this;exact this
 ·have:=U2 M (p:=⟨gb,514,none⟩) (fun e=>K (zE e)) (.slice (some ⟨g,0,none⟩) (R.aC.length+1) f);rw[<-Rg]at this;show World.ownsRow _ 0 122 2 _ (R.aC++ [s]).length _;rw[zL];exact this
 ·exact U2 hl (fun e=>(h.ola _ e).2 rfl) _
 ·intro k e;cases(zE e:g=k);exact⟨.inr rfl,K⟩
 ·exact fun k e=>⟨.inl (h.ola k e).1,(h.ola k e).2⟩
 ·intro k e D;cases(zE e:g=k);exact W _ D rfl
 ·intro k e;simp;rcases e with e|e
  ·exact yG (h.olt k e) Y.size
  ·omega
def Ah(al:Nat->I0)(A:Nat->Bool)(p:I0)(k:Nat):Nat->I0:=fun b=>if b<k then Ae al A p b else al b
theorem EM(al:Nat->I0)(A:Nat->Bool)(p:I0)(k:Nat)(h:A k=false):Ah al A p (k+1)=Ah al A p k:=by
 funext b
 unfold Ah
 by_cases e:b=k
 ·subst e;simp[Ae,h]
 ·by_cases f:b<k
  ·rw[if_pos f,if_pos (by omega)]
  ·rw[if_neg f,if_neg (by omega)]
theorem FM(al:Nat->I0)(A:Nat->Bool)(p:I0)(k:Nat)(h:A k=true):Ah al A p (k+1)=fun j=>if j=k then(al k).or p else Ah al A p k j:=by
 funext b
 unfold Ah
 by_cases e:b=k
 ·subst e;simp[Ae,h]
 ·by_cases f:b<k
  ·rw[if_pos f,if_pos (by omega),if_neg e]
  ·rw[if_neg f,if_neg (by omega),if_neg e]
theorem QH(al:Nat->I0)(A:Nat->Bool)(p:I0)(k:Nat):Ah al A p k k=al k:=by simp[Ah]
theorem UG{al B:Nat->I0}(h:∀b,b<256->al b=B b)(f:I0)(D G:Value):D5 al f D G=D5 B f D G:=by
 have e:(List.range 256).map al=(List.range 256).map B:=List.map_congr_left (fun b J=>h b (by simpa using J));unfold D5;rw[e]
theorem C1.eW{w:World}{gb:Nat}{O:Nat->Prop}{R:E0}{f B:Value}(h:C1 w gb O R f B){al:Nat->I0}(e:∀b,b<256->R.aJ b=al b):
  C1 w gb O { R with aJ:=al } f B:=
 ⟨by have:=h.aO;rw[UG e]at this;exact this,h.fA,h.iJ,h.og,h.dN,h.ola,h.ne,h.olt⟩
theorem TY(R:E0)(gb:Nat)(O:Nat->Prop)(fv lv:Value)(A:Nat->Bool)(w:World)(h:C1 w gb O R fv lv)(hl:R.aC.length<=1000):
  Calls Tryz.prog 147 #[.pointer (some ⟨gb,0,none⟩),.agg (Z1 A)] w fun e w'=>
   e=.returned (X9 R.addPart)/\∃O' a0,C1 w' gb O' (R.add A) a0 lv/\C0 O w w'/\∀k,O' k->O k\/w.heap.size<=k:=by
 obtain⟨_,ad,ac,a2,ap⟩:=P0 h.fA;have cg:w.cell? ⟨gb,514,none⟩=some fv:=by rw[h.aO.cell];exact Hf _ _ _ _
 rw[a2]at cg;have b4:=h.aO.lt;have b2:gb<w.heap.size+1:=by omega
 have b3:gb<w.heap.size+1+1:=by omega
 go_enter Tryz.func147,Tryz.ntmps147;go_wp2_with fail;refine(IK R.aC.length (by omega) _).mono ?_;rintro e V ⟨rfl,W⟩;have a1:=((h.alloc _).alloc _).aA W;have c1:V.cell? ⟨gb,514,none⟩=some (.slice ad R.aC.length ac):=by rw[a1.aO.cell,Hf,a2]
 have z1:gb<V.heap.size:=a1.aO.lt;obtain⟨i,hi,az,b0,b1⟩:=info_parts Tryz.eP;have a9:=(a1.fA.alloc (.cells (K5 (I0.only R.aC.length)) 122)).alloc (.cells #[.int .u64 0,.int .u64 0] 122);rw[a2]at a9;go_wp2_with(at_builtin;(refine wpList_append_lies _ (by rfl) _ _ _ (by rfl) 0 122 i _ 2 16 Tryz.underlying124 hi az b0 b1 rfl (by omega) (.slice ad R.aC.length ac) R.aC.length (W8 R.aC) (by rfl) a9 ⟨V.heap.size+1,0,none⟩ 1 1 [.int .u64 0,.int .u64 0] (by rfl) (by rfl) (World.news_of_block (cs:=#[.int .u64 0,.int .u64 0]) (t:=122) (fr:=(0,0)) (heap_alloc2_new V _ _)) (by simp[Value.oneCell']) (by omega) (by unfold maxLen;omega) (by omega) (by simp) (V.heap.size+1+1) (by simp) ?_));intro g B w2 a4 K M ao;rw[<-a2]at K M;have ah:=(a1.alloc (.cells (K5 (I0.only R.aC.length)) 122)).alloc (.cells #[.int .u64 0,.int .u64 0] 122);obtain⟨ai,a3,a6⟩:=ah.fT (s:=I0.none) a4 K (by simpa using M) ao;have an:C0 O w w2:=((((((C0.refl O w).alloc _).alloc _).aA W).alloc _).alloc _).trans' a3;have nO:∀k,O k->k<w.heap.size:=h.olt;have ag:Blk w2 V.heap.size (K5 (I0.only R.aC.length)) 122:=((Blk.aR V _ _).alloc _).kept a3 (fun e=>by have:=nO _ e;have:=W.size;simp at this;omega);have ae:Blk w2 w.heap.size (Z1 A) 228:=(((((Blk.aR w (Z1 A) 228).alloc _).aA W).alloc _).alloc _).kept a3 (fun e=>by have:=nO _ e;omega);have aj:Blk w2 (w.heap.size+1) X1 196:=((((Blk.dX w _ X1 196).aA W).alloc _).alloc _).kept a3 (fun e=>by have:=nO _ e;omega);have au:w2.cell? ⟨gb,514,none⟩=some fv:=by rw[a6.cell];exact Hf _ _ _ _
 have av:=a6.frozen 514;have b5:w.heap.size+1<V.heap.size:=by have:=W.size;simp at this;omega
 have ab:Hid (C1 (w2.setCell ⟨gb,514,none⟩ (.slice (some ⟨g,0,none⟩) (R.aC.length+1) B)) gb (fun k=>O k\/k=g) { R with aC:=R.aC++ [I0.none] } (.slice (some ⟨g,0,none⟩) (R.aC.length+1) B) lv/\
   C0 O w w2/\Blk w2 V.heap.size (K5 (I0.only R.aC.length)) 122/\Blk w2 (w.heap.size+1) X1 196):=⟨ai,an,ag,aj⟩
 have af:=ae.aG (p:=⟨gb,514,none⟩) (by simp;omega) (.slice (some ⟨g,0,none⟩) (R.aC.length+1) B);have ak:∀k,k=g->O k\/w.heap.size<=k:=by
  intro k e;subst e;rcases M with e|e
  ·exact .inl (h.dN _ e).1
  ·exact .inr (by omega)
 have a8:g≠w.heap.size+1:=by
  intro e;subst e;rcases M with e|e
  ·have:=nO _ (h.dN _ e).1;omega
  ·omega
 have aq:=Hd a8;have HG:=Hd ak;have ar:=Hd nO;have a7:O gb:=h.og;clear ai an ag aj ae a6 a3 ah a4 K M ak a8 nO a9 c1 a1 W cg h ap a2;go_wp2_with(refine Sn rfl (.tmp 3) rfl w.heap.size rfl af ?_)
 go_loopg[25] 256 (fun G i wr=>∃k:Nat,k<=256/\G=256-k/\i=.int .i64 k/\
  C1 wr gb (fun k=>O k\/k=g) { R with aC:=R.aC++ [I0.none],aJ:=Ah R.aJ A (I0.only R.aC.length) k } (.slice (some ⟨g,0,none⟩) (R.aC.length+1) B) lv/\
  C0 O w wr/\Blk wr V.heap.size (K5 (I0.only R.aC.length)) 122/\Blk wr (w.heap.size+1) X1 196)
 case atStart=>
  obtain⟨q1,q2,q3,q4⟩:=ab.out;refine⟨0,by omega,rfl,rfl,?_,q2.setCell (fun _=>a7) _,q3.aG (by simp;omega) _,q4.aG (by simp;omega) _⟩;have e0:Ah R.aJ A (I0.only R.aC.length) 0=R.aJ:=by funext b;simp[Ah]
  rw[e0];exact q1
 case round=>
  obtain⟨k,hk,rfl,rfl,D,Y,J,f⟩:=hrel;clear ab af au av
  by_cases a5:k<256
  ·have e0:decide ((k:Int)<256)=true:=by simp;omega
   have am:=SW A k a5;cases hAk:A k with
   |false=>
    rw[hAk]at am;have Z:Hid (C1 wr gb (fun k=>O k\/k=g) { R with aC:=R.aC++ [I0.none],aJ:=Ah R.aJ A (I0.only R.aC.length) k } (.slice (some ⟨g,0,none⟩) (R.aC.length+1) B) lv/\
     C0 O w wr/\Blk wr V.heap.size (K5 (I0.only R.aC.length)) 122/\Blk wr (w.heap.size+1) X1 196):=⟨D,Y,J,f⟩
    have HA:=Hd hAk;clear D Y J f hAk;go_wp2_with fail
    go_roundg (256- (k+1))
    case measure=>omega
    case rel=>
     obtain⟨q1,q2,q3,q4⟩:=Z.out;exact⟨k+1,by omega,rfl,by go_num,by rw[EM _ _ _ k HA.out];exact q1,q2,q3,q4⟩
   |true=>
    rw[hAk]at am;have g0:wr.cell? ⟨gb,k*2,none⟩=some (.int .u64 ((R.aJ k).lo.toNat:Int)):=by rw[D.aO.cell,BL _ _ _ _ k a5];simp only[QH]
    have g1:wr.cell? ⟨gb,k*2+1,none⟩=some (.int .u64 ((R.aJ k).hi.toNat:Int)):=by rw[D.aO.cell,CL _ _ _ _ k a5];simp only[QH]
    have aw:=D.aO.frozen (k*2);have ax:=D.aO.frozen (k*2+1);have p0:wr.cell? ⟨V.heap.size,0,none⟩=some (.int .u64 ((I0.only R.aC.length).lo.toNat:Int)):=J.cell 0;have p1:wr.cell? ⟨V.heap.size,1,none⟩=some (.int .u64 ((I0.only R.aC.length).hi.toNat:Int)):=J.cell 1;have i0:(0:Int)<=(k:Int):=by omega
    have i1:(k:Int)<256:=by omega
    have z3:gb<wr.heap.size:=D.aO.lt;have Z:Hid (C1 wr gb (fun k=>O k\/k=g) { R with aC:=R.aC++ [I0.none],aJ:=Ah R.aJ A (I0.only R.aC.length) k } (.slice (some ⟨g,0,none⟩) (R.aC.length+1) B) lv/\
     C0 O w wr/\Blk wr V.heap.size (K5 (I0.only R.aC.length)) 122/\Blk wr (w.heap.size+1) X1 196):=⟨D,Y,J,f⟩
    have HA:=Hd hAk;clear D Y J f hAk;go_wp2_with fail
    go_region_with (go_at_call 118;refine(Ni (R.aJ k) (I0.only R.aC.length) _).mono ?_;rintro e w5 ⟨rfl,U⟩;have q0:=(U.cell (p:=⟨gb,k*2,none⟩) z3).trans g0;have q1:=(U.cell (p:=⟨gb,k*2+1,none⟩) z3).trans g1;have p0:=(U.frozen (p:=⟨gb,k*2,none⟩) z3).trans aw;have p1:=(U.frozen (p:=⟨gb,k*2+1,none⟩) z3).trans ax)
    all_goals
     go_wp2_with fail
     go_roundg (256- (k+1))
     case measure=>omega
     case rel=>
      obtain⟨q1,q2,q3,q4⟩:=Z.out;have ay:=(q1.drew.aA U).iS k a5 ((R.aJ k).or (I0.only R.aC.length));refine⟨k+1,by omega,rfl,by go_num,?_,?_,?_,?_⟩
      ·rw[FM _ _ _ k HA.out];exact ay
      ·exact(((q2.drew).aA U).setCell (fun _=>a7) _).setCell (fun _=>a7) _
      ·exact((q3.drew.aA U).aG (by simp;omega) _).aG (by simp;omega) _
      ·exact((q4.drew.aA U).aG (by simp;omega) _).aG (by simp;omega) _
  ·have e0:decide ((k:Int)<256)=false:=by simp;omega
   have p0:wr.cell? ⟨V.heap.size,0,none⟩=some (.int .u64 ((I0.only R.aC.length).lo.toNat:Int)):=J.cell 0;have p1:wr.cell? ⟨V.heap.size,1,none⟩=some (.int .u64 ((I0.only R.aC.length).hi.toNat:Int)):=J.cell 1;have z0:wr.cell? ⟨w.heap.size+1,0,none⟩=some (.int .u64 0):=f.cell 0;have b6:wr.cell? ⟨w.heap.size+1,1,none⟩=some (.int .u64 0):=f.cell 1;have z2:wr.cell? ⟨w.heap.size+1,2,none⟩=some (.int .u64 0):=f.cell 2;have z3:wr.cell? ⟨w.heap.size+1,3,none⟩=some (.int .u64 0):=f.cell 3;have z4:wr.cell? ⟨w.heap.size+1,4,none⟩=some (.bool false):=f.cell 4;have f0:=f.frozen 0;have f1:=f.frozen 1;have f2:=f.frozen 2;have f3:=f.frozen 3;have f4:=f.frozen 4;have Z:Hid (C1 wr gb (fun k=>O k\/k=g) { R with aC:=R.aC++ [I0.none],aJ:=Ah R.aJ A (I0.only R.aC.length) k } (.slice (some ⟨g,0,none⟩) (R.aC.length+1) B) lv/\
     C0 O w wr/\Blk wr (w.heap.size+1) X1 196):=⟨D,Y,f⟩
   clear D Y J f;go_wp2_with fail;obtain⟨q1,q2,q4⟩:=Z.out;have a8:=aq.out;have hq:∀{X:World} {v:Value} {j:Nat} {R':E0} {a0 aa:Value},C1 X gb (fun k=>O k\/k=g) R' a0 aa->C1 (X.setCell ⟨w.heap.size+1,j,none⟩ v) gb (fun k=>O k\/k=g) R' a0 aa:=fun{X v j R' a0 aa} hX=>
    hX.kept (ex:=fun k=>k=w.heap.size+1) (C0.setCell (ex:=fun k=>k=w.heap.size+1) (C0.refl _ _) (fun _=>rfl) _) (fun b hb e=>by
     rcases hb with hb|hb
     ·have:=ar.out b hb;omega
     ·omega)
   have q5:=q1.eW (al:=Ae R.aJ A (I0.only R.aC.length)) (fun b hb=>by simp[Ah,show b<k by omega]);exact bodyPost_ret (Ud (q:=R.addPart) Tryz.results147 _ rfl (((((q4.set 0 _).set 1 _).set 2 _).set 3 _).set 4 _)) rfl
    ⟨rfl,_,_,hq (hq (hq (hq (hq q5)))),((((q2.setCell (by simp;omega) _).setCell (by simp;omega) _).setCell (by simp;omega) _).setCell (by simp;omega) _).setCell (by simp;omega) _,fun k hk=>hk.elim .inl (fun e=>HG.out k e)⟩
def Q2(w:World)(v:Value)(l:List Int):Prop:=w.ownsRow 0 3 1 v l.length (l.map (Value.int .i64))
def E6(w:World)(v:Value)(l:List Bool):Prop:=w.ownsRow 0 4 1 v l.length (l.map Value.bool)
def Et(w:World)(v:Value)(l:List Value):Prop:=w.ownsRow 0 68 1 v l.length l
structure Y6(w:World)(rv nv:Value)(g:B0):Prop where
 aB:Q2 w rv g.aB
 next:∃vs:List Value,Et w nv vs/\vs.length=g.next.length/\∀i v,vs[i]?=some v->Q2 w v (g.next.getD i [])
section
variable{w w':World}{v:Value}
theorem Q2.kept{l:List Int}{ex:Nat->Prop}(h:Q2 w v l)(k:C0 ex w w')(f:∀b,v.ownBlock=some b->¬ex b):Q2 w' v l:=K0 h k f
theorem E6.kept{l:List Bool}{ex:Nat->Prop}(h:E6 w v l)(k:C0 ex w w')(f:∀b,v.ownBlock=some b->¬ex b):E6 w' v l:=K0 h k f
theorem Et.kept{l:List Value}{ex:Nat->Prop}(h:Et w v l)(k:C0 ex w w')(f:∀b,v.ownBlock=some b->¬ex b):Et w' v l:=K0 h k f
theorem Q2.aA{l:List Int}(h:Q2 w v l)(k:Bw w w'):Q2 w' v l:=h.kept (ex:=fun _=>False) (C0.aM k) (fun _ _ e=>e)
theorem E6.aA{l:List Bool}(h:E6 w v l)(k:Bw w w'):E6 w' v l:=h.kept (ex:=fun _=>False) (C0.aM k) (fun _ _ e=>e)
theorem Et.aA{l:List Value}(h:Et w v l)(k:Bw w w'):Et w' v l:=h.kept (ex:=fun _=>False) (C0.aM k) (fun _ _ e=>e)
theorem Q1{e:TypeId}{f n:Nat}{J:List Value}(h:w.ownsRow 0 e f v n J):∀b,v.ownBlock=some b->b<w.heap.size:=by
 intro b B;obtain⟨_,⟨rfl,_⟩|⟨g,D,cur,rfl,_,G,_⟩⟩:=h
 ·simp[Value.ownBlock]at B
 ·cases(zE B:g=b);exact Blk.lt (G:Blk w _ cur e)
theorem Y6.aA{B f:Value}{g:B0}(h:Y6 w B f g)(k:Bw w w'):Y6 w' B f g:=by
 obtain⟨M,D,G,J⟩:=h.next;exact⟨h.aB.aA k,M,D.aA k,G,fun i v K=>(J i v K).aA k⟩
theorem Q2.aV{l:List Int}(h:Q2 w v l):∃(B:Option Addr) (f:Nat),v=.slice B l.length f/\(l.length=0\/∃g,B=some ⟨g,0,none⟩):=by
 obtain⟨_,B,f,rfl,D⟩:=P0 h;refine⟨B,f,rfl,?_⟩;rcases D with⟨_,e⟩|⟨g,_,e,_⟩
 ·exact .inl e
 ·exact .inr ⟨g,e⟩
theorem Q2.cell{l:List Int}{g f:Nat}(h:Q2 w (.slice (some ⟨g,0,none⟩) l.length f) l)(j:Nat)(B:j<l.length):w.cell? ⟨g,j,none⟩=some (.int .i64 l[j]):=by
 rw[Y0 h j (by omega)];simp[B]
theorem E6.aV{l:List Bool}(h:E6 w v l):∃(B:Option Addr) (f:Nat),v=.slice B l.length f/\(l.length=0\/∃g,B=some ⟨g,0,none⟩):=by
 obtain⟨_,B,f,rfl,D⟩:=P0 h;refine⟨B,f,rfl,?_⟩;rcases D with⟨_,e⟩|⟨g,_,e,_⟩
 ·exact .inl e
 ·exact .inr ⟨g,e⟩
theorem E6.cell{l:List Bool}{g f:Nat}(h:E6 w (.slice (some ⟨g,0,none⟩) l.length f) l)(j:Nat)(B:j<l.length):w.cell? ⟨g,j,none⟩=some (.bool l[j]):=by
 rw[Y0 h j (by omega)];simp[B]
theorem Et.aV{l:List Value}(h:Et w v l):∃(B:Option Addr) (f:Nat),v=.slice B l.length f/\(l.length=0\/∃g,B=some ⟨g,0,none⟩):=by
 obtain⟨_,B,f,rfl,D⟩:=P0 h;refine⟨B,f,rfl,?_⟩;rcases D with⟨_,e⟩|⟨g,_,e,_⟩
 ·exact .inl e
 ·exact .inr ⟨g,e⟩
theorem Et.cell{l:List Value}{g f:Nat}(h:Et w (.slice (some ⟨g,0,none⟩) l.length f) l)(j:Nat)(B:j<l.length):w.cell? ⟨g,j,none⟩=some l[j]:=by
 rw[Y0 h j (by omega)];simp[B]
end
def Al(n:Nat)(f:List Int):Prop:=∀to∈f,to= -1\/(0<=to/\to<(n:Int))
theorem US(rv mv:Value)(h:List Int)(f:List Bool)(w:World)(hr:Q2 w rv h)(hm:E6 w mv f)(hl:h.length<=1000)(a2:f.length<=1000)(Z:Al f.length h):
  Calls Tryz.prog 121 #[rv,mv] w fun e w'=>e=.returned (.bool (Fg h f))/\w'=w:=by
 obtain⟨ad,a1,rfl,W⟩:=hr.aV;obtain⟨md,a0,rfl,U⟩:=hm.aV;generalize Y:Fg h f=F;unfold Fg at Y;have HF:=Hd Y;clear Y;go_enter Tryz.func121,Tryz.ntmps121;go_wp2_with fail
 go_loopg[9] h.length (fun g i wr=>∃k:Nat,k<=h.length/\g=h.length-k/\i=.int .i64 k/\wr=w/\(h.drop k).any (fun V=>V != -1 && f.getD V.toNat false)=F)
 case atStart=>exact⟨0,by omega,rfl,rfl,rfl,by simpa using HF.out⟩
 case round=>
  obtain⟨k,hk,rfl,rfl,rfl,B⟩:=hrel;clear HF
  by_cases M:k<h.length
  ·have e0:decide ((k:Int)<(h.length:Int))=true:=by simp;omega
   rcases W with h0|⟨g,rfl⟩
   ·omega
   have r0:=hr.cell k M;have i0:(0:Int)<=(k:Int):=by omega
   have i1:(k:Int)<(h.length:Int):=by omega
   rw[yA M,List.any_cons]at B;have D:=Z h[k] (zG M);generalize h[k]=V at r0 B D
   by_cases X:V= -1
   ·subst X;have G:=Hd B;clear B D;go_wp2_with fail
    go_roundg (h.length- (k+1))
    case measure=>omega
    case rel=>exact⟨k+1,by omega,rfl,by go_num,rfl,by simpa using G.out⟩
   ·have e1:(V != -1)=true:=by simp[X]
    obtain⟨j,rfl⟩:∃j:Nat,V=(j:Int):=⟨V.toNat,by omega⟩;have hj:j<f.length:=by omega
    rcases U with h0|⟨mg,rfl⟩
    ·omega
    have m0:=hm.cell j hj;have j0:(0:Int)<=(j:Int):=by omega
    have j1:(j:Int)<(f.length:Int):=by omega
    have K:f.getD j false=f[j]:=by simp[hj]
    simp only[zH,K,e1,Bool.true_and]at B;cases hb:f[j]with
    |true=>
     rw[hb]at B m0;have J:F=true:=by simpa using B.symm
     subst J;clear B K hb D X;go_wp2_with fail;go_ret;exact⟨rfl,rfl⟩
    |false=>
     rw[hb]at B m0;have G:=Hd B;clear B K hb D X;go_wp2_with fail
     go_roundg (h.length- (k+1))
     case measure=>omega
     case rel=>exact⟨k+1,by omega,rfl,by go_num,rfl,by simpa using G.out⟩
  ·have e0:decide ((k:Int)<(h.length:Int))=false:=by simp;omega
   rw[yY (by omega)]at B;have J:F=false:=by simpa using B.symm
   subst J;clear B;go_wp2_with fail;go_ret;exact⟨rfl,rfl⟩
theorem W4.aA{w w':World}{v:Value}{l:List I0}(h:W4 w v l)(k:Bw w w'):W4 w' v l:=K0 (ex:=fun _=>False) h (C0.aM k) (fun _ _ e=>e)
theorem MW(v:Value)(l:List I0)(s:I0)(w:World)(h:W4 w v l)(hl:l.length<=1000):
  Calls Tryz.prog 91 #[v,Qg s] w fun e w'=>e=.returned (.int .i64 (C6 l s))/\Bw w w':=by
 obtain⟨_,ad,a0,rfl,U⟩:=P0 h;unfold C6;cases he:s.isEmpty with
 |true=>
  rw[if_pos rfl];go_enter Tryz.func91,Tryz.ntmps91;go_wp2_with fail;refine(LC s _).mono ?_;rintro e X ⟨rfl,B⟩;rw[he];go_wp2_with fail;go_ret;exact⟨rfl,(N0 w _).trans (B.mono (by simp))⟩
 |false=>
  rw[if_neg (by simp)];generalize hF:H9 l s=F;have Z:=Hd hF;have HR:=Hd h;clear hF h;go_enter Tryz.func91,Tryz.ntmps91;go_wp2_with fail;refine(LC s _).mono ?_;rintro e X ⟨rfl,B⟩;rw[he];have Y:Hid (Bw w X/\Blk X w.heap.size (K5 s) 122):=⟨(N0 w _).trans (B.mono (by simp)),(Blk.aR w _ _).aA B⟩;clear B;go_wp2_with fail
  go_loopg[11] l.length (fun g i wr=>∃k:Nat,k<=l.length/\g=l.length-k/\i=.int .i64 k/\
   Bw w wr/\Blk wr w.heap.size (K5 s) 122/\k+H9 (l.drop k) s=F)
  case atStart=>
   obtain⟨q1,q2⟩:=Y.out;exact⟨0,by omega,rfl,rfl,q1,q2,by simpa using Z.out⟩
  case round=>
   obtain⟨k,hk,rfl,rfl,J,G,f⟩:=hrel;clear Y Z
   by_cases D:k<l.length
   ·have e0:decide ((k:Int)<(l.length:Int))=true:=by simp;omega
    rcases U with⟨rfl,h0⟩|⟨fb,cur,rfl,_⟩
    ·omega
    have K:=HR.out.aA J;have r0:wr.cell? ⟨fb,k*2,none⟩=some (.int .u64 (l[k].lo.toNat:Int)):=by rw[Y0 K _ (by omega),Mc _ k D]
    have r1:wr.cell? ⟨fb,k*2+1,none⟩=some (.int .u64 (l[k].hi.toNat:Int)):=by rw[Y0 K _ (by omega),Nc _ k D]
    have i0:(0:Int)<=(k:Int):=by omega
    have i1:(k:Int)<(l.length:Int):=by omega
    have s0:wr.cell? ⟨w.heap.size,0,none⟩=some (.int .u64 (s.lo.toNat:Int)):=G.cell 0;have s1:wr.cell? ⟨w.heap.size,1,none⟩=some (.int .u64 (s.hi.toNat:Int)):=G.cell 1;have a1:w.heap.size<wr.heap.size:=G.lt;have V:Hid (Bw w wr/\Blk wr w.heap.size (K5 s) 122/\k+H9 (l.drop k) s=F):=⟨J,G,f⟩;clear J G K f;cases B:((l[k].lo.toNat:Int)==(s.lo.toNat:Int))with
    |false=>
     have W:=Hd (I0.jN B);go_wp2_with fail
     go_roundg (l.length- (k+1))
     case measure=>omega
     case rel=>
      obtain⟨J,G,f⟩:=V.out;rw[Tg l s k D,if_neg W.out]at f;exact⟨k+1,by omega,rfl,by go_num,J.alloc (by omega) _,G.alloc _,by omega⟩
    |true=>
     cases hb2:((l[k].hi.toNat:Int)==(s.hi.toNat:Int))with
     |false=>
      have W:=Hd (I0.jM hb2);go_wp2_with fail
      go_roundg (l.length- (k+1))
      case measure=>omega
      case rel=>
       obtain⟨J,G,f⟩:=V.out;rw[Tg l s k D,if_neg W.out]at f;exact⟨k+1,by omega,rfl,by go_num,J.alloc (by omega) _,G.alloc _,by omega⟩
     |true=>
      have hN:=I0.jI B hb2;have M:F=k:=by
       have f:=V.out.2.2;rw[Tg l s k D,if_pos hN]at f;omega
      subst M;clear hN;go_wp2_with fail;go_ret;exact⟨rfl,V.out.1.alloc (by omega) _⟩
   ·have e0:decide ((k:Int)<(l.length:Int))=false:=by simp;omega
    rw[yY (by omega)]at f;have M:F=l.length:=by simp[H9]at f;omega
    subst M;clear f;go_wp2_with fail;go_ret;exact⟨rfl,J⟩
theorem Dj(s:I0):∀(l m:List I0) (k:Nat) (h:I0),Y8 s k (l++m) h=Y8 s (k+l.length) m (Y8 s k l h)
 | [],m,k,h=>by simp[Y8]
 |f::r,m,k,h=>by
  simp only[List.cons_append,Y8,yH];rw[Dj s r m (k+1),show k+1+r.length=k+(r.length+1) by omega]
def T9(s:I0)(l:List I0)(k:Nat):I0:=Y8 s 0 (l.take k) I0.none
theorem Jq(s:I0)(l:List I0)(k:Nat)(h:k<l.length):T9 s l (k+1)=if s.has k then(T9 s l k).or l[k]else T9 s l k:=by
 unfold T9;have f:(l.take k).length=k:=by rw[List.length_take];omega
 rw[yO h,Dj,f,yX];simp[Y8]
theorem TH(s:I0)(l:List I0)(k:Nat)(h:l.length<=k):T9 s l k=Y8 s 0 l I0.none:=by
 unfold T9;rw[zO h]
theorem Tryz.kQ:(Tryz.prog.info? 122).map (·.size)=some 2:=by kernel_rfl
theorem RO{B:Func}{p:Tmp}(h:B.results=#[.cell p 122]){q:I0}(f:Array Value){w:World}{g:Nat}
  (G:f.getD p undef=.pointer (some ⟨g,0,none⟩)) (D:Blk w g (K5 q) 122):(results B f).run Tryz.prog w=.ok (Qg q) w:=
 results_cell_row h f w g 122 _ (0,0) _ G D Tryz.underlying122 rfl Tryz.kQ
theorem JR(R:E0)(gb:Nat)(O:Nat->Prop)(fv lv:Value)(s:I0)(w:World)(h:C1 w gb O R fv lv)(hl:R.aC.length<=1000):
  Calls Tryz.prog 89 #[.pointer (some ⟨gb,0,none⟩),Qg s] w fun e w'=>
   e=.returned (Qg (R.after s))/\Bw w w':=by
 obtain⟨_,ad,a5,rfl,a3⟩:=P0 h.fA;have cg:w.cell? ⟨gb,514,none⟩=some (.slice ad R.aC.length a5):=by rw[h.aO.cell];exact Hf _ _ _ _
 have aa:=h.aO.lt;have a6:gb<w.heap.size+1:=by omega
 have a7:gb<w.heap.size+1+1:=by omega
 go_enter Tryz.func89,Tryz.ntmps89;go_wp2_with fail
 go_loopg[14] R.aC.length (fun g i wr=>∃k:Nat,k<=R.aC.length/\g=R.aC.length-k/\i=.int .i64 k/\
  Bw w wr/\Blk wr w.heap.size (K5 s) 122/\Blk wr (w.heap.size+1) (K5 I0.none) 122/\Blk wr (w.heap.size+1+1) (K5 (T9 s R.aC k)) 122)
 case atStart=>
  refine⟨0,by omega,rfl,rfl,Pw _ _ _ _,((Blk.aR w _ _).alloc _).alloc _,?_,?_⟩
  ·exact(Blk.dX w _ _ _).alloc _
  ·exact Blk.lU w _ _ _ _
 case round=>
  obtain⟨k,hk,rfl,rfl,hb,hS,K,Y⟩:=hrel
  by_cases X:k<R.aC.length
  ·have e0:decide ((k:Int)<(R.aC.length:Int))=true:=by simp;omega
   rcases a3 with⟨rfl,h0⟩|⟨fb,cur,rfl,_⟩
   ·omega
   have a2:=h.aA hb;have r0:wr.cell? ⟨fb,k*2,none⟩=some (.int .u64 (R.aC[k].lo.toNat:Int)):=by rw[Y0 a2.fA _ (by omega),Mc _ k X]
   have r1:wr.cell? ⟨fb,k*2+1,none⟩=some (.int .u64 (R.aC[k].hi.toNat:Int)):=by rw[Y0 a2.fA _ (by omega),Nc _ k X]
   have i0:(0:Int)<=(k:Int):=by omega
   have i1:(k:Int)<(R.aC.length:Int):=by omega
   have s0:wr.cell? ⟨w.heap.size,0,none⟩=some (.int .u64 (s.lo.toNat:Int)):=hS.cell 0;have s1:wr.cell? ⟨w.heap.size,1,none⟩=some (.int .u64 (s.hi.toNat:Int)):=hS.cell 1;have zs:w.heap.size+1+1<wr.heap.size:=Y.lt;have ae:w.heap.size<wr.heap.size:=by omega
   have Z:Hid (Bw w wr/\Blk wr w.heap.size (K5 s) 122/\Blk wr (w.heap.size+1) (K5 I0.none) 122/\Blk wr (w.heap.size+1+1) (K5 (T9 s R.aC k)) 122):=⟨hb,hS,K,Y⟩;have HR:=Hd h;clear hb hS K Y a2 h cg;go_wp2_with fail;refine(WP s k (by omega) _).mono ?_;rintro e G ⟨rfl,f⟩;obtain⟨hb,hS,K,Y⟩:=Z.out;have U:=(hS.alloc (.cells (K5 R.aC[k]) 122)).aA f;have V:=(K.alloc (.cells (K5 R.aC[k]) 122)).aA f;have B:=(Y.alloc (.cells (K5 R.aC[k]) 122)).aA f;have M:=(Blk.aR wr (K5 R.aC[k]) 122).aA f;have W:=(hb.alloc (by omega) (.cells (K5 R.aC[k]) 122)).trans (f.mono (by simp;omega));clear hb hS K Y Z;cases hh:s.has k with
   |false=>
    have Z:Hid (Bw w G/\Blk G w.heap.size (K5 s) 122/\Blk G (w.heap.size+1) (K5 I0.none) 122/\Blk G (w.heap.size+1+1) (K5 (T9 s R.aC k)) 122):=⟨W,U,V,B⟩;have HF:=Hd hh;clear W U V B M f hh;go_wp2_with fail
    go_roundg (R.aC.length- (k+1))
    case measure=>omega
    case rel=>
     obtain⟨q1,q2,q3,q4⟩:=Z.out;exact⟨k+1,by omega,rfl,by go_num,q1,q2,q3,by rw[Jq s _ k X,if_neg (by simp[HF.out])];exact q4⟩
   |true=>
    have a0:G.cell? ⟨w.heap.size+1+1,0,none⟩=some (.int .u64 ((T9 s R.aC k).lo.toNat:Int)):=B.cell 0;have a1:G.cell? ⟨w.heap.size+1+1,1,none⟩=some (.int .u64 ((T9 s R.aC k).hi.toNat:Int)):=B.cell 1;have f0:G.cell? ⟨wr.heap.size,0,none⟩=some (.int .u64 (R.aC[k].lo.toNat:Int)):=M.cell 0;have f1:G.cell? ⟨wr.heap.size,1,none⟩=some (.int .u64 (R.aC[k].hi.toNat:Int)):=M.cell 1;have Z:Hid (Bw w G/\Blk G w.heap.size (K5 s) 122/\Blk G (w.heap.size+1) (K5 I0.none) 122/\Blk G (w.heap.size+1+1) (K5 (T9 s R.aC k)) 122):=⟨W,U,V,B⟩;have HF:=Hd hh;clear W U V B M f hh;go_wp2_with fail;refine(Ni (T9 s R.aC k) R.aC[k] _).mono ?_;rintro e w2 ⟨rfl,J⟩;obtain⟨q1,q2,q3,q4⟩:=Z.out;have D:=q4.aA J;have g0:=D.cell 0;have g1:=D.cell 1;have a8:=D.frozen 0;have a9:=D.frozen 1;simp only[yT,List.getElem?_cons_zero,List.getElem?_cons_succ]at g0 g1;have a4:Hid (Bw w w2/\Blk w2 w.heap.size (K5 s) 122/\Blk w2 (w.heap.size+1) (K5 I0.none) 122/\Blk w2 (w.heap.size+1+1) (K5 (T9 s R.aC k)) 122):=⟨q1.trans (J.mono (by have:=q1.size;omega)),q2.aA J,q3.aA J,D⟩;clear q1 q2 q3 q4 D J Z;go_wp2_with fail
    go_roundg (R.aC.length- (k+1))
    case measure=>omega
    case rel=>
     obtain⟨q1,q2,q3,q4⟩:=a4.out;refine⟨k+1,by omega,rfl,by go_num,(q1.setCell (by simp;omega) _).setCell (by simp;omega) _,(q2.aG (by simp;omega) _).aG (by simp;omega) _,(q3.aG (by simp) _).aG (by simp) _,?_⟩;rw[Jq s _ k X,if_pos HF.out];exact(q4.set 0 _).set 1 _
  ·have e0:decide ((k:Int)<(R.aC.length:Int))=false:=by simp;omega
   have a0:wr.cell? ⟨w.heap.size+1+1,0,none⟩=some (.int .u64 ((T9 s R.aC k).lo.toNat:Int)):=Y.cell 0;have a1:wr.cell? ⟨w.heap.size+1+1,1,none⟩=some (.int .u64 ((T9 s R.aC k).hi.toNat:Int)):=Y.cell 1;have z0:wr.cell? ⟨w.heap.size+1,0,none⟩=some (.int .u64 0):=K.cell 0;have z1:wr.cell? ⟨w.heap.size+1,1,none⟩=some (.int .u64 0):=K.cell 1;have ab:=K.frozen 0;have ac:=K.frozen 1;have HA:=Hd (TH s R.aC k (by omega));go_wp2_with fail;have e9:R.after s=T9 s R.aC k:=HA.out.symm;rw[e9];exact bodyPost_ret (RO Tryz.results89 _ rfl ((K.set 0 _).set 1 _)) rfl ⟨rfl,(hb.setCell (by simp) _).setCell (by simp) _⟩
theorem LB(s:I0)(l:List I0)(k:Nat)(h:k<l.length):Kc s k (l.drop k)=if s.cL l[k]then(k:Int)else Kc s (k+1) (l.drop (k+1)):=by
 rw[yA h];rfl
theorem VX(R:E0)(gb:Nat)(O:Nat->Prop)(fv lv:Value)(s:I0)(w:World)(h:C1 w gb O R fv lv)(hl:R.last.length<=1000):
  Calls Tryz.prog 92 #[.pointer (some ⟨gb,0,none⟩),Qg s] w fun e w'=>
   e=.returned (.int .i64 (R.aB s))/\Bw w w':=by
 obtain⟨_,ad,Y,rfl,W⟩:=P0 h.iJ;have cg:w.cell? ⟨gb,515,none⟩=some (.slice ad R.last.length Y):=by rw[h.aO.cell];exact Tz _ _ _ _
 have a1:=h.aO.lt;have a0:gb<w.heap.size+1:=by omega
 generalize hF:R.aB s=F;have X:Hid (Kc s 0 R.last=F):=hF;clear hF;go_enter Tryz.func92,Tryz.ntmps92;go_wp2_with fail
 go_loopg[12] R.last.length (fun g i wr=>∃k:Nat,k<=R.last.length/\g=R.last.length-k/\i=.int .i64 k/\
  Bw w wr/\Blk wr w.heap.size (K5 s) 122/\Kc s k (R.last.drop k)=F)
 case atStart=>
  exact⟨0,by omega,rfl,rfl,N0 _ _,Blk.aR w _ _,X.out⟩
 case round=>
  obtain⟨k,hk,rfl,rfl,M,G,f⟩:=hrel
  by_cases U:k<R.last.length
  ·have e0:decide ((k:Int)<(R.last.length:Int))=true:=by simp;omega
   rcases W with⟨rfl,h0⟩|⟨fb,cur,rfl,_⟩
   ·omega
   have J:=h.aA M;have r0:wr.cell? ⟨fb,k*2,none⟩=some (.int .u64 (R.last[k].lo.toNat:Int)):=by rw[Y0 J.iJ _ (by omega),Mc _ k U]
   have r1:wr.cell? ⟨fb,k*2+1,none⟩=some (.int .u64 (R.last[k].hi.toNat:Int)):=by rw[Y0 J.iJ _ (by omega),Nc _ k U]
   have i0:(0:Int)<=(k:Int):=by omega
   have i1:(k:Int)<(R.last.length:Int):=by omega
   have s0:wr.cell? ⟨w.heap.size,0,none⟩=some (.int .u64 (s.lo.toNat:Int)):=G.cell 0;have s1:wr.cell? ⟨w.heap.size,1,none⟩=some (.int .u64 (s.hi.toNat:Int)):=G.cell 1;have a2:w.heap.size<wr.heap.size:=G.lt;have V:Hid (Bw w wr/\Blk wr w.heap.size (K5 s) 122/\Kc s k (R.last.drop k)=F):=⟨M,G,f⟩;clear M G J h cg f X;go_wp2_with fail;refine(CD s R.last[k] _).mono ?_;rintro e w1 ⟨rfl,B⟩;obtain⟨M,G,f⟩:=V.out;have K:=(G.alloc (.cells (K5 R.last[k]) 122)).aA B;have D:=(M.alloc (by omega) (.cells (K5 R.last[k]) 122)).trans (B.mono (by simp;omega));rw[LB s _ k U]at f;clear M G V;cases hh:s.cL R.last[k]with
   |false=>
    rw[hh,if_neg (by simp)]at f;have V:Hid (Bw w w1/\Blk w1 w.heap.size (K5 s) 122/\Kc s (k+1) (R.last.drop (k+1))=F):=⟨D,K,f⟩;clear D K f B hh;go_wp2_with fail
    go_roundg (R.last.length- (k+1))
    case measure=>omega
    case rel=>
     obtain⟨q1,q2,q3⟩:=V.out;exact⟨k+1,by omega,rfl,by go_num,q1,q2,q3⟩
   |true=>
    rw[hh,if_pos rfl]at f;subst f;have V:Hid (Bw w w1):=D;clear D K B hh;go_wp2_with fail;go_ret;exact⟨rfl,V.out⟩
  ·have e0:decide ((k:Int)<(R.last.length:Int))=false:=by simp;omega
   rw[yY (by omega)]at f;have Z:F= -1:=f.symm;subst Z;clear f X;go_wp2_with fail;go_ret;exact⟨rfl,M⟩
end Go.Proofs.YtcckhngbdoiikabGreat
