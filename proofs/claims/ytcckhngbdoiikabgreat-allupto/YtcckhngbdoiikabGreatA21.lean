import Derived.Test.YtcckhngbdoiikabGreatA19
import Derived.Test.YtcckhngbdoiikabGreatA17
set_option maxRecDepth 20000
set_option maxHeartbeats 12800000
set_option linter.unusedVariables false
namespace Go.Proofs.YtcckhngbdoiikabGreat
open Go.RowKit Go.Deep
theorem Ho(s:ByteArray):∀(n:Nat) (r:Bool×Nat×E0),r.2.1<=s.size/\r.2.2.aC.length<=r.2.1/\r.2.2.last.length<=r.2.1->
  (M3 s n r).2.1<=s.size/\(M3 s n r).2.2.aC.length<=(M3 s n r).2.1/\(M3 s n r).2.2.last.length<=(M3 s n r).2.1
 |0,r,h=>h
 |n+1,r,h=>by
  unfold M3;split
  ·rename_i f;have B:=A1 (s:=s) (p:=r.2.1) (by rw[f.2];decide);have g:=Sk s (r.2.1+1) r.2.2 (by omega) (by omega) (by omega);exact Ho s n _ ⟨g.cV,g.bU,g.last⟩
  ·exact h
theorem LR(s:ByteArray):(Va s).2.1<=s.size/\(Va s).2.2.aC.length<=s.size/\(Va s).2.2.last.length<=s.size:=by
 have g:=Sk s 0 E0.aR (by omega) (by simp[E0.aR]) (by simp[E0.aR]);have:=Ho s (s.size+1) (D6 s 0 E0.aR) ⟨g.cV,g.bU,g.last⟩;unfold Va;simp only;omega
inductive FR where
 |bad (e bD:Nat)
 |lexer (kd:Nat->Nat) (g:B0)
def newF(s:ByteArray):FR:=
 if 120<s.size then .bad 1 0
 else if(Va s).1=false then .bad 2 (Va s).2.1
 else match N3 (Va s).2.2 with
  |none=>.bad 3 0
  |some (kd,g)=>.lexer kd g
def W7(w:World)(B:Nat)(kd:Nat->Nat)(g:B0):Prop:=∃h f,Blk w B (V6 kd h f) 75/\Y6 w h f g
def Aa5(w':World)(e:Ending):FR->Prop
 |.bad c a=>e=.returned (.tuple #[.pointer none,.int .i64 c,.int .i64 a])
 |.lexer kd g=>∃f,e=.returned (.tuple #[.pointer (some ⟨f,0,none⟩),.int .i64 0,.int .i64 0])/\W7 w' f kd g
theorem EZ(s:ByteArray)(hm:s.size<=maxLen)(w:World):
  Calls Tryz.prog 11 #[.string s] w fun e w'=>Bw w w'/\Aa5 w' e (newF s):=by
 by_cases hs:120<s.size
 ·have e1:newF s=.bad 1 0:=by unfold newF;rw[if_pos hs]
  rw[e1];have HC:=Hd (BU s hs hm);clear e1 hm;go_enter Tryz.func11,Tryz.ntmps11;go_wp2_with fail;refine(HC.out _).mono ?_;rintro e w1 ⟨rfl,rfl⟩;go_wp2_with fail
  go_ret3
  exact⟨Below.refl _ _,rfl⟩
 ·have HC:=Hd (QX s (by omega));have a0:=LR s;generalize hX:newF s=X;unfold newF at hX;rw[if_neg hs]at hX;generalize Va s=F at HC a0 hX;obtain⟨ok,p,R⟩:=F;have HX:=Hd hX;clear hX hm;go_enter Tryz.func11,Tryz.ntmps11;go_wp2_with fail;refine(HC.out _).mono ?_;rintro e w1 ⟨Z,f⟩;rcases f with⟨a1,rfl⟩|⟨a1,gb,rfl,O,fv,lv,a2,hO⟩
  ·subst a1;have J:=HX.out;simp only[if_true]at J;subst J;go_wp2_with fail
   go_ret3
   exact⟨Z,rfl⟩
  ·subst a1;have a4:=Hd (QR R gb O fv lv w1 a2 (by omega) (by omega));have V:=Hd Z;clear Z a2 hO;go_wp2_with fail;refine a4.out.mono ?_;rintro e G ⟨K,f⟩;have M:Bw w G:=V.out.trans (K.mono V.out.size);have hz:=V.out.size;have a7:=K.size;rcases f with⟨h,rfl⟩|⟨kd,g,D,B,h,rfl,Y⟩
   ·have J:=HX.out;simp only[h]at J;simp only[yR,if_false]at J;subst J;have W:=Hd M;clear K M h;go_wp2_with(first|refine AH rfl (.tmp 8) (.tmp 22) rfl G.heap.size rfl rfl (Blk.aR _ _ _) DR ⟨rfl,rfl⟩ ?_)
    go_ret3
    exact⟨I2 (W.out.alloc (by omega) _) (by omega) _,rfl⟩
   ·have J:=HX.out;simp only[h]at J;simp only[yR,if_false]at J;subst J;have U:=Y.bX;have W:=Hd M;have a5:=Hd Y;have a6:=Hd U;clear K M h Y U;go_wp2_with(first|refine AH rfl (.tmp 8) (.tmp 22) rfl G.heap.size rfl rfl (Blk.aR _ _ _) DR a6.out ?_|refine Ad0 rfl (.tmp 8) rfl G.heap.size rfl ((Blk.aR _ _ _).setRow _) ?_|refine Ab1 rfl (.tmp 27) rfl rfl ?_)
    go_ret3
    have a3:Bw G (((G.alloc (.cells Tryz.zeroCells73 73)).setRow G.heap.size (V6 kd D B)).alloc (.cells (V6 kd D B) 75)):=(I2 (N0 _ _) (zD _) _).alloc (by simp) _;refine⟨W.out.trans (a3.mono (by omega)),G.heap.size+1,rfl,D,B,?_,a5.out.aA a3⟩;have:=Blk.aR ((G.alloc (.cells Tryz.zeroCells73 73)).setRow G.heap.size (V6 kd D B)) (V6 kd D B) 75;simpa using this
theorem W7.aA{w w':World}{D:Nat}{kd:Nat->Nat}{g:B0}(h:W7 w D kd g)(k:Bw w w'):W7 w' D kd g:=by
 obtain⟨B,f,G,J⟩:=h;exact⟨B,f,G.aA k,J.aA k⟩
theorem Vp(f:Nat->Nat)(h B:Value):(V6 f h B)[256]?=some h:=by
 rw[V6,Array.getElem?_append_right (by rw[D7];omega),D7];rfl
theorem Wp(f:Nat->Nat)(B h:Value):(V6 f B h)[257]?=some h:=by
 rw[V6,Array.getElem?_append_right (by rw[D7];omega),D7];rfl
theorem UR(B:Nat)(f:Value)(l:List Int)(w:World)(J:w.cell? ⟨B,256,none⟩=some f)(h:Q2 w f l):
  Calls Tryz.prog 23 #[.pointer (some ⟨B,0,none⟩)] w fun e w'=>e=.returned (.int .i64 (l.length:Int))/\w'=w:=by
 obtain⟨G,D,rfl,_⟩:=h.aV;clear h;go_enter Tryz.func23,Tryz.ntmps23;go_wp2_with fail;go_ret;exact⟨rfl,rfl⟩
theorem CA(f:Nat)(kd:Nat->Nat)(g:B0)(w:World)(h:W7 w f kd g):
  Calls Tryz.prog 10 #[.pointer (some ⟨f,0,none⟩)] w fun e w'=>e=.returned (.int .i64 (g.aB.length:Int))/\w'=w:=by
 obtain⟨B,K,D,G⟩:=h;have J:=Hd (UR f B g.aB w (by rw[D.cell];exact Vp _ _ _) G.aB);clear D G;go_enter Tryz.func10,Tryz.ntmps10;go_wp2_with fail;refine J.out.mono ?_;rintro e M ⟨rfl,rfl⟩;go_wp2_with fail;go_ret;exact⟨rfl,rfl⟩
def X0(kd:Nat->Nat)(g:B0)(s b:Int):Int:=if s<0\/(g.next.length:Int)<=s\/b<0\/256<=b then -1 else(g.next.getD s.toNat []).getD (kd b.toNat) 0
def M0(g:B0)(s:Int):Int:=if s<0\/(g.aB.length:Int)<=s then -1 else g.aB.getD s.toNat 0
def N7(kd:Nat->Nat)(g:B0):Prop:=∀i,i<g.next.length->∀b,b<256->kd b<(g.next.getD i []).length
theorem NL(f:Nat->Nat)(D B:Value)(b:Nat)(h:b<256):(V6 f D B)[b]?=some (.int .i64 (f b:Int)):=by
 rw[V6,Array.getElem?_append_left (by rw[D7];omega),Ug _ _ h]
theorem Ad(U:Nat)(kd:Nat->Nat)(g:B0)(s:Int)(w:World)(h:W7 w U kd g):
  Calls Tryz.prog 113 #[.pointer (some ⟨U,0,none⟩),.int .i64 s] w fun e w'=>e=.returned (.int .i64 (M0 g s))/\w'=w:=by
 obtain⟨V,a0,K,M⟩:=h;have B:=M.aB;have c0:w.cell? ⟨U,256,none⟩=some V:=by rw[K.cell];exact Vp _ _ _
 obtain⟨ad,Y,rfl,D⟩:=B.aV;generalize f:M0 g s=F;unfold M0 at f
 by_cases G:s<0
 ·have Z:decide (s<0)=true:=by simp[G]
  rw[if_pos (.inl G)]at f;subst f;clear K M B;go_enter Tryz.func113,Tryz.ntmps113;go_wp2_with fail;go_ret;exact⟨rfl,rfl⟩
 ·have Z:decide (s<0)=false:=by simp;omega
  by_cases J:(g.aB.length:Int)<=s
  ·have e1:decide ((g.aB.length:Int)<=s)=true:=by simp[J]
   rw[if_pos (.inr J)]at f;subst f;clear K M B;go_enter Tryz.func113,Tryz.ntmps113;go_wp2_with fail;go_ret;exact⟨rfl,rfl⟩
  ·have e1:decide ((g.aB.length:Int)<=s)=false:=by simp;omega
   rw[if_neg (by omega)]at f;obtain⟨j,rfl⟩:∃j:Nat,s=(j:Int):=⟨s.toNat,by omega⟩;have X:j<g.aB.length:=by omega
   rcases D with h0|⟨rg,rfl⟩
   ·omega
   have r0:=B.cell j X;have W:g.aB.getD j 0=g.aB[j]:=by simp[X]
   rw[zH,W]at f;generalize g.aB[j]=rj at r0 f;subst f;have i0:(0:Int)<=(j:Int):=by omega
   have i1:(j:Int)<(g.aB.length:Int):=by omega
   clear K M B W;go_enter Tryz.func113,Tryz.ntmps113;go_wp2_with fail;go_ret;exact⟨rfl,rfl⟩
theorem Of(pb:Nat)(kd:Nat->Nat)(g:B0)(s b:Int)(w:World)(h:W7 w pb kd g)(X:N7 kd g):
  Calls Tryz.prog 112 #[.pointer (some ⟨pb,0,none⟩),.int .i64 s,.int .i64 b] w fun e w'=>e=.returned (.int .i64 (X0 kd g s b))/\Bw w w':=by
 obtain⟨a6,a3,K,W⟩:=h;obtain⟨V,M,B,D⟩:=W.next;have c0:w.cell? ⟨pb,257,none⟩=some a3:=by rw[K.cell];exact Wp _ _ _
 obtain⟨ad,a5,rfl,a0⟩:=M.aV;generalize f:X0 kd g s b=F;unfold X0 at f;rw[<-B]at f
 by_cases a1:s<0
 ·have e0:decide (s<0)=true:=by simp[a1]
  rw[if_pos (.inl a1)]at f;subst f;clear K W M B D X;go_enter Tryz.func112,Tryz.ntmps112;go_wp2_with fail;go_ret;exact⟨rfl,Below.refl _ _⟩
 ·have e0:decide (s<0)=false:=by simp;omega
  by_cases a2:(V.length:Int)<=s
  ·have e1:decide ((V.length:Int)<=s)=true:=by simp[a2]
   rw[if_pos (.inr (.inl a2))]at f;subst f;clear K W M B D X;go_enter Tryz.func112,Tryz.ntmps112;go_wp2_with fail;go_ret;exact⟨rfl,Below.refl _ _⟩
  ·have e1:decide ((V.length:Int)<=s)=false:=by simp;omega
   by_cases Y:b<0
   ·have e2:decide (b<0)=true:=by simp[Y]
    rw[if_pos (.inr (.inr (.inl Y)))]at f;subst f;clear K W M B D X;go_enter Tryz.func112,Tryz.ntmps112;go_wp2_with fail;go_ret;exact⟨rfl,Below.refl _ _⟩
   ·have e2:decide (b<0)=false:=by simp;omega
    by_cases Z:256<=b
    ·have e3:decide ((256:Int)<=b)=true:=by simp[Z]
     rw[if_pos (.inr (.inr (.inr Z)))]at f;subst f;clear K W M B D X;go_enter Tryz.func112,Tryz.ntmps112;go_wp2_with fail;go_ret;exact⟨rfl,Below.refl _ _⟩
    ·have e3:decide ((256:Int)<=b)=false:=by simp;omega
     rw[if_neg (by omega)]at f;obtain⟨j,rfl⟩:∃j:Nat,s=(j:Int):=⟨s.toNat,by omega⟩;obtain⟨c,rfl⟩:∃c:Nat,b=(c:Int):=⟨b.toNat,by omega⟩;have hj:j<V.length:=by omega
     have hc:c<256:=by omega
     have G:=X j (by omega) c hc;rcases a0 with h0|⟨ng,rfl⟩
     ·omega
     have n0:=M.cell j hj;have hr:=D j V[j] (zF _);rw[zH,zH]at f;generalize g.next.getD j []=J at hr f G;generalize V[j]=vj at n0 hr;obtain⟨ed,a4,rfl,U⟩:=hr.aV;rcases U with h0|⟨eg,rfl⟩
     ·omega
     have k0:w.cell? ⟨pb,c,none⟩=some (.int .i64 (kd c:Int)):=by rw[K.cell];exact NL _ _ _ c hc
     have r0:=hr.cell (kd c) G;have hg:J.getD (kd c) 0=J[kd c]:=by simp[G]
     rw[hg]at f;generalize J[kd c]=rv at r0 f;subst f;generalize kd c=kc at k0 r0 G;have i0:(0:Int)<=(j:Int):=by omega
     have i1:(j:Int)<(V.length:Int):=by omega
     have i2:(0:Int)<=(c:Int):=by omega
     have i3:(c:Int)<256:=by omega
     have i4:(0:Int)<=(kc:Int):=by omega
     have i5:(kc:Int)<(J.length:Int):=by omega
     clear K W M B D X hr hg;go_enter Tryz.func112,Tryz.ntmps112;go_wp2_with fail;go_quiet(fail);go_wp2_with fail;go_ret;exact⟨rfl,C2 (Below.refl _ _) _⟩
theorem Ar(al:Nat->I0):∀(d b:Nat),(V0 al b).length<=(V0 al (b+d)).length
 |0,b=>zD _
 |d+1,b=>by
  refine yI (Ar al d b) ?_;show(V0 al (b+d)).length<=(if H9 (V0 al (b+d)) (al (b+d))=(V0 al (b+d)).length then V0 al (b+d)++ [al (b+d)]else V0 al (b+d)).length;split
  ·simp
  ·exact zD _
theorem MS(al:Nat->I0)(b n:Nat)(h:b<n):D3 al b<(V0 al n).length:=by
 have B:=Fi (V0 al b) (al b);have D:D3 al b<(V0 al (b+1)).length:=by
  show H9 (V0 al b) (al b)<(if H9 (V0 al b) (al b)=(V0 al b).length then V0 al b++ [al b]else V0 al b).length;split
  ·simp;omega
  ·omega
 have f:=Ar al (n- (b+1)) (b+1);rw[show b+1+(n- (b+1))=n by omega]at f;omega
theorem Wv{N:Nat}{aE:List Int}:∀(f:List Int) (st:List Int×List Int),Al N f->(∀x∈st.1,0<=x/\x<(N:Int))->∀x∈(L3 aE f st).1,0<=x/\x<(N:Int)
 | [],st,_,h=>h
 |x::r,st,hr,h=>by
  unfold L3;refine Wv r _ (fun y B=>hr y (by simp[B])) ?_;split
  ·rename_i G;simp at G;intro y B;simp at B;rcases B with e|e
   ·exact h y e
   ·subst e;rcases hr y (by simp)with D|D
    ·exact absurd D G.1
    ·exact D
  ·exact h
theorem Vs{g:B0}{K:Nat}{aE:List Int}(D:GOk g K):∀(f i:Nat) (st:List Int×List Int),(∀x∈st.1,0<=x/\x<(g.aB.length:Int))->∀x∈(V5 g aE f i st).1,0<=x/\x<(g.aB.length:Int)
 |0,i,st,h=>h
 |f+1,i,st,h=>by
  unfold V5;split
  ·rename_i B;refine Vs D f (i+1) _ (Wv _ _ ?_ h);have G:st.1.getD i 0∈st.1:=by simp[B]
   have:=h _ G;exact(D.row _ (by rw[D.len];omega)).2
  ·exact h
theorem BV{g:B0}{K:Nat}{aE:List Int}(f:GOk g K)(B:0<g.aB.length):∀x∈(A2 g aE).1,0<=x/\x<(g.aB.length:Int):=
 Vs f _ _ _ (fun x h=>by simp at h;omega)
theorem FG{g:B0}{K:Nat}{aE:List Int}(h:GOk g K)(G:0<g.aB.length):(E1 g aE).next.length=(E1 g aE).aB.length/\∀i,i<(E1 g aE).next.length->((E1 g aE).next.getD i []).length=K:=by
 refine⟨by simp[E1],fun i D=>?_⟩;have f:i<(A2 g aE).1.length:=by simpa[E1]using D
 have J:=BV (aE:=aE) h G (A2 g aE).1[i] (zG f);have B:(E1 g aE).next.getD i []=J2 aE (A2 g aE).2 (g.next.getD (A2 g aE).1[i].toNat []):=by simp[E1,f]
 rw[B];have:=(h.row (A2 g aE).1[i].toNat (by rw[h.len];omega)).1;simpa[J2]using this
theorem PR{R:E0}{kd:Nat->Nat}{g:B0}(h:N3 R=some (kd,g)):N7 kd g/\g.next.length=g.aB.length:=by
 unfold N3 at h;split at h
 ·cases h
 ·rename_i B M;obtain⟨J,K,U⟩:=S8 M;have f:=FG (aE:=U1 (G0 B)) (E5 J) K
  injection h with h
  injection h with h1 h2
  subst h1 h2;exact⟨fun i G b D=>by rw[f.2 i G];exact MS _ _ _ D,f.1⟩
theorem Hp{s:ByteArray}{kd:Nat->Nat}{g:B0}(h:newF s=.lexer kd g):N7 kd g/\g.next.length=g.aB.length:=by
 unfold newF at h;split at h
 ·cases h
 ·split at h
  ·cases h
  ·split at h
   ·cases h
   ·rename_i f
    injection h with h1 h2
    subst h1 h2;exact PR f
theorem UJ(f:Nat)(kd:Nat->Nat)(g:B0)(s:Int)(w:World)(h:W7 w f kd g):
  Calls Tryz.prog 84 #[.pointer (some ⟨f,0,none⟩),.int .i64 s] w fun e w'=>e=.returned (.int .i64 (M0 g s))/\w'=w:=by
 have B:=Hd (Ad f kd g s w h);clear h;go_enter Tryz.func84,Tryz.ntmps84;go_wp2_with fail;refine B.out.mono ?_;rintro e D ⟨rfl,rfl⟩;go_wp2_with fail;go_ret;exact⟨rfl,rfl⟩
theorem TJ(f:Nat)(kd:Nat->Nat)(g:B0)(s b:Int)(w:World)(h:W7 w f kd g)(B:N7 kd g):
  Calls Tryz.prog 85 #[.pointer (some ⟨f,0,none⟩),.int .i64 s,.int .i64 b] w fun e w'=>e=.returned (.int .i64 (X0 kd g s b))/\Bw w w':=by
 have D:=Hd (Of f kd g s b w h B);clear h B;go_enter Tryz.func85,Tryz.ntmps85;go_wp2_with fail;refine D.out.mono ?_;rintro e J ⟨rfl,G⟩;go_wp2_with fail;go_ret;exact⟨rfl,G⟩
abbrev Zf:ByteArray:=⟨#[97,124,97,98,99]⟩
def YZ:FR->Nat
 |.bad _ _=>0
 |.lexer _ g=>g.aB.length
theorem QZ:YZ (newF Zf)=4:=by kernel_rfl
theorem RZ:∃kd g,newF Zf=.lexer kd g/\g.aB.length=4:=by
 have h:=QZ;generalize newF Zf=X at h⊢;cases X with
 |bad e a=>simp[YZ]at h
 |lexer kd g=>exact⟨kd,g,rfl,h⟩
def Aa6(P:World->Nat->Prop)(w':World)(e:Ending):FR->Prop
 |.bad c a=>e=.returned (.tuple #[.pointer none,.int .i64 c,.int .i64 a])
 |.lexer kd g=>∃f,e=.returned (.tuple #[.pointer (some ⟨f,0,none⟩),.int .i64 0,.int .i64 0])/\P w' f
def Wj(P:World->Nat->Prop)(s:ByteArray):Prop:=∀w,Calls Tryz.prog 12 #[.string s] w fun e w'=>Bw w w'/\Aa6 P w' e (newF s)
def RY(P:World->Nat->Prop)(w':World)(e:Ending):FR->Prop
 |.bad c a=>e=.returned (.tuple #[.pointer none,.bool true])
 |.lexer kd g=>∃f xb h,e=.returned (.tuple #[.pointer (some ⟨f,0,none⟩),.bool true])/\Blk w' f #[.pointer (some ⟨xb,0,none⟩),.pointer (some ⟨h,0,none⟩)] 43/\W7 w' xb kd g/\P w' h
theorem W7.eM{w w':World}{D:Nat}{kd:Nat->Nat}{g:B0}(h:W7 w D kd g)(k:Bw w w'):W7 w' D kd g:=by
 obtain⟨B,f,G,J⟩:=h;exact⟨B,f,G.aA k,J.aA k⟩
theorem Db(v:Int)(w:World):Calls Tryz.prog 13 #[.int .i64 v] w fun e w'=>e=.returned (.int .i64 v)/\w'=w:=by
 go_enter Tryz.func13,Tryz.ntmps13;go_wp2_with fail;go_ret;exact⟨rfl,rfl⟩
theorem AX(P:World->Nat->Prop)(Y:∀w w' b,P w b->Bw w w'->P w' b)(s:ByteArray)(Z:s.size<=maxLen)(hr:Wj P s)(w:World):
  Calls Tryz.prog 7 #[.string s] w fun e w'=>Bw w w'/\RY P w' e (newF s):=by
 have M:=Hd (EZ s Z w);have K:=Hd hr;have HP:=Hd Y;have f:=Hd Db;clear hr Y Z;unfold Wj at K;generalize newF s=X at M K⊢;cases X with
 |bad c a=>
  have e0:((c:Int) !=(c:Int))=false:=by simp
  have e1:((a:Int) !=(a:Int))=false:=by simp
  go_enter Tryz.func7,Tryz.ntmps7;go_wp2_with fail;refine M.out.mono ?_;rintro e W ⟨B,rfl⟩;have h:=Hd (K.out W);have G:=Hd B;clear B M;go_wp2_with fail;refine h.out.mono ?_;rintro e w2 ⟨D,rfl⟩;have J:=Hd D;clear D h K;go_wp2_with fail;refine(f.out _ _).mono ?_;rintro e w3 ⟨rfl,rfl⟩;go_wp2_with fail;refine(f.out _ _).mono ?_;rintro e w4 ⟨rfl,rfl⟩;go_wp2_with fail
  go_ret2
  exact⟨G.out.trans (J.out.mono G.out.size),rfl⟩
 |lexer kd g=>
  go_enter Tryz.func7,Tryz.ntmps7;go_wp2_with fail;refine M.out.mono ?_;rintro e W ⟨B,xb,rfl,hx⟩;have h:=Hd (K.out W);have G:=Hd2 B hx;clear B hx M;go_wp2_with fail;refine h.out.mono ?_;rintro e w2 ⟨D,yb,rfl,hy⟩;have J:=Hd2 D hy;clear D hy h K;go_wp2_with fail;refine(f.out _ _).mono ?_;rintro e w3 ⟨rfl,rfl⟩;go_wp2_with fail;refine(f.out _ _).mono ?_;rintro e w4 ⟨rfl,rfl⟩;go_wp2_with fail
  go_ret2
  obtain⟨U,x1⟩:=G.out;obtain⟨V,y2⟩:=J.out;refine⟨(U.trans (V.mono U.size)).alloc (yI U.size V.size) _,_,xb,yb,rfl,Blk.aR _ _ _,(x1.eM V).eM (N0 _ _),HP.out _ _ _ y2 (N0 _ _)⟩
theorem BZ(P:World->Nat->Prop)(D:∀w w' b,P w b->Bw w w'->P w' b)(K:Wj P Zf)(w:World):
  Calls Tryz.prog 6 #[] w fun e w'=>e=.returned (.bool true)/\Bw w w':=by
 obtain⟨kd,g,J,G⟩:=RZ;have h:=Hd (AX P D Zf (by decide) K w);rw[J]at h;have W:=Hd G;clear J G K D;go_enter Tryz.func6,Tryz.ntmps6;go_wp2_with fail;refine h.out.mono ?_;rintro e U ⟨f,Z,xb,yb,rfl,B,M,Y⟩;have X:=Hd (CA xb kd g U M);have c0:U.cell? ⟨Z,0,none⟩=some (.pointer (some ⟨xb,0,none⟩)):=B.cell 0;have zb:=B.lt;have V:=Hd f;clear f B M Y h;go_wp2_with fail;refine X.out.mono ?_;rintro e w2 ⟨rfl,rfl⟩;rw[W.out];go_wp2_with fail;go_ret;exact⟨rfl,V.out⟩
structure V4 where
 aB:Int
 fr:Nat
 tt:Nat
 deriving DecidableEq,Inhabited
abbrev Jl(t:V4):Array Value:=#[.int .i64 t.aB,.int .i64 (t.fr:Int),.int .i64 (t.tt:Int)]
def Xa(kd:Nat->Nat)(g:B0)(s:ByteArray)(fr:Nat):Nat->Nat->Int->V4->V4
 |0,_,_,bM=>bM
 |n+1,p,st,bM=>
  if p<s.size then
   if X0 kd g st (F0 s p)= -1 then bM
   else Xa kd g s fr n (p+1) (X0 kd g st (F0 s p)) (if M0 g (X0 kd g st (F0 s p))= -1 then bM else⟨M0 g (X0 kd g st (F0 s p)),fr,p+1⟩)
  else bM
def V3(kd:Nat->Nat)(g:B0)(s:ByteArray)(fr:Nat):V4:=Xa kd g s fr (s.size-fr+1) fr 0 ⟨-1,fr,fr+1⟩
theorem Zl(kd:Nat->Nat)(g:B0)(s:ByteArray)(fr:Nat):∀(n p:Nat) (st:Int) (f:V4),fr<=p->fr<f.tt->f.tt<=s.size->f.fr=fr->fr<(Xa kd g s fr n p st f).tt/\(Xa kd g s fr n p st f).tt<=s.size/\(Xa kd g s fr n p st f).fr=fr
 |0,p,st,f,_,h1,h2,h3=>⟨h1,h2,h3⟩
 |n+1,p,st,f,h0,h1,h2,h3=>by
  unfold Xa;split
  ·split
   ·exact⟨h1,h2,h3⟩
   ·split
    ·exact Zl kd g s fr n _ _ _ (by omega) h1 h2 h3
    ·exact Zl kd g s fr n _ _ _ (by omega) (by show fr<p+1;omega) (by show p+1<=s.size;omega) rfl
  ·exact⟨h1,h2,h3⟩
theorem Ec(kd:Nat->Nat)(g:B0)(s:ByteArray)(fr:Nat)(h:fr<s.size):fr<(V3 kd g s fr).tt/\(V3 kd g s fr).tt<=s.size/\(V3 kd g s fr).fr=fr:=
 Zl kd g s fr _ _ _ _ (zD _) (by show fr<fr+1;omega) (by show fr+1<=s.size;omega) rfl
def Dg(kd:Nat->Nat)(g:B0)(s:ByteArray):Nat->Nat->List V4->List V4
 |0,_,aS=>aS
 |n+1,p,aS=>if p<s.size then Dg kd g s n (V3 kd g s p).tt (aS++ [V3 kd g s p])else aS
def U4(kd:Nat->Nat)(g:B0)(s:ByteArray):List V4:=Dg kd g s (s.size+1) 0 []
def Y5:List V4->List Value
 | []=>[]
 |t::r=>.int .i64 t.aB::.int .i64 (t.fr:Int)::.int .i64 (t.tt:Int)::Y5 r
theorem Tc:∀l:List V4,(Y5 l).length=l.length*3
 | []=>rfl
 |s::r=>by simp[Y5,Tc r];omega
theorem Sg:∀l m:List V4,Y5 (l++m)=Y5 l++Y5 m
 | [],m=>rfl
 |s::r,m=>by simp[Y5,Sg r m]
theorem Vd:∀(l:List V4) (k:Nat) (h:k<l.length),(Y5 l)[k*3]?=some (.int .i64 l[k].aB)/\(Y5 l)[k*3+1]?=some (.int .i64 (l[k].fr:Int))/\(Y5 l)[k*3+2]?=some (.int .i64 (l[k].tt:Int))
 |s::r,0,_=>⟨rfl,rfl,rfl⟩
 |s::r,k+1,h=>by
  rw[show(k+1)*3=k*3+1+1+1 by omega];simp only[Y5,List.getElem?_cons_succ,List.getElem_cons_succ,show k*3+1+1+1+1=(k*3+1)+1+1+1 by omega,show k*3+1+1+1+2=(k*3+2)+1+1+1 by omega];exact Vd r k (by simpa using h)
def P1(w:World)(v:Value)(l:List V4):Prop:=w.ownsRow 0 66 3 v l.length (Y5 l)
theorem Tryz.dQ:(Tryz.prog.info? 66).map (fun i=>(i.zero,i.size,i.bytes))=some (some (.agg #[.int .i64 0,.int .i64 0,.int .i64 0]),3,24):=by kernel_rfl
theorem P1.kept{w w':World}{v:Value}{l:List V4}{ex:Nat->Prop}(h:P1 w v l)(k:C0 ex w w')(f:∀b,v.ownBlock=some b->¬ex b):P1 w' v l:=K0 h k f
theorem P1.aA{w w':World}{v:Value}{l:List V4}(h:P1 w v l)(k:Bw w w'):P1 w' v l:=h.kept (ex:=fun _=>False) (C0.aM k) (fun _ _ e=>e)
theorem P1.aV{w:World}{v:Value}{l:List V4}(h:P1 w v l):∃(B:Option Addr) (f:Nat),v=.slice B l.length f/\(l.length=0\/∃g,B=some ⟨g,0,none⟩):=by
 obtain⟨_,B,f,rfl,⟨_,h⟩|⟨g,_,rfl,_⟩⟩:=P0 h
 ·exact⟨B,f,rfl,.inl h⟩
 ·exact⟨_,f,rfl,.inr ⟨g,rfl⟩⟩
theorem Vj(s:ByteArray)(p:Nat)(h:p<s.size):wrap64 ((s[p].toNat:Nat):Int)=F0 s p:=by
 have f:((s[p].toNat:Nat):Int)<256:=by have:=s[p].toNat_lt;omega
 rw[Yk ((s[p].toNat:Nat):Int) (by omega) (by omega)];simp[F0,h]
structure F3 where
 bC:Nat
 en:Nat
 aB:Int
 aQ:Int
 tail:ByteArray
abbrev Es(x:F3):Value:=.agg #[.int .i64 (x.bC:Int),.int .i64 (x.en:Int),.int .i64 x.aB,.int .i64 x.aQ,.string x.tail]
abbrev Pg(x:F3):Array Value:=#[.int .i64 (x.bC:Int),.int .i64 (x.en:Int),.int .i64 x.aB,.int .i64 x.aQ,.string x.tail]
def X6(p:Nat):F3:=⟨p,p,-1,0,⟨#[]⟩⟩
def A6(g:B0)(s:Int):Bool:=if s<0\/(g.next.length:Int)<=s then false else(g.next.getD s.toNat []).any (fun t=>t != -1)
def T4(kd:Nat->Nat)(g:B0)(f:ByteArray)(h:Nat):Nat->Nat->Int->F3->F3×Bool
 |0,_,_,x=>(x,false)
 |n+1,i,st,x=>
  if i<f.size then
   if X0 kd g st (F0 f i)= -1 then(x,false)
   else T4 kd g f h n (i+1) (X0 kd g st (F0 f i)) (if M0 g (X0 kd g st (F0 f i))= -1 then x else⟨x.bC,h+i+1,M0 g (X0 kd g st (F0 f i)),X0 kd g st (F0 f i),f.extract (i+1) f.size⟩)
  else(x,A6 g st)
def S4(kd:Nat->Nat)(g:B0)(x:F3):F3×Bool:=T4 kd g x.tail x.en (x.tail.size+1) 0 x.aQ x
def L9(x:F3):F3:=if x.en=x.bC then{ x with en:=x.en+1,tail:=x.tail.extract 1 x.tail.size }else x
def E4(kd:Nat->Nat)(g:B0)(f:Bool):Nat->F3->List V4->List V4×F3
 |0,x,aS=>(aS,x)
 |n+1,x,aS=>
  if x.bC<x.en\/x.tail.size≠0 then
   if(S4 kd g x).2=true/\f=false then(aS,(S4 kd g x).1)
   else E4 kd g f n ⟨(L9 (S4 kd g x).1).en,(L9 (S4 kd g x).1).en,-1,0,(L9 (S4 kd g x).1).tail⟩ (aS++ [⟨(L9 (S4 kd g x).1).aB,(L9 (S4 kd g x).1).bC,(L9 (S4 kd g x).1).en⟩])
  else(aS,x)
def onF(kd:Nat->Nat)(g:B0)(x:F3)(bytes:ByteArray)(f:Bool):List V4×F3:=E4 kd g f (x.en-x.bC+(x.tail++bytes).size+1) { x with tail:=x.tail++bytes } []
structure UV(x y:F3):Prop where
 bC:y.bC=x.bC
 up:x.en<=y.en
 sum:y.en+y.tail.size=x.en+x.tail.size
 dH:y.en=x.en->y=x
theorem S3(s:ByteArray)(a:Nat):(s.extract a s.size).size=s.size-a:=by rw[ByteArray.size_extract];omega
theorem Rh(kd:Nat->Nat)(g:B0)(x:F3):∀(n i:Nat) (st:Int) (y:F3),i<=x.tail.size->UV x y->UV x (T4 kd g x.tail x.en n i st y).1
 |0,i,st,y,_,h=>h
 |n+1,i,st,y,hi,h=>by
  unfold T4;split
  ·rename_i f;split
   ·exact h
   ·split
    ·exact Rh kd g x n _ _ _ f h
    ·refine Rh kd g x n _ _ _ f ⟨h.bC,?_,?_,?_⟩
     ·show x.en<=x.en+i+1;omega
     ·show x.en+i+1+(x.tail.extract (i+1) x.tail.size).size=x.en+x.tail.size;rw[S3];omega
     ·intro e;have B:x.en+i+1=x.en:=e;omega
  ·exact h
theorem Zm(kd:Nat->Nat)(g:B0)(x:F3):UV x (S4 kd g x).1:=
 Rh kd g x _ _ _ _ (yC _) ⟨rfl,zD _,rfl,fun _=>rfl⟩
theorem Pr(s:ByteArray)(p i:Nat)(h:p<=s.size)(f:i<(s.extract p s.size).size):F0 (s.extract p s.size) i=F0 s (p+i):=by
 have B:p+i<s.size:=by rw[S3]at f;omega
 unfold F0;rw[dif_pos f,dif_pos B,ByteArray.getElem_extract]
theorem extract_extract(s:ByteArray)(p i:Nat)(f:p<=s.size):(s.extract p s.size).extract i (s.extract p s.size).size=s.extract (p+i) s.size:=by
 rw[ByteArray.extract_extract,S3]
 congr 1
 omega
def WV(s:ByteArray)(p:Nat)(f:V4)(x:F3):Prop:=
 x.bC=p/\((x.en=p/\x=⟨p,p,-1,0,s.extract p s.size⟩/\f=⟨-1,p,p+1⟩)\/(p<x.en/\x.en<=s.size/\f=⟨x.aB,p,x.en⟩/\x.tail=s.extract x.en s.size))
theorem An(kd:Nat->Nat)(g:B0)(s:ByteArray)(p:Nat)(G:p<=s.size):∀(n i:Nat) (st:Int) (D:V4) (x:F3),i<=s.size-p->WV s p D x->WV s p (Xa kd g s p n (p+i) st D) (T4 kd g (s.extract p s.size) p n i st x).1
 |0,i,st,D,x,_,h=>h
 |n+1,i,st,D,x,hi,h=>by
  unfold Xa T4;have J:=S3 s p
  by_cases B:p+i<s.size
  ·have f:i<(s.extract p s.size).size:=by omega
   rw[if_pos B,if_pos f,Pr s p i G f];split
   ·exact h
   ·refine An kd g s p G n (i+1) _ _ _ (by omega) ?_;split
    ·exact h
    ·refine⟨h.1,.inr ⟨?_,?_,rfl,?_⟩⟩
     ·show p<p+i+1;omega
     ·show p+i+1<=s.size;omega
     ·show(s.extract p s.size).extract (i+1) (s.extract p s.size).size=s.extract (p+i+1) s.size;rw[extract_extract s p (i+1) G];rfl
  ·have f:¬i<(s.extract p s.size).size:=by omega
   rw[if_neg B,if_neg f];exact h
theorem IG(kd:Nat->Nat)(g:B0)(s:ByteArray):∀(n p:Nat) (B:List V4),p<=s.size->s.size<n+p->(E4 kd g true n ⟨p,p,-1,0,s.extract p s.size⟩ B).1=Dg kd g s n p B
 |0,p,B,_,_=>rfl
 |n+1,p,B,hp,hn=>by
  unfold E4 Dg;have W:=S3 s p
  by_cases f:p<s.size
  ·rw[if_pos f,if_pos (.inr (by show(s.extract p s.size).size≠0;omega)),if_neg (by simp)];have h:=An kd g s p hp (s.size-p+1) 0 0 ⟨-1,p,p+1⟩ ⟨p,p,-1,0,s.extract p s.size⟩ (by omega) ⟨rfl,.inl ⟨rfl,rfl,rfl⟩⟩;have G:S4 kd g ⟨p,p,-1,0,s.extract p s.size⟩=T4 kd g (s.extract p s.size) p (s.size-p+1) 0 0 ⟨p,p,-1,0,s.extract p s.size⟩:=by
    unfold S4;simp only[W]
   rw[G];have J:V3 kd g s p=Xa kd g s p (s.size-p+1) (p+0) 0 ⟨-1,p,p+1⟩:=rfl;rw[J];generalize(T4 kd g (s.extract p s.size) p (s.size-p+1) 0 0 ⟨p,p,-1,0,s.extract p s.size⟩).1=x at h;generalize Xa kd g s p (s.size-p+1) (p+0) 0 ⟨-1,p,p+1⟩=bM at h;obtain⟨K,⟨M,rfl,rfl⟩|⟨M,U,rfl,V⟩⟩:=h
   ·have D:L9 ⟨p,p,-1,0,s.extract p s.size⟩=⟨p,p+1,-1,0,s.extract (p+1) s.size⟩:=by
     unfold L9;rw[if_pos rfl,extract_extract s p 1 hp]
    rw[D];exact IG kd g s n (p+1) _ (by omega) (by omega)
   ·have D:L9 x=x:=by unfold L9;rw[if_neg (by omega)]
    rw[D,K,V];exact IG kd g s n x.en _ U (by omega)
  ·rw[if_neg f,if_neg (by simp only[not_or];exact⟨by omega,by omega⟩)]
theorem GG(kd:Nat->Nat)(g:B0)(s:ByteArray):(onF kd g (X6 0) s true).1=U4 kd g s:=by
 unfold onF U4 X6;have e:(⟨#[]⟩:ByteArray)++s=s:=by simp[ByteArray.ext_iff]
 simp only[e];have h:=IG kd g s (s.size+1) 0 [] (yC _) (by omega);rw[ByteArray.extract_zero_size]at h;rw[show 0-0+s.size+1=s.size+1 by omega];exact h
theorem Q2.bU{w:World}{v:Value}{l:List Int}(h:Q2 w v l):l.length<=maxLen:=by
 obtain⟨_,B,f,_,⟨_,D⟩|⟨g,cur,_,_,G,J,_⟩⟩:=P0 h
 ·unfold maxLen;omega
 ·omega
theorem Py(pb:Nat)(kd:Nat->Nat)(g:B0)(s:Int)(w:World)(h:W7 w pb kd g):
  Calls Tryz.prog 114 #[.pointer (some ⟨pb,0,none⟩),.int .i64 s] w fun e w'=>e=.returned (.bool (A6 g s))/\w'=w:=by
 obtain⟨a7,a4,h1,h2⟩:=h;obtain⟨V,W,J,K⟩:=h2.next;have c0:w.cell? ⟨pb,257,none⟩=some a4:=by rw[h1.cell];exact Wp _ _ _
 obtain⟨ad,a6,rfl,Z⟩:=W.aV;generalize D:A6 g s=F;unfold A6 at D;rw[<-J]at D
 by_cases a0:s<0
 ·have e0:decide (s<0)=true:=by simp[a0]
  rw[if_pos (.inl a0)]at D;subst D;clear h1 h2 W J K;go_enter Tryz.func114,Tryz.ntmps114;go_wp2_with fail;go_ret;exact⟨rfl,rfl⟩
 ·have e0:decide (s<0)=false:=by simp;omega
  by_cases a1:(V.length:Int)<=s
  ·have e1:decide ((V.length:Int)<=s)=true:=by simp[a1]
   rw[if_pos (.inr a1)]at D;subst D;clear h1 h2 W J K;go_enter Tryz.func114,Tryz.ntmps114;go_wp2_with fail;go_ret;exact⟨rfl,rfl⟩
  ·have e1:decide ((V.length:Int)<=s)=false:=by simp;omega
   rw[if_neg (by omega)]at D;obtain⟨j,rfl⟩:∃j:Nat,s=(j:Int):=⟨s.toNat,by omega⟩;have hj:j<V.length:=by omega
   rcases Z with h0|⟨ng,rfl⟩
   ·omega
   have n0:=W.cell j hj;have Y:=K j V[j] (zF _);rw[zH]at D;generalize g.next.getD j []=B at Y D;generalize V[j]=vj at n0 Y;obtain⟨ed,a5,rfl,M⟩:=Y.aV;have a3:=Y.bU;unfold maxLen at a3;have i0:(0:Int)<=(j:Int):=by omega
   have i1:(j:Int)<(V.length:Int):=by omega
   have HF:=Hd D;clear h1 h2 W J K D;go_enter Tryz.func114,Tryz.ntmps114;go_wp2_with fail
   go_loopg[28] B.length (fun G i wr=>∃k:Nat,k<=B.length/\G=B.length-k/\i=.int .i64 k/\wr=w/\(B.drop k).any (fun t=>t != -1)=F)
   case atStart=>exact⟨0,by omega,rfl,rfl,rfl,by simpa using HF.out⟩
   case round=>
    obtain⟨k,hk,rfl,rfl,rfl,f⟩:=hrel;clear HF
    by_cases X:k<B.length
    ·have e2:decide ((k:Int)<(B.length:Int))=true:=by simp;omega
     rcases M with h0|⟨eg,rfl⟩
     ·omega
     have r0:=Y.cell k X;have i2:(0:Int)<=(k:Int):=by omega
     have i3:(k:Int)<(B.length:Int):=by omega
     rw[yA X,List.any_cons]at f;generalize B[k]=tt at r0 f
     by_cases hn:tt= -1
     ·subst hn;have a2:=Hd f;clear f;go_wp2_with fail
      go_roundg (B.length- (k+1))
      case measure=>omega
      case rel=>exact⟨k+1,by omega,rfl,by go_num,rfl,by simpa using a2.out⟩
     ·have e3:(tt != -1)=true:=by simp[hn]
      have U:F=true:=by rw[e3]at f;simpa using f.symm
      subst U;clear f hn;go_wp2_with fail;go_ret;exact⟨rfl,rfl⟩
    ·have e2:decide ((k:Int)<(B.length:Int))=false:=by simp;omega
     rw[yY (by omega)]at f;have U:F=false:=by simpa using f.symm
     subst U;clear f;go_wp2_with fail;go_ret;exact⟨rfl,rfl⟩
end Go.Proofs.YtcckhngbdoiikabGreat

namespace Go.Proofs.YtcckhngbdoiikabGreat
def M1(s:ByteArray)(p:Nat):List Int:=(s.data.toList.drop p).map (fun b=>((b.toNat:Nat):Int))
theorem Ff{s:ByteArray}{p:Nat}(h:s.size<=p):M1 s p= []:=by
 have f:s.data.size=s.size:=rfl;unfold M1;rw[List.drop_eq_nil_of_le (by simp;omega)];rfl
theorem Qp{s:ByteArray}{p:Nat}(h:p<s.size):M1 s p=F0 s p::M1 s (p+1):=by
 have f:p<s.data.toList.length:=by simpa using h
 unfold M1;rw[yA f,List.map_cons]
 congr 1
 unfold F0;rw[dif_pos h];rfl
theorem B8(s:ByteArray)(p:Nat):(M1 s p).length=s.size-p:=by
 have f:s.data.size=s.size:=rfl;simp[M1]
theorem Pj(x y:ByteArray)(p:Nat)(h:p<=x.size):M1 (x++y) p=M1 x p++M1 y 0:=by
 have f:x.data.size=x.size:=rfl;have e:(x++y).data.toList=x.data.toList++y.data.toList:=by simp
 unfold M1;rw[e,List.drop_append_of_le_length (by simp;omega),zV,xG]
theorem Rp(s:ByteArray)(p k:Nat):(M1 s p).drop k=M1 s (p+k):=by
 unfold M1;rw[<-List.map_drop,List.drop_drop]
abbrev Vh:Type:=Nat×Int×Int
def K2(kd:Nat->Nat)(g:B0):List Int->Nat->Int->Vh->Vh×Option Int
 | [],q,st,info=>(info,some st)
 |b::r,q,st,info=>if X0 kd g st b= -1 then(info,none)else K2 kd g r (q+1) (X0 kd g st b) (if M0 g (X0 kd g st b)= -1 then info else(q+1,M0 g (X0 kd g st b),X0 kd g st b))
theorem K7(kd:Nat->Nat)(g:B0)(b:Int)(r:List Int)(q:Nat)(st:Int)(f:Vh):K2 kd g (b::r) q st f=if X0 kd g st b= -1 then(f,none)else K2 kd g r (q+1) (X0 kd g st b) (if M0 g (X0 kd g st b)= -1 then f else(q+1,M0 g (X0 kd g st b),X0 kd g st b)):=rfl
theorem Jf(kd:Nat->Nat)(g:B0):∀(L M:List Int) (q:Nat) (st:Int) (f:Vh),K2 kd g (L++M) q st f=match(K2 kd g L q st f).2 with
  |none=>K2 kd g L q st f
  |some st'=>K2 kd g M (q+L.length) st' (K2 kd g L q st f).1
 | [],M,q,st,f=>rfl
 |b::r,M,q,st,f=>by
  show K2 kd g (b::(r++M)) q st f=_;rw[K7,K7]
  by_cases h:X0 kd g st b= -1
  ·rw[if_pos h,if_pos h]
  ·rw[if_neg h,if_neg h];have B:q+1+r.length=q+(b::r).length:=by simp;omega
   rw[<-B];exact Jf kd g r M (q+1) _ _
theorem Jn(kd:Nat->Nat)(g:B0):∀(L:List Int) (q:Nat) (st:Int) (f:Vh) (B:Int),(K2 kd g L q st f).2=some B->
  (K2 kd g L q st f).1=f\/∃k,0<k/\k<=L.length/\(K2 kd g L q st f).1.1=q+k/\K2 kd g (L.drop k) (q+k) (K2 kd g L q st f).1.2.2 (K2 kd g L q st f).1=K2 kd g L q st f
 | [],q,st,f,B,h=>.inl rfl
 |b::r,q,st,f,B,h=>by
  rw[K7]at h⊢
  by_cases D:X0 kd g st b= -1
  ·rw[if_pos D]at h;cases h
  ·rw[if_neg D]at h⊢;rcases Jn kd g r (q+1) _ _ B h with e|⟨k,M,U,J,K⟩
   ·by_cases G:M0 g (X0 kd g st b)= -1
    ·rw[if_pos G]at e⊢;exact .inl e
    ·rw[if_neg G]at e⊢;refine .inr ⟨1,by omega,by simp,by rw[e],?_⟩;rw[e];simp only[List.drop_succ_cons,xG]
   ·refine .inr ⟨k+1,by omega,by simp;omega,by rw[J];omega,?_⟩;rw[List.drop_succ_cons,show q+(k+1)=q+1+k by omega];exact K
theorem Wd(kd:Nat->Nat)(g:B0):∀(L:List Int) (q:Nat) (st:Int) (f:Vh),(K2 kd g L q st f).1=f\/(q<(K2 kd g L q st f).1.1/\(K2 kd g L q st f).1.1<=q+L.length/\(K2 kd g L q st f).1.2.1≠ -1)
 | [],q,st,f=>.inl rfl
 |b::r,q,st,f=>by
  rw[K7];split
  ·exact .inl rfl
  ·rename_i J;rcases Wd kd g r (q+1) (X0 kd g st b) (if M0 g (X0 kd g st b)= -1 then f else(q+1,M0 g (X0 kd g st b),X0 kd g st b))with e|⟨D,G,h⟩
   ·rw[e];split
    ·exact .inl rfl
    ·rename_i B;exact .inr ⟨by show q<q+1;omega,by show q+1<=_;simp,B⟩
   ·exact .inr ⟨by omega,by simp;omega,h⟩
def L4(p:Nat)(s:ByteArray)(i:Vh):F3:=⟨p,i.1,i.2.1,i.2.2,s.extract i.1 s.size⟩
def Pb(g:B0):Option Int->Bool
 |none=>false
 |some st=>A6 g st
theorem Wk(kd:Nat->Nat)(g:B0)(s:ByteArray)(p b:Nat)(D:b<=s.size):∀(n i:Nat) (st:Int) (f:Vh),s.size<n+(b+i)->b+i<=s.size->
  T4 kd g (s.extract b s.size) b n i st (L4 p s f)=(L4 p s (K2 kd g (M1 s (b+i)) (b+i) st f).1,Pb g (K2 kd g (M1 s (b+i)) (b+i) st f).2)
 |0,i,st,f,hn,hi=>by omega
 |n+1,i,st,f,hn,hi=>by
  unfold T4;have K:=S3 s b
  by_cases G:b+i<s.size
  ·have h:i<(s.extract b s.size).size:=by omega
   rw[if_pos h,Pr s b i D h,Qp G];rw[K7]
   by_cases B:X0 kd g st (F0 s (b+i))= -1
   ·rw[if_pos B,if_pos B];rfl
   ·rw[if_neg B,if_neg B];have J:=Wk kd g s p b D n (i+1) (X0 kd g st (F0 s (b+i))) (if M0 g (X0 kd g st (F0 s (b+i)))= -1 then f else(b+i+1,M0 g (X0 kd g st (F0 s (b+i))),X0 kd g st (F0 s (b+i)))) (by omega) (by omega);rw[show b+(i+1)=b+i+1 by omega]at J;rw[<-J]
    congr 1
    split
    ·rfl
    ·show F3.mk p (b+i+1) _ _ _=F3.mk _ _ _ _ _;rw[extract_extract s b (i+1) D];rfl
  ·have h:¬i<(s.extract b s.size).size:=by omega
   rw[if_neg h,Ff (by omega)];rfl
theorem Ca(kd:Nat->Nat)(g:B0)(s:ByteArray)(p:Nat)(f:Vh)(B:f.1<=s.size):
  S4 kd g (L4 p s f)=(L4 p s (K2 kd g (M1 s f.1) f.1 f.2.2 f).1,Pb g (K2 kd g (M1 s f.1) f.1 f.2.2 f).2):=by
 have h:=Wk kd g s p f.1 B ((s.extract f.1 s.size).size+1) 0 f.2.2 f (by rw[S3];omega) (by omega);exact h
abbrev Y1(p:Nat):Vh:=(p,-1,0)
structure Rf(kd:Nat->Nat)(g:B0)(x:ByteArray)(p:Nat)(v:F3):Prop where
 le:p<=x.size
 eq:v=L4 p x (K2 kd g (M1 x p) p 0 (Y1 p)).1
 fK:(K2 kd g (M1 x p) p 0 (Y1 p)).2≠none
theorem IU(p:Nat)(x y:ByteArray)(i:Vh)(h:i.1<=x.size):({ L4 p x i with tail:=(L4 p x i).tail++y }:F3)=L4 p (x++y) i:=by
 unfold L4;simp only
 congr 1
 rw[ByteArray.ext_iff];apply Array.toList_inj.1;have f:x.data.toList.length=x.size:=by simp
 simp only[ByteArray.data_append,ByteArray.data_extract,Array.toList_append,Array.toList_extract,List.extract,zN];rw[List.drop_append_of_le_length (by omega),zO (by simp),zO (by simp;omega)]
theorem Rf.more{kd:Nat->Nat}{g:B0}{x:ByteArray}{p:Nat}{v:F3}(h:Rf kd g x p v)(y:ByteArray):
  ∃i:Vh,({ v with tail:=v.tail++y }:F3)=L4 p (x++y) i/\p<=i.1/\i.1<=x.size/\(i.1=p->i=Y1 p)/\S4 kd g (L4 p (x++y) i)=S4 kd g (L4 p (x++y) (Y1 p)):=by
 obtain⟨K,rfl,M⟩:=h;have a0:(x++y).size=x.size+y.size:=zN;have B:=Wd kd g (M1 x p) p 0 (Y1 p);rw[B8]at B;obtain⟨U,G⟩:∃U,(K2 kd g (M1 x p) p 0 (Y1 p)).2=some U:=by
  cases hh:(K2 kd g (M1 x p) p 0 (Y1 p)).2 with
  |none=>exact absurd hh M
  |some U=>exact⟨U,rfl⟩
 have J:=Jn kd g (M1 x p) p 0 (Y1 p) U G;have f:=Jf kd g (M1 x p) (M1 y 0) p 0 (Y1 p);rw[G]at f;generalize Z:K2 kd g (M1 x p) p 0 (Y1 p)=r at B G J f M⊢;have D:r.1.1<=x.size:=by
  rcases B with e|⟨_,h2,_⟩
  ·rw[e];exact K
  ·omega
 refine⟨r.1,IU p x y r.1 D,?_,D,?_,?_⟩
 ·rcases B with e|⟨X,_⟩
  ·rw[e];exact zD _
  ·omega
 ·intro e;rcases B with W|⟨X,_⟩
  ·exact W
  ·omega
 ·rw[Ca kd g (x++y) p r.1 (by omega),Ca kd g (x++y) p (Y1 p) (by show p<=_;omega)];have Y:K2 kd g (M1 (x++y) r.1.1) r.1.1 r.1.2.2 r.1=K2 kd g (M1 (x++y) p) p 0 (Y1 p):=by
   rw[Pj x y p K,f,Pj x y r.1.1 D];rcases J with e|⟨k,k0,k1,k2,V⟩
   ·rw[e];show K2 kd g (M1 x p++M1 y 0) p 0 (Y1 p)=_;rw[Jf,Z,G,e]
   ·rw[Rp,<-k2]at V;rw[Jf,V,G,B8,B8,show r.1.1+(x.size-r.1.1)=p+(x.size-p) by omega]
  rw[Y]
theorem Rn{kd:Nat->Nat}{g:B0}(D:N7 kd g){st b:Int}(h:A6 g st=false):X0 kd g st b= -1:=by
 unfold A6 at h;unfold X0;split
 ·rfl
 ·rename_i G;rw[if_neg (by omega)]at h;have f:=D st.toNat (by omega) b.toNat (by omega);have B:(g.next.getD st.toNat []).getD (kd b.toNat) 0∈g.next.getD st.toNat []:=by
   generalize g.next.getD st.toNat []=row at f;rw[zC,zF f];exact zG f
  rw[List.any_eq_false]at h;have:=h _ B;simpa using this
theorem LP{kd:Nat->Nat}{g:B0}(B:N7 kd g)(L M:List Int)(q:Nat)(st:Int)(f:Vh)(h:Pb g (K2 kd g L q st f).2=false):(K2 kd g (L++M) q st f).1=(K2 kd g L q st f).1:=by
 rw[Jf];cases hh:(K2 kd g L q st f).2 with
 |none=>rfl
 |some s'=>
  rw[hh]at h;simp only;cases M with
  |nil=>rfl
  |cons b r=>
   rw[K7,if_pos (Rn B h)]
def Oc(p:Nat)(i:Vh):V4:=if i.1=p then⟨-1,p,p+1⟩else⟨i.2.1,p,i.1⟩
theorem Nv(p:Nat)(s:ByteArray):L4 p s (Y1 p)=⟨p,p,-1,0,s.extract p s.size⟩:=rfl
theorem Ng(kd:Nat->Nat)(g:B0)(s:ByteArray)(p:Nat)(J:p<=s.size):V3 kd g s p=Oc p (K2 kd g (M1 s p) p 0 (Y1 p)).1:=by
 have h:=An kd g s p J (s.size-p+1) 0 0 ⟨-1,p,p+1⟩ ⟨p,p,-1,0,s.extract p s.size⟩ (by omega) ⟨rfl,.inl ⟨rfl,rfl,rfl⟩⟩;have G:=Wk kd g s p p J (s.size-p+1) 0 0 (Y1 p) (by omega) (by omega);rw[Nv,Nat.add_zero]at G;rw[G]at h;have K:V3 kd g s p=Xa kd g s p (s.size-p+1) (p+0) 0 ⟨-1,p,p+1⟩:=rfl;rw[K];generalize(K2 kd g (M1 s p) p 0 (Y1 p)).1=i at h;generalize Xa kd g s p (s.size-p+1) (p+0) 0 ⟨-1,p,p+1⟩=bM at h;obtain⟨M,⟨B,_,D⟩|⟨B,U,D,_⟩⟩:=h
 ·have f:i.1=p:=B;unfold Oc;rw[if_pos f,D]
 ·have f:p<i.1:=B;unfold Oc;rw[if_neg (by omega),D];rfl
def J9(kd:Nat->Nat)(g:B0)(s:ByteArray):Nat->List V4->Nat->Prop
 |p,[],p'=>p=p'
 |p,t::r,p'=>p<s.size/\t=V3 kd g s p/\J9 kd g s t.tt r p'
theorem Uy(p:Nat)(s:ByteArray)(i:Vh)(D:p<s.size)(h:i=Y1 p\/(p<i.1/\i.1<=s.size)):
  (⟨(L9 (L4 p s i)).en,(L9 (L4 p s i)).en,-1,0,(L9 (L4 p s i)).tail⟩:F3)=L4 (Oc p i).tt s (Y1 (Oc p i).tt)/\(⟨(L9 (L4 p s i)).aB,(L9 (L4 p s i)).bC,(L9 (L4 p s i)).en⟩:V4)=Oc p i/\p<(Oc p i).tt/\(Oc p i).tt<=s.size:=by
 rcases h with rfl|⟨f,B⟩
 ·have e:L9 (L4 p s (Y1 p))=⟨p,p+1,-1,0,s.extract (p+1) s.size⟩:=by
   unfold L9;rw[if_pos (show(L4 p s (Y1 p)).en=(L4 p s (Y1 p)).bC from rfl)];show F3.mk p (p+1) (-1) 0 ((s.extract p s.size).extract 1 (s.extract p s.size).size)=_;rw[extract_extract s p 1 (by omega)]
  rw[e];unfold Oc;rw[if_pos rfl];exact⟨rfl,rfl,by show p<p+1;omega,by show p+1<=s.size;omega⟩
 ·have e:L9 (L4 p s i)=L4 p s i:=by
   unfold L9;rw[if_neg (by show ¬i.1=p;omega)]
  rw[e];unfold Oc;rw[if_neg (by omega)];exact⟨rfl,rfl,f,B⟩
theorem NQ{kd:Nat->Nat}{g:B0}(ho:N7 kd g)(s:ByteArray):∀(n p:Nat) (D:List V4),p<=s.size->s.size<n+p->
  ∃l B K,E4 kd g false n (L4 p s (Y1 p)) D=(D++l,K)/\Rf kd g s B K/\p<=B/\∀z,J9 kd g (s++z) p l B
 |0,p,D,_,_=>by omega
 |n+1,p,D,hp,hn=>by
  unfold E4;have hz:=S3 s p
  by_cases U:p<s.size
  ·rw[if_pos (.inr (by show(s.extract p s.size).size≠0;omega)),Ca kd g s p (Y1 p) hp];have h:=Wd kd g (M1 s p) p 0 (Y1 p);rw[B8]at h;have V:=Ng kd g s p hp;have G:=fun M=>LP ho (M1 s p) M p 0 (Y1 p)
   have J:Rf kd g s p (L4 p s (K2 kd g (M1 s p) p 0 (Y1 p)).1)\/(K2 kd g (M1 s p) p 0 (Y1 p)).2=none:=by
    by_cases e:(K2 kd g (M1 s p) p 0 (Y1 p)).2=none
    ·exact .inr e
    ·exact .inl ⟨hp,rfl,e⟩
   show ∃l B K,(if Pb g (K2 kd g (M1 s p) p 0 (Y1 p)).2=true/\false=false then _ else _)=_/\_;generalize K2 kd g (M1 s p) p 0 (Y1 p)=r at h V G J
   by_cases f:Pb g r.2=true
   ·rw[if_pos ⟨f,rfl⟩];refine⟨[],p,L4 p s r.1,by simp,?_,zD _,fun z=>rfl⟩;rcases J with e|e
    ·exact e
    ·rw[e]at f;cases f
   ·rw[if_neg (fun e=>f e.1)];have W:Pb g r.2=false:=by simpa using f
    obtain⟨X,Y,a3,a4⟩:=Uy p s r.1 U (by rcases h with e|⟨e1,e2,_⟩;exact .inl e;exact .inr ⟨e1,by omega⟩);simp only at X Y⊢;rw[X,Y];obtain⟨l,B,K,b1,b2,b3,b4⟩:=NQ ho s n (Oc p r.1).tt (D++ [Oc p r.1]) a4 (by omega);refine⟨Oc p r.1::l,B,K,by rw[b1];simp,b2,by omega,fun z=>?_⟩;have a0:(s++z).size=s.size+z.size:=zN;refine⟨by omega,?_,b4 z⟩;rw[Ng kd g (s++z) p (by omega),Pj s z p hp,G (M1 z 0) W]
  ·have e:p=s.size:=by omega
   subst e;rw[if_neg (by simp only[not_or];exact⟨by show ¬s.size<s.size;omega,by show ¬(s.extract s.size s.size).size≠0;omega⟩)];have Z:K2 kd g (M1 s s.size) s.size 0 (Y1 s.size)=(Y1 s.size,some 0):=by rw[Ff (zD _)];rfl
   exact⟨[],s.size,_,by simp;rfl,⟨zD _,by rw[Z],by rw[Z];simp⟩,zD _,fun z=>rfl⟩
end Go.Proofs.YtcckhngbdoiikabGreat
