import Derived.Test.YtcckhngbdoiikaaGreatS26
set_option maxRecDepth 20000
set_option maxHeartbeats 12800000
set_option linter.unusedVariables false
namespace Go.Proofs.YtcckhngbdoiikaaGreat
open Go.RowKit Go.Deep
structure PlT where
 b:Nat
 t:ByteArray
 A:Nat->Bool
structure MA(w:World)(xb:Nat)(bL:List PlT):Prop where
 aO:∃c pv,Blk w xb c 78/\c[2]?=some pv/\w.ownsRow 0 80 1 pv bL.length (K5 (bL.map PlT.b))
 pl:∀p∈bL,∃c,Blk w p.b c 129/\c[3]?=some (.string p.t)
 al:∀p∈bL,Cv p.t p.A
theorem MA.aA{w w':World}{xb:Nat}{D:List PlT}(h:MA w xb D)(k:Bw w w'):MA w' xb D:=by
 obtain⟨c,K,f,B,G⟩:=h.aO;refine⟨⟨c,K,f.aA k,B,J0 (ex:=fun _=>False) G (C0.aM k) (fun _ _ e=>e)⟩,fun p J=>?_,h.al⟩;obtain⟨c,f,B⟩:=h.pl p J;exact⟨c,f.aA k,B⟩
def twF(f:List PlT)(a b:Nat):Bool:=f.all (fun p=>p.A a==p.A b)
theorem Xr{f:List PlT}{a b:Nat}:twF f a b=true↔∀p∈f,p.A a=p.A b:=by simp[twF]
theorem KW(f:List PlT)(a:Nat):twF f a a=true:=Xr.2 fun _ _=>rfl
theorem BD{f:List PlT}{a b c:Nat}(h:twF f a b=true)(g:twF f b c=true):twF f a c=true:=Xr.2 fun p B=>(Xr.1 h p B).trans (Xr.1 g p B)
theorem JW{f:List PlT}{a b i:Nat}(h:i<f.length):twF (f.drop i) a b=((f[i].A a==f[i].A b) && twF (f.drop (i+1)) a b):=by
 rw[zY h];rfl
theorem B6(w:World):Bw w w.drew:=⟨rfl,rfl,rfl,zD _,fun _ _=>rfl⟩
theorem LW(f:List PlT)(xb a b:Nat)(w:World)(h:MA w xb f)(ha:a<256)(hb:b<256)(hn:f.length<=1000):
  Calls Tryz.prog 54 #[.pointer (some ⟨xb,0,none⟩),.int .i64 a,.int .i64 b] w fun e w'=>e=.returned (.bool (twF f a b))/\Bw w w':=by
 obtain⟨TW,a4⟩:∃TW,twF f a b=TW:=⟨_,rfl⟩;rw[a4];have ac:=Hd a4;have HP:=Hd h;clear a4 h;go_enter Tryz.func54,Tryz.ntmps54;go_wp2_with fail
 go_loopg[7] f.length (fun G iv wr=>∃i:Nat,iv=.int .i64 i/\i<=f.length/\G=f.length-i/\twF (f.drop i) a b=TW/\Bw w wr)
 case atStart=>exact⟨0,rfl,by omega,rfl,by simpa using ac.out,Below.refl _ _⟩
 case round=>
  obtain⟨i,rfl,hi,rfl,B,K⟩:=hrel;have hz:=K.size;have hP:=HP.out.aA K;obtain⟨cx,pv,Z,M,a0⟩:=hP.aO;have c2:wr.cell? ⟨xb,2,none⟩=some pv:=by rw[Z.cell];exact M
  obtain⟨_,pd,a3,rfl,U⟩:=L0 a0
  by_cases X:i<f.length
  ·have e0:decide ((i:Int)<(f.length:Int))=true:=by simp;omega
   rcases U with⟨_,e⟩|⟨pg,pc,rfl,aa,_⟩
   ·omega
   have cg:wr.cell? ⟨pg,i,none⟩=some (.pointer (some ⟨f[i].b,0,none⟩)):=by rw[Y0 a0 i (by omega)];simp[K5,X]
   obtain⟨cp,Y,a9⟩:=hP.pl f[i] (zG X);have c3:wr.cell? ⟨f[i].b,3,none⟩=some (.string f[i].t):=by rw[Y.cell];exact a9
   have HA:=Hd (hP.al f[i] (zG X));unfold Cv at HA;have a8:=JW (a:=a) (b:=b) X;rw[a8]at B;generalize f[i].A=A at HA B;generalize f[i].b=pb at cg c3 Y;generalize f[i].t=pt at c3 HA;have i0:(0:Int)<=(i:Int):=by omega
   have i1:(i:Int)<(f.length:Int):=by omega
   have z1:=Z.lt;have z2:=aa.lt;have z3:=Y.lt;have HI:=Hd2 B K;clear B K hP Z M a0 aa Y a9 a8;go_upto_region 4 with fail
   go_cut[41] (fun bv wx=>bv=.bool (A a !=A b)/\Bw wr wx)
   case first=>
    have S0:wr.drew.cell? ⟨xb,2,none⟩=some (.slice (some ⟨pg,0,none⟩) f.length a3)/\wr.drew.cell? ⟨pg,i,none⟩=some (.pointer (some ⟨pb,0,none⟩))/\wr.drew.cell? ⟨pb,3,none⟩=some (.string pt):=⟨c2,cg,c3⟩
    go_region_held3 (fun W=>W.cell? ⟨xb,2,none⟩=some (.slice (some ⟨pg,0,none⟩) f.length a3)/\W.cell? ⟨pg,i,none⟩=some (.pointer (some ⟨pb,0,none⟩))/\W.cell? ⟨pb,3,none⟩=some (.string pt))
     (first|with_reducible exact S0|with_reducible exact S1|with_reducible exact S2)
     (first
      |(go_at_call_of 97 (Value.int IntKind.i64 (a:Int));with_reducible refine(HA.out a _ ha).mono ?_;rintro e w1 ⟨rfl,a5⟩;have D:=(B6 wr).trans (a5.mono (zD _));have g0:=(D.cell (p:=⟨xb,2,none⟩) z1).trans c2;have g1:=(D.cell (p:=⟨pg,i,none⟩) z2).trans cg;have g2:=(D.cell (p:=⟨pb,3,none⟩) z3).trans c3;have S1:=And.intro g0 (And.intro g1 g2);clear a5)
      |(go_at_call_of 97 (Value.int IntKind.i64 (b:Int));with_reducible refine(HA.out b _ hb).mono ?_;rintro e w2 ⟨rfl,a6⟩;have J:=D.trans (a6.mono D.size);have k0:=(J.cell (p:=⟨xb,2,none⟩) z1).trans c2;have k1:=(J.cell (p:=⟨pg,i,none⟩) z2).trans cg;have k2:=(J.cell (p:=⟨pb,3,none⟩) z3).trans c3;have S2:=And.intro k0 (And.intro k1 k2);clear a6))
    all_goals
     go_wp2_with fail;go_meet;exact⟨rfl,J⟩
   case rest=>
    obtain⟨rfl,a7⟩:=hcut;have HB:=Hd a7;clear a7 c2 cg c3;generalize ab:(A a !=A b)=xx;have M:(A a==A b)=!xx:=by rw[<-ab];simp[bne]
    have HX:=Hd M;clear ab M;cases xx with
    |true=>
     go_wp2_with fail;go_ret;obtain⟨V,a2⟩:=HI.out;rw[HX.out]at V;simp only[xE,yZ]at V;refine⟨by rw[<-V];rfl,a2.trans (HB.out.mono hz)⟩
    |false=>
     go_wp2_with fail
     go_roundg (f.length- (i+1))
     case measure=>omega
     case rel=>
      obtain⟨V,a2⟩:=HI.out;rw[HX.out]at V;simp only[xA,Bool.true_and]at V;exact⟨i+1,by go_num,by omega,rfl,V,a2.trans (HB.out.mono hz)⟩
  ·obtain rfl:i=f.length:=by omega
   have e0:decide ((f.length:Int)<(f.length:Int))=false:=by simp
   have HI:=Hd2 B K;clear B K hP Z M a0 U;go_wp2_with fail;go_ret;obtain⟨V,a2⟩:=HI.out;rw[List.drop_length]at V;exact⟨by rw[<-V];rfl,a2⟩
def KD(f:List PlT)(b k:Nat):Prop:=k<=b/\twF f k b=true/\∀j,j<k->twF f j b=false
theorem KD.step{B:List PlT}{f:List Int}{b:Nat}(h:∀c,c<b->∃k:Nat,f.getD c 0=(k:Int)/\KD B c k){k:Nat}(hk:k<=b)(U:∀j,j<k->¬(f.getD j 0=(j:Int)/\twF B j b=true)):∀j,j<k->twF B j b=false:=by
 intro j Z;cases hh:twF B j b with
 |false=>rfl
 |true=>
  exfalso
  obtain⟨m,X,Y,G,M⟩:=h j (by omega);obtain⟨D,J,V,K,W⟩:=h m (by omega);have:D=m:=by
   rcases yE D m with e|e
   ·have:=M D e;rw[BD K G]at this;cases this
   ·omega
  subst this;exact U D (by omega) ⟨J,BD G hh⟩
theorem ML(bL:List PlT)(xb:Nat)(w:World)(h:MA w xb bL)(hn:bL.length<=1000):
  Calls Tryz.prog 29 #[.pointer (some ⟨xb,0,none⟩)] w fun e w'=>∃v f,e=.returned v/\O2 w' v f/\f.length=256/\(∀b,b<256->∃k:Nat,f.getD b 0=(k:Int)/\KD bL b k)/\(∀b,v.ownBlock=some b->w.heap.size<=b)/\Bw w w':=by
 have HP:=Hd h;clear h;go_enter Tryz.func29,Tryz.ntmps29;go_wp2_with fail
 go_loopg[3,4] 256 (fun G lv bv wr=>∃(b:Nat) (f:List Int),bv=.int .i64 b/\b<=256/\G=256-b/\O2 wr lv f/\f.length=b/\(∀c,c<b->∃k:Nat,f.getD c 0=(k:Int)/\KD bL c k)/\(∀x,lv.ownBlock=some x->w.heap.size<=x)/\Bw w wr)
 case atStart=>exact⟨0,[],rfl,by omega,rfl,World.ownsRow_nil _ _ _ _,rfl,fun c hc=>by omega,fun x hx=>by simp[Value.ownBlock]at hx,Below.refl _ _⟩
 case round=>
  obtain⟨b,f,rfl,hb,rfl,V,M,X,a8,a3⟩:=hrel;have hz:=a3.size;obtain⟨ld,U,rfl,a5⟩:=V.aT;rw[M]at a5
  by_cases ak:b<256
  ·have e0:decide ((b:Int)<256)=true:=by simp;omega
   have HI:=Hd5 V M X a8 a3;have HL:Hid (f.length=b):=Hd M;have a9:(T7 f).length+1<=4000000:=by rw[Te];omega
   obtain⟨n,af⟩:∃n,f.length=n:=⟨_,rfl⟩;rw[af];have HN:=Hd af;clear V M X a8 a3 af;obtain⟨wo,rfl⟩:∃wo:World,wo=wr:=⟨_,rfl⟩;go_wp2_with fail
   go_loopg[5] b (fun G kv wi=>∃k:Nat,kv=.int .i64 k/\k<=b/\G=b-k/\(∀j,j<k->¬(f.getD j 0=(j:Int)/\twF bL j b=true))/\Bw wo wi)
   case atStart=>exact⟨0,rfl,by omega,rfl,fun j hj=>by omega,Below.refl _ _⟩
   case round=>
    obtain⟨k,rfl,hk,rfl,B,D⟩:=hrel
    by_cases aj:k<b
    ·have e1:decide ((k:Int)<(b:Int))=true:=by simp;omega
     rcases a5 with e|⟨lg,rfl⟩
     ·omega
     have ae:n=b:=HN.out.symm.trans HL.out;have k0:(0:Int)<=(k:Int):=by omega
     have k1:(k:Int)<(n:Int):=by omega
     have cl:wr.cell? ⟨lg,k,none⟩=some (.int .i64 (f.getD k 0)):=(HI.out.1.aA D).getD k (by rw[HL.out];exact aj);generalize Z:f.getD k 0=lk at cl;have ab:=Hd (fun W (hb:Bw wr W)=>LW bL xb k b W (((HP.out.aA HI.out.2.2.2.2).aA D).aA hb) (by omega) ak hn)
     by_cases Y:lk=(k:Int)
     ·subst Y;have e2:((k:Int)==(k:Int))=true:=by simp
      have a7:=Hd (ab.out wr (Below.refl _ _));have an:=Hd Z;have ao:=Hd ae;have HB:=Hd2 B D;clear ab Z ae B D;generalize ah:twF bL k b=tw at a7;have ag:=Hd ah;clear ah;cases tw with
      |true=>
       go_wp2_with fail;refine a7.out.mono ?_;rintro e w1 ⟨rfl,a1⟩;obtain⟨B,J⟩:=HB.out;have D:Bw wo w1:=J.trans (a1.mono J.size);obtain⟨wr,rfl⟩:∃wr:World,wr=w1:=⟨_,rfl⟩;obtain⟨q1,q2,q3,q4,q5⟩:=HI.out;have a2:Bw w wr:=q5.trans (D.mono hz);have a6:O2 wr (.slice (some ⟨lg,0,none⟩) n U) f:=by have h9:=q1.aA D;rw[HN.out]at h9;exact h9
       have am:=D.size;have HR:=Hd a6.lC;have K:Hid (∀x,(Value.slice (some ⟨lg,0,none⟩) n U).ownBlock=some x->w.heap.size<=x):=by have h9:=q4;rw[HN.out]at h9;exact Hd h9
       have aa:Hid (KD bL b k):=Hd ⟨hk,ag.out,KD.step q3 hk B⟩;have a0:=Hd a2;clear q1 q2 q3 q4 q5 a2 a6 D B a1 J HB;go_wp2_with(at_builtin;(refine Df Tryz.underlying60 Tryz.cG rfl (by omega) (la:=T7 f) (ll:=[.int .i64 k]) (va:=.slice (some ⟨lg,0,none⟩) n U) (vl:=.slice (some ⟨wr.heap.size,0,none⟩) 1 1) (by rfl) _ _ (by rfl) (by rfl) (by rfl) (Dm HR.out _) (Ef wr 3 (.int .i64 k)) (fun u hu=>by rw[zJ]at hu;rw[hu];rfl) w.heap.size (by simp;omega) K.out a9 ?_));intro v6 w6 r1 r2 r3;have HK:Hid (O2 w6 v6 (f++ [(k:Int)])/\(∀x,v6.ownBlock=some x->w.heap.size<=x)/\Bw w w6):=by
        refine Hd ⟨O2.fC ?_,r2,?_⟩
        ·have e9:T7 (f++ [(k:Int)])=T7 f++ [.int .i64 k]:=by simp[T7]
         rw[e9,zL];exact r1
        ·exact Y2 (a0.out.alloc (by omega) _) r3 (by simp;omega) (fun x hx e=>by have:=K.out x e;omega)
       clear r1 r2 r3 HR K a0 a9;go_wp2_with fail
       go_roundg (256- (b+1))
       case measure=>omega
       case rel=>
        obtain⟨q1,q2,q3,q4,q5⟩:=HI.out;obtain⟨k1,k2,k3⟩:=HK.out;refine⟨b+1,f++ [(k:Int)],by go_num,by omega,rfl,k1,by rw[zL,q2];rfl,fun c hc=>?_,k2,k3⟩
        by_cases ac:c<b
        ·obtain⟨m,m1,m2⟩:=q3 c ac;exact⟨m,by rw[zC,zQ (by omega),<-zC];exact m1,m2⟩
        ·have a4:c=b:=by omega
         subst a4;exact⟨k,by rw[zC,zX (by omega),q2];simp,aa.out⟩
      |false=>
       go_wp2_with fail;refine a7.out.mono ?_;rintro e w1 ⟨rfl,a1⟩;have ai:=Hd a1;clear a1 a7;go_wp2_with fail
       go_roundg (b- (k+1))
       case measure=>omega
       case rel=>
        obtain⟨B,J⟩:=HB.out;refine⟨k+1,by go_num,by omega,rfl,fun j hj=>?_,J.trans (ai.out.mono J.size)⟩
        by_cases ad:j<k
        ·exact B j ad
        ·have:j=k:=by omega
         subst this;rw[ag.out];simp
     ·have e2:(lk==(k:Int))=false:=by simp;exact Y
      have HB:=Hd4 B D Z Y;clear ab Z ae B D Y;go_wp2_with fail
      go_roundg (b- (k+1))
      case measure=>omega
      case rel=>
       obtain⟨B,J,Z,Y⟩:=HB.out;refine⟨k+1,by go_num,by omega,rfl,fun j hj=>?_,J⟩
       by_cases ad:j<k
       ·exact B j ad
       ·have:j=k:=by omega
        subst this;exact fun e=>Y (Z.symm.trans e.1)
    ·obtain rfl:k=b:=by omega
     have e1:decide ((k:Int)<(k:Int))=false:=by simp
     obtain⟨q1,q2,q3,q4,q5⟩:=HI.out;have a2:Bw w wr:=q5.trans (D.mono hz);have a6:O2 wr (.slice ld n U) f:=by have h9:=q1.aA D;rw[HN.out]at h9;exact h9
     have am:=D.size;have HR:=Hd a6.lC;have K:Hid (∀x,(Value.slice ld n U).ownBlock=some x->w.heap.size<=x):=by have h9:=q4;rw[HN.out]at h9;exact Hd h9
     have aa:Hid (KD bL k k):=Hd ⟨hk,KW _ _,KD.step q3 hk B⟩;have a0:=Hd a2;clear q1 q2 q3 q4 q5 a2 a6 D B;go_wp2_with(at_builtin;(refine Df Tryz.underlying60 Tryz.cG rfl (by omega) (la:=T7 f) (ll:=[.int .i64 k]) (va:=.slice ld n U) (vl:=.slice (some ⟨wr.heap.size,0,none⟩) 1 1) (by rfl) _ _ (by rfl) (by rfl) (by rfl) (Dm HR.out _) (Ef wr 3 (.int .i64 k)) (fun u hu=>by rw[zJ]at hu;rw[hu];rfl) w.heap.size (by simp;omega) K.out a9 ?_));intro v6 w6 r1 r2 r3;have HK:Hid (O2 w6 v6 (f++ [(k:Int)])/\(∀x,v6.ownBlock=some x->w.heap.size<=x)/\Bw w w6):=by
      refine Hd ⟨O2.fC ?_,r2,?_⟩
      ·have e9:T7 (f++ [(k:Int)])=T7 f++ [.int .i64 k]:=by simp[T7]
       rw[e9,zL];exact r1
      ·exact Y2 (a0.out.alloc (by omega) _) r3 (by simp;omega) (fun x hx e=>by have:=K.out x e;omega)
     clear r1 r2 r3 HR K a0 a9;go_wp2_with fail
     go_roundg (256- (k+1))
     case measure=>omega
     case rel=>
      obtain⟨q1,q2,q3,q4,q5⟩:=HI.out;obtain⟨k1,k2,k3⟩:=HK.out;refine⟨k+1,f++ [(k:Int)],by go_num,by omega,rfl,k1,by rw[zL,q2];rfl,fun c hc=>?_,k2,k3⟩
      by_cases ac:c<k
      ·obtain⟨m,m1,m2⟩:=q3 c ac;exact⟨m,by rw[zC,zQ (by omega),<-zC];exact m1,m2⟩
      ·have a4:c=k:=by omega
       subst a4;exact⟨c,by rw[zC,zX (by omega),q2];simp,aa.out⟩
  ·obtain rfl:b=256:=by omega
   have e0:decide (((256:Nat):Int)<256)=false:=by simp
   have HI:=Hd5 V M X a8 a3;clear V X a8 a3 M;go_wp2_with fail;go_ret;obtain⟨q1,q2,q3,q4,q5⟩:=HI.out;exact⟨_,f,rfl,q1,q2,q3,q4,q5⟩
def Uq(i n:Nat):List Bool:=(List.replicate n false).set i true
theorem We(i n:Nat):(Uq i n).length=n:=by simp[Uq]
theorem Ak{i n q:Nat}(f:i<n)(B:q<n):(Uq i n).getD q false=decide (q=i):=by
 unfold Uq;rw[X6 _ _ _ _ (by simp;exact f)]
 by_cases h:q=i
 ·simp[h]
 ·simp[h,B]
theorem Cm(i n:Nat)(w:World)(h:i<n)(K:n<=50000):Calls Tryz.prog 126 #[.int .i64 i,.int .i64 n] w fun e w'=>e=.returned (.slice (some ⟨w.heap.size,0,none⟩) n n)/\Blk w' w.heap.size (Z0 (Uq i n)) 4/\Bw w w':=by
 have B:=U7 n (by omega);have f:=Blk.aQ w (Z0 (List.replicate n false)) 4;have G:=N2 f i (by simp;exact h);have J:=f.frozen i;have M:(0:Int)<=(i:Int):=by omega
 have U:(i:Int)<(n:Int):=by omega
 have D:=Hd f;clear f;go_enter Tryz.func126,Tryz.ntmps126;go_wp2_with fail;go_ret;refine⟨rfl,?_,P0 _ _⟩;rw[Z3];exact Blk.aQ _ _ _
def orL:List Bool->List Bool->List Bool
 |a::l,b::m=>(a || b)::orL l m
 |l,_=>l
theorem An:∀l m:List Bool,(orL l m).length=l.length
 | [],m=>by cases m <;>simp[orL]
 |a::l,[]=>by simp[orL]
 |a::l,b::m=>by simp[orL,An l m]
theorem Vl:∀(l m:List Bool) (i:Nat),i<l.length->i<m.length->(orL l m).getD i false=(l.getD i false || m.getD i false)
 | [],m,i,h,_=>by simp at h
 |a::l,[],i,_,h=>by simp at h
 |a::l,b::m,0,_,_=>by simp[orL]
 |a::l,b::m,i+1,h,g=>by
  have:=Vl l m i (by simpa using h) (by simpa using g);simpa[orL]using this
theorem Vo(g n a8:Nat)(l m:List Bool)(v:Value)(w:World)(hl:Blk w g (Z0 l) 4)(hm:Y5 w v m)(X:l.length=n)(M:m.length=n)(hg:v.ownBlock≠some g)(hn:n<=50000):
  Calls Tryz.prog 140 #[.slice (some ⟨g,0,none⟩) n a8,v] w fun e w'=>e=.returned (.tuple #[])/\Blk w' g (Z0 (orL l m)) 4/\C0 (fun x=>x=g) w w':=by
 obtain⟨md,a7,rfl,Y⟩:=hm.aT;rw[M]at Y;have K:=Hd5 hl hm X M hg;obtain⟨k,hk⟩:∃k,m.length=k:=⟨_,rfl⟩;rw[hk];have ab:k=n:=hk.symm.trans M;have HK:=Hd hk;clear hl hm X M hg hk;go_enter Tryz.func140,Tryz.ntmps140;go_wp2_with fail
 go_loopg[4] n (fun G iv wr=>∃(i:Nat) (V:List Bool),iv=.int .i64 i/\i<=n/\G=n-i/\V.length=n/\(∀q,q<n->V.getD q false=if q<i then(orL l m).getD q false else l.getD q false)/\Blk wr g (Z0 V) 4/\C0 (fun x=>x=g) w wr)
 case atStart=>exact⟨0,l,rfl,by omega,rfl,K.out.2.2.1,fun q hq=>by simp,K.out.1,C0.refl _ _⟩
 case round=>
  obtain⟨i,V,rfl,hi,rfl,h,J,W,f⟩:=hrel
  by_cases B:i<n
  ·have e0:decide ((i:Int)<(n:Int))=true:=by simp;omega
   rcases Y with e|⟨mg,rfl⟩
   ·omega
   have aa:mg≠g:=fun e=>K.out.2.2.2.2 (by rw[e];rfl)
   have cO:=N2 W i (by rw[h];exact B);have fO:=W.frozen i;have Z:Y5 wr (.slice (some ⟨mg,0,none⟩) m.length a7) m:=K.out.2.1.kept f (fun b' a9 e=>by cases(zE a9:mg=b');exact aa e);have cE:=Z.cellD i (by rw[K.out.2.2.2.1];exact B);have U:=J i B;rw[if_neg (by omega)]at U;have D:=Vl l m i (by rw[K.out.2.2.1];exact B) (by rw[K.out.2.2.2.1];exact B);rw[<-U]at D;generalize hx:V.getD i false=x at cO D;generalize m.getD i false=y at cE D;have i0:(0:Int)<=(i:Int):=by omega
   have i1:(i:Int)<(n:Int):=by omega
   have i2:(i:Int)<(k:Int):=by omega
   have HI:=Hd5 h J W f D;clear h J W f D Z U hx;cases x <;>cases y
   all_goals
    go_wp2_with fail
    go_roundg (n- (i+1))
    case measure=>omega
    case rel=>
     obtain⟨a1,a2,a3,a4,a5⟩:=HI.out;refine⟨i+1,V.set i _,by go_num,by omega,rfl,by simp[a1],fun q hq=>?_,by rw[<-Z3];exact a3.set i _,a4.setCell (p:=⟨g,i,none⟩) (fun _=>rfl) _⟩;rw[X6 _ _ _ _ (by omega)]
     by_cases a6:q=i
     ·subst a6;rw[if_pos rfl,if_pos (by omega),a5];rfl
     ·rw[if_neg a6,a2 q hq]
      by_cases a0:q<i
      ·rw[if_pos a0,if_pos (by omega)]
      ·rw[if_neg a0,if_neg (by omega)]
  ·obtain rfl:i=n:=by omega
   have e0:decide ((i:Int)<(i:Int))=false:=by simp
   have HI:=Hd4 h J W f;clear h J W f;go_wp2_with fail
   go_end0
   obtain⟨a1,a2,a3,a4⟩:=HI.out;have:V=orL l m:=by
    refine Vm (by rw[a1,An,K.out.2.2.1]) fun q=>?_
    by_cases hq:q<i
    ·rw[a2 q hq,if_pos hq]
    ·rw[zC,yI (by omega),zC,yI (by rw[An,K.out.2.2.1];omega)]
   rw[<-this];exact⟨rfl,a3,a4⟩
mutual
def MT.subs:MT->List MT
 |.place b i e A=>[.place b i e A]
 |.node b v k l=>.node b v k l::B5 l
def B5:List MT->List MT
 | []=>[]
 |y::l=>y.subs++B5 l
end
theorem MT.sub_self(T:MT):T∈T.subs:=by cases T <;>simp[MT.subs]
theorem ZC{l:List MT}{y T:MT}(f:y∈l)(h:T∈y.subs):T∈B5 l:=by
 induction l with
 |nil=>simp at f
 |cons x l ih=>
  rw[zU]at f;simp only[B5,zO];rcases f with rfl|f
  ·exact .inl h
  ·exact .inr (ih f)
mutual
theorem MT.iP:∀(U T:MT),T∈U.subs->∀b v k l,T=.node b v k l->∀y∈l,y∈U.subs
 |.place b i e A,T,h,b',v,k,l,hT,y,hy=>by
  simp only[MT.subs,zJ]at h;rw[h]at hT;cases hT
 |.node b0 v0 k0 l0,T,h,b',v,k,l,hT,y,hy=>by
  simp only[MT.subs,zU]at h⊢;rcases h with h|h
  ·rw[h]at hT
   injection hT with e1 e2 e3 e4
   subst e4;exact .inr (ZC hy (MT.sub_self y))
  ·exact .inr (Lj l0 T h b' v k l hT y hy)
theorem Lj:∀(L:List MT) (T:MT),T∈B5 L->∀b v k l,T=.node b v k l->∀y∈l,y∈B5 L
 | [],T,h,_,_,_,_,_,_,_=>by simp[B5]at h
 |x::L,T,h,b',v,k,l,hT,y,hy=>by
  simp only[B5,zO]at h⊢;rcases h with h|h
  ·exact .inl (MT.iP x T h b' v k l hT y hy)
  ·exact .inr (Lj L T h b' v k l hT y hy)
end
mutual
theorem MT.At.sub{w:World}{s:ByteArray}{f:Nat->Int}:∀(U T:MT),U.At w s f->T∈U.subs->T.At w s f
 |.place b i e A,T,h,B=>by
  simp only[MT.subs,zJ]at B;rw[B];exact h
 |.node b v k l,T,h,B=>by
  simp only[MT.subs,zU]at B;rcases B with B|B
  ·rw[B];exact h
  ·simp only[MT.At]at h;exact AtL.sub l T h.2.2 B
theorem AtL.sub{w:World}{s:ByteArray}{f:Nat->Int}:∀(l:List MT) (T:MT),AtL w s f l->T∈B5 l->T.At w s f
 | [],T,h,B=>by simp[B5]at B
 |y::l,T,h,B=>by
  simp only[AtL]at h;simp only[B5,zO]at B;rcases B with B|B
  ·exact MT.At.sub y T h.1 B
  ·exact AtL.sub l T h.2 B
end
mutual
theorem MT.Numd.sub{f:Nat->Int}:∀(U T:MT) (n:Nat),U.Numd f n->T∈U.subs->∃m,n<=m/\m+T.nt.aH<=n+U.nt.aH/\T.Numd f m
 |.place b i e A,T,n,h,B=>by
  simp only[MT.subs,zJ]at B;subst B;exact⟨n,zD _,zD _,h⟩
 |.node b v k l,T,n,h,B=>by
  simp only[MT.subs,zU]at B;rcases B with B|B
  ·subst B;exact⟨n,zD _,zD _,h⟩
  ·simp only[MT.Numd]at h;obtain⟨m,G,J,D⟩:=K6.sub l T (n+1) h.2 B;simp only[MT.nt,NT.aH];exact⟨m,by omega,by omega,D⟩
theorem K6.sub{f:Nat->Int}:∀(l:List MT) (T:MT) (n:Nat),K6 f l n->T∈B5 l->∃m,n<=m/\m+T.nt.aH<=n+J1 (ntL l)/\T.Numd f m
 | [],T,n,h,B=>by simp[B5]at B
 |y::l,T,n,h,B=>by
  simp only[K6]at h;simp only[B5,zO]at B;simp only[ntL,J1];rcases B with B|B
  ·obtain⟨m,G,J,D⟩:=MT.Numd.sub y T n h.1 B;exact⟨m,G,by omega,D⟩
  ·obtain⟨m,G,J,D⟩:=K6.sub l T _ h.2 B;exact⟨m,by omega,by omega,D⟩
end
theorem MT.Numd.aL{f:Nat->Int}{T:MT}{n:Nat}(h:T.Numd f n):f T.aL=(n:Int):=by
 cases T with
 |place=>simpa[MT.Numd,MT.aL]using h
 |node=>simp only[MT.Numd]at h;exact h.1
mutual
theorem MT.Numd.bX{f:Nat->Int}:∀(U:MT) (n:Nat),U.Numd f n->∀T G,T∈U.subs->G∈U.subs->f T.aL=f G.aL->T=G
 |.place b i e A,n,h,T,G,D,B,_=>by
  simp only[MT.subs,zJ]at D B;rw[D,B]
 |.node b v k l,n,h,T,G,D,B,he=>by
  have K:=h;simp only[MT.Numd]at h;simp only[MT.subs,zU]at D B;have J:∀S,S∈B5 l->f S.aL≠f (MT.node b v k l).aL:=fun S V e=>by
   obtain⟨m,W,X,M⟩:=K6.sub l S (n+1) h.2 V;rw[M.aL,K.aL]at e;omega
  rcases D with D|D
  ·rcases B with B|B
   ·rw[D,B]
   ·exact absurd (by rw[<-he,D]) (J G B)
  ·rcases B with B|B
   ·exact absurd (by rw[he,B]) (J T D)
   ·exact K6.bX l (n+1) h.2 T G D B he
theorem K6.bX{f:Nat->Int}:∀(l:List MT) (n:Nat),K6 f l n->∀T G,T∈B5 l->G∈B5 l->f T.aL=f G.aL->T=G
 | [],n,h,T,G,D,_,_=>by simp[B5]at D
 |y::l,n,h,T,G,D,B,he=>by
  simp only[K6]at h;simp only[B5,zO]at D B;have J:∀S K,S∈y.subs->K∈B5 l->f S.aL≠f K.aL:=fun S K W M e=>by
   obtain⟨m,Z,h2,V⟩:=MT.Numd.sub y S n h.1 W;obtain⟨m',X,Y,U⟩:=K6.sub l K _ h.2 M;have:=S.nt.parts_pos;rw[V.aL,U.aL]at e;omega
  rcases D with D|D
  ·rcases B with B|B
   ·exact MT.Numd.bX y n h.1 T G D B he
   ·exact absurd he (J T G D B)
  ·rcases B with B|B
   ·exact absurd he.symm (J G T B D)
   ·exact K6.bX l _ h.2 T G D B he
end
structure AlC where
 ab:Nat
 bg:Nat
 fH:Nat
 wg:Nat
 lD:Nat
 R:Nat->Nat
 U:Nat->Nat
 s:ByteArray
 rs:ByteArray
 f:Nat->Int
 aD:List MT
def AlC.N(c:AlC):Nat:=c.s.size+1
def AlC.aH(c:AlC):Nat:=J1 (ntL c.aD)
def AlC.eZ(c:AlC)(n:Nat)(w:List Nat):Prop:=∃T∈B5 c.aD,c.f T.aL=(n:Int)/\T.nt.aU w
theorem AlC.dL{c:AlC}{p:Nat}:p<c.N↔p<=c.s.size:=by unfold AlC.N;omega
theorem Zb(c:AlC)(P:List Nat->Prop)(p:Nat):(Ha (Q0 c.s) P p).length=c.N:=by rw[Fr,I1];rfl
def AlC.M(c:AlC)(b:Nat):Prop:=∃n,n<c.aH/\b=c.R n
def OY(c:AlC)(A:Nat->Prop)(w:World)(n:Nat):Prop:=∃cs:Array Value,Blk w (c.R n) cs 130/\cs.size=c.N/\∀p,p<=c.s.size->cs[p]?=some (.slice none 0 0)\/∃b,cs[p]?=some (.slice (some ⟨b,0,none⟩) c.N c.N)/\¬A b/\Y5 w (.slice (some ⟨b,0,none⟩) c.N c.N) (Ha (Q0 c.s) (c.eZ n) p)
structure D4(c:AlC)(A:Nat->Prop)(w:World):Prop where
 aO:Blk w c.ab #[.string c.s,.slice (some ⟨c.bg,0,none⟩) c.aH c.fH,.slice (some ⟨c.wg,0,none⟩) c.aH c.lD] 216
 jC:∃cs:Array Value,Blk w c.bg cs 131/\∀n,n<c.aH->cs[n]?=some (.slice (some ⟨c.R n,0,none⟩) c.N c.N)
 was:∃cs:Array Value,Blk w c.wg cs 130/\∀n,n<c.aH->cs[n]?=some (.slice (some ⟨c.U n,0,none⟩) c.N c.N)
 aN:∀n,n<c.aH->OY c A w n
 wrow:∀n,n<c.aH->A (c.U n)/\∃l:List Bool,l.length=c.N/\Blk w (c.U n) (Z0 l) 4
 inj:∀m n,m<c.aH->n<c.aH->c.R m=c.R n->m=n
 eW:∀m n,m<c.aH->n<c.aH->c.U m=c.U n->m=n
 jT:∀n,n<c.aH->c.R n≠c.wg
 cL:AtL w c.rs c.f c.aD
 num:K6 c.f c.aD 0
theorem D4.eZ{c:AlC}{A:Nat->Prop}{w:World}(h:D4 c A w){T:MT}(B:T∈B5 c.aD){n:Nat}(D:c.f T.aL=(n:Int)):c.eZ n=T.nt.aU:=by
 funext u
 refine propext ⟨?_,fun U=>⟨T,B,D,U⟩⟩;rintro⟨G,J,K,M⟩;rw[K6.bX c.aD 0 h.num T G B J (by rw[D,K])];exact M
theorem D4.id{c:AlC}{A:Nat->Prop}{w:World}(h:D4 c A w){T:MT}(D:T∈B5 c.aD):∃n,n<c.aH/\c.f T.aL=(n:Int):=by
 obtain⟨m,G,J,B⟩:=K6.sub c.aD T 0 h.num D;have:=T.nt.parts_pos;exact⟨m,by unfold AlC.aH;omega,B.aL⟩
theorem D4.jA{c:AlC}{A B:Nat->Prop}{w:World}(h:D4 c A w)(X:∀b,B b->A b)(W:∀n,n<c.aH->B (c.U n)):D4 c B w:=by
 refine⟨h.aO,h.jC,h.was,fun n f=>?_,fun n f=>⟨W n f,(h.wrow n f).2⟩,h.inj,h.eW,h.jT,h.cL,h.num⟩;obtain⟨cs,K,M,V⟩:=h.aN n f;refine⟨cs,K,M,fun p Y=>?_⟩;rcases V p Y with e|⟨b,D,G,J⟩
 ·exact .inl e
 ·exact .inr ⟨b,D,fun e=>G (X b e),J⟩
theorem D4.type{c:AlC}{A:Nat->Prop}{w:World}(h:D4 c A w){b:Nat}(B:c.M b):∃cs,Blk w b cs 130:=by
 obtain⟨n,D,rfl⟩:=B;obtain⟨cs,f,_⟩:=h.aN n D;exact⟨cs,f⟩
theorem D4.not{c:AlC}{A:Nat->Prop}{w:World}(h:D4 c A w){b:Nat}{cs:Array Value}{t:TypeId}(D:Blk w b cs t)(G:t≠130):¬c.M b:=fun e=>by
 obtain⟨f,B⟩:=h.type e;exact G (D.bX B).2
theorem D4.brow{c:AlC}{A:Nat->Prop}{w w':World}(h:D4 c A w)(k:C0 c.M w w'){v:Value}{l:List Bool}(f:Y5 w v l):Y5 w' v l:=
 f.kept k (fun b D e=>by
  obtain⟨cs,B⟩:=h.type e;exact K0 f B (by decide) D)
mutual
theorem MT.At.type{w:World}{s:ByteArray}{f:Nat->Int}{b:Nat}{cs:Array Value}{t:TypeId}(D:Blk w b cs t)(G:t≠129)(J:t≠80):∀(T:MT),T.At w s f->¬T.has b
 |.place b' i e A,h,B=>by
  simp only[MT.At]at h;simp only[MT.has]at B;subst B;exact G (D.bX h).2
 |.node b' v k l,h,B=>by
  simp only[MT.At]at h;simp only[MT.has]at B;rcases B with B|B|B
  ·subst B;exact G (D.bX h.1).2
  ·exact K0 h.2.1 D J B
  ·exact AtL.type D G J l h.2.2 B
theorem AtL.type{w:World}{s:ByteArray}{f:Nat->Int}{b:Nat}{cs:Array Value}{t:TypeId}(J:Blk w b cs t)(D:t≠129)(G:t≠80):∀(l:List MT),AtL w s f l->¬Pd l b
 | [],h,B=>by simp[Pd]at B
 |y::l,h,B=>by
  simp only[AtL]at h;simp only[Pd]at B;rcases B with B|B
  ·exact MT.At.type J D G y h.1 B
  ·exact AtL.type J D G l h.2 B
end
theorem D4.aA{c:AlC}{A:Nat->Prop}{w w':World}(h:D4 c A w)(D:Bw w w'):D4 c A w':=by
 refine⟨h.aO.aA D,?_,?_,fun n G=>?_,fun n G=>?_,h.inj,h.eW,h.jT,AtL.kept (ex:=fun _=>False) (C0.aM D) _ h.cL (fun _ _ e=>e),h.num⟩
 ·obtain⟨cs,f,B⟩:=h.jC;exact⟨cs,f.aA D,B⟩
 ·obtain⟨cs,f,B⟩:=h.was;exact⟨cs,f.aA D,B⟩
 ·obtain⟨cs,f,B,V⟩:=h.aN n G;refine⟨cs,f.aA D,B,fun p W=>?_⟩;rcases V p W with e|⟨b,J,K,M⟩
  ·exact .inl e
  ·exact .inr ⟨b,J,K,M.aA D⟩
 ·obtain⟨U,l,f,B⟩:=h.wrow n G;exact⟨U,l,f,B.aA D⟩
theorem D4.dC{c:AlC}{A:Nat->Prop}{w w':World}{g:Nat}{J:Array Value}(h:D4 c A w)(k:C0 (fun b=>b=g) w w')(hg:A g)(M:∀n,n<c.aH->c.U n≠g)(D:Blk w g J 4):D4 c A w':=by
 refine⟨h.aO.kept k (fun e=>?_),?_,?_,fun n G=>?_,fun n G=>?_,h.inj,h.eW,h.jT,AtL.kept k _ h.cL (fun x hx e=>AtL.type D (by decide) (by decide) _ h.cL (e ▸ hx)),h.num⟩
 ·have:=(h.aO.bX (e ▸ D)).2;revert this;decide
 ·obtain⟨cs,f,B⟩:=h.jC;exact⟨cs,f.kept k (fun e=>by have:=(f.bX (e ▸ D)).2;revert this;decide),B⟩
 ·obtain⟨cs,f,B⟩:=h.was;exact⟨cs,f.kept k (fun e=>by have:=(f.bX (e ▸ D)).2;revert this;decide),B⟩
 ·obtain⟨cs,f,B,h3⟩:=h.aN n G;refine⟨cs,f.kept k (fun e=>by have:=(f.bX (e ▸ D)).2;revert this;decide),B,fun p hp=>?_⟩;rcases h3 p hp with e|⟨b,X,V,Y⟩
  ·exact .inl e
  ·exact .inr ⟨b,X,V,Y.kept k (fun W K e=>by cases(zE K:b=W);exact V (e ▸ hg))⟩
 ·obtain⟨Z,l,f,B⟩:=h.wrow n G;exact⟨Z,l,f,B.kept k (M n G)⟩
theorem D4.lO{c:AlC}{A:Nat->Prop}{w:World}(h:D4 c A w){n p:Nat}(W:n<c.aH):D4 c A (w.setCell ⟨c.U n,p,none⟩ (.bool true)):=by
 have k:C0 (fun b=>b=c.U n) w (w.setCell ⟨c.U n,p,none⟩ (.bool true)):=(C0.refl (fun b=>b=c.U n) _).setCell (p:=⟨c.U n,p,none⟩) (fun _=>rfl) _;obtain⟨V,l0,K,D⟩:=h.wrow n W;refine⟨h.aO.kept k (fun e=>?_),?_,?_,fun m G=>?_,fun m G=>?_,h.inj,h.eW,h.jT,AtL.kept k _ h.cL (fun x hx e=>AtL.type D (by decide) (by decide) _ h.cL (e ▸ hx)),h.num⟩
 ·have:=(h.aO.bX (e ▸ D)).2;revert this;decide
 ·obtain⟨cs,f,B⟩:=h.jC;exact⟨cs,f.kept k (fun e=>by have:=(f.bX (e ▸ D)).2;revert this;decide),B⟩
 ·obtain⟨cs,f,B⟩:=h.was;exact⟨cs,f.kept k (fun e=>by have:=(f.bX (e ▸ D)).2;revert this;decide),B⟩
 ·obtain⟨cs,f,B,h3⟩:=h.aN m G;refine⟨cs,f.kept k (fun e=>by have:=(f.bX (e ▸ D)).2;revert this;decide),B,fun q hq=>?_⟩;rcases h3 q hq with e|⟨b,Z,M,e3⟩
  ·exact .inl e
  ·exact .inr ⟨b,Z,M,e3.kept k (fun X J e=>by cases(zE J:b=X);exact M (e ▸ V))⟩
 ·by_cases e:m=n
  ·subst e;refine⟨V,l0.set p true,by simp[K],?_⟩;rw[<-Z3];exact D.set p _
  ·obtain⟨h0,l,f,B⟩:=h.wrow m G;exact⟨h0,l,f,B.kept k (fun Y=>e (h.eW m n G W Y))⟩
theorem D4.bB{c:AlC}{A:Nat->Prop}{w:World}(h:D4 c A w){n p b:Nat}(hn:n<c.aH)(hp:p<=c.s.size)(hA:¬A b)(hr:Y5 w (.slice (some ⟨b,0,none⟩) c.N c.N) (Ha (Q0 c.s) (c.eZ n) p)):
  D4 c A (w.setCell ⟨c.R n,p,none⟩ (.slice (some ⟨b,0,none⟩) c.N c.N))/\C0 c.M w (w.setCell ⟨c.R n,p,none⟩ (.slice (some ⟨b,0,none⟩) c.N c.N)):=by
 have D:C0 c.M w (w.setCell ⟨c.R n,p,none⟩ (.slice (some ⟨b,0,none⟩) c.N c.N)):=(C0.refl _ _).setCell (p:=⟨c.R n,p,none⟩) (fun _=>⟨n,hn,rfl⟩) _;refine⟨⟨h.aO.kept D (h.not h.aO (by decide)),?_,?_,fun m J=>?_,fun m J=>?_,h.inj,h.eW,h.jT,AtL.kept D _ h.cL (fun x hx e=>?_),h.num⟩,D⟩
 ·obtain⟨cs,f,B⟩:=h.jC;exact⟨cs,f.kept D (h.not f (by decide)),B⟩
 ·obtain⟨cs,f,B⟩:=h.was;exact⟨cs,f.kept D (fun e=>by obtain⟨m,J,e⟩:=e;exact h.jT m J e.symm),B⟩
 ·obtain⟨cs,f,B,Z⟩:=h.aN m J
  by_cases e:m=n
  ·subst e;refine⟨_,f.set p _,by simp[B],fun q Y=>?_⟩
   by_cases e:p=q
   ·subst e;exact .inr ⟨b,by rw[xB,if_pos rfl,if_pos (by rw[B];exact AlC.dL.2 hp)],hA,h.brow D hr⟩
   ·rcases Z q Y with G|⟨K,G,V,W⟩
    ·exact .inl (by rw[xB,if_neg e];exact G)
    ·exact .inr ⟨K,by rw[xB,if_neg e];exact G,V,h.brow D W⟩
  ·have X:c.R m≠c.R n:=fun U=>e (h.inj m n J hn U)
   refine⟨cs,f.aG (p:=⟨c.R n,p,none⟩) (fun U=>X U) _,B,fun q Y=>?_⟩;rcases Z q Y with G|⟨K,G,V,W⟩
   ·exact .inl G
   ·exact .inr ⟨K,G,V,h.brow D W⟩
 ·obtain⟨h0,l,f,B⟩:=h.wrow m J;exact⟨h0,l,f,B.kept D (h.not B (by decide))⟩
 ·obtain⟨cs,f⟩:=h.type e;exact AtL.type f (by decide) (by decide) _ h.cL hx
theorem D4.fresh{c:AlC}{A:Nat->Prop}{w:World}(h:D4 c A w):D4 c (fun b=>A b\/b=w.heap.size) w:=by
 refine⟨h.aO,h.jC,h.was,fun n f=>?_,fun n f=>⟨.inl (h.wrow n f).1,(h.wrow n f).2⟩,h.inj,h.eW,h.jT,h.cL,h.num⟩;obtain⟨cs,J,K,M⟩:=h.aN n f;refine⟨cs,J,K,fun p U=>?_⟩;rcases M p U with e|⟨b,D,G,B⟩
 ·exact .inl e
 ·refine .inr ⟨b,D,fun e=>?_,B⟩;rcases e with e|e
  ·exact G e
  ·have:=M1 B b rfl;omega
def MD(c:AlC)(A:Nat->Prop)(w:World)(l:List Bool)(e:Ending)(w':World):Prop:=
 ∃b,e=.returned (.slice (some ⟨b,0,none⟩) c.N c.N)/\¬A b/\Y5 w' (.slice (some ⟨b,0,none⟩) c.N c.N) l/\D4 c A w'/\C0 c.M w w'
def Hn(c:AlC)(T:MT):Prop:=∀(A:Nat->Prop) (w:World) (p:Nat),(∀b,A b->b<w.heap.size)->D4 c A w->p<=c.s.size->
 Calls Tryz.prog 99 #[.pointer (some ⟨c.ab,0,none⟩),.pointer (some ⟨T.aL,0,none⟩),.int .i64 p] w (MD c A w (Ha (Q0 c.s) T.nt.aU p))
def Uv(c:AlC)(T:MT):Prop:=∀(A:Nat->Prop) (w:World) (p:Nat),(∀b,A b->b<w.heap.size)->D4 c A w->p<=c.s.size->
 Calls Tryz.prog 131 #[.pointer (some ⟨c.ab,0,none⟩),.pointer (some ⟨T.aL,0,none⟩),.int .i64 p] w (MD c A w (Ha (Q0 c.s) T.nt.aU p))
theorem MT.At.id{w:World}{s:ByteArray}{f:Nat->Int}{T:MT}(h:T.At w s f):w.cell? ⟨T.aL,1,none⟩=some (.int .i64 (f T.aL)):=by
 cases T with
 |place b i e A=>simp only[MT.At]at h;exact h.cell 1
 |node b v k l=>simp only[MT.At]at h;exact h.1.cell 1
theorem Jl(c:AlC)(T:MT)(hT:T∈B5 c.aD)(HF:Uv c T):Hn c T:=by
 intro A w p hA X hp;have aj:p<c.N:=AlC.dL.2 hp;obtain⟨n,hn,a1⟩:=X.id hT;have J:=X.eZ hT a1;obtain⟨ks,f,V⟩:=X.jC;obtain⟨cs,D,a4,Y⟩:=X.aN n hn;have a0:=AtL.sub c.aD T X.cL hT;have s3:w.cell? ⟨c.ab,1,none⟩=some (.slice (some ⟨c.bg,0,none⟩) c.aH c.fH):=X.aO.cell 1;have s4:w.cell? ⟨c.bg,n,none⟩=some (.slice (some ⟨c.R n,0,none⟩) c.N c.N):=by rw[f.cell];exact V n hn
 have s5:w.cell? ⟨c.R n,p,none⟩=cs[p]?:=D.cell p;have s6:w.cell? ⟨T.aL,1,none⟩=some (.int .i64 n):=by rw[<-a1];exact a0.id
 have n0:(0:Int)<=(n:Int):=by omega
 have n1:(n:Int)<(c.aH:Int):=by omega
 have p0:(0:Int)<=(p:Int):=by omega
 have p1:(p:Int)<(c.N:Int):=by omega
 have hq:=fun(W:World) (ad:Option Addr) (l c:Nat)=>Lib.run_eql_slice_nil W 130 4 ad l c 0 0 Tryz.underlying130
 rw[<-J];rcases Y p hp with e|⟨b,e,a8,a7⟩
 ·rw[e]at s5;have ak:=fun W=>hq W none 0 0
  clear hq;have a5:Hid (∀W,Bw w W->Calls Tryz.prog 131 #[.pointer (some ⟨c.ab,0,none⟩),.pointer (some ⟨T.aL,0,none⟩),.int .i64 p] W (MD c A W (Ha (Q0 c.s) (c.eZ n) p))):=Hd (fun W hb=>by rw[J];exact HF A W p (fun b ai=>by have:=hA b ai;have:=hb.size;omega) (X.aA hb) hp);have Z:Hid (∀W',D4 c A W'->W'.cell? ⟨c.ab,1,none⟩=some (.slice (some ⟨c.bg,0,none⟩) c.aH c.fH)/\W'.cell? ⟨c.bg,n,none⟩=some (.slice (some ⟨c.R n,0,none⟩) c.N c.N)/\W'.cell? ⟨T.aL,1,none⟩=some (.int .i64 n)/\(∃v9,W'.cell? ⟨c.R n,p,none⟩=some v9)/\W'.frozen? ⟨c.R n,p,none⟩=false):=Hd (fun W' h9=>by
   obtain⟨ks,f,V⟩:=h9.jC;obtain⟨cs,D,a4,Y⟩:=h9.aN n hn;refine⟨h9.aO.cell 1,by rw[f.cell];exact V n hn,by rw[<-a1];exact(AtL.sub c.aD T h9.cL hT).id,?_,D.frozen p⟩;rw[D.cell p];rcases Y p hp with e|⟨b,e,_⟩
   ·exact⟨_,e⟩
   ·exact⟨_,e⟩)
  have a9:c.R n≠c.ab:=fun e9=>by have:=(X.aO.bX (e9 ▸ D)).2;revert this;decide
  have aa:c.R n≠c.bg:=fun e9=>by have:=(f.bX (e9 ▸ D)).2;revert this;decide
  have a2:c.R n≠T.aL:=fun e9=>MT.At.type D (by decide) (by decide) T a0 (e9 ▸ MT.gX T)
  clear X f V D a4 Y e HF a0;go_enter Tryz.func99,Tryz.ntmps99;go_wp2_with fail;go_quiet(fail);go_upto_region 2 with fail;obtain⟨w0,K⟩:∃w0:World,w.drewN nq=w0:=⟨_,rfl⟩;rw[K];have a3:Bw w w0.drew:=by rw[<-K];exact⟨rfl,rfl,rfl,zD _,fun _ _=>rfl⟩
  have t3:w0.cell? ⟨c.ab,1,none⟩=some (.slice (some ⟨c.bg,0,none⟩) c.aH c.fH):=by rw[<-K];exact s3
  have t4:w0.cell? ⟨c.bg,n,none⟩=some (.slice (some ⟨c.R n,0,none⟩) c.N c.N):=by rw[<-K];exact s4
  have t6:w0.cell? ⟨T.aL,1,none⟩=some (.int .i64 n):=by rw[<-K];exact s6
  have S0:w0.drew.cell? ⟨c.ab,1,none⟩=some (.slice (some ⟨c.bg,0,none⟩) c.aH c.fH)/\w0.drew.cell? ⟨c.bg,n,none⟩=some (.slice (some ⟨c.R n,0,none⟩) c.N c.N)/\w0.drew.cell? ⟨T.aL,1,none⟩=some (.int .i64 n):=⟨t3,t4,t6⟩;have M:=Hd (a5.out w0.drew a3);have ag:=Hd a3;obtain⟨tr,am⟩:∃tr,T.aL=tr:=⟨_,rfl⟩;rw[am]at M S0 t6 a2 Z⊢;clear K a3 s3 s4 s5 s6 a5
  go_region_held3 (fun w'=>w'.cell? ⟨c.ab,1,none⟩=some (.slice (some ⟨c.bg,0,none⟩) c.aH c.fH)/\w'.cell? ⟨c.bg,n,none⟩=some (.slice (some ⟨c.R n,0,none⟩) c.N c.N)/\w'.cell? ⟨tr,1,none⟩=some (.int .i64 n))
   (first|with_reducible exact S0|with_reducible exact S1|exact⟨by simp[g3,a9,World.cell?_setCell_far],by simp[g4,aa,World.cell?_setCell_far],by simp[g7,a2,World.cell?_setCell_far]⟩)
   (first|(go_at_call 131;refine M.out.mono ?_;rintro e w1 ⟨b1,rfl,B,h,G,f⟩;obtain⟨g3,g4,g7,⟨v9,g5⟩,g6⟩:=Z.out w1 G;have S1:=And.intro g3 (And.intro g4 g7);have a6:=Hd4 B h G f;clear B h G f))
  obtain⟨B,h,G,f⟩:=a6.out;have hf:=G.bB hn hp B h;have U:MD c A w (Ha (Q0 c.s) (c.eZ n) p) (.returned (.slice (some ⟨b1,0,none⟩) c.N c.N)) (w1.setCell ⟨c.R n,p,none⟩ (.slice (some ⟨b1,0,none⟩) c.N c.N)):=⟨b1,rfl,B,G.brow hf.2 h,hf.1,((C0.aM ag.out).trans f (fun i _ e=>e)).trans hf.2 (fun i _ e=>e)⟩;obtain⟨u3,u4,u7,_,_⟩:=Z.out _ hf.1;obtain⟨cz,ae,af,an⟩:=G.aN n hn;have u5:(w1.setCell ⟨c.R n,p,none⟩ (.slice (some ⟨b1,0,none⟩) c.N c.N)).cell? ⟨c.R n,p,none⟩=some (.slice (some ⟨b1,0,none⟩) c.N c.N):=by rw[(ae.set p _).cell p,xB,if_pos rfl,if_pos (by rw[af];exact aj)]
  obtain⟨w9,ac⟩:∃w9:World,(w1.setCell ⟨c.R n,p,none⟩ (.slice (some ⟨b1,0,none⟩) c.N c.N))=w9:=⟨_,rfl⟩;rw[ac]at U u3 u4 u7 u5⊢;have ah:=Hd U;clear U ae af an hf B h G f a6 g3 g4 g5 g6 g7 S1 S0 t3 t4 t6 ac Z M;go_wp2_with fail;go_quiet(fail);go_wp2_with fail;go_ret;obtain⟨b,h1,h2,h3,h4,h5⟩:=ah.out
  injection h1 with h1
  exact⟨b,by rw[<-h1];rfl,h2,h3.aA ⟨rfl,rfl,rfl,zD _,fun _ _=>rfl⟩,h4.aA ⟨rfl,rfl,rfl,zD _,fun _ _=>rfl⟩,h5.drewN _⟩
 ·rw[e]at s5;have HH:Hid (∀W,Bw w W->MD c A w (Ha (Q0 c.s) (c.eZ n) p) (.returned (.slice (some ⟨b,0,none⟩) c.N c.N)) W):=Hd fun W hb=>⟨b,rfl,a8,a7.aA hb,X.aA hb,C0.aM hb⟩
  clear X f V D a4 Y e HF a7 a8 a0 a1 J;have ak:=fun W=>hq W (some ⟨b,0,none⟩) c.N c.N
  clear hq;go_enter Tryz.func99,Tryz.ntmps99;go_wp2_with fail;go_quiet(fail);go_wp2_with fail;go_quiet(fail);go_wp2_with fail;go_ret;exact HH.out _ ⟨rfl,rfl,rfl,zD _,fun _ _=>rfl⟩
def Jn(L:List Nat)(P:List Nat->Prop)(f:List Bool)(k q:Nat):Prop:=∃m,m<k/\f.getD m false=true/\I8 L P m q
theorem Jn.skip{L:List Nat}{P:List Nat->Prop}{B:List Bool}{k q:Nat}(h:B.getD k false=false):Jn L P B (k+1) q↔Jn L P B k q:=by
 constructor
 ·rintro⟨m,G,f,D⟩;refine⟨m,?_,f,D⟩;rcases yE m k with e|e
  ·exact e
  ·have:m=k:=by omega
   rw[this,h]at f;cases f
 ·rintro⟨m,G,f,D⟩;exact⟨m,by omega,f,D⟩
theorem Jn.take{L:List Nat}{P:List Nat->Prop}{B:List Bool}{k q:Nat}(h:B.getD k false=true):Jn L P B (k+1) q↔(Jn L P B k q\/I8 L P k q):=by
 constructor
 ·rintro⟨m,G,D,f⟩;rcases yE m k with e|e
  ·exact .inl ⟨m,e,D,f⟩
  ·have:m=k:=by omega
   rw[this]at f;exact .inr f
 ·rintro(⟨m,G,D,f⟩|f)
  ·exact⟨m,by omega,D,f⟩
  ·exact⟨k,by omega,h,f⟩
theorem D4.lB{c:AlC}{A:Nat->Prop}{w:World}(h:D4 c A w):∀n,n<c.aH->c.U n<w.heap.size:=fun n B=>by
 obtain⟨_,l,_,f⟩:=h.wrow n B;exact f.lt
theorem D4.eD{c:AlC}{A:Nat->Prop}{w w':World}(h:D4 c A w)(k:C0 c.M w w'){b:Nat}{cs:Array Value}{t:TypeId}(f:Blk w b cs t)(B:t≠130):Blk w' b cs t:=f.kept k (h.not f B)
theorem Dx(c:AlC)(T:MT)(HO:Hn c T)(A:Nat->Prop)(w:World)(ng X:Nat)(bQ:List Bool)(hA:∀b,A b->b<w.heap.size)(hm:D4 c A w)(B:Y5 w (.slice (some ⟨ng,0,none⟩) c.N X) bQ)(hl:bQ.length=c.N)(hs:c.s.size<=20000):
  Calls Tryz.prog 128 #[.pointer (some ⟨c.ab,0,none⟩),.pointer (some ⟨T.aL,0,none⟩),.slice (some ⟨ng,0,none⟩) c.N X] w fun e w'=>∃l,l.length=c.N/\(∀q,q<=c.s.size->(l.getD q false=true↔∃m,bQ.getD m false=true/\I8 (Q0 c.s) T.nt.aU m q))/\MD c A w l e w':=by
 have ah:c.N<=20001:=by unfold AlC.N;omega
 have ag:(c.s.size:Int)+1=(c.N:Int):=by unfold AlC.N;omega
 have ai:=U7 c.N (by omega);have s0:w.cell? ⟨c.ab,0,none⟩=some (.string c.s):=hm.aO.cell 0;have a3:=Hd B;have HM:=Hd hm;have ae:=Hd HO;have HL:=Hd hl;have a1:=Hd hA;have HU:=Hd hm.lB;have aj:ng<w.heap.size:=M1 B ng rfl;clear B hm HO hl hA;go_enter Tryz.func128,Tryz.ntmps128
 go_wp2_with fail
 go_loopg[8] c.N (fun G pv wr=>∃(p:Nat) (l:List Bool),pv=.int .i64 p/\p<=c.N/\G=c.N-p/\l.length=c.N/\(∀q,q<=c.s.size->(l.getD q false=true↔Jn (Q0 c.s) T.nt.aU bQ p q))/\
  D4 c (fun b=>A b\/b=w.heap.size) wr/\C0 c.M w wr/\Blk wr w.heap.size (Z0 l) 4)
 case atStart=>
  refine⟨0,List.replicate c.N false,rfl,by omega,rfl,by simp,fun q W=>?_,HM.out.fresh.aA (P0 _ _),(C0.refl _ _).alloc _,Blk.aQ _ _ _⟩;constructor
  ·intro h;simp[AlC.dL.2 W]at h
  ·rintro⟨m,hm,_⟩;omega
 case round=>
  obtain⟨p,l,rfl,hp,rfl,U,f,V,hk,hI⟩:=hrel;have zI:=hI.lt
  by_cases a8:p<c.N
  ·have e0:decide ((p:Int)<(c.N:Int))=true:=by simp;omega
   have cN:=(HM.out.brow hk a3.out).cellD p (by rw[HL.out];exact a8);have p0:(0:Int)<=(p:Int):=by omega
   have p1:(p:Int)<(c.N:Int):=by omega
   have J:=Hd U;have a4:=Hd f;have D:Hid (D4 c (fun b=>A b\/b=w.heap.size) wr/\C0 c.M w wr/\Blk wr w.heap.size (Z0 l) 4):=⟨V,hk,hI⟩;clear V hk hI U f;cases hnp:bQ.getD p false with
   |false=>
    rw[hnp]at cN;have Z:=Hd hnp;clear hnp;go_wp2_with fail
    go_roundg (c.N- (p+1))
    case measure=>omega
    case rel=>exact⟨p+1,l,by go_num,by omega,rfl,J.out,fun q W=>by rw[Jn.skip Z.out];exact a4.out q W,D.out.1,D.out.2.1,D.out.2.2⟩
   |true=>
    rw[hnp]at cN;have Z:=Hd hnp;clear hnp;go_wp2_with fail;refine(ae.out (fun b=>A b\/b=w.heap.size) wr p (fun b hb=>by rcases hb with e|e;have:=a1.out b e;omega;omega) D.out.1 (AlC.dL.1 a8)).mono ?_;rintro e w1 ⟨b,rfl,aa,a6,a9,K⟩;have zz:w1.heap.size≥wr.heap.size:=K.size;have a0:Blk w1 w.heap.size (Z0 l) 4:=D.out.1.eD K D.out.2.2 (by decide);have af:b≠w.heap.size:=fun e=>aa (.inr e)
    have a2:=Hd (Vo w.heap.size c.N c.N l (Ha (Q0 c.s) T.nt.aU p) (.slice (some ⟨b,0,none⟩) c.N c.N) w1 a0 a6 J.out (Zb _ _ _) (fun e=>af (zE e)) (by omega));have ad:Hid (D4 c (fun b=>A b\/b=w.heap.size) w1/\C0 c.M w w1/\Blk w1 w.heap.size (Z0 l) 4):=⟨a9,D.out.2.1.trans K (fun i _ e=>e),a0⟩;clear a9 K a0 a6 aa D cN;go_wp2_with fail;refine a2.out.mono ?_;rintro e w2 ⟨rfl,a5,a7⟩;have ac:=Hd2 a5 a7;clear a5 a7 a2;go_wp2_with fail
    go_roundg (c.N- (p+1))
    case measure=>omega
    case rel=>
     obtain⟨r1,Y⟩:=ac.out;obtain⟨q1,q2,q3⟩:=ad.out;refine⟨p+1,orL l (Ha (Q0 c.s) T.nt.aU p),by go_num,by omega,rfl,by rw[An];exact J.out,fun q W=>?_,q1.dC Y (.inr rfl) (fun n hn=>by have:=HU.out n hn;omega) q3,?_,r1⟩
     ·rw[Vl _ _ _ (by rw[J.out];exact AlC.dL.2 W) (by rw[Zb];exact AlC.dL.2 W),yX,a4.out q W,T8,Jn.take Z.out]
     ·exact⟨Y.os.trans q2.os,Y.tape.trans q2.tape,Y.output.trans q2.output,by have:=q2.size;have:=Y.size;omega,fun k hk he=>(Y.block k (by have:=q2.size;omega) (by omega)).trans (q2.block k hk he)⟩
  ·have e0:decide ((p:Int)<(c.N:Int))=false:=by simp;omega
   obtain rfl:p=c.N:=by omega
   have D:Hid (D4 c (fun b=>A b\/b=w.heap.size) wr/\C0 c.M w wr/\Blk wr w.heap.size (Z0 l) 4/\l.length=c.N/\(∀q,q<=c.s.size->(l.getD q false=true↔Jn (Q0 c.s) T.nt.aU bQ c.N q))):=⟨V,hk,hI,U,f⟩;clear V hk hI U f;go_wp2_with fail;go_ret;obtain⟨r1,Y,r3,r4,r5⟩:=D.out;refine⟨l,r4,fun q W=>?_,w.heap.size,rfl,fun e=>by have:=a1.out _ e;omega,?_,r1.jA (fun b e=>.inl e) (fun n hn=>(HM.out.wrow n hn).1),Y⟩
   ·rw[r5 q W];constructor
    ·rintro⟨m,_,h2,h3⟩;exact⟨m,h2,h3⟩
    ·rintro⟨m,h2,h3⟩;refine⟨m,?_,h2,h3⟩;have h4:=h3.1;rw[AlC.dL];omega
   ·have:=Y5.cC r3 (by omega);rw[r4]at this;exact this
end Go.Proofs.YtcckhngbdoiikaaGreat
