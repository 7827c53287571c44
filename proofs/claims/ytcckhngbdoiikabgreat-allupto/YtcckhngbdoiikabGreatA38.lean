import Derived.Test.YtcckhngbdoiikabGreatA37
import Derived.IntWalk
set_option maxRecDepth 20000
set_option maxHeartbeats 12800000
set_option linter.unusedVariables false
namespace Go.Proofs.YtcckhngbdoiikabGreat
open Go.RowKit Go.Deep
def Kg(l:List ByteArray):Array Value:=(l.map Value.string).toArray
theorem Tryz.iD:(Tryz.prog.info? 9).map (fun i=>(i.zero,i.size,i.bytes))=some (some (.string ⟨#[]⟩),1,16):=by kernel_rfl
def N1:ByteArray:=⟨#[]⟩
theorem YO(n:Nat):madeCells #[.string ⟨#[]⟩] n=Kg (List.replicate n N1):=by
 apply Array.toList_inj.1;rw[toList_madeCells_one];simp[Kg,N1]
theorem BX(n:Nat)(f:n<=100000)(w:World):(Instr.makeSlice 85 (.int .i64 n) (.int .i64 n)).run Tryz.prog w=.ok (.slice (some ⟨w.heap.size,0,none⟩) n n) (w.alloc (.cells (Kg (List.replicate n N1)) 9)):=by
 rw[run_make_row' (P:=Tryz.prog) 85 9 (.string ⟨#[]⟩) 16 Tryz.underlying85 Tryz.iD rfl .i64 .i64 n (by omega) (by omega) w,YO]
theorem FE(l:List ByteArray)(i:Nat)(x:ByteArray):(Kg l).setIfInBounds i (.string x)=Kg (l.set i x):=by
 apply Array.toList_inj.1;simp[Kg,List.map_set]
theorem Fb{w:World}{b:Nat}{l:List ByteArray}(h:Blk w b (Kg l) 9)(i:Nat)(f:i<l.length):w.cell? ⟨b,i,none⟩=some (.string (l.getD i N1)):=by
 rw[h.cell];simp[Kg,f]
structure Ub where
 aF:List ByteArray
 rest:List ByteArray
 bA:List Bool
def Q3(x:K9)(aQ:Nat)(a:Ub)(s:A7):Ub:=
 if a.bA.getD s.q false=true then a
 else if x.aF.getD s.q false=true then
  ⟨a.aF.set s.q (a.aF.getD aQ N1++(a.rest.getD aQ N1++K1 [s.b])),a.rest.set s.q N1,a.bA.set s.q true⟩
 else⟨a.aF.set s.q (a.aF.getD aQ N1),a.rest.set s.q (a.rest.getD aQ N1++K1 [s.b]),a.bA.set s.q true⟩
def GF(x:K9)(aQ:Nat)(a:Ub):Ub:=(x.aZ.getD aQ []).foldl (Q3 x aQ) a
def Bh(n:Nat):Ub:=⟨List.replicate n N1,List.replicate n N1,(List.replicate n false).set 0 true⟩
def C5(x:K9):Nat->Ub
 |0=>Bh x.aF.length
 |k+1=>GF x k (C5 x k)
def K3(x:K9)(f:Nat):ByteArray×ByteArray:=((C5 x x.aZ.length).aF.getD f N1,(C5 x x.aZ.length).rest.getD f N1)
structure Vo(n c:Nat)(a:Ub):Prop where
 tl:a.aF.length=n
 rl:a.rest.length=n
 fl:a.bA.length=n
 sz:∀i,(a.aF.getD i N1).size+(a.rest.getD i N1).size<=c
theorem U3(l:List ByteArray)(k i:Nat)(x:ByteArray):(l.set k x).getD i N1=if k=i/\k<l.length then x else l.getD i N1:=by
 rw[zC,List.getElem?_set]
 by_cases h:k=i
 ·subst h
  by_cases f:k<l.length
  ·simp[f]
  ·simp[f]
 ·simp[h]
theorem Pu{n c:Nat}{a:Ub}(h:Vo n c a)(x:K9)(aQ:Nat)(s:A7):Vo n (c+1) (Q3 x aQ a s):=by
 have G:=h.sz aQ;have D:=Pa s.b;have B:N1.size=0:=rfl;unfold Q3;split
 ·exact⟨h.tl,h.rl,h.fl,fun i=>by have:=h.sz i;omega⟩
 ·split
  ·refine⟨by simp[h.tl],by simp[h.rl],by simp[h.fl],fun i=>?_⟩;have f:=h.sz i;simp only;rw[U3,U3,h.tl,h.rl];split
   ·rw[zN,zN];omega
   ·omega
  ·refine⟨by simp[h.tl],by simp[h.rl],by simp[h.fl],fun i=>?_⟩;have f:=h.sz i;simp only;rw[U3,U3,h.tl,h.rl];split
   ·rw[zN];omega
   ·omega
theorem Sl(x:K9)(aQ:Nat):∀(l:List A7) (n c:Nat) (a:Ub),Vo n c a->Vo n (c+l.length) (l.foldl (Q3 x aQ) a)
 | [],n,c,a,h=>h
 |s::r,n,c,a,h=>by
  have f:=Sl x aQ r n (c+1) _ (Pu h x aQ s);rw[show c+(s::r).length=c+1+r.length by simp;omega];exact f
structure F9(w0 w:World)(a:Ub):Prop where
 aA:Bw w0 w
 bt:Blk w w0.heap.size (Kg a.aF) 9
 br:Blk w (w0.heap.size+1) (Kg a.rest) 9
 bf:Blk w (w0.heap.size+1+1) (Z0 a.bA) 4
theorem P4.keptAt{w w':World}{v:Value}{l:List A7}{b:Nat}{cs:Array Value}{B:TypeId}(h:P4 w v l)(D:Blk w b cs B)(f:B≠214)(k:C0 (fun y=>y=b) w w'):P4 w' v l:=h.kept k (fun y G e=>by subst e;exact L0 h D f G)
theorem UE(w:World)(b c:Nat)(v:Value):C0 (fun y=>y=b) w (w.setCell ⟨b,c,none⟩ v):=C0.setCell (ex:=fun y=>y=b) (p:=⟨b,c,none⟩) (C0.refl _ _) (fun _=>rfl) _
theorem F9.more{w0 w w':World}{a:Ub}(h:F9 w0 w a)(f:Bw w w'):F9 w0 w' a:=⟨h.aA.trans (f.mono h.aA.size),h.bt.aA f,h.br.aA f,h.bf.aA f⟩
theorem F9.drew{w0 w:World}{a:Ub}(h:F9 w0 w a):F9 w0 w.drew a:=⟨⟨h.aA.os,h.aA.tape,h.aA.output,h.aA.size,h.aA.block⟩,h.bt.drew,h.br.drew,h.bf.drew⟩
theorem F9.putT{w0 w:World}{a:Ub}(h:F9 w0 w a)(i:Nat)(x:ByteArray):F9 w0 (w.setCell ⟨w0.heap.size,i,none⟩ (.string x)) { a with aF:=a.aF.set i x }:=
 ⟨h.aA.setCell (p:=⟨w0.heap.size,i,none⟩) (zD _) _,by rw[<-FE];exact h.bt.set i _,h.br.aG (p:=⟨w0.heap.size,i,none⟩) (by simp) _,h.bf.aG (p:=⟨w0.heap.size,i,none⟩) (by simp;omega) _⟩
theorem F9.putR{w0 w:World}{a:Ub}(h:F9 w0 w a)(i:Nat)(x:ByteArray):F9 w0 (w.setCell ⟨w0.heap.size+1,i,none⟩ (.string x)) { a with rest:=a.rest.set i x }:=
 ⟨h.aA.setCell (p:=⟨w0.heap.size+1,i,none⟩) (by simp) _,h.bt.aG (p:=⟨w0.heap.size+1,i,none⟩) (by simp) _,by rw[<-FE];exact h.br.set i _,h.bf.aG (p:=⟨w0.heap.size+1,i,none⟩) (by simp) _⟩
theorem F9.lP{w0 w:World}{a:Ub}(h:F9 w0 w a)(i:Nat):F9 w0 (w.setCell ⟨w0.heap.size+1+1,i,none⟩ (.bool true)) { a with bA:=a.bA.set i true }:=
 ⟨h.aA.setCell (p:=⟨w0.heap.size+1+1,i,none⟩) (by simp;omega) _,h.bt.aG (p:=⟨w0.heap.size+1+1,i,none⟩) (by simp;omega) _,h.br.aG (p:=⟨w0.heap.size+1+1,i,none⟩) (by simp) _,by rw[<-D4];exact h.bf.set i _⟩
theorem Pq(wb:Nat)(x:K9)(f:Nat)(w:World)(h:Bj w wb x)(ho:Cj x)(hw:f<x.aF.length):
  Calls Tryz.prog 134 #[.pointer (some ⟨wb,0,none⟩),.int .i64 f] w fun e w'=>e=.returned (.tuple #[.string (K3 x f).1,.string (K3 x f).2])/\Bw w w':=by
 have a6:=ho.dW;have be:=Hd ho.len;have bd:=Hd ho.bU;have av:=Hd ho.cK;obtain⟨tv,sv,hb,ht,hs⟩:=h.ex;obtain⟨td,c9,rfl,b9⟩:=ht.aV;obtain⟨sd,c8,rfl,b7⟩:=hs.aV;have c0:w.cell? ⟨wb,0,none⟩=some (.slice td x.aF.length c9):=hb.cell 0;have c1:w.cell? ⟨wb,1,none⟩=some (.slice sd x.aZ.length c8):=hb.cell 1;have zb:=hb.lt;have HT:=Hd ht;have HS:=Hd hs;have cl:=A8 x.aF.length (by omega);have cm:=BX x.aF.length (by omega);have w0:(0:Int)<(x.aF.length:Int):=by omega
 have cg:(Z0 (List.replicate x.aF.length false))[0]?=some (.bool false):=by
  have c6:0<x.aF.length:=by omega
  rw[Z0,yT,List.getElem?_map,yM,if_pos c6];rfl
 have bl:=Hd (show(K3 x f)=((C5 x x.aZ.length).aF.getD f N1,(C5 x x.aZ.length).rest.getD f N1)from rfl);clear h ho hs hb ht;go_enter Tryz.func134,Tryz.ntmps134;go_upto_region 5 with fail;obtain⟨w3,a7⟩:∃w3:World,((w.alloc (.cells (Kg (List.replicate x.aF.length N1)) 9)).alloc (.cells (Kg (List.replicate x.aF.length N1)) 9)).alloc (.cells ((Z0 (List.replicate x.aF.length false)).setIfInBounds 0 (.bool true)) 4)=w3:=⟨_,rfl⟩;rw[a7];have bx:Bw w w3:=by rw[<-a7];exact(F6 _ _ _).alloc (by simp;omega) _
 have bq:F9 w w3 (C5 x 0):=by
  refine⟨bx,by rw[<-a7];exact((Blk.aR _ _ _).alloc _).alloc _,by rw[<-a7];exact(Blk.dX _ _ _ _).alloc _,?_⟩;rw[<-a7];have V:=Blk.aR ((w.alloc (.cells (Kg (List.replicate x.aF.length N1)) 9)).alloc (.cells (Kg (List.replicate x.aF.length N1)) 9)) ((Z0 (List.replicate x.aF.length false)).setIfInBounds 0 (.bool true)) 4;rw[D4]at V⊢;have e9:((w.alloc (.cells (Kg (List.replicate x.aF.length N1)) 9)).alloc (.cells (Kg (List.replicate x.aF.length N1)) 9)).heap.size=w.heap.size+1+1:=by simp
  rw[e9]at V;exact V
 have cj:=(bx.cell (p:=⟨wb,1,none⟩) zb).trans c1;have ca:=Hd bq;clear cg a7 bq;go_wp2_with fail
 go_loopg[38] x.aZ.length (fun G kv wr=>∃k:Nat,kv=.int .i64 k/\k<=x.aZ.length/\G=x.aZ.length-k/\Vo x.aF.length (256*k) (C5 x k)/\F9 w wr (C5 x k))
 case atStart=>
  refine⟨0,rfl,by omega,rfl,⟨by simp[C5,Bh],by simp[C5,Bh],by simp[C5,Bh],fun i=>?_⟩,ca.out⟩
  ·have V:∀j,(List.replicate x.aF.length N1).getD j N1=N1:=fun j=>by
    rw[zC,yM];split <;>rfl
   show((List.replicate x.aF.length N1).getD i N1).size+((List.replicate x.aF.length N1).getD i N1).size<=0;rw[V];exact zD _
 case round=>
  obtain⟨k,rfl,hk,rfl,a5,hA⟩:=hrel
  by_cases ao:k<x.aZ.length
  ·have e0:decide ((k:Int)<(x.aZ.length:Int))=true:=by simp;omega
   rcases b7 with V|⟨sg,rfl⟩
   ·omega
   obtain⟨rv,r0,hR⟩:=N8.cell (HS.out.aA hA.aA) k ao;obtain⟨rd,M,rfl,ae⟩:=hR.aV;have ac:x.aZ.getD k []∈x.aZ:=by rw[zC,zF ao];exact zG ao
   have c2:=bd.out _ ac;have a0:=av.out _ ac;have b6:C5 x (k+1)=(x.aZ.getD k []).foldl (Q3 x k) (C5 x k):=rfl;have ad:=Sl x k (x.aZ.getD k []) _ _ _ a5;have c3:k<x.aF.length:=by rw[<-be.out];exact ao
   generalize x.aZ.getD k []=D at hR c2 a0 b6 r0 ae ad;have k0:(0:Int)<=(k:Int):=by omega
   have k1:(k:Int)<(x.aZ.length:Int):=by omega
   have k2:(k:Int)<(x.aF.length:Int):=by omega
   have HR:=Hd hR;have bg:=Hd b6;have bh:=Hd ad;have cc:=Hd a0;have HA:=Hd hA;have cd:=Hd a5;clear hR b6 a5 ad a0 hA ac;obtain⟨wo,rfl⟩:∃wo:World,wo=wr:=⟨_,rfl⟩;go_wp2_with fail
   go_loopg[45] D.length (fun G jv wi=>∃(j:Nat) (a:Ub),jv=.int .i64 j/\j<=D.length/\G=D.length-j/\Vo x.aF.length (256*k+j) a/\(D.drop j).foldl (Q3 x k) a=C5 x (k+1)/\F9 w wi a/\P4 wi (.slice rd D.length M) D)
   case atStart=>exact⟨0,C5 x k,rfl,by omega,rfl,cd.out,bg.out.symm,HA.out,HR.out⟩
   case round=>
    obtain⟨j,a,rfl,hj,rfl,X,Z,Y,ab⟩:=hrel
    by_cases b5:j<D.length
    ·have e1:decide ((j:Int)<(D.length:Int))=true:=by simp;omega
     rcases ae with V|⟨rg,rfl⟩
     ·omega
     obtain⟨d0,d1⟩:=ab.cell j b5;obtain⟨hq,bz⟩:=cc.out D[j] (zG b5);rw[yA b5,List.foldl_cons]at Z;have a1:=Pu X x k D[j];generalize D[j]=st at d0 d1 hq bz Z a1;obtain⟨K,B⟩:=st;simp only at d0 d1 hq bz;have j0:(0:Int)<=(j:Int):=by omega
     have j1:(j:Int)<(D.length:Int):=by omega
     have q0:(0:Int)<=(B:Int):=by omega
     have q1:(B:Int)<(x.aF.length:Int):=by omega
     have zr:rg<wr.heap.size:=Q1 ab rg rfl;have zf:=Y.bf.lt;have b0:=P2 Y.bf B (by rw[X.fl];exact hq);have ff:=Y.bf.frozen B;have au:=Hd Z;have ay:=Hd a1;have J:=Hd X;have HH:Hid (F9 w wr a/\P4 wr (.slice (some ⟨rg,0,none⟩) D.length M) D):=⟨Y,ab⟩;clear Z a1 X Y ab;cases hf:a.bA.getD B false with
     |true=>
      rw[hf]at b0;have af:Q3 x k a ⟨K,B⟩=a:=by unfold Q3;rw[if_pos hf]
      have bp:=Hd af;clear hf af;go_wp2_with fail
      go_roundg (D.length- (j+1))
      case measure=>omega
      case rel=>
       have V:=au.out;rw[bp.out]at V;have h8:=ay.out;rw[bp.out]at h8;exact⟨j+1,a,by go_num,by omega,rfl,h8,V,HH.out.1.more (N0 _ _),HH.out.2.aA (N0 _ _)⟩
     |false=>
      rw[hf]at b0;have HF:=Hd hf;clear hf;obtain⟨w2,ag⟩:∃w2:World,(wr.alloc (.cells #[.string (K1 [K]),.int .i64 B] 214)).setCell ⟨w.heap.size+1+1,B,none⟩ (.bool true)=w2:=⟨_,rfl⟩;obtain⟨T,b4⟩:∃T,a.aF.getD k N1=T:=⟨_,rfl⟩;obtain⟨R,b1⟩:∃R,a.rest.getD k N1=R:=⟨_,rfl⟩;have c7:=J.out.sz k;rw[b4,b1]at c7;have ck:T.size<=30000000/\R.size<=30000000:=by
       have V:256*k+j<=25600256:=by omega
       omega
      have a3:F9 w w2 { a with bA:=a.bA.set B true }:=by rw[<-ag];exact(HH.out.1.more (N0 _ _)).lP B
      have a9:Blk w2 wr.heap.size #[.string (K1 [K]),.int .i64 B] 214:=by rw[<-ag];exact(Blk.aR _ _ _).aG (p:=⟨w.heap.size+1+1,B,none⟩) (by simp;have:=zf;omega) _
      have bs:P4 w2 (.slice (some ⟨rg,0,none⟩) D.length M) D:=by
       rw[<-ag];refine(HH.out.2.aA (N0 _ _)).kept (ex:=fun y=>y=w.heap.size+1+1) (C0.setCell (ex:=fun y=>y=w.heap.size+1+1) (p:=⟨w.heap.size+1+1,B,none⟩) (C0.refl _ _) (fun _=>rfl) _) (fun y hy e=>?_);subst e;exact L0 HH.out.2 HH.out.1.bf (by decide) hy
      have az:=Hd b4;have ax:=Hd b1;go_upto_region 13 with fail
      try rw[ag]
      clear ag b4 b1 c7 b0 ff zf;have s0:=a9.cell 0;have s1:=a9.cell 1;have t0:w2.cell? ⟨w.heap.size,k,none⟩=some (.string T):=by rw[Fb a3.bt k (by show k<a.aF.length;rw[J.out.tl];exact c3),<-az.out]
      have t1:=Fb a3.bt B (by show B<a.aF.length;rw[J.out.tl];exact hq);have tf:=a3.bt.frozen B;have zS:=a9.lt;have zT:=a3.bt.lt;have cn:w.heap.size+1+1<wr.heap.size:=HH.out.1.bf.lt;have dS:wr.heap.size≠w.heap.size:=by omega
      have aq:=Hd a3;have bm:=Hd a9;have bi:=Hd bs;clear a3 a9 bs HH;go_region;obtain⟨w4,ah⟩:∃w4:World,(w2.setCell ⟨w.heap.size,B,none⟩ (.string T)).drew=w4:=⟨_,rfl⟩;have a4:F9 w w4 { a with aF:=a.aF.set B T,bA:=a.bA.set B true }:=by rw[<-ah];exact(aq.out.putT B T).drew
      have aa:Blk w4 wr.heap.size #[.string (K1 [K]),.int .i64 B] 214:=by rw[<-ah];exact(bm.out.aG (p:=⟨w.heap.size,B,none⟩) (by simp;exact dS) _).drew
      have bu:P4 w4 (.slice (some ⟨rg,0,none⟩) D.length M) D:=by rw[<-ah];exact bi.out.keptAt aq.out.bt (by decide) (UE _ _ _ _).drew
      go_upto_region 14 with fail
      try rw[ah]
      clear ah s0 s1 t0 t1 tf zS zT aq bm bi;have s0:=aa.cell 0;have s1:=aa.cell 1;have t0:w4.cell? ⟨w.heap.size+1,k,none⟩=some (.string R):=by rw[Fb a4.br k (by show k<a.rest.length;rw[J.out.rl];exact c3),<-ax.out]
      have t1:=Fb a4.br B (by show B<a.rest.length;rw[J.out.rl];exact hq);have tf:=a4.br.frozen B;have zS:=aa.lt;have zT:=a4.br.lt;have ch:wr.heap.size≠w.heap.size+1:=by omega
      have u1:∀W:World,(Op.stringOp .add R (K1 [K])).run Tryz.prog W=.ok (.string (R++K1 [K])) W:=fun W=>run_string_add_sum W _ _ (by rw[Pa];omega)
      have ar:=Hd a4;have bn:=Hd aa;have bj:=Hd bu;clear a4 aa bu;go_region;obtain⟨w5,ai⟩:∃w5:World,(w4.setCell ⟨w.heap.size+1,B,none⟩ (.string (R++K1 [K]))).drew=w5:=⟨_,rfl⟩;have am:F9 w w5 { aF:=a.aF.set B T,rest:=a.rest.set B (R++K1 [K]),bA:=a.bA.set B true }:=by rw[<-ai];exact(ar.out.putR B _).drew
      have b2:Blk w5 wr.heap.size #[.string (K1 [K]),.int .i64 B] 214:=by rw[<-ai];exact(bn.out.aG (p:=⟨w.heap.size+1,B,none⟩) (by simp;exact ch) _).drew
      have bv:P4 w5 (.slice (some ⟨rg,0,none⟩) D.length M) D:=by rw[<-ai];exact bj.out.keptAt ar.out.br (by decide) (UE _ _ _ _).drew
      go_upto_region 15 with fail
      try rw[ai]
      clear ai s0 s1 t0 t1 tf zS zT ar bn bj u1;rcases b9 with V|⟨tg,rfl⟩
      ·omega
      have s1:=b2.cell 1;have m0:=(am.aA.cell (p:=⟨wb,0,none⟩) zb).trans c0;have m1:=(HT.out.aA am.aA).cellD B hq;obtain⟨tk,b8⟩:∃tk,x.aF.getD B false=tk:=⟨_,rfl⟩;rw[b8]at m1;have bb:=Hd am;have bo:=Hd b2;have bk:=Hd bv;have ap:=Hd b8;clear am b2 bv b8;go_quiet(fail);obtain⟨w6,ba⟩:∃w6:World,w5.drewN nq=w6:=⟨_,rfl⟩;rw[ba];have an:Bw w5 w6:=by rw[<-ba];exact C2 (Below.refl _ _) _
      have U:=Hd (bb.out.more an);have ak:=Hd (bo.out.aA an);have aw:=Hd (bk.out.aA an);clear ba an bb bo bk s1 m0 m1;cases tk with
      |false=>
       go_wp2_with fail
       go_roundg (D.length- (j+1))
       case measure=>omega
       case rel=>
        have a6:Q3 x k a ⟨K,B⟩={ aF:=a.aF.set B T,rest:=a.rest.set B (R++K1 [K]),bA:=a.bA.set B true }:=by
         unfold Q3;rw[if_neg (by rw[HF.out];simp),if_neg (by rw[ap.out];simp),az.out,ax.out]
        have V:=au.out;rw[a6]at V;have h8:=ay.out;rw[a6]at h8;exact⟨j+1,_,by go_num,by omega,rfl,h8,V,U.out,aw.out⟩
      |true=>
       go_upto_region 16 with fail;have s1:=ak.out.cell 1;have c4:B<(a.aF.set B T).length:=by rw[xF,J.out.tl];exact hq
       have c5:B<(a.rest.set B (R++K1 [K])).length:=by rw[xF,J.out.rl];exact hq
       have t0:w6.cell? ⟨w.heap.size,B,none⟩=some (.string T):=by
        rw[Fb U.out.bt B c4,U3,if_pos ⟨rfl,by rw[J.out.tl];exact hq⟩]
       have t1:w6.cell? ⟨w.heap.size+1,B,none⟩=some (.string (R++K1 [K])):=by
        rw[Fb U.out.br B c5,U3,if_pos ⟨rfl,by rw[J.out.rl];exact hq⟩]
       have tf:=U.out.bt.frozen B;have zS:=ak.out.lt;have zT:=U.out.bt.lt;have ci:=U.out.br.lt;have u1:∀W:World,(Op.stringOp .add T (R++K1 [K])).run Tryz.prog W=.ok (.string (T++(R++K1 [K]))) W:=fun W=>run_string_add_sum W _ _ (by rw[zN,Pa];omega)
       clear c4 c5;go_region;obtain⟨w7,aj⟩:∃w7:World,(w6.setCell ⟨w.heap.size,B,none⟩ (.string (T++(R++K1 [K])))).drew=w7:=⟨_,rfl⟩;have a8:F9 w w7 { aF:=(a.aF.set B T).set B (T++(R++K1 [K])),rest:=a.rest.set B (R++K1 [K]),bA:=a.bA.set B true }:=by rw[<-aj];exact(U.out.putT B _).drew
       have b3:Blk w7 wr.heap.size #[.string (K1 [K]),.int .i64 B] 214:=by rw[<-aj];exact(ak.out.aG (p:=⟨w.heap.size,B,none⟩) (by simp;exact dS) _).drew
       have bw:P4 w7 (.slice (some ⟨rg,0,none⟩) D.length M) D:=by rw[<-aj];exact aw.out.keptAt U.out.bt (by decide) (UE _ _ _ _).drew
       go_upto_region 17 with fail
       try rw[aj]
       clear aj s1 t0 t1 tf zS zT ci u1 U ak aw;have s1:=b3.cell 1;have t1:=Fb a8.br B (by rw[xF,J.out.rl];exact hq);have tf:=a8.br.frozen B;have zS:=b3.lt;have zT:=a8.br.lt;have bc:=Hd a8;have ce:=Hd bw;clear a8 b3 bw;go_wp2_with fail
       go_roundg (D.length- (j+1))
       case measure=>omega
       case rel=>
        have a6:Q3 x k a ⟨K,B⟩={ aF:=a.aF.set B (T++(R++K1 [K])),rest:=a.rest.set B N1,bA:=a.bA.set B true }:=by
         unfold Q3;rw[if_neg (by rw[HF.out];simp),if_pos ap.out,az.out,ax.out]
        have V:=au.out;rw[a6]at V;have h8:=ay.out;rw[a6]at h8;have h7:=bc.out.putR B N1;simp only[List.set_set]at h7;exact⟨j+1,_,by go_num,by omega,rfl,h8,V,h7,ce.out.keptAt bc.out.br (by decide) (UE _ _ _ _)⟩
    ·have e1:decide ((j:Int)<(D.length:Int))=false:=by simp;omega
     obtain rfl:j=D.length:=by omega
     rw[List.drop_length]at Z;have ha:a=C5 x (k+1):=Z;subst ha;have cb:=Hd Y;clear Z Y ab X;go_wp2_with fail
     go_roundg (x.aZ.length- (k+1))
     case measure=>omega
     case rel=>
      have h8:=bh.out;rw[<-bg.out]at h8;exact⟨k+1,by go_num,by omega,rfl,⟨h8.tl,h8.rl,h8.fl,fun i=>by have:=h8.sz i;omega⟩,cb.out⟩
  ·have e0:decide ((k:Int)<(x.aZ.length:Int))=false:=by simp;omega
   obtain rfl:k=x.aZ.length:=by omega
   have t0:=Fb hA.bt f (by rw[a5.tl];exact hw);have t1:=Fb hA.br f (by rw[a5.rl];exact hw);have w1:(0:Int)<=(f:Int):=by omega
   have w2:(f:Int)<(x.aF.length:Int):=by omega
   have HB:=Hd hA.aA;have a2:=bl.out;generalize(C5 x x.aZ.length).aF.getD f N1=T at t0 a2;generalize(C5 x x.aZ.length).rest.getD f N1=R at t1 a2;have cf:=Hd a2;clear hA a5 a2 bl;go_wp2_with fail;go_quiet(fail);go_wp2_with fail
   go_ret2
   exact⟨by rw[cf.out];rfl,C2 HB.out _⟩
end Go.Proofs.YtcckhngbdoiikabGreat
