import Derived.Test.YtcckhngbdoiikaaGreatS36
import Derived.Lib.AppendStr
set_option maxRecDepth 20000
set_option maxHeartbeats 12800000
set_option linter.unusedVariables false
namespace Go.Proofs.YtcckhngbdoiikaaGreat
open Go.RowKit Go.Deep
theorem Tryz.jS:(Tryz.prog.info? 5).map (fun i=>(i.zero,i.size,i.bytes))=some (some (.int .u8 0),1,1):=by kernel_rfl
theorem QE(s:ByteArray)(w:World)(hs:s.size<=4000000):
  Calls Tryz.prog 114 #[.string s] w fun e w'=>e=.returned (.string s)/\Bw w w':=by
 obtain⟨ii,Y,a1,a2,a3⟩:=info_parts Tryz.jS;have K:(w.alloc (.cells #[] 5)).ownsRow w.heap.size 5 1 (.slice (some ⟨w.heap.size,0,none⟩) 0 0) 0 []:=⟨by rfl,.inr ⟨w.heap.size,0,#[],rfl,zD _,heap_alloc_new _ _,zD _,by unfold maxLen;omega,rfl,rfl⟩⟩;have B:=Hd K;clear K;go_enter Tryz.func114,Tryz.ntmps114;go_wp2_with(at_builtin;(refine Go.Lib.wpList_append_own_string _ (by rfl) _ _ _ _ (by rfl) w.heap.size 5 ii Tryz.underlying134 Tryz.underlying9 Y a1 a2 a3 (.slice (some ⟨w.heap.size,0,none⟩) 0 0) 0 [] (by rfl) B.out s (by rfl) (by unfold maxLen;omega) (by omega) (by simp) ?_));intro v' h M f J;obtain⟨a0,⟨rfl,h0⟩|⟨U,D,cur,rfl,h2,h3,h4,h5,h6,h7⟩⟩:=M
 ·exact absurd rfl J
 have a4:(convert 134 9 (.slice (some ⟨U,0,none⟩) s.size D)).run Tryz.prog h=.ok (.string s) h:=by
  have h8:=run_convert_bytes_back (P:=Tryz.prog) h 134 9 5 ⟨U,0,none⟩ D s.data.toList Tryz.underlying134 Tryz.underlying5 Tryz.underlying9 (fun j hj=>by
   have h9:h.cell? ⟨U,j,none⟩=cur[j]?:=Blk.cell (show Blk h U cur 5 from h3) j;have V:cur.toList[j]?=(Go.Lib.strCells s)[j]?:=by
    have Z:j<s.size:=by simpa using hj
    have G:=h7;simp only[Nat.mul_one]at G;rw[<-G,List.getElem?_take,if_pos Z]
   rw[Addr.add_lit,yU,h9,<-Array.getElem?_toList,V];have W:s.data.toList[j]?=some s.data.toList[j]:=zF hj;rw[Go.Lib.strCells,List.getElem?_map,W];rfl)
  have e1:s.data.toList.length=s.size:=by rw[Array.length_toList];rfl
  rw[e1]at h8;exact h8
 have X:Bw w h:=(P0 w _).trans ⟨f.os,f.tape,f.output,f.size,fun b X=>f.block b (by simp;omega) (fun e=>by cases(zE e:b=w.heap.size);omega)⟩;have HB:=Hd X;clear X f J a0 h2 h3 h4 h5 h6 h7 B;go_wp2_with fail;go_ret;exact⟨rfl,HB.out⟩
theorem VC(p:Nat)(w:World):Calls Tryz.prog 78 #[.int .i64 p] w fun e w'=>e=.returned (Jr (Ea p))/\Bw w w':=by
 go_enter Tryz.func78,Tryz.ntmps78;go_wp2_with(first|refine Eh (x:=Ea p) rfl (.tmp 2) (.tmp 5) rfl w.heap.size rfl rfl (Blk.aQ _ _ _) rfl ?_);exact bodyPost_ret (results_cell_row Tryz.results78 _ _ w.heap.size 49 (Hi (Ea p)) (0,0) _ rfl ((Blk.aQ w Nc 49).setRow _) Tryz.underlying49 rfl Tryz.bZ) rfl ⟨rfl,I2 (P0 _ _) (zD _) _⟩
theorem Ij{P:Program}{G:Func}{p q:Tmp}{B:TypeId}(h:G.results=#[.tmp q,.cell p B])(f:Array Value)(w:World)(g:Nat)(t:TypeId)(cs:Array Value)(fr:Nat×Nat)(d:TypeDesc)
  (U:f.getD p undef=.pointer (some ⟨g,0,none⟩)) (K:w.heap[g]?=some (.cells cs t fr))
  (V:P.underlying B=some d) (J:(match d with|.struct _|.array _ _=>true|_=>false)=true) (M:(P.info? B).map (·.size)=some cs.size):
  (results G f).run P w=.ok (.tuple #[f.getD q undef,.agg cs]) w:=by
 have D:f[p]?.getD undef=.pointer (some ⟨g,0,none⟩):=by simpa using U
 simp[results,h,D,asAddr,run_loadVar_row w g t B cs fr d K V J M]
theorem IU(s:ByteArray):(s=⟨#[]⟩)↔s.size=0:=by
 constructor
 ·rintro rfl;rfl
 ·intro h;apply ByteArray.ext;apply Array.eq_empty_of_size_eq_zero;exact h
theorem VN(s:ByteArray):∀(n i:Nat) (r:List UInt8),s.size-i=n->r≠ []->ByteArray.toList.loop s i r≠ []
 |0,i,r,h,hr=>by
  unfold ByteArray.toList.loop;rw[if_neg (by omega)];simpa using hr
 |n+1,i,r,h,hr=>by
  unfold ByteArray.toList.loop;rw[if_pos (by omega)];exact VN s n (i+1) _ (by omega) (by simp)
theorem Dy(s:ByteArray)(h:s.size≠0):s.toList.isEmpty=false:=by
 have f:s.toList≠ []:=by
  unfold ByteArray.toList;unfold ByteArray.toList.loop;rw[if_pos (by omega)];exact VN s _ 1 _ rfl (by simp)
 cases hh:s.toList with
 |nil=>exact absurd hh f
 |cons a b=>rfl
structure Dn(w0 w:World)(y:D3)(v:Value)(l:List S4):Prop where
 aA:Bw w0 w
 stand:Blk w w0.heap.size (Hi y) 49
 res:Blk w (w0.heap.size+1) Nc 49
 toks:T1 w v l
 own:∀b,v.ownBlock=some b->w0.heap.size+1<b
theorem Dn.more{w0 w w':World}{y:D3}{v:Value}{l:List S4}(h:Dn w0 w y v l)(f:Bw w w'):Dn w0 w' y v l:=
 ⟨h.aA.trans (f.mono h.aA.size),h.stand.aA f,h.res.aA f,h.toks.aA f,h.own⟩
theorem UO{z y:D3}{v:Value}{l:List S4}{B:Array Oper}{rest:List Oper}{o:Oper}{a:Act}{w w0:World}{Q:Exit->Act->World->Prop}(D:o.guard=none)(p q:Operand)(J:o.op=.store 49 p q)
  (K:a.eval p=.pointer (some ⟨w0.heap.size,0,none⟩)) (M:a.eval q=Jr z) (f:Dn w0 w y v l)
  (h:∀w',Dn w0 w' z v l->wpList Tryz.prog B Q rest (a.put o.dst undef) w'):wpList Tryz.prog B Q (o::rest) a w:=by
 refine Eh D p q J w0.heap.size K M f.stand rfl (h _ ⟨I2 f.aA (zD _) _,f.stand.setRow _,f.res.aP (by omega) _,?_,f.own⟩);exact f.toks.kept (ex:=fun b=>b=w0.heap.size) (C0.setRow (ex:=fun b=>b=w0.heap.size) (C0.refl _ _) (fun _=>rfl) _) (fun b G e=>by have:=f.own b G;omega)
theorem Dn.put{w0 w:World}{y:D3}{v:Value}{l:List S4}(f:Dn w0 w y v l)(c:Nat)(x:Value){z:D3}(B:(Hi y).setIfInBounds c x=Hi z):Dn w0 (w.setCell ⟨w0.heap.size,c,none⟩ x) z v l:=by
 refine⟨f.aA.setCell (p:=⟨w0.heap.size,c,none⟩) (zD _) _,by rw[<-B];exact f.stand.set c x,f.res.aG (p:=⟨w0.heap.size,c,none⟩) (by simp) _,?_,f.own⟩;exact f.toks.kept (ex:=fun b=>b=w0.heap.size) (C0.setCell (ex:=fun b=>b=w0.heap.size) (p:=⟨w0.heap.size,c,none⟩) (C0.refl _ _) (fun _=>rfl) _) (fun b h e=>by have:=f.own b h;omega)
theorem GV(pb:Nat)(kd:Nat->Nat)(g:B0)(x:D3)(s:ByteArray)(bE:Bool)(w:World)(h:A9 w pb kd g)(ho:B8 kd g)(h1:x.tail.size+s.size<=4000000)(h3:x.en<=1099511627776)(h2:x.bA<=x.en):
  Calls Tryz.prog 79 #[.pointer (some ⟨pb,0,none⟩),Jr x,.string s,.bool bE] w fun e w'=>∃v,e=.returned (.tuple #[v,Jr (onF kd g x s bE).2])/\T1 w' v (onF kd g x s bE).1/\(∀b,v.ownBlock=some b->w.heap.size<=b)/\Bw w w':=by
 obtain⟨xa,xe,xr,xs,xt⟩:=x;simp only at h1 h2 h3;have ax:=fun(W:World) (hb:Bw w W) (y:D3)=>MJ pb kd g y W (h.aA hb) ho
 have am:=Hd ax;generalize hX:onF kd g ⟨xa,xe,xr,xs,xt⟩ s bE=X;unfold onF at hX;simp only at hX;obtain⟨T,hT⟩:∃T:Nat,T=xe+(xt++s).size:=⟨_,rfl⟩;have bm:T<=1100000000000:=by rw[hT,zR];omega
 obtain⟨Z,hZ⟩:∃Z:Nat,Z=(xt++s).size:=⟨_,rfl⟩;have bn:Z<=4000000:=by rw[hZ,zR];omega
 have HZ:=Hd hZ;clear hZ;have HX:=Hd hX;have HT:=Hd hT;clear h ho ax hX hT;have u1:∀W:World,(Op.stringOp .add xt s).run Tryz.prog W=.ok (.string (xt++s)) W:=fun W=>run_string_add_sum W _ _ (by omega)
 go_enter Tryz.func79,Tryz.ntmps79;go_wp2_with fail;clear u1
 go_loopg[10] (xe-xa+(xt++s).size+1) (fun G tv wr=>∃(y:D3) (l:List S4),y.bA<=y.en/\y.en+y.tail.size=T/\T<G+y.bA/\(y.tail.size<=Z/\(y.bA<y.en->l.length+y.tail.size<=Z)/\l.length+y.tail.size<=Z+1)/\B4 kd g bE G y l=X/\Dn w wr y tv l)
 case atStart=>
  refine⟨⟨xa,xe,xr,xs,xt++s⟩,[],h2,HT.out.symm,?_,⟨by rw[HZ.out];exact zD _,fun _=>by rw[HZ.out];simp,by rw[HZ.out];simp⟩,HX.out,⟨?_,?_,?_,?_,?_⟩⟩
  ·have:=HT.out;show T<xe-xa+(xt++s).size+1+xa;omega
  ·exact((Z5 _ _ _).alloc (by simp;omega) _)
  ·exact((Blk.aQ _ _ _).alloc _).alloc _
  ·exact(Blk.dX _ _ _ _).alloc _
  ·exact D5 (g:=w.heap.size+1+1) (cur:=#[]) (by rfl) (by have h9:=Blk.aQ ((w.alloc (.cells (Hi ⟨xa,xe,xr,xs,xt++s⟩) 49)).alloc (.cells Nc 49)) #[] 106;simpa using h9) (zD _) (by unfold maxLen;omega) rfl (by rfl)
  ·intro b e;cases(zE e:w.heap.size+1+1=b);omega
 case round=>
  obtain⟨y,l,bb,bc,hG,hl,hX,hA⟩:=hrel;clear HX HT;obtain⟨td,U,rfl,ba⟩:=hA.toks.aT;obtain⟨ya,ye,yr,ys,yt⟩:=y;simp only at bb bc hG hl;obtain⟨bo,b9,bp⟩:=hl;have c0:=hA.stand.cell 0;have c1:=hA.stand.cell 1;have c4:=hA.stand.cell 4
  by_cases hc:ya<ye\/yt.size≠0
  ·have b7:Dn w wr ⟨ya,ye,yr,ys,yt⟩ (.slice td l.length U) l:=hA;have HA:=Hd hA;have ak:=Hd (am.out wr hA.aA ⟨ya,ye,yr,ys,yt⟩ (by show ye<=_;omega) (by show yt.size<=_;omega));have up:=Hm kd g ⟨ya,ye,yr,ys,yt⟩;cases gk with
   |zero=>omega
   |succ gk=>
   unfold B4 at hX;rw[if_pos hc]at hX;generalize P4 kd g ⟨ya,ye,yr,ys,yt⟩=r at ak up hX;obtain⟨⟨D,M,Y,zs,J⟩,op⟩:=r;obtain⟨b1,bi,bj,b2⟩:=up;simp only at b1 bi bj;subst b1;have HX:=Hd hX;have b4:=Hd b2;clear hX hA b7 am b2;have ad:(D<ye/\decide ((D:Int)<(ye:Int))=true)\/(¬D<ye/\decide ((D:Int)<(ye:Int))=false/\yt.toList.isEmpty=false):=by
    by_cases e:D<ye
    ·exact .inl ⟨e,by simp;omega⟩
    ·exact .inr ⟨e,by simp;omega,Dy yt (by omega)⟩
   have HC:=Hd hc;clear hc;go_upto_region 3 with fail
   go_cut[29] (fun cv wx=>cv=.bool true/\wx=wr)
   case first=>
    rcases ad with⟨hn,e1⟩|⟨hn,e1,e2⟩
    all_goals
     go_wp2_with fail;go_meet;exact⟨rfl,rfl⟩
   case rest=>
    obtain⟨rfl,rfl⟩:=hcut;clear ad;go_wp2_with(first|refine NE rfl (.tmp 5) rfl w.heap.size rfl HA.out.stand ?_);refine ak.out.mono ?_;rintro e w1 ⟨rfl,a5⟩;have a4:=Hd (HA.out.more a5);clear c0 c1 c4 a5;go_wp2_with(first|refine NE (x:=⟨D,M,Y,zs,J⟩) rfl (.tmp 11) rfl w1.heap.size rfl (Blk.aQ _ _ _) ?_|refine UO (z:=⟨D,M,Y,zs,J⟩) rfl (.tmp 5) (.tmp 36) rfl rfl rfl (a4.out.more (P0 _ _)) ?_);intro w2 B;have a0:=Hd B;clear a4;have c0:=B.stand.cell 0;have c1:=B.stand.cell 1;have c2:=B.stand.cell 2;have c4:=B.stand.cell 4;have f1:=B.stand.frozen 1;have f4:=B.stand.frozen 4;clear B
    by_cases ag:op=true/\bE=false
    ·obtain⟨rfl,rfl⟩:=ag;have hx:=HX.out;rw[if_pos ⟨rfl,rfl⟩]at hx;subst hx;clear HX;have OW:=Hd (fun W=>QE J W (by omega));go_wp2_with fail;refine(OW.out _).mono ?_;rintro e w3 ⟨rfl,ar⟩;have ae:=Hd (a0.out.more ar);clear c0 c1 c2 c4 f1 f4 ar a0;have c4:=ae.out.stand.cell 4;have f4:=ae.out.stand.frozen 4;go_wp2_with fail;obtain⟨w4,a3⟩:∃w4:World,w3.setCell ⟨w.heap.size,4,none⟩ (.string J)=w4:=⟨_,rfl⟩;have f:Dn w w4 ⟨D,M,Y,zs,J⟩ (.slice td l.length U) l:=by rw[<-a3];exact ae.out.put 4 _ rfl
     rw[a3];have V:=Hd f;clear a3;have c0:=f.stand.cell 0;have c1:=f.stand.cell 1;have c2:=f.stand.cell 2;have c3:=f.stand.cell 3;have c4:=f.stand.cell 4;have q0:=f.res.cell 0;have q1:=f.res.cell 1;have q2:=f.res.cell 2;have q3:=f.res.cell 3;have q4:=f.res.cell 4;have f0:=f.res.frozen 0;have f1:=f.res.frozen 1;have f2:=f.res.frozen 2;have f3:=f.res.frozen 3;have f4:=f.res.frozen 4;have d9:w.heap.size≠w.heap.size+1:=by omega
     clear f;go_region;clear c0 c1 c2 c3 c4 q0 q1 q2 q3 q4 f0 f1 f2 f3 f4 d9;go_wp2_with fail;have hk:C0 (fun b=>b=w.heap.size+1) w4 (((((w4.setCell ⟨w.heap.size+1,0,none⟩ (.int .i64 D)).setCell ⟨w.heap.size+1,1,none⟩ (.int .i64 M)).setCell ⟨w.heap.size+1,2,none⟩ (.int .i64 Y)).setCell ⟨w.heap.size+1,3,none⟩ (.int .i64 zs)).setCell ⟨w.heap.size+1,4,none⟩ (.string J)).drew:=(((((C0.setCell (ex:=fun b=>b=w.heap.size+1) (p:=⟨w.heap.size+1,0,none⟩) (C0.refl _ _) (fun _=>rfl) _).setCell (p:=⟨w.heap.size+1,1,none⟩) (fun _=>rfl) _).setCell (p:=⟨w.heap.size+1,2,none⟩) (fun _=>rfl) _).setCell (p:=⟨w.heap.size+1,3,none⟩) (fun _=>rfl) _).setCell (p:=⟨w.heap.size+1,4,none⟩) (fun _=>rfl) _).drew;refine bodyPost_ret (Ij Tryz.results79 _ _ (w.heap.size+1) 49 (Hi ⟨D,M,Y,zs,J⟩) (0,0) _ rfl (Blk.drew (((((V.out.res.set 0 _).set 1 _).set 2 _).set 3 _).set 4 _)) Tryz.underlying49 rfl Tryz.bZ) rfl ⟨_,rfl,V.out.toks.kept hk (fun b hb e=>by have:=V.out.own b hb;omega),fun b hb=>by have:=V.out.own b hb;omega,Ka (((((V.out.aA.setCell (p:=⟨w.heap.size+1,0,none⟩) (by simp) _).setCell (p:=⟨w.heap.size+1,1,none⟩) (by simp) _).setCell (p:=⟨w.heap.size+1,2,none⟩) (by simp) _).setCell (p:=⟨w.heap.size+1,3,none⟩) (by simp) _).setCell (p:=⟨w.heap.size+1,4,none⟩) (by simp) _)⟩
    ·have ac:op=false\/(op=true/\bE=true):=by cases op <;>cases bE <;>simp_all
     have hx:=HX.out;rw[if_neg ag]at hx;have an:=Hd hx;clear HX hx ag;go_upto_region 6 with fail
     go_cut[41] (fun cv wx=>cv=.bool false/\wx=w2)
     case first=>
      rcases ac with rfl|⟨rfl,rfl⟩
      all_goals
       go_wp2_with fail;go_meet;exact⟨rfl,rfl⟩
     case rest=>
      obtain⟨rfl,rfl⟩:=hcut;clear ac;have a2:D<(Z8 ⟨D,M,Y,zs,J⟩).en/\(Z8 ⟨D,M,Y,zs,J⟩).en+(Z8 ⟨D,M,Y,zs,J⟩).tail.size=T/\(Z8 ⟨D,M,Y,zs,J⟩).bA=D/\(M=D->1<=J.size)/\M<=(Z8 ⟨D,M,Y,zs,J⟩).en:=by
       have br:(J.extract 1 J.size).size=J.size-1:=M3 J 1
       by_cases e:M=D
       ·have h9:1<=J.size:=by
         have b5:=b4.out (show M=ye by omega)
         injection b5 with _ _ _ _ h11
         rcases HC.out with b6|b6
         ·omega
         ·rw[h11];omega
        have hL:Z8 ⟨D,M,Y,zs,J⟩=⟨D,M+1,Y,zs,J.extract 1 J.size⟩:=by unfold Z8;rw[if_pos e]
        rw[hL];exact⟨by show D<M+1;omega,by show M+1+(J.extract 1 J.size).size=T;omega,rfl,fun _=>h9,by show M<=M+1;omega⟩
       ·have hL:Z8 ⟨D,M,Y,zs,J⟩=⟨D,M,Y,zs,J⟩:=by unfold Z8;rw[if_neg e]
        rw[hL];exact⟨by show D<M;omega,by show M+J.size=T;omega,rfl,fun h=>absurd h e,zD _⟩
      have ai:=Hd a2;have ap:=a2.2.2.2.1;clear a2;go_upto_if 46 with fail
      go_cut[] (fun wx=>Dn w wx (Z8 ⟨D,M,Y,zs,J⟩) (.slice td l.length U) l)
      case first=>
       by_cases a7:M=D
       ·have bl:=Hd a7;have e5:((M:Int)==(D:Int))=true:=by simp;omega
        have ay:=ap a7;have g1:(1:Int)<=(J.size:Int):=by omega
        have hL:Z8 ⟨D,M,Y,zs,J⟩=⟨D,M+1,Y,zs,J.extract 1 J.size⟩:=by unfold Z8;rw[if_pos a7]
        have af:=Hd hL;clear hL a7;go_wp2_with fail;go_meet;rw[af.out];refine Dn.put (y:=⟨D,M+1,Y,zs,J⟩) (Dn.put a0.out 1 _ ?_) 4 _ rfl;rfl
       ·have e5:((M:Int)==(D:Int))=false:=by simp;omega
        have hL:Z8 ⟨D,M,Y,zs,J⟩=⟨D,M,Y,zs,J⟩:=by unfold Z8;rw[if_neg a7]
        have af:=Hd hL;clear hL;go_wp2_with fail;go_meet;rw[af.out];exact a0.out
      case rest=>
       clear c0 c1 c2 c4 f1 f4 a0 ap;generalize Z8 ⟨D,M,Y,zs,J⟩=z' at hcut an ai;obtain⟨la,le,lr,ls,lt⟩:=z';obtain⟨bg,az,b0,_,bh⟩:=ai.out;simp only at bg az b0 bh;subst b0;have B:=hcut;have a0:=Hd B;have c0:=B.stand.cell 0;have c1:=B.stand.cell 1;have c2:=B.stand.cell 2;have c4:=B.stand.cell 4;have z1:=B.aA.size;have bs:=B.stand.lt;have ab:∀b,(Value.slice td l.length U).ownBlock=some b->b<wc.heap.size:=M1 B.toks;have bk:=Hd ab;obtain⟨ii,b8,be,ay,bf⟩:=info_parts Tryz.dQ;have aw:T1 (wc.alloc (.cells (Yk ⟨lr,la,le⟩) 106)) (.slice td l.length U) l:=B.toks.aA (P0 _ _);have aj:=Hd aw;have bq:l.length<=4000001:=by omega
       have SA:=Hd (fun W=>VC le W);clear aw ab hcut B;go_wp2_with(at_builtin;(refine wpList_append_lies _ (by rfl) _ _ _ (by rfl) 0 106 ii _ 3 24 Tryz.underlying98 b8 be ay bf rfl (by omega) (.slice td l.length U) l.length (S5 l) (by rfl) aj.out ⟨wc.heap.size,0,none⟩ 1 1 [.int .i64 lr,.int .i64 la,.int .i64 le] (by rfl) (by rfl) (World.news_of_block (cs:=Yk ⟨lr,la,le⟩) (t:=106) (fr:=(0,0)) (by have:=heap_alloc_new wc (.cells (Yk ⟨lr,la,le⟩) 106);simpa using this)) (by simp[Value.oneCell']) (by omega) (by unfold maxLen;omega) (by omega) (by simp) (wc.heap.size+1) (by simp) ?_));intro gg ao w6 a6 K aa av;have aq:Dn w w6 ⟨la,le,lr,ls,lt⟩ (.slice (some ⟨gg,0,none⟩) (l.length+1) ao) (l++ [⟨lr,la,le⟩]):=by
        have B:=a0.out;have a1:C0 (fun b=>(Value.slice td l.length U).ownBlock=some b) (wc.alloc (.cells (Yk ⟨lr,la,le⟩) 106)) w6:=⟨K.os,K.tape,K.output,K.size,fun k hk he=>K.block k hk (fun e=>he e.symm)⟩;refine⟨?_,(B.stand.alloc _).kept a1 (fun e=>by have:=B.own _ e;omega),(B.res.alloc _).kept a1 (fun e=>by have:=B.own _ e;omega),?_,?_⟩
        ·have h2:Bw w (wc.alloc (.cells (Yk ⟨lr,la,le⟩) 106)):=B.aA.alloc (by omega) _;exact h2.trans ⟨a1.os,a1.tape,a1.output,a1.size,fun b hb=>a1.block b (by simp;omega) (fun e=>by have:=B.own b e;omega)⟩
        ·unfold T1;rw[Lg,zL];exact a6
        ·intro b e;cases(zE e:gg=b);rcases aa with e|e
         ·exact B.own gg e
         ·omega
       have a8:=Hd aq;clear a6 K aa av aj a0 c0 c1 c2 c4 aq;have c1:=a8.out.stand.cell 1;have c4:=a8.out.stand.cell 4;go_wp2_with fail;refine(SA.out _).mono ?_;rintro e w7 ⟨rfl,au⟩;have ah:=Hd (a8.out.more au);clear c1 c4 au a8;go_wp2_with(first|refine UO (z:=Ea le) rfl (.tmp 5) (.tmp 69) rfl rfl rfl ah.out ?_);intro w8 a9;have b3:=Hd a9;have c4:=a9.stand.cell 4;have f4:=a9.stand.frozen 4;clear a9 ah;go_wp2_with fail
       go_roundg gk
       case measure=>omega
       case rel=>
        refine⟨⟨le,le,-1,0,lt⟩,l++ [⟨lr,la,le⟩],zD _,az,by show T<gk+le;omega,⟨by show lt.size<=Z;omega,fun e=>absurd e (by show ¬le<le;omega),by show(l++ [_]).length+lt.size<=Z+1;rw[zL,yO];by_cases e9:la<ye;have:=b9 e9;omega;omega⟩,an.out,?_⟩;have:=b3.out.put 4 (.string lt) (z:=⟨le,le,-1,0,lt⟩) rfl;simpa using this
  ·have hn:¬ya<ye:=fun e=>hc (.inl e)
   have e1:decide ((ya:Int)<(ye:Int))=false:=by simp;omega
   have bd:yt=⟨#[]⟩:=(IU yt).2 (by omega);subst bd;have hx:(l,(⟨ya,ye,yr,ys,⟨#[]⟩⟩:D3))=X:=by
    cases gk with
    |zero=>exact hX
    |succ gk=>unfold B4 at hX;rw[if_neg hc]at hX;exact hX
   subst hx;clear hX hc;have HA:=Hd hA;have OW:=Hd (fun W=>QE ⟨#[]⟩ W (by decide));clear hA;go_wp2_with fail;refine(OW.out _).mono ?_;rintro e w1 ⟨rfl,a5⟩;have a4:=Hd (HA.out.more a5);clear c0 c1 c4 a5;have c4:=a4.out.stand.cell 4;have f4:=a4.out.stand.frozen 4;go_wp2_with fail;obtain⟨w4,a3⟩:∃w4:World,w1.setCell ⟨w.heap.size,4,none⟩ (.string ⟨#[]⟩)=w4:=⟨_,rfl⟩;have f:Dn w w4 ⟨ya,ye,yr,ys,⟨#[]⟩⟩ (.slice td l.length U) l:=by rw[<-a3];exact a4.out.put 4 _ rfl
   rw[a3];have V:=Hd f;clear a3;have c0:=f.stand.cell 0;have c1:=f.stand.cell 1;have c2:=f.stand.cell 2;have c3:=f.stand.cell 3;have c4:=f.stand.cell 4;have q0:=f.res.cell 0;have q1:=f.res.cell 1;have q2:=f.res.cell 2;have q3:=f.res.cell 3;have q4:=f.res.cell 4;have f0:=f.res.frozen 0;have f1:=f.res.frozen 1;have f2:=f.res.frozen 2;have f3:=f.res.frozen 3;have f4:=f.res.frozen 4;have d9:w.heap.size≠w.heap.size+1:=by omega
   clear f;go_region;clear c0 c1 c2 c3 c4 q0 q1 q2 q3 q4 f0 f1 f2 f3 f4 d9;go_wp2_with fail;have hk:C0 (fun b=>b=w.heap.size+1) w4 (((((w4.setCell ⟨w.heap.size+1,0,none⟩ (.int .i64 ya)).setCell ⟨w.heap.size+1,1,none⟩ (.int .i64 ye)).setCell ⟨w.heap.size+1,2,none⟩ (.int .i64 yr)).setCell ⟨w.heap.size+1,3,none⟩ (.int .i64 ys)).setCell ⟨w.heap.size+1,4,none⟩ (.string ⟨#[]⟩)).drew:=(((((C0.setCell (ex:=fun b=>b=w.heap.size+1) (p:=⟨w.heap.size+1,0,none⟩) (C0.refl _ _) (fun _=>rfl) _).setCell (p:=⟨w.heap.size+1,1,none⟩) (fun _=>rfl) _).setCell (p:=⟨w.heap.size+1,2,none⟩) (fun _=>rfl) _).setCell (p:=⟨w.heap.size+1,3,none⟩) (fun _=>rfl) _).setCell (p:=⟨w.heap.size+1,4,none⟩) (fun _=>rfl) _).drew;refine bodyPost_ret (Ij Tryz.results79 _ _ (w.heap.size+1) 49 (Hi ⟨ya,ye,yr,ys,⟨#[]⟩⟩) (0,0) _ rfl (Blk.drew (((((V.out.res.set 0 _).set 1 _).set 2 _).set 3 _).set 4 _)) Tryz.underlying49 rfl Tryz.bZ) rfl ⟨_,rfl,V.out.toks.kept hk (fun b hb e=>by have:=V.out.own b hb;omega),fun b hb=>by have:=V.out.own b hb;omega,Ka (((((V.out.aA.setCell (p:=⟨w.heap.size+1,0,none⟩) (by simp) _).setCell (p:=⟨w.heap.size+1,1,none⟩) (by simp) _).setCell (p:=⟨w.heap.size+1,2,none⟩) (by simp) _).setCell (p:=⟨w.heap.size+1,3,none⟩) (by simp) _).setCell (p:=⟨w.heap.size+1,4,none⟩) (by simp) _)⟩
end Go.Proofs.YtcckhngbdoiikaaGreat
