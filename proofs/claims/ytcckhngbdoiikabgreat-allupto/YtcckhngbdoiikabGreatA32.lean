import Derived.Test.YtcckhngbdoiikabGreatA31
import Derived.Lib.AppendStr
set_option maxRecDepth 20000
set_option maxHeartbeats 12800000
set_option linter.unusedVariables false
namespace Go.Proofs.YtcckhngbdoiikabGreat
open Go.RowKit Go.Deep
theorem Tryz.jW:(Tryz.prog.info? 5).map (fun i=>(i.zero,i.size,i.bytes))=some (some (.int .u8 0),1,1):=by kernel_rfl
theorem JG(s:ByteArray)(w:World)(hs:s.size<=4000000):
  Calls Tryz.prog 80 #[.string s] w fun e w'=>e=.returned (.string s)/\Bw w w':=by
 obtain⟨ii,Y,a1,a2,a3⟩:=info_parts Tryz.jW;have K:(w.alloc (.cells #[] 5)).ownsRow w.heap.size 5 1 (.slice (some ⟨w.heap.size,0,none⟩) 0 0) 0 []:=⟨by rfl,.inr ⟨w.heap.size,0,#[],rfl,zD _,heap_alloc_new _ _,zD _,by unfold maxLen;omega,rfl,rfl⟩⟩;have B:=Hd K;clear K;go_enter Tryz.func80,Tryz.ntmps80;go_wp2_with(at_builtin;(refine Go.Lib.wpList_append_own_string _ (by rfl) _ _ _ _ (by rfl) w.heap.size 5 ii Tryz.underlying147 Tryz.underlying9 Y a1 a2 a3 (.slice (some ⟨w.heap.size,0,none⟩) 0 0) 0 [] (by rfl) B.out s (by rfl) (by unfold maxLen;omega) (by omega) (by simp) ?_));intro v' h M f J;obtain⟨a0,⟨rfl,h0⟩|⟨U,D,cur,rfl,h2,h3,h4,h5,h6,h7⟩⟩:=M
 ·exact absurd rfl J
 have a4:(convert 147 9 (.slice (some ⟨U,0,none⟩) s.size D)).run Tryz.prog h=.ok (.string s) h:=by
  have h8:=run_convert_bytes_back (P:=Tryz.prog) h 147 9 5 ⟨U,0,none⟩ D s.data.toList Tryz.underlying147 Tryz.underlying5 Tryz.underlying9 (fun j hj=>by
   have h9:h.cell? ⟨U,j,none⟩=cur[j]?:=Blk.cell (show Blk h U cur 5 from h3) j;have V:cur.toList[j]?=(Go.Lib.strCells s)[j]?:=by
    have Z:j<s.size:=by simpa using hj
    have G:=h7;simp only[Nat.mul_one]at G;rw[<-G,List.getElem?_take,if_pos Z]
   rw[Addr.add_lit,yX,h9,<-Array.getElem?_toList,V];have W:s.data.toList[j]?=some s.data.toList[j]:=zF hj;rw[Go.Lib.strCells,List.getElem?_map,W];rfl)
  have e1:s.data.toList.length=s.size:=by rw[Array.length_toList];rfl
  rw[e1]at h8;exact h8
 have X:Bw w h:=(N0 w _).trans ⟨f.os,f.tape,f.output,f.size,fun b X=>f.block b (by simp;omega) (fun e=>by cases(zE e:b=w.heap.size);omega)⟩;have HB:=Hd X;clear X f J a0 h2 h3 h4 h5 h6 h7 B;go_wp2_with fail;go_ret;exact⟨rfl,HB.out⟩
theorem Fu(p:Nat)(w:World):Calls Tryz.prog 46 #[.int .i64 p] w fun e w'=>e=.returned (Es (X6 p))/\Bw w w':=by
 go_enter Tryz.func46,Tryz.ntmps46;go_wp2_with(first|refine Qh (x:=X6 p) rfl (.tmp 2) (.tmp 5) rfl w.heap.size rfl rfl (Blk.aR _ _ _) rfl ?_);exact bodyPost_ret (results_cell_row Tryz.results46 _ _ w.heap.size 27 (Pg (X6 p)) (0,0) _ rfl ((Blk.aR w Tb 27).setRow _) Tryz.underlying27 rfl Tryz.bZ) rfl ⟨rfl,I2 (N0 _ _) (zD _) _⟩
theorem Qj{P:Program}{G:Func}{p q:Tmp}{B:TypeId}(h:G.results=#[.tmp q,.cell p B])(f:Array Value)(w:World)(g:Nat)(t:TypeId)(cs:Array Value)(fr:Nat×Nat)(d:TypeDesc)
  (U:f.getD p undef=.pointer (some ⟨g,0,none⟩)) (K:w.heap[g]?=some (.cells cs t fr))
  (V:P.underlying B=some d) (J:(match d with|.struct _|.array _ _=>true|_=>false)=true) (M:(P.info? B).map (·.size)=some cs.size):
  (results G f).run P w=.ok (.tuple #[f.getD q undef,.agg cs]) w:=by
 have D:f[p]?.getD undef=.pointer (some ⟨g,0,none⟩):=by simpa using U
 simp[results,h,D,asAddr,run_loadVar_row w g t B cs fr d K V J M]
theorem JW(s:ByteArray):(s=⟨#[]⟩)↔s.size=0:=by
 constructor
 ·rintro rfl;rfl
 ·intro h;apply ByteArray.ext;apply Array.eq_empty_of_size_eq_zero;exact h
theorem ZP(s:ByteArray):∀(n i:Nat) (r:List UInt8),s.size-i=n->r≠ []->ByteArray.toList.loop s i r≠ []
 |0,i,r,h,hr=>by
  unfold ByteArray.toList.loop;rw[if_neg (by omega)];simpa using hr
 |n+1,i,r,h,hr=>by
  unfold ByteArray.toList.loop;rw[if_pos (by omega)];exact ZP s n (i+1) _ (by omega) (by simp)
theorem Ih(s:ByteArray)(h:s.size≠0):s.toList.isEmpty=false:=by
 have f:s.toList≠ []:=by
  unfold ByteArray.toList;unfold ByteArray.toList.loop;rw[if_pos (by omega)];exact ZP s _ 1 _ rfl (by simp)
 cases hh:s.toList with
 |nil=>exact absurd hh f
 |cons a b=>rfl
structure Yn(w0 w:World)(y:F3)(v:Value)(l:List V4):Prop where
 aA:Bw w0 w
 stand:Blk w w0.heap.size (Pg y) 27
 res:Blk w (w0.heap.size+1) Tb 27
 toks:P1 w v l
 own:∀b,v.ownBlock=some b->w0.heap.size+1<b
theorem Yn.more{w0 w w':World}{y:F3}{v:Value}{l:List V4}(h:Yn w0 w y v l)(f:Bw w w'):Yn w0 w' y v l:=
 ⟨h.aA.trans (f.mono h.aA.size),h.stand.aA f,h.res.aA f,h.toks.aA f,h.own⟩
theorem ZQ{z y:F3}{v:Value}{l:List V4}{B:Array Oper}{rest:List Oper}{o:Oper}{a:Act}{w w0:World}{Q:Exit->Act->World->Prop}(D:o.guard=none)(p q:Operand)(J:o.op=.store 27 p q)
  (K:a.eval p=.pointer (some ⟨w0.heap.size,0,none⟩)) (M:a.eval q=Es z) (f:Yn w0 w y v l)
  (h:∀w',Yn w0 w' z v l->wpList Tryz.prog B Q rest (a.put o.dst undef) w'):wpList Tryz.prog B Q (o::rest) a w:=by
 refine Qh D p q J w0.heap.size K M f.stand rfl (h _ ⟨I2 f.aA (zD _) _,f.stand.setRow _,f.res.aP (by omega) _,?_,f.own⟩);exact f.toks.kept (ex:=fun b=>b=w0.heap.size) (C0.setRow (ex:=fun b=>b=w0.heap.size) (C0.refl _ _) (fun _=>rfl) _) (fun b G e=>by have:=f.own b G;omega)
theorem Yn.put{w0 w:World}{y:F3}{v:Value}{l:List V4}(f:Yn w0 w y v l)(c:Nat)(x:Value){z:F3}(B:(Pg y).setIfInBounds c x=Pg z):Yn w0 (w.setCell ⟨w0.heap.size,c,none⟩ x) z v l:=by
 refine⟨f.aA.setCell (p:=⟨w0.heap.size,c,none⟩) (zD _) _,by rw[<-B];exact f.stand.set c x,f.res.aG (p:=⟨w0.heap.size,c,none⟩) (by simp) _,?_,f.own⟩;exact f.toks.kept (ex:=fun b=>b=w0.heap.size) (C0.setCell (ex:=fun b=>b=w0.heap.size) (p:=⟨w0.heap.size,c,none⟩) (C0.refl _ _) (fun _=>rfl) _) (fun b h e=>by have:=f.own b h;omega)
theorem ZN(pb:Nat)(kd:Nat->Nat)(g:B0)(x:F3)(s:ByteArray)(bF:Bool)(w:World)(h:W7 w pb kd g)(ho:N7 kd g)(h1:x.tail.size+s.size<=4000000)(h3:x.en<=1099511627776)(h2:x.bC<=x.en):
  Calls Tryz.prog 47 #[.pointer (some ⟨pb,0,none⟩),Es x,.string s,.bool bF] w fun e w'=>∃v,e=.returned (.tuple #[v,Es (onF kd g x s bF).2])/\P1 w' v (onF kd g x s bF).1/\(∀b,v.ownBlock=some b->w.heap.size<=b)/\Bw w w':=by
 obtain⟨xa,xe,xr,xs,xt⟩:=x;simp only at h1 h2 h3;have ax:=fun(W:World) (hb:Bw w W) (y:F3)=>KL pb kd g y W (h.aA hb) ho
 have am:=Hd ax;generalize hX:onF kd g ⟨xa,xe,xr,xs,xt⟩ s bF=X;unfold onF at hX;simp only at hX;obtain⟨T,hT⟩:∃T:Nat,T=xe+(xt++s).size:=⟨_,rfl⟩;have bm:T<=1100000000000:=by rw[hT,zN];omega
 obtain⟨Z,hZ⟩:∃Z:Nat,Z=(xt++s).size:=⟨_,rfl⟩;have bn:Z<=4000000:=by rw[hZ,zN];omega
 have HZ:=Hd hZ;clear hZ;have HX:=Hd hX;have HT:=Hd hT;clear h ho ax hX hT;have u1:∀W:World,(Op.stringOp .add xt s).run Tryz.prog W=.ok (.string (xt++s)) W:=fun W=>run_string_add_sum W _ _ (by omega)
 go_enter Tryz.func47,Tryz.ntmps47;go_wp2_with fail;clear u1
 go_loopg[10] (xe-xa+(xt++s).size+1) (fun G tv wr=>∃(y:F3) (l:List V4),y.bC<=y.en/\y.en+y.tail.size=T/\T<G+y.bC/\(y.tail.size<=Z/\(y.bC<y.en->l.length+y.tail.size<=Z)/\l.length+y.tail.size<=Z+1)/\E4 kd g bF G y l=X/\Yn w wr y tv l)
 case atStart=>
  refine⟨⟨xa,xe,xr,xs,xt++s⟩,[],h2,HT.out.symm,?_,⟨by rw[HZ.out];exact zD _,fun _=>by rw[HZ.out];simp,by rw[HZ.out];simp⟩,HX.out,⟨?_,?_,?_,?_,?_⟩⟩
  ·have:=HT.out;show T<xe-xa+(xt++s).size+1+xa;omega
  ·exact((F6 _ _ _).alloc (by simp;omega) _)
  ·exact((Blk.aR _ _ _).alloc _).alloc _
  ·exact(Blk.dX _ _ _ _).alloc _
  ·exact J5 (g:=w.heap.size+1+1) (cur:=#[]) (by rfl) (by have h9:=Blk.aR ((w.alloc (.cells (Pg ⟨xa,xe,xr,xs,xt++s⟩) 27)).alloc (.cells Tb 27)) #[] 66;simpa using h9) (zD _) (by unfold maxLen;omega) rfl (by rfl)
  ·intro b e;cases(zE e:w.heap.size+1+1=b);omega
 case round=>
  obtain⟨y,l,bb,bc,hG,hl,hX,hA⟩:=hrel;clear HX HT;obtain⟨td,U,rfl,ba⟩:=hA.toks.aV;obtain⟨ya,ye,yr,ys,yt⟩:=y;simp only at bb bc hG hl;obtain⟨bo,b9,bp⟩:=hl;have c0:=hA.stand.cell 0;have c1:=hA.stand.cell 1;have c4:=hA.stand.cell 4
  by_cases hc:ya<ye\/yt.size≠0
  ·have b7:Yn w wr ⟨ya,ye,yr,ys,yt⟩ (.slice td l.length U) l:=hA;have HA:=Hd hA;have ak:=Hd (am.out wr hA.aA ⟨ya,ye,yr,ys,yt⟩ (by show ye<=_;omega) (by show yt.size<=_;omega));have up:=Zm kd g ⟨ya,ye,yr,ys,yt⟩;cases gk with
   |zero=>omega
   |succ gk=>
   unfold E4 at hX;rw[if_pos hc]at hX;generalize S4 kd g ⟨ya,ye,yr,ys,yt⟩=r at ak up hX;obtain⟨⟨D,M,Y,zs,J⟩,op⟩:=r;obtain⟨b1,bi,bj,b2⟩:=up;simp only at b1 bi bj;subst b1;have HX:=Hd hX;have b4:=Hd b2;clear hX hA b7 am b2;have ad:(D<ye/\decide ((D:Int)<(ye:Int))=true)\/(¬D<ye/\decide ((D:Int)<(ye:Int))=false/\yt.toList.isEmpty=false):=by
    by_cases e:D<ye
    ·exact .inl ⟨e,by simp;omega⟩
    ·exact .inr ⟨e,by simp;omega,Ih yt (by omega)⟩
   have HC:=Hd hc;clear hc;go_upto_region 3 with fail
   go_cut[29] (fun cv wx=>cv=.bool true/\wx=wr)
   case first=>
    rcases ad with⟨hn,e1⟩|⟨hn,e1,e2⟩
    all_goals
     go_wp2_with fail;go_meet;exact⟨rfl,rfl⟩
   case rest=>
    obtain⟨rfl,rfl⟩:=hcut;clear ad;go_wp2_with(first|refine DG rfl (.tmp 5) rfl w.heap.size rfl HA.out.stand ?_);refine ak.out.mono ?_;rintro e w1 ⟨rfl,a5⟩;have a4:=Hd (HA.out.more a5);clear c0 c1 c4 a5;go_wp2_with(first|refine DG (x:=⟨D,M,Y,zs,J⟩) rfl (.tmp 11) rfl w1.heap.size rfl (Blk.aR _ _ _) ?_|refine ZQ (z:=⟨D,M,Y,zs,J⟩) rfl (.tmp 5) (.tmp 36) rfl rfl rfl (a4.out.more (N0 _ _)) ?_);intro w2 B;have a0:=Hd B;clear a4;have c0:=B.stand.cell 0;have c1:=B.stand.cell 1;have c2:=B.stand.cell 2;have c4:=B.stand.cell 4;have f1:=B.stand.frozen 1;have f4:=B.stand.frozen 4;clear B
    by_cases ag:op=true/\bF=false
    ·obtain⟨rfl,rfl⟩:=ag;have hx:=HX.out;rw[if_pos ⟨rfl,rfl⟩]at hx;subst hx;clear HX;have OW:=Hd (fun W=>JG J W (by omega));go_wp2_with fail;refine(OW.out _).mono ?_;rintro e w3 ⟨rfl,ar⟩;have ae:=Hd (a0.out.more ar);clear c0 c1 c2 c4 f1 f4 ar a0;have c4:=ae.out.stand.cell 4;have f4:=ae.out.stand.frozen 4;go_wp2_with fail;obtain⟨w4,a3⟩:∃w4:World,w3.setCell ⟨w.heap.size,4,none⟩ (.string J)=w4:=⟨_,rfl⟩;have f:Yn w w4 ⟨D,M,Y,zs,J⟩ (.slice td l.length U) l:=by rw[<-a3];exact ae.out.put 4 _ rfl
     rw[a3];have V:=Hd f;clear a3;have c0:=f.stand.cell 0;have c1:=f.stand.cell 1;have c2:=f.stand.cell 2;have c3:=f.stand.cell 3;have c4:=f.stand.cell 4;have q0:=f.res.cell 0;have q1:=f.res.cell 1;have q2:=f.res.cell 2;have q3:=f.res.cell 3;have q4:=f.res.cell 4;have f0:=f.res.frozen 0;have f1:=f.res.frozen 1;have f2:=f.res.frozen 2;have f3:=f.res.frozen 3;have f4:=f.res.frozen 4;have d9:w.heap.size≠w.heap.size+1:=by omega
     clear f;go_region;clear c0 c1 c2 c3 c4 q0 q1 q2 q3 q4 f0 f1 f2 f3 f4 d9;go_wp2_with fail;have hk:C0 (fun b=>b=w.heap.size+1) w4 (((((w4.setCell ⟨w.heap.size+1,0,none⟩ (.int .i64 D)).setCell ⟨w.heap.size+1,1,none⟩ (.int .i64 M)).setCell ⟨w.heap.size+1,2,none⟩ (.int .i64 Y)).setCell ⟨w.heap.size+1,3,none⟩ (.int .i64 zs)).setCell ⟨w.heap.size+1,4,none⟩ (.string J)).drew:=(((((C0.setCell (ex:=fun b=>b=w.heap.size+1) (p:=⟨w.heap.size+1,0,none⟩) (C0.refl _ _) (fun _=>rfl) _).setCell (p:=⟨w.heap.size+1,1,none⟩) (fun _=>rfl) _).setCell (p:=⟨w.heap.size+1,2,none⟩) (fun _=>rfl) _).setCell (p:=⟨w.heap.size+1,3,none⟩) (fun _=>rfl) _).setCell (p:=⟨w.heap.size+1,4,none⟩) (fun _=>rfl) _).drew;refine bodyPost_ret (Qj Tryz.results47 _ _ (w.heap.size+1) 27 (Pg ⟨D,M,Y,zs,J⟩) (0,0) _ rfl (Blk.drew (((((V.out.res.set 0 _).set 1 _).set 2 _).set 3 _).set 4 _)) Tryz.underlying27 rfl Tryz.bZ) rfl ⟨_,rfl,V.out.toks.kept hk (fun b hb e=>by have:=V.out.own b hb;omega),fun b hb=>by have:=V.out.own b hb;omega,Q6 (((((V.out.aA.setCell (p:=⟨w.heap.size+1,0,none⟩) (by simp) _).setCell (p:=⟨w.heap.size+1,1,none⟩) (by simp) _).setCell (p:=⟨w.heap.size+1,2,none⟩) (by simp) _).setCell (p:=⟨w.heap.size+1,3,none⟩) (by simp) _).setCell (p:=⟨w.heap.size+1,4,none⟩) (by simp) _)⟩
    ·have ac:op=false\/(op=true/\bF=true):=by cases op <;>cases bF <;>simp_all
     have hx:=HX.out;rw[if_neg ag]at hx;have an:=Hd hx;clear HX hx ag;go_upto_region 6 with fail
     go_cut[41] (fun cv wx=>cv=.bool false/\wx=w2)
     case first=>
      rcases ac with rfl|⟨rfl,rfl⟩
      all_goals
       go_wp2_with fail;go_meet;exact⟨rfl,rfl⟩
     case rest=>
      obtain⟨rfl,rfl⟩:=hcut;clear ac;have a2:D<(L9 ⟨D,M,Y,zs,J⟩).en/\(L9 ⟨D,M,Y,zs,J⟩).en+(L9 ⟨D,M,Y,zs,J⟩).tail.size=T/\(L9 ⟨D,M,Y,zs,J⟩).bC=D/\(M=D->1<=J.size)/\M<=(L9 ⟨D,M,Y,zs,J⟩).en:=by
       have br:(J.extract 1 J.size).size=J.size-1:=S3 J 1
       by_cases e:M=D
       ·have h9:1<=J.size:=by
         have b5:=b4.out (show M=ye by omega)
         injection b5 with _ _ _ _ h11
         rcases HC.out with b6|b6
         ·omega
         ·rw[h11];omega
        have hL:L9 ⟨D,M,Y,zs,J⟩=⟨D,M+1,Y,zs,J.extract 1 J.size⟩:=by unfold L9;rw[if_pos e]
        rw[hL];exact⟨by show D<M+1;omega,by show M+1+(J.extract 1 J.size).size=T;omega,rfl,fun _=>h9,by show M<=M+1;omega⟩
       ·have hL:L9 ⟨D,M,Y,zs,J⟩=⟨D,M,Y,zs,J⟩:=by unfold L9;rw[if_neg e]
        rw[hL];exact⟨by show D<M;omega,by show M+J.size=T;omega,rfl,fun h=>absurd h e,zD _⟩
      have ai:=Hd a2;have ap:=a2.2.2.2.1;clear a2;go_upto_if 46 with fail
      go_cut[] (fun wx=>Yn w wx (L9 ⟨D,M,Y,zs,J⟩) (.slice td l.length U) l)
      case first=>
       by_cases a7:M=D
       ·have bl:=Hd a7;have e5:((M:Int)==(D:Int))=true:=by simp;omega
        have ay:=ap a7;have g1:(1:Int)<=(J.size:Int):=by omega
        have hL:L9 ⟨D,M,Y,zs,J⟩=⟨D,M+1,Y,zs,J.extract 1 J.size⟩:=by unfold L9;rw[if_pos a7]
        have af:=Hd hL;clear hL a7;go_wp2_with fail;go_meet;rw[af.out];refine Yn.put (y:=⟨D,M+1,Y,zs,J⟩) (Yn.put a0.out 1 _ ?_) 4 _ rfl;rfl
       ·have e5:((M:Int)==(D:Int))=false:=by simp;omega
        have hL:L9 ⟨D,M,Y,zs,J⟩=⟨D,M,Y,zs,J⟩:=by unfold L9;rw[if_neg a7]
        have af:=Hd hL;clear hL;go_wp2_with fail;go_meet;rw[af.out];exact a0.out
      case rest=>
       clear c0 c1 c2 c4 f1 f4 a0 ap;generalize L9 ⟨D,M,Y,zs,J⟩=z' at hcut an ai;obtain⟨la,le,lr,ls,lt⟩:=z';obtain⟨bg,az,b0,_,bh⟩:=ai.out;simp only at bg az b0 bh;subst b0;have B:=hcut;have a0:=Hd B;have c0:=B.stand.cell 0;have c1:=B.stand.cell 1;have c2:=B.stand.cell 2;have c4:=B.stand.cell 4;have z1:=B.aA.size;have bs:=B.stand.lt;have ab:∀b,(Value.slice td l.length U).ownBlock=some b->b<wc.heap.size:=Q1 B.toks;have bk:=Hd ab;obtain⟨ii,b8,be,ay,bf⟩:=info_parts Tryz.dQ;have aw:P1 (wc.alloc (.cells (Jl ⟨lr,la,le⟩) 66)) (.slice td l.length U) l:=B.toks.aA (N0 _ _);have aj:=Hd aw;have bq:l.length<=4000001:=by omega
       have SA:=Hd (fun W=>Fu le W);clear aw ab hcut B;go_wp2_with(at_builtin;(refine wpList_append_lies _ (by rfl) _ _ _ (by rfl) 0 66 ii _ 3 24 Tryz.underlying58 b8 be ay bf rfl (by omega) (.slice td l.length U) l.length (Y5 l) (by rfl) aj.out ⟨wc.heap.size,0,none⟩ 1 1 [.int .i64 lr,.int .i64 la,.int .i64 le] (by rfl) (by rfl) (World.news_of_block (cs:=Jl ⟨lr,la,le⟩) (t:=66) (fr:=(0,0)) (by have:=heap_alloc_new wc (.cells (Jl ⟨lr,la,le⟩) 66);simpa using this)) (by simp[Value.oneCell']) (by omega) (by unfold maxLen;omega) (by omega) (by simp) (wc.heap.size+1) (by simp) ?_));intro gg ao w6 a6 K aa av;have aq:Yn w w6 ⟨la,le,lr,ls,lt⟩ (.slice (some ⟨gg,0,none⟩) (l.length+1) ao) (l++ [⟨lr,la,le⟩]):=by
        have B:=a0.out;have a1:C0 (fun b=>(Value.slice td l.length U).ownBlock=some b) (wc.alloc (.cells (Jl ⟨lr,la,le⟩) 66)) w6:=⟨K.os,K.tape,K.output,K.size,fun k hk he=>K.block k hk (fun e=>he e.symm)⟩;refine⟨?_,(B.stand.alloc _).kept a1 (fun e=>by have:=B.own _ e;omega),(B.res.alloc _).kept a1 (fun e=>by have:=B.own _ e;omega),?_,?_⟩
        ·have h2:Bw w (wc.alloc (.cells (Jl ⟨lr,la,le⟩) 66)):=B.aA.alloc (by omega) _;exact h2.trans ⟨a1.os,a1.tape,a1.output,a1.size,fun b hb=>a1.block b (by simp;omega) (fun e=>by have:=B.own b e;omega)⟩
        ·unfold P1;rw[Sg,zL];exact a6
        ·intro b e;cases(zE e:gg=b);rcases aa with e|e
         ·exact B.own gg e
         ·omega
       have a8:=Hd aq;clear a6 K aa av aj a0 c0 c1 c2 c4 aq;have c1:=a8.out.stand.cell 1;have c4:=a8.out.stand.cell 4;go_wp2_with fail;refine(SA.out _).mono ?_;rintro e w7 ⟨rfl,au⟩;have ah:=Hd (a8.out.more au);clear c1 c4 au a8;go_wp2_with(first|refine ZQ (z:=X6 le) rfl (.tmp 5) (.tmp 69) rfl rfl rfl ah.out ?_);intro w8 a9;have b3:=Hd a9;have c4:=a9.stand.cell 4;have f4:=a9.stand.frozen 4;clear a9 ah;go_wp2_with fail
       go_roundg gk
       case measure=>omega
       case rel=>
        refine⟨⟨le,le,-1,0,lt⟩,l++ [⟨lr,la,le⟩],zD _,az,by show T<gk+le;omega,⟨by show lt.size<=Z;omega,fun e=>absurd e (by show ¬le<le;omega),by show(l++ [_]).length+lt.size<=Z+1;rw[zL,yQ];by_cases e9:la<ye;have:=b9 e9;omega;omega⟩,an.out,?_⟩;have:=b3.out.put 4 (.string lt) (z:=⟨le,le,-1,0,lt⟩) rfl;simpa using this
  ·have hn:¬ya<ye:=fun e=>hc (.inl e)
   have e1:decide ((ya:Int)<(ye:Int))=false:=by simp;omega
   have bd:yt=⟨#[]⟩:=(JW yt).2 (by omega);subst bd;have hx:(l,(⟨ya,ye,yr,ys,⟨#[]⟩⟩:F3))=X:=by
    cases gk with
    |zero=>exact hX
    |succ gk=>unfold E4 at hX;rw[if_neg hc]at hX;exact hX
   subst hx;clear hX hc;have HA:=Hd hA;have OW:=Hd (fun W=>JG ⟨#[]⟩ W (by decide));clear hA;go_wp2_with fail;refine(OW.out _).mono ?_;rintro e w1 ⟨rfl,a5⟩;have a4:=Hd (HA.out.more a5);clear c0 c1 c4 a5;have c4:=a4.out.stand.cell 4;have f4:=a4.out.stand.frozen 4;go_wp2_with fail;obtain⟨w4,a3⟩:∃w4:World,w1.setCell ⟨w.heap.size,4,none⟩ (.string ⟨#[]⟩)=w4:=⟨_,rfl⟩;have f:Yn w w4 ⟨ya,ye,yr,ys,⟨#[]⟩⟩ (.slice td l.length U) l:=by rw[<-a3];exact a4.out.put 4 _ rfl
   rw[a3];have V:=Hd f;clear a3;have c0:=f.stand.cell 0;have c1:=f.stand.cell 1;have c2:=f.stand.cell 2;have c3:=f.stand.cell 3;have c4:=f.stand.cell 4;have q0:=f.res.cell 0;have q1:=f.res.cell 1;have q2:=f.res.cell 2;have q3:=f.res.cell 3;have q4:=f.res.cell 4;have f0:=f.res.frozen 0;have f1:=f.res.frozen 1;have f2:=f.res.frozen 2;have f3:=f.res.frozen 3;have f4:=f.res.frozen 4;have d9:w.heap.size≠w.heap.size+1:=by omega
   clear f;go_region;clear c0 c1 c2 c3 c4 q0 q1 q2 q3 q4 f0 f1 f2 f3 f4 d9;go_wp2_with fail;have hk:C0 (fun b=>b=w.heap.size+1) w4 (((((w4.setCell ⟨w.heap.size+1,0,none⟩ (.int .i64 ya)).setCell ⟨w.heap.size+1,1,none⟩ (.int .i64 ye)).setCell ⟨w.heap.size+1,2,none⟩ (.int .i64 yr)).setCell ⟨w.heap.size+1,3,none⟩ (.int .i64 ys)).setCell ⟨w.heap.size+1,4,none⟩ (.string ⟨#[]⟩)).drew:=(((((C0.setCell (ex:=fun b=>b=w.heap.size+1) (p:=⟨w.heap.size+1,0,none⟩) (C0.refl _ _) (fun _=>rfl) _).setCell (p:=⟨w.heap.size+1,1,none⟩) (fun _=>rfl) _).setCell (p:=⟨w.heap.size+1,2,none⟩) (fun _=>rfl) _).setCell (p:=⟨w.heap.size+1,3,none⟩) (fun _=>rfl) _).setCell (p:=⟨w.heap.size+1,4,none⟩) (fun _=>rfl) _).drew;refine bodyPost_ret (Qj Tryz.results47 _ _ (w.heap.size+1) 27 (Pg ⟨ya,ye,yr,ys,⟨#[]⟩⟩) (0,0) _ rfl (Blk.drew (((((V.out.res.set 0 _).set 1 _).set 2 _).set 3 _).set 4 _)) Tryz.underlying27 rfl Tryz.bZ) rfl ⟨_,rfl,V.out.toks.kept hk (fun b hb e=>by have:=V.out.own b hb;omega),fun b hb=>by have:=V.out.own b hb;omega,Q6 (((((V.out.aA.setCell (p:=⟨w.heap.size+1,0,none⟩) (by simp) _).setCell (p:=⟨w.heap.size+1,1,none⟩) (by simp) _).setCell (p:=⟨w.heap.size+1,2,none⟩) (by simp) _).setCell (p:=⟨w.heap.size+1,3,none⟩) (by simp) _).setCell (p:=⟨w.heap.size+1,4,none⟩) (by simp) _)⟩
theorem PU(pb:Nat)(kd:Nat->Nat)(g:B0)(s:ByteArray)(w:World)(h:W7 w pb kd g)(ho:N7 kd g)(hs:s.size<=maxLen):
  Calls Tryz.prog 17 #[.pointer (some ⟨pb,0,none⟩),.string s] w fun e w'=>Bw w w'/\
   ((4096<s.size/\e=.returned (.tuple #[.slice none 0 0,.int .i64 5]))\/(s.size<=4096/\∃v,e=.returned (.tuple #[v,.int .i64 0])/\P1 w' v (U4 kd g s)/\∀b,v.ownBlock=some b->w.heap.size<=b)):=by
 by_cases hz:4096<s.size
 ·have e1:decide ((4096:Int)<(s.size:Int))=true:=by simp;omega
  clear h ho;go_enter Tryz.func17,Tryz.ntmps17;go_wp2_with fail
  go_ret2
  exact⟨Below.refl _ _,.inl ⟨hz,rfl⟩⟩
 ·have e1:decide ((4096:Int)<(s.size:Int))=false:=by simp;omega
  have HC:=Hd (fun(W:World) (M:Bw w W)=>ZN pb kd g (X6 0) s true W (h.aA M) ho (by show 0+s.size<=4000000;omega) (by show 0<=1099511627776;omega) (zD _));have SA:=Hd (fun W=>Fu 0 W);clear h ho hs;go_enter Tryz.func17,Tryz.ntmps17;go_wp2_with fail;refine(SA.out _).mono ?_;rintro e w1 ⟨rfl,a4⟩;have a3:=Hd a4;clear a4;go_wp2_with fail;obtain⟨f,a2⟩:∃f:World,w1.alloc (.cells (Pg (X6 0)) 27)=f:=⟨_,rfl⟩;have a5:Bw w f:=by rw[<-a2];exact a3.out.alloc a3.out.size _
  have K:Blk f w1.heap.size (Pg (X6 0)) 27:=by rw[<-a2];exact Blk.aR _ _ _
  change Code.wp _ _ _ _ (w1.alloc (.cells (Pg (X6 0)) 27))
  rw[a2];have c0:=K.cell 0;have c1:=K.cell 1;have c2:=K.cell 2;have c3:=K.cell 3;have c4:=K.cell 4;have zz:=K.lt;have a1:Bw w f.drew:=Q6 a5;have a6:Bw w (f.drew.alloc (.cells Tb 27)):=a1.alloc a1.size _;have D:=Hd a1;have G:=Hd a6;clear a1 a6 a2 a5 K
  go_region_with (go_at_call 47;refine(HC.out _ (by first|exact D.out|exact G.out)).mono ?_;rintro e Z ⟨v,rfl,X,Y,U⟩;try(have hq:Blk Z f.heap.size Tb 27:=(Blk.aR f.drew Tb 27).aA U;have q0:=hq.cell 0;have q1:=hq.cell 1;have q2:=hq.cell 2;have q3:=hq.cell 3;have q4:=hq.cell 4;have f0:=hq.frozen 0;have f1:=hq.frozen 1;have f2:=hq.frozen 2;have f3:=hq.frozen 3;have f4:=hq.frozen 4))
  ·have hT:P1 Z v (U4 kd g s):=by rw[<-GG];exact X
   have B:w.heap.size<=f.heap.size:=D.out.size;have J:Bw w Z:=D.out.trans (U.mono D.out.size);have V:Hid (P1 Z v (U4 kd g s)/\(∀b,v.ownBlock=some b->w.heap.size<=b)/\Bw w Z):=⟨hT,fun b M=>yI B (Y b M),J⟩;clear hT X Y U J c0 c1 c2 c3 c4 HC D G;go_wp2_with fail
   go_ret2
   exact⟨V.out.2.2.alloc V.out.2.2.size _,.inr ⟨by omega,v,rfl,V.out.1.aA (N0 _ _),V.out.2.1⟩⟩
  ·have hT:P1 Z v (U4 kd g s):=by rw[<-GG];exact X
   have B:w.heap.size<=f.heap.size:=D.out.size;have J:Bw w Z:=G.out.trans (U.mono G.out.size);have a0:∀b,v.ownBlock=some b->f.heap.size<b:=fun b M=>Nat.lt_of_succ_le (by have:=Y b M;simpa using this)
   have V:Hid (P1 Z v (U4 kd g s)/\(∀b,v.ownBlock=some b->f.heap.size<b)/\Bw w Z):=⟨hT,a0,J⟩;clear hT X Y U J c0 c1 c2 c3 c4 HC D G a0 q0 q1 q2 q3 q4 f0 f1 f2 f3 f4 hq;generalize(onF kd g (X6 0) s true).2=sv;go_wp2_with fail
   go_ret2
   refine⟨((((V.out.2.2.setCell (p:=⟨f.heap.size,0,none⟩) B _).setCell (p:=⟨f.heap.size,1,none⟩) B _).setCell (p:=⟨f.heap.size,2,none⟩) B _).setCell (p:=⟨f.heap.size,3,none⟩) B _).setCell (p:=⟨f.heap.size,4,none⟩) B _,.inr ⟨by omega,v,rfl,?_,fun b M=>by have:=V.out.2.1 b M;omega⟩⟩;exact V.out.1.kept (ex:=fun b=>b=f.heap.size) (((((C0.setCell (ex:=fun b=>b=f.heap.size) (p:=⟨f.heap.size,0,none⟩) (C0.refl _ _) (fun _=>rfl) _).setCell (p:=⟨f.heap.size,1,none⟩) (fun _=>rfl) _).setCell (p:=⟨f.heap.size,2,none⟩) (fun _=>rfl) _).setCell (p:=⟨f.heap.size,3,none⟩) (fun _=>rfl) _).setCell (p:=⟨f.heap.size,4,none⟩) (fun _=>rfl) _) (fun b M e=>by have:=V.out.2.1 b M;omega)
  ·have hT:P1 Z v (U4 kd g s):=by rw[<-GG];exact X
   have B:w.heap.size<=f.heap.size:=D.out.size;have J:Bw w Z:=G.out.trans (U.mono G.out.size);have a0:∀b,v.ownBlock=some b->f.heap.size<b:=fun b M=>Nat.lt_of_succ_le (by have:=Y b M;simpa using this)
   have V:Hid (P1 Z v (U4 kd g s)/\(∀b,v.ownBlock=some b->f.heap.size<b)/\Bw w Z):=⟨hT,a0,J⟩;clear hT X Y U J c0 c1 c2 c3 c4 HC D G a0 q0 q1 q2 q3 q4 f0 f1 f2 f3 f4 hq;generalize(onF kd g (X6 0) s true).2=sv;go_wp2_with fail
   go_ret2
   refine⟨((((V.out.2.2.setCell (p:=⟨f.heap.size,0,none⟩) B _).setCell (p:=⟨f.heap.size,1,none⟩) B _).setCell (p:=⟨f.heap.size,2,none⟩) B _).setCell (p:=⟨f.heap.size,3,none⟩) B _).setCell (p:=⟨f.heap.size,4,none⟩) B _,.inr ⟨by omega,v,rfl,?_,fun b M=>by have:=V.out.2.1 b M;omega⟩⟩;exact V.out.1.kept (ex:=fun b=>b=f.heap.size) (((((C0.setCell (ex:=fun b=>b=f.heap.size) (p:=⟨f.heap.size,0,none⟩) (C0.refl _ _) (fun _=>rfl) _).setCell (p:=⟨f.heap.size,1,none⟩) (fun _=>rfl) _).setCell (p:=⟨f.heap.size,2,none⟩) (fun _=>rfl) _).setCell (p:=⟨f.heap.size,3,none⟩) (fun _=>rfl) _).setCell (p:=⟨f.heap.size,4,none⟩) (fun _=>rfl) _) (fun b M e=>by have:=V.out.2.1 b M;omega)
end Go.Proofs.YtcckhngbdoiikabGreat
