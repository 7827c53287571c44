import Derived.Test.YtcckhngbdoiikaaGreatS47
set_option maxRecDepth 20000
set_option maxHeartbeats 12800000
set_option linter.unusedVariables false
namespace Go.Proofs.YtcckhngbdoiikaaGreat
open Go.RowKit Go.Deep
theorem YR(f B:Nat)(x:D3)(w:World)(h:E4 w f B x false):
  Calls Tryz.prog 70 #[.pointer (some ⟨f,0,none⟩)] w fun e w'=>e=.returned (.tuple #[Jr x,.int .i64 0])/\Bw w w':=by
 obtain⟨D,G,J,K,M⟩:=x;have V:w.cell? ⟨f,0,none⟩=some (.pointer (some ⟨B,0,none⟩)):=h.cell 0;have W:w.cell? ⟨f,1,none⟩=some (.int .i64 D):=h.cell 1;have X:w.cell? ⟨f,2,none⟩=some (.int .i64 G):=h.cell 2;have Y:w.cell? ⟨f,3,none⟩=some (.int .i64 J):=h.cell 3;have Z:w.cell? ⟨f,4,none⟩=some (.int .i64 K):=h.cell 4;have c5:w.cell? ⟨f,5,none⟩=some (.string M):=h.cell 5;have c6:w.cell? ⟨f,6,none⟩=some (.bool false):=h.cell 6;have zt:=h.lt;have U:f≠w.heap.size:=by omega
 clear h;go_enter Tryz.func70,Tryz.ntmps70;go_wp2_with fail;exact bodyPost_ret (Cd (x:=⟨D,G,J,K,M⟩) Tryz.results70 _ rfl (Blk.aQ _ _ _)) rfl ⟨rfl,P0 _ _⟩
theorem CF(f D:Nat)(x:D3)(w:World)(h:E4 w f D x true):
  Calls Tryz.prog 70 #[.pointer (some ⟨f,0,none⟩)] w fun e w'=>e=.returned (.tuple #[NY,.int .i64 6])/\Bw w w':=by
 have G:w.cell? ⟨f,6,none⟩=some (.bool true):=h.cell 6;have J:=h.lt;have B:f≠w.heap.size:=by omega
 clear h;go_enter Tryz.func70,Tryz.ntmps70;go_wp2_with fail;exact bodyPost_ret (Zg (a:=0) (e:=0) (r:=0) (s:=0) (t:=⟨#[]⟩) Tryz.results70 _ rfl (Blk.aQ _ _ _)) rfl ⟨rfl,P0 _ _⟩
abbrev NJ(f:Nat)(a e r s:Int)(t:ByteArray):Array Value:=#[.pointer (some ⟨f,0,none⟩),.int .i64 a,.int .i64 e,.int .i64 r,.int .i64 s,.string t,.bool false]
def RT(h:Nat)(kd:Nat->Nat)(g:B0)(a e r s:Int)(t:ByteArray)(w:World)(z:Ending)(w':World):Prop:=
 Bw w w'/\(((V3 kd g).aW=false/\z=.returned (.tuple #[.pointer none,.int .i64 4]))\/
  ((V3 kd g).aW=true/\¬SvP kd g a e r s t/\z=.returned (.tuple #[.pointer none,.int .i64 7]))\/
  ((V3 kd g).aW=true/\SvP kd g a e r s t/\∃f,z=.returned (.tuple #[.pointer (some ⟨f,0,none⟩),.int .i64 0])/\Blk w' f (NJ h a e r s t) 197/\w.heap.size<=f))
theorem VI(pb:Nat)(kd:Nat->Nat)(g:B0)(a e r s:Int)(t:ByteArray)(w:World)(h:A9 w pb kd g)(hf:Fb kd g)(ha:I64 a)(he:I64 e)(hz:t.size<=4000000):
  Calls Tryz.prog 76 #[.pointer (some ⟨pb,0,none⟩),Nh a e r s t] w (RT pb kd g a e r s t w):=by
 have HF:=Hd (fun(W:World) (hb:Bw w W)=>Au pb kd g W (h.aA hb) hf.ok hf.cY (by have:=hf.bV;omega) hf.bF);have HC:=Hd (fun(W:World) (hb:Bw w W)=>Yw pb kd g a e r s t W (h.aA hb) hf.ok ha he hz);clear h hf;unfold RT;generalize V3 kd g=X at HF;obtain⟨xb,xk,x1,x2,x3,x4,x5⟩:=X;simp only at HF⊢;obtain⟨w0,a8⟩:∃w0:World,w.alloc (.cells (Ga a e r s t) 49)=w0:=⟨_,rfl⟩;have ah:Bw w w0:=by rw[<-a8];exact P0 _ _
 have ac:Blk w0 w.heap.size (Ga a e r s t) 49:=by rw[<-a8];exact Blk.aQ _ _ _
 have Z:=Hd2 ah ac;clear ah ac;go_enter Tryz.func76,Tryz.ntmps76;go_wp2_with fail
 try rw[a8]
 clear a8;refine(HF.out _ Z.out.1).mono ?_;rintro z w1 ⟨rfl,a6⟩;obtain⟨D,G⟩:∃D:World,w1.alloc (.cells #[.bool xb,.int .i64 xk,.string x1,.string x2,.string x3,.string x4,.string x5] 42)=D:=⟨_,rfl⟩;have ai:Bw w D:=by rw[<-G];exact(Z.out.1.trans (a6.mono Z.out.1.size)).alloc (by have:=Z.out.1.size;have:=a6.size;omega) _
 have ad:Blk D w.heap.size (Ga a e r s t) 49:=by rw[<-G];exact(Z.out.2.aA a6).alloc _
 have ae:Blk D w1.heap.size #[.bool xb,.int .i64 xk,.string x1,.string x2,.string x3,.string x4,.string x5] 42:=by rw[<-G];exact Blk.aQ _ _ _
 have k0:=ae.cell 0;have f:=Hd2 ai ad;clear a6 ai ad ae;cases xb with
 |false=>
  go_wp2_with fail
  try rw[G]
  go_ret2
  try rw[G]
  first|exact⟨f.out.1,.inl ⟨rfl,rfl⟩⟩|exact⟨f.out.1,.inl ⟨trivial,rfl⟩⟩|exact⟨f.out.1,rfl⟩
 |true=>
 go_wp2_with(first|refine Qv (a:=a) (e:=e) (r:=r) (s:=s) (t:=t) rfl _ rfl w.heap.size rfl f.out.2 ?_)
 try rw[G]
 clear G k0;have k0:=f.out.2.cell 0;have k1:=f.out.2.cell 1;have k2:=f.out.2.cell 2;have k3:=f.out.2.cell 3;have k4:=f.out.2.cell 4;have an:=f.out.2.lt;have a7:Bw w D.drew:=Ka f.out.1;have aj:Bw w (D.drew.alloc (.cells Nc 49)):=a7.alloc a7.size _;have a4:=Hd a7;have a5:=Hd aj;clear a7 aj
 go_cut[7,8] (fun bv fv wx=>∃sb K M r' V Y,bv=.pointer (some ⟨sb,0,none⟩)/\Blk wx sb (Ga K M r' V Y) 49/\Bw w wx/\((SvP kd g a e r s t/\fv=.bool true/\K=a/\M=e/\r'=r/\V=s/\Y=t)\/(¬SvP kd g a e r s t/\fv=.bool false)))
 case first=>
  go_region_with (go_at_call 111;refine(HC.out _ (by first|exact a4.out|exact a5.out)).mono ?_;rintro z w3 ⟨a1,af⟩;obtain⟨K,M,r',V,Y,B',rfl,ag⟩:∃K M r' V Y B',z=.returned (.tuple #[Nh K M r' V Y,.bool B'])/\((SvP kd g a e r s t/\(Value.bool B')=.bool true/\K=a/\M=e/\r'=r/\V=s/\Y=t)\/(¬SvP kd g a e r s t/\(Value.bool B')=.bool false)):=(by rcases af with⟨q1,q2⟩|⟨q1,q2⟩;exact⟨_,_,_,_,_,_,q2,.inl ⟨q1,rfl,rfl,rfl,rfl,rfl,rfl⟩⟩;exact⟨_,_,_,_,_,_,q2,.inr ⟨q1,rfl⟩⟩);have ab:=Hd ag;clear af ag;try(have U:Blk w3 D.heap.size Nc 49:=(Blk.aQ D.drew Nc 49).aA a1;have q0:=U.cell 0;have q1:=U.cell 1;have q2:=U.cell 2;have q3:=U.cell 3;have q4:=U.cell 4;have f0:=U.frozen 0;have f1:=U.frozen 1;have f2:=U.frozen 2;have f3:=U.frozen 3;have f4:=U.frozen 4))
  all_goals
   first
   |(have a2:Bw w w3:=a4.out.trans (a1.mono a4.out.size);have HH:=Hd a2;clear a2 a1 k0 k1 k2 k3 k4;go_wp2_with fail;go_meet;exact⟨w3.heap.size,K,M,r',V,Y,rfl,Blk.aQ _ _ _,HH.out.alloc HH.out.size _,ab.out⟩)
   |(have a2:Bw w w3:=a5.out.trans (a1.mono a5.out.size);have a3:w.heap.size<=D.heap.size:=f.out.1.size;have HH:Hid (Bw w w3/\Blk w3 D.heap.size Nc 49):=⟨a2,U⟩;clear a2 a1 k0 k1 k2 k3 k4 q0 q1 q2 q3 q4 f0 f1 f2 f3 f4 U;go_wp2_with fail;go_meet;exact⟨D.heap.size,K,M,r',V,Y,rfl,((((HH.out.2.set 0 _).set 1 _).set 2 _).set 3 _).set 4 _,((((HH.out.1.setCell (p:=⟨D.heap.size,0,none⟩) a3 _).setCell (p:=⟨D.heap.size,1,none⟩) a3 _).setCell (p:=⟨D.heap.size,2,none⟩) a3 _).setCell (p:=⟨D.heap.size,3,none⟩) a3 _).setCell (p:=⟨D.heap.size,4,none⟩) a3 _,ab.out⟩)
 case rest=>
  obtain⟨sb,K,M,r',V,Y,rfl,B,J,ak⟩:=hcut;clear k0 k1 k2 k3 k4 a4 a5 HC HF;rcases ak with⟨hs,rfl,rfl,rfl,rfl,rfl,rfl⟩|⟨hs,rfl⟩
  ·have c0:=B.cell 0;have c1:=B.cell 1;have c2:=B.cell 2;have c3:=B.cell 3;have c4:=B.cell 4;have am:=B.lt;have a0:=Hd J;have aa:=Hd hs;clear B J hs;go_wp2_with fail;go_region;clear c0 c1 c2 c3 c4;go_wp2_with fail
   go_ret2
   have a9:Bw w (wc.alloc (.cells (NJ pb K M r' V Y) 197)).drew/\Blk (wc.alloc (.cells (NJ pb K M r' V Y) 197)).drew wc.heap.size (NJ pb K M r' V Y) 197/\w.heap.size<=wc.heap.size:=⟨Ka (a0.out.alloc a0.out.size _),Blk.drew (Blk.aQ _ _ _),a0.out.size⟩;exact⟨a9.1,.inr ⟨aa.out,wc.heap.size,rfl,a9.2⟩⟩
  ·have a0:=Hd J;have aa:=Hd hs;clear B J hs;go_wp2_with fail
   go_ret2
   exact⟨a0.out,.inl ⟨aa.out,rfl⟩⟩
end Go.Proofs.YtcckhngbdoiikaaGreat
