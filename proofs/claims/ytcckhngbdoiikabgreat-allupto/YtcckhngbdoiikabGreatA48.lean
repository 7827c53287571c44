import Derived.Test.YtcckhngbdoiikabGreatA01
import Derived.Test.YtcckhngbdoiikabGreatA47
import Derived.Deep.Strs
import Derived.WideKeyArgs
set_option maxRecDepth 20000
set_option maxHeartbeats 12800000
set_option linter.unusedVariables false
namespace Go.Proofs.YtcckhngbdoiikabGreat
open Go.ChangeShapes Go.WideShapes Go.ChangeAt Go.RowKit Go.Deep
open Go.ChangeMaps (open_string shut_string)
theorem Tryz.iI:laidOutB Tryz.prog=true:=by kernel_rfl
theorem Tryz.gF:Tryz.prog.cellsOf 29=9:=by kernel_rfl
theorem Tryz.iP:Tryz.prog.cellsOf 27=5:=by kernel_rfl
theorem Tryz.fE:Tryz.prog.cellsOf 3=1:=by kernel_rfl
theorem Tryz.strCells:Tryz.prog.cellsOf 9=1:=by kernel_rfl
def scD{H:Type}(o:ScT):DataW H:=.agg [.lit (.int .i64 o.bB),.lit (.int .i64 o.l),.lit (.int .i64 o.t),.lit (.string o.s.data.toList),.agg [.lit (.int .i64 o.a),.lit (.int .i64 o.e),.lit (.int .i64 o.r),.lit (.int .i64 o.st),.lit (.string o.v.data.toList)]]
instance:Inhabited ScT:=⟨⟨0,0,0,⟨#[]⟩,0,0,0,0,⟨#[]⟩⟩⟩
theorem IH{a:Int}(h:(Lit.int .i64 a).wf=true):I64 a:=by
 have:=h;simp[Lit.wf,IntKind.min,IntKind.max,IntKind.signed,IntKind.bits]at this;unfold I64;omega
theorem EI{H:Type}:∀l:List ScT,Rows.uptoBulkAll (l.map fun o=>scD (H:=H) o)=11*l.length+Uc l
 | []=>rfl
 |o::r=>by
  have B:=EI (H:=H) r;have f:o.s.data.toList.length=o.s.size:=by rw[Array.length_toList];rfl
  have h:o.v.data.toList.length=o.v.size:=by rw[Array.length_toList];rfl
  have e:Rows.uptoBulk (scD (H:=H) o)=11+o.size:=by
   unfold ScT.size;simp only[scD,Rows.uptoBulk,Rows.uptoBulkAll];omega
  rw[List.map_cons,yH];show Rows.uptoBulk (scD (H:=H) o)+_=_+(o.size+Uc r);omega
section
variable{H:Type}{enc:TypeId×Value->H}
theorem Qs{P:Program}{w:World}{D:Nat}{f:Nat->Bool}{B:Bool}{t:TypeId}{G J K M U:Field}{V:Nat}{cs:List Value}{x:DataW H×List MemPlace}(ht:P.underlying t=some (.struct #[G,J,K,M,U]))(h:DataW.trod enc P w D f B V t cs=some x):
  ∃Y Z y2 y3 y4 n,x=(.agg [Y.1,Z.1,y2.1,y3.1,y4.1],Y.2++(Z.2++(y2.2++(y3.2++y4.2))))/\cs.length=P.cellsOf t/\DataW.trod enc P w D f B n G.type ((cs.drop G.offset).take (P.cellsOf G.type))=some Y/\
   DataW.trod enc P w D f B n J.type ((cs.drop J.offset).take (P.cellsOf J.type))=some Z/\DataW.trod enc P w D f B n K.type ((cs.drop K.offset).take (P.cellsOf K.type))=some y2/\
   DataW.trod enc P w D f B n M.type ((cs.drop M.offset).take (P.cellsOf M.type))=some y3/\DataW.trod enc P w D f B n U.type ((cs.drop U.offset).take (P.cellsOf U.type))=some y4:=by
 obtain⟨xs,n,_,rfl,hl,X,W⟩:=DataW.trod_struct ht h
 match xs,X with
 | [Y,Z,y2,y3,y4],_=>exact⟨Y,Z,y2,y3,y4,n,by simp,hl,by simpa using W 0 G rfl,by simpa using W 1 J rfl,by simpa using W 2 K rfl,by simpa using W 3 M rfl,by simpa using W 4 U rfl⟩
set_option maxRecDepth 100000 in
theorem LX{W:World}{sp:Nat->Bool}{U:Nat}{cs:List Value}{x:DataW H×List MemPlace}(h:DataW.trod enc Tryz.prog W 0 sp true U 22 cs=some x):
  (cs= [.slice none 0 0]/\x=(.nil,[]))\/
  ∃(a:Addr) (B K m:Nat) (I:Nat->ScT),cs= [.slice (some a) B K]/\B<=m/\
   x=(.slice ((List.range B).map fun i=>scD (I i)) ((List.range (m-B)).map fun j=>scD (I (B+j))),MemPlace.row a (m*9)++(List.range m).flatMap fun _=>[])/\
   ∀i,i<m->(I i).ok/\W.cell? (a.add (i*9))=some (.int .i64 (I i).bB)/\W.cell? (a.add (i*9+1))=some (.int .i64 (I i).l)/\W.cell? (a.add (i*9+2))=some (.int .i64 (I i).t)/\W.cell? (a.add (i*9+3))=some (.string (I i).s)/\W.cell? (a.add (i*9+4))=some (.int .i64 (I i).a)/\W.cell? (a.add (i*9+5))=some (.int .i64 (I i).e)/\W.cell? (a.add (i*9+6))=some (.int .i64 (I i).r)/\W.cell? (a.add (i*9+7))=some (.int .i64 (I i).st)/\W.cell? (a.add (i*9+8))=some (.string (I i).v):=by
 rcases open_slice Tryz.underlying22 h with h0|⟨a,B,K,m,n,D,Pl,rfl,hb,hl,hm,a9,rfl,hx⟩
 ·exact Or.inl h0
 right
 have Z:B<=m:=by rw[a9];split <;>omega
 have aX:∀i,i<m->∃q:ScT,q.ok/\W.cell? (a.add (i*9))=some (.int .i64 q.bB)/\W.cell? (a.add (i*9+1))=some (.int .i64 q.l)/\W.cell? (a.add (i*9+2))=some (.int .i64 q.t)/\W.cell? (a.add (i*9+3))=some (.string q.s)/\W.cell? (a.add (i*9+4))=some (.int .i64 q.a)/\W.cell? (a.add (i*9+5))=some (.int .i64 q.e)/\W.cell? (a.add (i*9+6))=some (.int .i64 q.r)/\W.cell? (a.add (i*9+7))=some (.int .i64 q.st)/\W.cell? (a.add (i*9+8))=some (.string q.v)/\D i=scD q/\Pl i= []:=by
  intro i G;obtain⟨Y,h1,h2⟩:=hx i G;rw[Tryz.gF]at h1;obtain⟨_,V,f⟩:=World.cells?_some h1;obtain⟨y0,y1,y2,y3,y4,k,M,_,u0,u1,u2,u3,u4⟩:=Qs Tryz.underlying29 h2
  match Y,V with
  | [v0,v1,v2,v3,v4,v5,v6,v7,v8],_=>
   simp only[Tryz.fE,Tryz.strCells,Tryz.iP,List.drop,List.take]at u0 u1 u2 u3 u4;obtain⟨z0,z1,z2,z3,z4,k',X,_,s0,s1,s2,s3,s4⟩:=Qs Tryz.underlying27 u4;simp only[Tryz.fE,Tryz.strCells,List.drop,List.take]at s0 s1 s2 s3 s4;obtain⟨a0,e0,d0,w0⟩:=DataW.trod_int Tryz.underlying3 u0;obtain⟨a1,e1,d1,w1⟩:=DataW.trod_int Tryz.underlying3 u1;obtain⟨a2,e2,d2,w2⟩:=DataW.trod_int Tryz.underlying3 u2;obtain⟨a3,e3,d3,w3⟩:=DataW.trod_string Tryz.underlying9 u3;obtain⟨a4,e4,d4,w4⟩:=DataW.trod_int Tryz.underlying3 s0;obtain⟨a5,e5,d5,w5⟩:=DataW.trod_int Tryz.underlying3 s1;obtain⟨a6,e6,d6,w6⟩:=DataW.trod_int Tryz.underlying3 s2;obtain⟨a7,e7,d7,w7⟩:=DataW.trod_int Tryz.underlying3 s3;obtain⟨a8,e8,d8,w8⟩:=DataW.trod_string Tryz.underlying9 s4;simp only[List.cons.injEq,and_true]at e0 e1 e2 e3 e4 e5 e6 e7 e8;subst e0;subst e1;subst e2;subst e3;subst e4;subst e5;subst e6;subst e7;subst e8;have c0:=f 0 (by omega);have c1:=f 1 (by omega);have c2:=f 2 (by omega);have c3:=f 3 (by omega);have c4:=f 4 (by omega);have c5:=f 5 (by omega);have c6:=f 6 (by omega);have c7:=f 7 (by omega);have c8:=f 8 (by omega);rw[add_add]at c0 c1 c2 c3 c4 c5 c6 c7 c8;simp only[Prod.mk.injEq]at M;refine⟨⟨a0,a1,a2,a3,a4,a5,a6,a7,a8⟩,⟨IH w2,IH w1,IH w4,IH w5⟩,by simpa using c0,by simpa using c1,by simpa using c2,by simpa using c3,by simpa using c4,by simpa using c5,by simpa using c6,by simpa using c7,by simpa using c8,?_,?_⟩
   ·rw[M.1,d0,d1,d2,d3,X,d4,d5,d6,d7,d8];rfl
   ·rw[M.2,d0,d1,d2,d3,X,d4,d5,d6,d7,d8];rfl
 obtain⟨q,J⟩:=choose_lt aX;refine⟨a,B,K,m,q,rfl,Z,?_,fun i G=>⟨(J i G).1,(J i G).2.1,(J i G).2.2.1,(J i G).2.2.2.1,(J i G).2.2.2.2.1,(J i G).2.2.2.2.2.1,(J i G).2.2.2.2.2.2.1,(J i G).2.2.2.2.2.2.2.1,(J i G).2.2.2.2.2.2.2.2.1,(J i G).2.2.2.2.2.2.2.2.2.1⟩⟩;rw[Tryz.gF,List.map_congr_left (fun i G=>(J i (by have:=List.mem_range.1 G;omega)).2.2.2.2.2.2.2.2.2.2.1),List.map_congr_left (fun j hj=>(J (B+j) (by have:=List.mem_range.1 hj;omega)).2.2.2.2.2.2.2.2.2.2.1),
  flatMap_congr_range (fun i G=>(J i G).2.2.2.2.2.2.2.2.2.2.2)]
set_option maxRecDepth 100000 in
theorem YX{W:World}{cX:Nat}{v:Value}{d:DataW H}{p:List MemPlace}(J:Value.okWide Tryz.prog W .any cX 22 v)(h:DataW.Trod enc Tryz.prog W 0 (fun _=>true) true 22 v d p)(X:∀x∈p,x.block<W.heap.size)(V:Rows.uptoBulk d<=1048576):∃Z,Lu W v Z:=by
 obtain⟨a1,B,U,rfl⟩:=okWide_slice Tryz.underlying22 J;obtain⟨a2,hf⟩:=h;rcases LX hf with⟨D,Y⟩|⟨a,a3,a0,m,I,D,a5,Y,f⟩
 ·simp[Value.cells]at D;obtain⟨rfl,rfl,rfl⟩:=D;exact⟨[],⟨none,0,rfl,.inl rfl⟩,fun o M=>by simp at M,by simp,by simp[Uc]⟩
 ·simp[Value.cells]at D;obtain⟨rfl,rfl,rfl⟩:=D;simp only[Prod.mk.injEq]at Y;obtain⟨rfl,rfl⟩:=Y;have e:(List.range B).map (fun i=>scD (H:=H) (I i))=((List.range B).map I).map (fun o=>scD o):=by simp[Function.comp_def]
  simp only[Rows.uptoBulk]at V;rw[e,EI]at V;simp only[yB,List.length_range]at V;refine⟨(List.range B).map I,⟨some a,U,by simp,?_⟩,fun o M=>?_,by simp;omega,by omega⟩
  ·by_cases h0:B=0
   ·exact .inl (by simp[h0])
   ·right
    obtain⟨xb,xo,K⟩:=a;have G:K=none:=by simpa[Addr.add]using World.cell?_spot (f 0 (by omega)).2.1
    subst G;refine⟨xb,xo,rfl,?_,fun j hj=>?_⟩
    ·refine X (.cell xb (xo+0)) (List.mem_append_left _ ?_);simp only[MemPlace.row,List.mem_map,List.mem_range];exact⟨0,by omega,rfl⟩
    ·have a4:j<B:=by simpa using hj
     obtain⟨_,g0,g1,g2,g3,g4,g5,g6,g7,g8⟩:=f j (by omega);rw[Addr.add_lit]at g0 g1 g2 g3 g4 g5 g6 g7 g8;have eI:((List.range B).map I)[j]=I j:=by simp
     rw[eI];exact⟨g0,by simpa[Nat.add_assoc]using g1,by simpa[Nat.add_assoc]using g2,by simpa[Nat.add_assoc]using g3,by simpa[Nat.add_assoc]using g4,by simpa[Nat.add_assoc]using g5,by simpa[Nat.add_assoc]using g6,by simpa[Nat.add_assoc]using g7,by simpa[Nat.add_assoc]using g8⟩
  ·simp only[List.mem_map,List.mem_range]at M;obtain⟨i,hi,rfl⟩:=M;exact(f i (by omega)).1
end
set_option maxRecDepth 100000 in
theorem DF(H:Type)(enc:TypeId×Value->H)(W:World)(cX:Nat)(args:Array Value)(U gs:List (DataW H))(D:List MemPlace)
  (B:∀(j:Nat) t v,Tryz.f3.params[j]?=some t->args[j]?=some v->Value.okWide Tryz.prog W .any cX t v)
  (hW:DataW.Whole enc Tryz.prog Tryz.f3.params.toList Rows.allSpec.vars false W args.toList U gs D) (hk:Rows.uptoSmall H (U++gs)=true):
  Calls Tryz.prog 3 args W fun e W'=>∃v,e=.returned v/\Rows.allSpec.post enc Tryz.prog Tryz.f3 false true false false W args v W':=by
 have G:=hW;obtain⟨p,q,J,hV,rfl,a3,a4⟩:=hW;have hA:DataW.TrodAll enc Tryz.prog W 0 (fun _=>true) true Tryz.f3.params.toList args.toList U p:=J;rw[Tryz.params3]at hA B;obtain⟨v0,a5,d0,a0,p0,q0,V,rfl,rfl,h0,r0⟩:=trodAll_cons hA;obtain⟨v1,a6,d1,a1,p1,q1,rfl,rfl,rfl,h1,r1⟩:=trodAll_cons r0;obtain⟨Z,a7,d2,a2,p2,q2,rfl,rfl,rfl,h2,r2⟩:=trodAll_cons r1;obtain⟨rfl,rfl,rfl⟩:=trodAll_nil r2;obtain rfl:args=#[v0,v1,Z]:=by cases args;simp_all
 obtain⟨rfl,rfl⟩:=trodVars_none hV;obtain⟨s0,rfl,rfl,rfl,m0⟩:=open_string Tryz.underlying9 (B 0 9 v0 rfl rfl) h0;obtain⟨s1,rfl,rfl,rfl,m1⟩:=open_string Tryz.underlying9 (B 1 9 v1 rfl rfl) h1;clear J;simp only[yP]at G hk;have K:∀x∈p2,x.block<W.heap.size:=fun x hx=>G.lt x (by simpa using hx)
 have X:Rows.uptoBulkAll [.lit (.string s0.data.toList),.lit (.string s1.data.toList),d2]<=1048576:=of_decide_eq_true hk;simp only[Rows.uptoBulkAll,Rows.uptoBulk]at X;obtain⟨Y,M⟩:=YX (B 2 22 Z rfl rfl) h2 K (by omega);refine(CFx Y Z s0 s1 W M m0 m1).mono fun e W' ⟨he,hg⟩=>?_
 subst he;refine⟨_,rfl,_,_,_,[],_,[],G,trodAll_cons_mk (shut_bool Tryz.underlying4 _) trodAll_mk0,trodAll_cons_mk (shut_string Tryz.underlying9 m0) (trodAll_cons_mk (shut_string Tryz.underlying9 m1) (trodAll_cons_mk (Below.trod Tryz.iI (by kernel_rfl) (of_decide_eq_true (by kernel_rfl)) h2 hg K) trodAll_mk0)),rfl,hg.frame _,fun h=>by cases h⟩
set_option maxRecDepth 100000 in
theorem GM(G:Os)(h:G.Started)(H:Type)(enc:TypeId×Value->H)(F:Stop.Interp):
  ReturnsInHanded {} Tryz.checked G 3 .any ((Rows.OpenSpec.upto Rows.allSpec).pre6 enc Tryz.prog Tryz.f3 Rows.allUptoRow.domain false) (((Rows.OpenSpec.upto Rows.allSpec).at F).post enc Tryz.prog Tryz.f3 false true false false):=by
 refine returnsInHanded_of_cond (C:=Tryz.checked) (s:=Rows.OpenSpec.upto Rows.allSpec) (k:=Rows.uptoSmall) rfl Tryz.lN h (by kernel_rfl) Tryz.func3
  (OpenSpec.witness (enc:=enc) (C:=Tryz.checked) (s:=Rows.OpenSpec.upto Rows.allSpec) (k:=Rows.uptoSmall) rfl false ⟨#[],#[.string .empty,.string .empty,.slice none 0 0],[]⟩ 8 (by kernel_rfl) (by kernel_rfl) (by kernel_rfl)
   (x:=([.lit (.string []),.lit (.string []),.nil],[],[])) (by kernel_rfl) rfl (by kernel_rfl)) ?_
 intro W J args K M B D U _ V _;exact DF H enc W J args K M B D U V
theorem all_upto:Rows.AllUptoSaid:=
 OpenClaim.holds_of_cond 3 Tryz.f3 rfl rfl rfl rfl rfl rfl rfl ⟨rfl,rfl,rfl,rfl,rfl⟩ rfl rfl rfl rfl rfl (by kernel_rfl) Tryz.func3 (by kernel_rfl)
  (of_decide_eq_true (by kernel_rfl)) (by unfold Func.isWrapper;first|(rw[if_pos (by decide+kernel)];kernel_rfl)|(rw[if_neg (by decide+kernel)];exact⟨rfl,rfl⟩))
  (fun B h H enc _ F=>GM B h H enc F)
end Go.Proofs.YtcckhngbdoiikabGreat
