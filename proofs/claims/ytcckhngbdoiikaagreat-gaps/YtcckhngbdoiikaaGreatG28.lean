import Derived.Test.YtcckhngbdoiikaaGreatG27
import Derived.Laws.AppendOwnNone
import Derived.Test.YtcckhngbdoiikaaGreatG14

namespace Go.Proofs.YtcckhngbdoiikaaGreat
open Go.RowKit Go.Deep
set_option linter.unusedVariables false
def upd (f:Nat→Int) (b n:Nat):Nat→Int:=fun x=>if x = b then (n:Int) else f x
mutual
def MT.num:MT→Nat→(Nat→Int)→Nat→Int
 | .place b i e A,n,f=>upd f b n
 | .node b v k l,n,f=>numL l (n + 1) (upd f b n)
def numL:List MT→Nat→(Nat→Int)→Nat→Int
 | [],n,f=>f
 |y :: l,n,f=>numL l (n + y.nt.parts) (y.num n f)
end
mutual
def MT.Numd (f:Nat→Int):MT→Nat→Prop
 | .place b i e A,n=>f b = (n:Int)
 | .node b v k l,n=>f b = (n:Int)∧NumdL f l (n + 1)
def NumdL (f:Nat→Int):List MT→Nat→Prop
 | [],n=>True
 |y :: l,n=>y.Numd f n∧NumdL f l (n + y.nt.parts)
end
mutual
theorem MT.num_other:∀ (T:MT) (n:Nat) (f:Nat→Int) (x:Nat),x ∉ T.blks→T.num n f x = f x
 | .place b i e A,n,f,x,h=>by simp [MT.blks] at h; simp [MT.num,upd,h]
 | .node b v k l,n,f,x,h=>by
  simp only [MT.blks,List.mem_cons,not_or] at h
  simp only [MT.num]
  rw [numL_other l _ _ x h.2]
  simp [upd,h.1]
theorem numL_other:∀ (l:List MT) (n:Nat) (f:Nat→Int) (x:Nat),x ∉ blksL l→numL l n f x = f x
 | [],n,f,x,h=>by simp [numL]
 |y :: l,n,f,x,h=>by
  simp only [blksL,List.mem_append,not_or] at h
  simp only [numL]
  rw [numL_other l _ _ x h.2,MT.num_other y _ _ x h.1]
end
mutual
theorem MT.Numd.congr {f g:Nat→Int}:∀ (T:MT) (n:Nat),T.Numd f n→(∀ x ∈ T.blks,g x = f x)→T.Numd g n
 | .place b i e A,n,h,hx=>by
  simp only [MT.Numd] at h ⊢
  rw [hx b (by simp [MT.blks])]; exact h
 | .node b v k l,n,h,hx=>by
  simp only [MT.Numd] at h ⊢
  exact ⟨by rw [hx b (by simp [MT.blks])]; exact h.1,NumdL.congr l _ h.2 (fun x e=>hx x (by simp [MT.blks,e]))⟩
theorem NumdL.congr {f g:Nat→Int}:∀ (l:List MT) (n:Nat),NumdL f l n→(∀ x ∈ blksL l,g x = f x)→NumdL g l n
 | [],n,h,hx=>by simp [NumdL]
 |y :: l,n,h,hx=>by
  simp only [NumdL] at h ⊢
  exact ⟨MT.Numd.congr y _ h.1 (fun x e=>hx x (by simp [blksL,e])),NumdL.congr l _ h.2 (fun x e=>hx x (by simp [blksL,e]))⟩
end
mutual
theorem MT.num_numd:∀ (T:MT) (n:Nat) (f:Nat→Int),T.blks.Nodup→T.Numd (T.num n f) n
 | .place b i e A,n,f,h=>by simp [MT.Numd,MT.num,upd]
 | .node b v k l,n,f,h=>by
  simp only [MT.blks,List.nodup_cons] at h
  simp only [MT.Numd,MT.num]
  exact ⟨by rw [numL_other l _ _ b h.1]; simp [upd],numL_numd l _ _ h.2⟩
theorem numL_numd:∀ (l:List MT) (n:Nat) (f:Nat→Int),(blksL l).Nodup→NumdL (numL l n f) l n
 | [],n,f,h=>by simp [NumdL]
 |y :: l,n,f,h=>by
  simp only [blksL,List.nodup_append] at h
  simp only [NumdL,numL]
  refine ⟨MT.Numd.congr y n (MT.num_numd y n f h.1) (fun x hx=>?_),numL_numd l _ _ h.2.1⟩
  exact numL_other l _ _ x (fun e=>h.2.2 x hx x e rfl)
end
theorem numL_append:∀ (l m:List MT) (n:Nat) (f:Nat→Int),numL (l ++ m) n f = numL m (n + partsL (ntL l)) (numL l n f)
 | [],m,n,f=>by simp [numL,ntL,partsL]
 |y :: l,m,n,f=>by
  simp only [List.cons_append,numL,ntL,partsL]
  rw [numL_append l m]
  congr 1; omega
theorem NumdL.append {f:Nat→Int}:∀ (l m:List MT) (n:Nat),NumdL f (l ++ m) n↔(NumdL f l n∧NumdL f m (n + partsL (ntL l)))
 | [],m,n=>by simp [NumdL,ntL,partsL]
 |y :: l,m,n=>by
  simp only [List.cons_append,NumdL,ntL,partsL]
  rw [NumdL.append l m,show n + y.nt.parts + partsL (ntL l) = n + (y.nt.parts + partsL (ntL l)) by omega,and_assoc]
theorem partsL_snoc (l:List MT) (y:MT):partsL (ntL (l ++ [y])) = partsL (ntL l) + y.nt.parts:=by
 rw [ntL_snoc,partsL_append]; simp [partsL]
mutual
theorem MT.At.setId {w:World} {s:ByteArray} {f:Nat→Int} {b n:Nat} {c:Array Value} (hb:Blk w b c 129):∀ (U:MT),U.At w s f→U.At (w.setCell ⟨b,1,none⟩ (.int .i64 (n:Int))) s (upd f b n)
 | .place b' i e A,h=>by
  simp only [MT.At] at h ⊢
  by_cases e:b' = b
  ·subst e
   have:=h.set 1 (.int .i64 (n:Int))
   simp only [upd,if_true]
   exact this
  ·simp only [upd,if_neg e]
   exact h.setOther (p:=⟨b,1,none⟩) e _
 | .node b' v k l,h=>by
  simp only [MT.At] at h ⊢
  refine ⟨?_,ownsRow_setOther h.2.1 (p:=⟨b,1,none⟩) (ownsRow_ne h.2.1 hb (by decide)) _,AtL.setId hb l h.2.2⟩
  by_cases e:b' = b
  ·subst e
   have:=h.1.set 1 (.int .i64 (n:Int))
   simp only [upd,if_true]
   exact this
  ·simp only [upd,if_neg e]
   exact h.1.setOther (p:=⟨b,1,none⟩) e _
theorem AtL.setId {w:World} {s:ByteArray} {f:Nat→Int} {b n:Nat} {c:Array Value} (hb:Blk w b c 129):∀ (l:List MT),AtL w s f l→AtL (w.setCell ⟨b,1,none⟩ (.int .i64 (n:Int))) s (upd f b n) l
 | [],h=>by simp [AtL]
 |y :: l,h=>by
  simp only [AtL] at h ⊢
  exact ⟨MT.At.setId hb y h.1,AtL.setId hb l h.2⟩
end
theorem partsL_len:∀ l:List MT,l.length ≤ partsL (ntL l)
 | []=>by simp
 |y :: l=>by have:=y.nt.parts_pos; have:=partsL_len l; simp only [ntL,partsL,List.length_cons]; omega
def NumC (T:MT):Prop:=∀ (w:World) (s:ByteArray) (f:Nat→Int) (n:Nat),T.At w s f→n + T.nt.parts ≤ 100000 →
 Calls Tryz.prog 26 #[.pointer (some ⟨T.root,0,none⟩),.int .i64 (n:Int)] w fun e w'=>e = .returned (.int .i64 ((n + T.nt.parts:Nat):Int))∧(∀ U:MT,U.At w s f→U.At w' s (T.num n f))∧Kept (fun x=>x ∈ T.blks) w w'
set_option maxHeartbeats 1600000 in
theorem num_place (b i e:Nat) (A:Nat→Bool):NumC (.place b i e A):=by
 intro w s f n h hn
 have h0:=h
 simp only [MT.At] at h
 simp only [MT.nt,NT.parts] at hn ⊢
 have c1:w.cell? ⟨b,1,none⟩ = some (.int .i64 (f b)):=h.cell 1
 have f1:=h.frozen 1
 have c4:w.cell? ⟨b,4,none⟩ = some (.slice none 0 0):=h.cell 4
 have HB:=hide h
 clear h0 h
 simp only [MT.root]
 go_enter Tryz.func26,Tryz.ntmps26
 go_wp2_with fail
 go_loopg [1,5] 1 (fun G nv kv wr=>nv = .int .i64 ((n + 1:Nat):Int)∧kv = .int .i64 0∧wr = w.setCell ⟨b,1,none⟩ (.int .i64 (n:Int)))
 case atStart=>exact ⟨by go_num,rfl,rfl⟩
 case round =>
  obtain ⟨rfl,rfl,rfl⟩:=hrel
  go_wp2_with fail
  go_ret
  refine ⟨rfl,fun U hU=>?_,?_⟩
  ·have:=MT.At.setId (n:=n) HB.out U hU
   simpa [MT.num] using this
  ·exact (Kept.refl _ _).setCell (p:=⟨b,1,none⟩) (fun _=>by simp [MT.blks]) _
set_option maxRecDepth 20000 in
set_option maxHeartbeats 3200000 in
theorem num_node (b k:Nat) (v:Value) (l:List MT) (hl:∀ y ∈ l,NumC y):NumC (.node b v k l):=by
 intro w s f n h hn
 have h0:=h
 simp only [MT.At] at h
 simp only [MT.nt,NT.parts] at hn ⊢
 obtain ⟨hb,hr,hk⟩:=h
 have hr':w.ownsRow 0 80 1 v l.length (ptrs (l.map MT.root)):=by unfold PRow at hr; rwa [List.length_map] at hr
 obtain ⟨_,ad,cap,rfl,hrow⟩:=ownsRow_form hr'
 have hlen:=partsL_len l
 have c1:w.cell? ⟨b,1,none⟩ = some (.int .i64 (f b)):=hb.cell 1
 have f1:=hb.frozen 1
 have HU0:Hid (∀ U:MT,U.At w s f→U.At (w.setCell ⟨b,1,none⟩ (.int .i64 (n:Int))) s (upd f b n)):=hide (fun U hU=>MT.At.setId hb U hU)
 have H0:=hide h0
 have HL:=hide hl
 have hblt:=hb.lt
 have hrow':l.length = 0∨∃ g,ad = some ⟨g,0,none⟩:=by
  rcases hrow with ⟨_,e⟩ | ⟨g,_,e,_⟩
  ·exact .inl e
  ·exact .inr ⟨g,e⟩
 clear h0 hb hr hk hl hr' hrow
 simp only [MT.root]
 go_enter Tryz.func26,Tryz.ntmps26
 go_wp2_with fail
 go_loopg [1,5] l.length (fun G nv kv wr=>∃ i:Nat,kv = .int .i64 (i:Int)∧i ≤ l.length∧G = l.length - i∧nv = .int .i64 ((n + 1 + partsL (ntL (l.take i)):Nat):Int)∧(∀ U:MT,U.At w s f→U.At wr s (numL (l.take i) (n + 1) (upd f b n)))∧Kept (fun x=>x ∈ (MT.node b (.slice ad l.length cap) k l).blks) w wr)
 case atStart =>
  refine ⟨0,rfl,by omega,rfl,by simp [ntL,partsL],fun U hU=>?_,?_⟩
  ·simpa [numL] using HU0.out U hU
  ·exact (Kept.refl _ _).setCell (p:=⟨b,1,none⟩) (fun _=>by simp [MT.blks]) _
 case round =>
  obtain ⟨i,rfl,hi,rfl,rfl,hU,hkept⟩:=hrel
  have hnode:=hU _ H0.out
  simp only [MT.At] at hnode
  obtain ⟨hb1,hr1,hk1⟩:=hnode
  have c4:wr.cell? ⟨b,4,none⟩ = some (.slice ad l.length cap):=hb1.cell 4
  by_cases hlt:i < l.length
  ·rcases hrow' with e | ⟨g,rfl⟩
   ·omega
   have e0:decide ((i:Int) < (l.length:Int)) = true:=by simp; omega
   have cg:wr.cell? ⟨g,i,none⟩ = some (.pointer (some ⟨l[i].root,0,none⟩)):=by
    have hr1':wr.ownsRow 0 80 1 (.slice (some ⟨g,0,none⟩) l.length cap) l.length (ptrs (l.map MT.root)):=by unfold PRow at hr1; rwa [List.length_map] at hr1
    rw [ownsRow_cell hr1' i (by omega)]; simp [ptrs,hlt]
   have i0:(0:Int) ≤ (i:Int):=by omega
   have i1:(i:Int) < (l.length:Int):=by omega
   have htk:l.take (i + 1) = l.take i ++ [l[i]]:=(List.take_append_getElem hlt).symm
   have hps:partsL (ntL (l.take (i + 1))) = partsL (ntL (l.take i)) + l[i].nt.parts:=by rw [htk,partsL_snoc]
   have hle:partsL (ntL (l.take (i + 1))) ≤ partsL (ntL l):=by
    have:=partsL_append (ntL (l.take (i + 1))) (ntL (l.drop (i + 1)))
    have e:ntL l = ntL (l.take (i + 1)) ++ ntL (l.drop (i + 1)):=by rw [ntL_map,ntL_map,ntL_map,← List.map_append,List.take_append_drop]
    rw [e,this]; omega
   have HC:=hide (HL.out l[i] (List.getElem_mem hlt) wr s (numL (l.take i) (n + 1) (upd f b n)) (n + 1 + partsL (ntL (l.take i))) ((AtL_iff l).1 hk1 _ (List.getElem_mem hlt)) (by omega))
   have HH:=hide (And.intro hU (And.intro hkept (And.intro htk (And.intro hps hle))))
   clear hU hkept hb1 hr1 hk1 htk hps hle
   go_wp2_with fail
   refine HC.out.mono ?_
   rintro e w1 ⟨rfl,hU1,hk2⟩
   have HH1:=hide (And.intro hU1 hk2)
   clear hU1 hk2 HC
   go_wp2_with fail
   go_roundg (l.length - (i + 1))
   case measure=>omega
   case rel =>
    obtain ⟨a1,a2,a3,a4,a5⟩:=HH.out
    obtain ⟨b1,b2⟩:=HH1.out
    refine ⟨i + 1,by go_num,by omega,rfl,by rw [a4]; exact congrArg (Value.int .i64) (by push_cast; omega),fun U hU=>?_,a2.trans b2 (fun x _ hx=>?_)⟩
    ·have:=b1 U (a1 U hU)
     rw [a3,numL_append]
     simpa [numL] using this
    ·simp only [MT.blks,List.mem_cons]
     right
     have e:l = l.take i ++ (l[i] :: l.drop (i + 1)):=by rw [List.getElem_cons_drop,List.take_append_drop]
     rw [e,blksL_append]
     simp only [blksL,List.mem_append]
     exact .inr (.inl hx)
  ·obtain rfl:i = l.length:=by omega
   have e0:decide ((l.length:Int) < (l.length:Int)) = false:=by simp
   have HH:=hide (And.intro hU hkept)
   clear hU hkept hb1 hr1 hk1
   go_wp2_with fail
   go_ret
   obtain ⟨a1,a2⟩:=HH.out
   refine ⟨?_,fun U hU=>?_,a2⟩
   ·rw [List.take_of_length_le (Nat.le_refl _)]
    show Ending.returned (Value.int .i64 _) = Ending.returned (Value.int .i64 _)
    congr 2; push_cast; omega
   have:=a1 U hU
   rw [List.take_of_length_le (Nat.le_refl _)] at this
   simpa [MT.num] using this
mutual
theorem num_all:∀ T:MT,NumC T
 | .place b i e A=>num_place b i e A
 | .node b v k l=>num_node b k v l (numL_all l)
theorem numL_all:∀ (l:List MT),∀ y ∈ l,NumC y
 | [],y,h=>by simp at h
 |x :: l,y,h=>by
  rw [List.mem_cons] at h
  rcases h with rfl | h
  ·exact num_all y
  ·exact numL_all l y h
end
theorem appendPrt {la ll:List Nat} {va vl:Value} {ops:Array Oper} {rest:List Oper} {o:Oper} {a:Act} {w:World} {Q:Exit→Act→World→Prop} (hgd:o.guard = none) (s x:Operand)
  (ho:o.op = .call { callee:=.builtin .append,args:=#[s,x],argTypes:=#[74,74] })
  (hs:a.eval s = va) (hx:a.eval x = vl) (ha:w.ownsRow 0 80 1 va la.length (ptrs la)) (hl:w.ownsRow 0 80 1 vl ll.length (ptrs ll)) (N:Nat) (hN:N ≤ w.heap.size) (hown:∀ b,va.ownBlock = some b→N ≤ b) (hsz:la.length + ll.length ≤ 4000000)
  (h:∀ v' w',w'.ownsRow 0 80 1 v' (la ++ ll).length (ptrs (la ++ ll))→(∀ b,v'.ownBlock = some b→N ≤ b)→Kept (fun b=>va.ownBlock = some b) w w'→wpList Tryz.prog ops Q rest (a.put o.dst v') w'):wpList Tryz.prog ops Q (o :: rest) a w:=by
 obtain ⟨ii,hii,hz0,hz1,hz2⟩:=info_parts Tryz.infoP3
 have ha':w.ownsRow N 80 1 va la.length (ptrs la):=by
  obtain ⟨h1,h2 | ⟨g,cap,cur,rfl,h3,h4⟩⟩:=ha
  ·exact ⟨h1,.inl h2⟩
  ·exact ⟨h1,.inr ⟨g,cap,cur,rfl,hown g rfl,h4⟩⟩
 have key:∀ v' w',w'.ownsRow N 80 1 v' (la.length + ll.length) (ptrs la ++ ptrs ll)→w.grownBy w' va.ownBlock→wpList Tryz.prog ops Q rest (a.put o.dst v') w':=fun v' w' h2 h3=>by
  refine h v' w' ?_ ?_ ⟨h3.os,h3.tape,h3.output,h3.size,fun k hk he=>h3.block k hk (fun e=>he e.symm)⟩
  ·have e:ptrs (la ++ ll) = ptrs la ++ ptrs ll:=by simp [ptrs]
   rw [e,List.length_append]
   obtain ⟨h4,h5 | ⟨g,cap,cur,rfl,h6,h7⟩⟩:=h2
   ·exact ⟨h4,.inl h5⟩
   ·exact ⟨h4,.inr ⟨g,cap,cur,rfl,Nat.zero_le _,h7⟩⟩
  ·intro b hb
   obtain ⟨h4,⟨rfl,_⟩ | ⟨g,cap,cur,rfl,h6,h7⟩⟩:=h2
   ·cases hb
   ·cases (Option.some.inj hb:g = b)
    exact h6
 obtain ⟨h1,⟨rfl,h2⟩ | ⟨g,cap,cur,rfl,h3,h4⟩⟩:=hl
 ·refine wpList_append_own_none hgd s x 74 ho N 80 ii 1 Tryz.underlying74 hii va la.length (ptrs la) hs ha' hx ?_
  have e:ll = []:=List.eq_nil_of_length_eq_zero h2
  subst e
  exact key va w (by simpa [ptrs] using ha') ⟨rfl,rfl,rfl,Nat.le_refl _,fun _ _ _=>rfl⟩
 ·have hrow:w.ownsRow 0 80 1 (.slice (some ⟨g,0,none⟩) ll.length cap) ll.length (ptrs ll):=⟨h1,.inr ⟨g,cap,cur,rfl,h3,h4⟩⟩
  exact wpList_append_own w hgd s x 74 ho N 80 ii _ 1 8 Tryz.underlying74 hii hz0 hz1 hz2 rfl (by omega) va la.length (ptrs la) hs ha' ⟨g,0,none⟩ ll.length cap (ptrs ll) hx h1 (hrow.cells (g:=g) rfl) (fun u hu=>by simp only [ptrs,List.mem_map] at hu; obtain ⟨b,_,rfl⟩:=hu; rfl) (by unfold maxLen; omega) (by omega) hN (fun v' w' h2 h3 _=>key v' w' h2 h3)
mutual
def MT.pl:MT→List MT
 | .place b i e A=>[.place b i e A]
 | .node b v k l=>plL l
def plL:List MT→List MT
 | []=>[]
 |y :: l=>y.pl ++ plL l
end
theorem plL_append:∀ l m:List MT,plL (l ++ m) = plL l ++ plL m
 | [],m=>rfl
 |x :: l,m=>by simp [plL,plL_append l m]
mutual
theorem MT.pl_len:∀ T:MT,T.pl.length ≤ T.nt.parts
 | .place b i e A=>by simp [MT.pl,MT.nt,NT.parts]
 | .node b v k l=>by have:=plL_len l; simp only [MT.pl,MT.nt,NT.parts]; omega
theorem plL_len:∀ l:List MT,(plL l).length ≤ partsL (ntL l)
 | []=>by simp [plL]
 |y :: l=>by have:=MT.pl_len y; have:=plL_len l; simp only [plL,ntL,partsL,List.length_append]; omega
end
theorem partsL_mem:∀ (l:List MT) (y:MT),y ∈ l→y.nt.parts ≤ partsL (ntL l)
 | [],y,h=>by simp at h
 |x :: l,y,h=>by
  rw [List.mem_cons] at h
  simp only [ntL,partsL]
  rcases h with rfl | h
  ·omega
  ·have:=partsL_mem l y h; omega
def PlC (T:MT):Prop:=∀ (w:World) (s:ByteArray) (f:Nat→Int),T.At w s f→(match T with | .place ..=>True | .node _ _ k _=>0 < k)→T.nt.parts ≤ 100000 →
 Calls Tryz.prog 27 #[.pointer (some ⟨T.root,0,none⟩)] w fun e w'=>∃ v,e = .returned v∧w'.ownsRow 0 80 1 v T.pl.length (ptrs (T.pl.map MT.root))∧(∀ b,v.ownBlock = some b→w.heap.size ≤ b)∧Below w.heap.size w w'
mutual
def MT.KindOk:MT→Prop
 | .place _ _ _ _=>True
 | .node b v k l=>(k = 1∨k = 2∨k = 3∨k = 4)∧kindsOk l
def kindsOk:List MT→Prop
 | []=>True
 |y :: l=>y.KindOk∧kindsOk l
end
theorem kindsOk_iff:∀ l:List MT,kindsOk l↔∀ y ∈ l,y.KindOk
 | []=>by simp [kindsOk]
 |y :: l=>by simp [kindsOk,kindsOk_iff l]
set_option maxHeartbeats 1600000 in
theorem pl_place (b i e:Nat) (A:Nat→Bool):PlC (.place b i e A):=by
 intro w s f h _ _
 simp only [MT.At] at h
 have c0:w.cell? ⟨b,0,none⟩ = some (.int .i64 0):=h.cell 0
 clear h
 simp only [MT.root,MT.pl]
 go_enter Tryz.func27,Tryz.ntmps27
 go_wp2_with fail
 go_ret
 refine ⟨_,rfl,?_,fun x hx=>?_,Below1 _ _⟩
 ·have hb:=Blk.new w #[.pointer (some ⟨b,0,none⟩)] 80
  exact ownsRow_mk (by simp [ptrs]) hb (Nat.le_refl _) (by unfold maxLen; omega) (by simp) (by simp [ptrs,MT.root])
 ·cases (Option.some.inj hx:w.heap.size = x); omega
set_option maxRecDepth 20000 in
set_option maxHeartbeats 3200000 in
theorem pl_node (b k:Nat) (v:Value) (l:List MT) (hl:∀ y ∈ l,PlC y) (hko:kindsOk l):PlC (.node b v k l):=by
 intro w s f h hk0 hn
 simp only [MT.At] at h
 simp only [MT.nt,NT.parts] at hn
 simp only at hk0
 obtain ⟨hb,hr,hk⟩:=h
 have hr':w.ownsRow 0 80 1 v l.length (ptrs (l.map MT.root)):=by unfold PRow at hr; rwa [List.length_map] at hr
 obtain ⟨_,ad,cap,rfl,hrow⟩:=ownsRow_form hr'
 have hlen:=partsL_len l
 have c0:w.cell? ⟨b,0,none⟩ = some (.int .i64 (k:Int)):=hb.cell 0
 have e00:((k:Int) == 0) = false:=by simp; omega
 have hrow':l.length = 0∨∃ g,ad = some ⟨g,0,none⟩:=by
  rcases hrow with ⟨_,e⟩ | ⟨g,_,e,_⟩
  ·exact .inl e
  ·exact .inr ⟨g,e⟩
 have HL:=hide hl
 have H0:=hide (And.intro hb (And.intro hr' hk))
 have HKO:=hide hko
 have hblt:=hb.lt
 clear hb hr hk hl hr' hrow hko
 simp only [MT.root,MT.pl]
 go_enter Tryz.func27,Tryz.ntmps27
 go_wp2_with fail
 go_loopg [3,4] l.length (fun G lv kv wr=>∃ i:Nat,kv = .int .i64 (i:Int)∧i ≤ l.length∧G = l.length - i∧wr.ownsRow 0 80 1 lv (plL (l.take i)).length (ptrs ((plL (l.take i)).map MT.root))∧(∀ x,lv.ownBlock = some x→w.heap.size ≤ x)∧Below w.heap.size w wr)
 case atStart=>exact ⟨0,rfl,by omega,rfl,World.ownsRow_nil _ _ _ _,fun x hx=>by simp [Value.ownBlock] at hx,Below.refl _ _⟩
 case round =>
  obtain ⟨i,rfl,hi,rfl,hL,hLo,hbl⟩:=hrel
  have hz:=hbl.size
  have c4:wr.cell? ⟨b,4,none⟩ = some (.slice ad l.length cap):=(H0.out.1.below hbl).cell 4
  obtain ⟨_,ld,lcap,rfl,_⟩:=ownsRow_form hL
  by_cases hlt:i < l.length
  ·rcases hrow' with e | ⟨g,rfl⟩
   ·omega
   have e0:decide ((i:Int) < (l.length:Int)) = true:=by simp; omega
   have cg:wr.cell? ⟨g,i,none⟩ = some (.pointer (some ⟨l[i].root,0,none⟩)):=by
    have hr1:=ownsRow_kept (ex:=fun _=>False) H0.out.2.1 (Kept.ofBelow hbl) (fun _ _ e=>e)
    rw [ownsRow_cell hr1 i (by omega)]; simp [ptrs,hlt]
   have i0:(0:Int) ≤ (i:Int):=by omega
   have i1:(i:Int) < (l.length:Int):=by omega
   have htk:plL (l.take (i + 1)) = plL (l.take i) ++ l[i].pl:=by rw [(List.take_append_getElem hlt).symm,plL_append]; simp [plL]
   have hmem:=List.getElem_mem hlt
   have hpi:=partsL_mem l l[i] hmem
   have hsz:(plL (l.take i)).length + l[i].pl.length ≤ 4000000:=by
    have h1:=plL_len l
    have e:l = l.take (i + 1) ++ l.drop (i + 1):=(List.take_append_drop _ _).symm
    rw [e,plL_append,htk] at h1
    rw [← e] at h1
    simp only [List.length_append] at h1
    omega
   have hk9:(match l[i] with | .place ..=>True | .node _ _ k _=>0 < k):=by
    have:=(kindsOk_iff l).1 HKO.out l[i] hmem
    cases hh:l[i] with
    |place=>trivial
    |node b v k l=>rw [hh] at this; simp only [MT.KindOk] at this; show 0 < k; omega
   have HC:=hide (HL.out l[i] hmem wr s f ((AtL_iff l).1 (AtL.kept (ex:=fun _=>False) (Kept.ofBelow hbl) l H0.out.2.2 (fun _ _ e=>e)) _ hmem) hk9 (by omega))
   have HH:=hide (And.intro hL (And.intro hLo (And.intro hbl (And.intro htk hsz))))
   clear hL hLo hbl htk hsz hpi hk9 hmem
   go_wp2_with fail
   refine HC.out.mono ?_
   rintro e w1 ⟨v1,rfl,q1,q2,q3⟩
   have hz1:=q3.size
   have ha1:w1.ownsRow 0 80 1 (.slice ld (plL (l.take i)).length lcap) ((plL (l.take i)).map MT.root).length (ptrs ((plL (l.take i)).map MT.root)):=by
    rw [List.length_map]; exact ownsRow_kept (ex:=fun _=>False) HH.out.1 (Kept.ofBelow q3) (fun _ _ e=>e)
   have hb1:w1.ownsRow 0 80 1 v1 (l[i].pl.map MT.root).length (ptrs (l[i].pl.map MT.root)):=by rw [List.length_map]; exact q1
   have HA1:=hide (And.intro ha1 (And.intro hb1 (And.intro HH.out.2.1 q3)))
   have hN:w.heap.size ≤ w1.heap.size:=by omega
   have hsz2:((plL (l.take i)).map MT.root).length + (l[i].pl.map MT.root).length ≤ 4000000:=by rw [List.length_map,List.length_map]; exact HH.out.2.2.2.2
   clear ha1 hb1 q1 q2 q3 HC
   go_wp2_with (at_builtin; (refine appendPrt (la:=(plL (l.take i)).map MT.root) (ll:=l[i].pl.map MT.root) (va:=.slice ld (plL (l.take i)).length lcap) (vl:=v1) (by rfl) _ _ (by rfl) (by rfl) (by rfl) HA1.out.1 HA1.out.2.1 w.heap.size hN HA1.out.2.2.1 hsz2 ?_))
   intro v2 w2 r1 r2 r3
   have HR:=hide (And.intro r1 (And.intro r2 r3))
   clear r1 r2 r3 hsz2
   go_wp2_with fail
   go_roundg (l.length - (i + 1))
   case measure=>omega
   case rel =>
    obtain ⟨a1,a2,a3,a4,a5⟩:=HH.out
    obtain ⟨r1,r2,r3⟩:=HR.out
    refine ⟨i + 1,by go_num,by omega,rfl,?_,r2,?_⟩
    ·rw [a4,List.map_append,List.length_append]
     simpa using r1
    ·exact Below_kept (Below_kept (ex:=fun _=>False) a3 (Kept.ofBelow HA1.out.2.2.2) hz (fun _ _ e=>e)) r3 hN (fun x hx e=>by have:=a2 x e; omega)
  ·obtain rfl:i = l.length:=by omega
   have e0:decide ((l.length:Int) < (l.length:Int)) = false:=by simp
   have HH:=hide (And.intro hL (And.intro hLo hbl))
   clear hL hLo hbl
   go_wp2_with fail
   go_ret
   obtain ⟨a1,a2,a3⟩:=HH.out
   rw [List.take_of_length_le (Nat.le_refl _)] at a1 a2 ⊢
   exact ⟨_,rfl,a1,a2,a3⟩
mutual
theorem pl_all:∀ T:MT,T.KindOk→PlC T
 | .place b i e A,_=>pl_place b i e A
 | .node b v k l,h=>by
  simp only [MT.KindOk] at h
  exact pl_node b k v l (plL_all l h.2) h.2
theorem plL_all:∀ (l:List MT),kindsOk l→∀ y ∈ l,PlC y
 | [],_,y,h=>by simp at h
 |x :: l,hk,y,h=>by
  simp only [kindsOk] at hk
  rw [List.mem_cons] at h
  rcases h with rfl | h
  ·exact pl_all y hk.1
  ·exact plL_all l hk.2 y h
end
theorem append1 {t e:TypeId} {nb:Nat} {z:Value} (hu:Tryz.prog.underlying t = some (.slice e)) (hinfo:(Tryz.prog.info? e).map (fun i=>(i.zero,i.size,i.bytes)) = some (some z,1,nb)) (hzc:z.cells.size = 1) (hnb:nb ≤ 64)
  {la ll:List Value} {va vl:Value} {ops:Array Oper} {rest:List Oper} {o:Oper} {a:Act} {w:World} {Q:Exit→Act→World→Prop} (hgd:o.guard = none) (s x:Operand)
  (ho:o.op = .call { callee:=.builtin .append,args:=#[s,x],argTypes:=#[t,t] })
  (hs:a.eval s = va) (hx:a.eval x = vl) (ha:w.ownsRow 0 e 1 va la.length la) (hl:w.ownsRow 0 e 1 vl ll.length ll) (hone:∀ u ∈ ll,u.oneCell' = true) (N:Nat) (hN:N ≤ w.heap.size) (hown:∀ b,va.ownBlock = some b→N ≤ b) (hsz:la.length + ll.length ≤ 4000000)
  (h:∀ v' w',w'.ownsRow 0 e 1 v' (la ++ ll).length (la ++ ll)→(∀ b,v'.ownBlock = some b→N ≤ b)→Kept (fun b=>va.ownBlock = some b) w w'→wpList Tryz.prog ops Q rest (a.put o.dst v') w'):wpList Tryz.prog ops Q (o :: rest) a w:=by
 obtain ⟨ii,hii,hz0,hz1,hz2⟩:=info_parts hinfo
 have ha':w.ownsRow N e 1 va la.length la:=by
  obtain ⟨h1,h2 | ⟨g,cap,cur,rfl,h3,h4⟩⟩:=ha
  ·exact ⟨h1,.inl h2⟩
  ·exact ⟨h1,.inr ⟨g,cap,cur,rfl,hown g rfl,h4⟩⟩
 have key:∀ v' w',w'.ownsRow N e 1 v' (la.length + ll.length) (la ++ ll)→w.grownBy w' va.ownBlock→wpList Tryz.prog ops Q rest (a.put o.dst v') w':=fun v' w' h2 h3=>by
  refine h v' w' ?_ ?_ ⟨h3.os,h3.tape,h3.output,h3.size,fun k hk he=>h3.block k hk (fun e=>he e.symm)⟩
  ·rw [List.length_append]
   obtain ⟨h4,h5 | ⟨g,cap,cur,rfl,h6,h7⟩⟩:=h2
   ·exact ⟨h4,.inl h5⟩
   ·exact ⟨h4,.inr ⟨g,cap,cur,rfl,Nat.zero_le _,h7⟩⟩
  ·intro b hb
   obtain ⟨h4,⟨rfl,_⟩ | ⟨g,cap,cur,rfl,h6,h7⟩⟩:=h2
   ·cases hb
   ·cases (Option.some.inj hb:g = b)
    exact h6
 obtain ⟨h1,⟨rfl,h2⟩ | ⟨g,cap,cur,rfl,h3,h4⟩⟩:=hl
 ·refine wpList_append_own_none hgd s x t ho N e ii 1 hu hii va la.length la hs ha' hx ?_
  have e:ll = []:=List.eq_nil_of_length_eq_zero h2
  subst e
  exact key va w (by simpa using ha') ⟨rfl,rfl,rfl,Nat.le_refl _,fun _ _ _=>rfl⟩
 ·have hrow:w.ownsRow 0 e 1 (.slice (some ⟨g,0,none⟩) ll.length cap) ll.length ll:=⟨h1,.inr ⟨g,cap,cur,rfl,h3,h4⟩⟩
  refine wpList_append_own w hgd s x t ho N e ii z 1 nb hu hii hz0 hz1 hz2 hzc (by omega) va la.length la hs ha' ⟨g,0,none⟩ ll.length cap ll hx h1 (hrow.cells (g:=g) rfl) hone (by unfold maxLen; omega) ?_ hN (fun v' w' h2 h3 _=>key v' w' h2 h3)
  have:(la.length + ll.length) * nb ≤ 4000000 * 64:=Nat.mul_le_mul hsz hnb
  omega
theorem one_row (w:World) (e:TypeId) (u:Value):(w.alloc (.cells #[u] e)).ownsRow 0 e 1 (.slice (some ⟨w.heap.size,0,none⟩) 1 1) [u].length [u] :=
 ownsRow_mk (by simp) (Blk.new w #[u] e) (Nat.le_refl _) (by unfold maxLen; omega) (by simp) (by simp)
def intsV (l:List Int):List Value:=l.map (Value.int .i64)
theorem intsV_len (l:List Int):(intsV l).length = l.length:=by simp [intsV]
theorem IRow.val {w:World} {v:Value} {l:List Int} (h:IRow w v l):w.ownsRow 0 3 1 v (intsV l).length (intsV l):=by rw [intsV_len]; exact h
theorem IRow.ofVal {w:World} {v:Value} {l:List Int} (h:w.ownsRow 0 3 1 v (intsV l).length (intsV l)):IRow w v l:=by rw [intsV_len] at h; exact h
theorem rowAl {w:World} {e:TypeId} {v:Value} {n:Nat} {xs:List Value} (h:w.ownsRow 0 e 1 v n xs) (o:Obj):(w.alloc o).ownsRow 0 e 1 v n xs:=ownsRow_kept (ex:=fun _=>False) h (Kept.ofBelow (Below1 _ _)) (fun _ _ e=>e)
set_option maxRecDepth 20000 in
set_option maxHeartbeats 3200000 in
theorem items_any (s : ByteArray) (q z : Nat) (l : List Int) (w : World) (hs : s.size ≤ 120) (hc : Cls s l q z) :
    Calls Tryz.prog 130 #[.string s, .int .i64 (q : Int)] w fun e w' => ∃ v, e = .returned v ∧ IRow w' v l ∧ (∀ b, v.ownBlock = some b → w.heap.size ≤ b) ∧ Below w.heap.size w w' := by
  have HC := hide hc
  have hzz := hc.le
  have HZ := hide hzz
  clear hc hzz
  go_enter Tryz.func130, Tryz.ntmps130
  go_wp2_with fail
  go_loopg [1, 5] (s.size - q) (fun G iv lv wr => ∃ (p : Nat) (done rest : List Int), iv = .int .i64 (p : Int) ∧ G = s.size - p ∧ l = done ++ rest ∧ Cls s rest p z ∧ IRow wr lv done ∧ (∀ b, lv.ownBlock = some b → w.heap.size ≤ b) ∧ Below w.heap.size w wr)
  case atStart => exact ⟨q, [], l, rfl, rfl, rfl, HC.out, World.ownsRow_nil _ _ _ _, fun x hx => by simp [Value.ownBlock] at hx, Below.refl _ _⟩
  case round =>
    obtain ⟨p, done, rest, rfl, rfl, hl, hc, hrow, hlo, hbl⟩ := hrel
    have hpz := hc.le
    have hps : p < s.size := by omega
    have p0 : (0 : Int) ≤ (p : Int) := by omega
    have p1 : (p : Int) < (s.size : Int) := by omega
    have hz := hbl.size
    have hdl : done.length ≤ 1000 := by
      have := HZ.out.1
      rw [hl, List.length_append] at this
      have := HZ.out.2.1
      omega
    obtain ⟨ad, cap, rfl, _⟩ := hrow.form
    cases rest with
    | nil =>
      obtain ⟨rfl, h93⟩ := hc
      rw [peekI_at hps] at h93
      have e3 : (((s[p].toNat : Nat) : Int) != 93) = false := by simp; omega
      have HH := hide (And.intro hl (And.intro hrow (And.intro hlo hbl)))
      clear h93 hpz hl hrow hlo hbl hdl
      go_wp2_with fail
      go_ret
      obtain ⟨a1, a2, a3, a4⟩ := HH.out
      rw [List.append_nil] at a1
      rw [a1]
      exact ⟨_, rfl, a2, a3, a4⟩
    | cons v rest =>
      have hl2 : l = (done ++ [v]) ++ rest := by rw [hl]; simp
      have key : Hid (∀ (W w6 : World) (v6 : Value), Below wr.heap.size wr W → w6.ownsRow 0 3 1 v6 ((intsV done).length + 1) (intsV done ++ [Value.int .i64 v]) → Kept (fun b => (Value.slice ad done.length cap).ownBlock = some b) W w6 → IRow w6 v6 (done ++ [v]) ∧ Below w.heap.size w w6) := by
        refine hide fun W w6 v6 a1 a2 a3 => ⟨IRow.ofVal (by have : intsV (done ++ [v]) = intsV done ++ [.int .i64 v] := by simp [intsV]
                                                            rw [this, List.length_append]; exact a2), ?_⟩
        exact Below_kept (Below_kept (ex := fun _ => False) hbl (Kept.ofBelow a1) hz (fun _ _ e => e)) a3 (by have := a1.size; omega) (fun x hx e => by have := hlo x e; omega)
      have HR := hide hrow.val
      have HLO := hide hlo
      have hsz : (intsV done).length + 1 ≤ 4000000 := by rw [intsV_len]; omega
      rcases hc with ⟨h1, hv, h2⟩ | ⟨h1, hne, _, hv, h2⟩ | ⟨_, _, h45, h1, h3, hv, h2⟩
      · subst hv
        rw [peekI_at hps] at h1
        have e3 : (((s[p].toNat : Nat) : Int) != 93) = true := by simp; omega
        have e4 : (((s[p].toNat : Nat) : Int) == 45) = true := by simp; omega
        have HC2 := hide (And.intro h2 hl2)
        clear h1 hpz h2 hl hl2 hrow hlo hbl hdl
        go_wp2_with (at_builtin; (refine append1 Tryz.underlying60 Tryz.infoI3 rfl (by omega) (la := intsV done) (ll := [.int .i64 (-1)]) (va := .slice ad done.length cap) (vl := .slice (some ⟨wr.heap.size, 0, none⟩) 1 1) (by rfl) _ _ (by rfl) (by rfl) (by rfl) (rowAl HR.out _) (one_row wr 3 (.int .i64 (-1))) (fun u hu => by rw [List.mem_singleton] at hu; rw [hu]; rfl) w.heap.size (by simp; omega) HLO.out hsz ?_))
        intro v6 w6 r1 r2 r3
        have HK := hide (And.intro (key.out _ w6 v6 (Below1 wr _) r1 r3) r2)
        clear r1 r2 r3 key HR HLO hsz
        go_wp2_with fail
        go_roundg (s.size - (p + 1))
        case measure => omega
        case rel => exact ⟨p + 1, done ++ [-1], rest, by go_num, rfl, HC2.out.2, HC2.out.1, HK.out.1.1, HK.out.2, HK.out.1.2⟩
      · have hp2 := peekI_in hne
        rw [peekI_at hp2] at hv
        rw [peekI_at hps] at h1
        have e3 : (((s[p].toNat : Nat) : Int) != 93) = true := by simp; omega
        have e4 : (((s[p].toNat : Nat) : Int) == 45) = false := by simp; omega
        have e5 : (((s[p].toNat : Nat) : Int) == 92) = true := by simp; omega
        have q0 : (0 : Int) ≤ (p : Int) + 1 := by omega
        have q1 : (p : Int) + 1 < (s.size : Int) := by omega
        have HM := hide (fun W => meant_any s[p + 1].toNat W (s[p + 1].toNat_lt))
        have HC2 := hide (And.intro h2 hl2)
        have hmv := hide hv
        clear h1 hpz h2 hl hl2 hrow hlo hbl hdl hne hv
        go_wp2_with fail
        refine (HM.out _).mono ?_
        rintro e w1 ⟨rfl, rfl⟩
        rw [← hmv.out]
        go_wp2_with (at_builtin; (refine append1 Tryz.underlying60 Tryz.infoI3 rfl (by omega) (la := intsV done) (ll := [.int .i64 v]) (va := .slice ad done.length cap) (vl := .slice (some ⟨w1.heap.size, 0, none⟩) 1 1) (by rfl) _ _ (by rfl) (by rfl) (by rfl) (rowAl HR.out _) (one_row w1 3 (.int .i64 v)) (fun u hu => by rw [List.mem_singleton] at hu; rw [hu]; rfl) w.heap.size (by simp; omega) HLO.out hsz ?_))
        intro v6 w6 r1 r2 r3
        have HK := hide (And.intro (key.out _ w6 v6 (Below1 w1 _) r1 r3) r2)
        clear r1 r2 r3 key HR HLO hsz
        go_wp2_with fail
        go_roundg (s.size - (p + 2))
        case measure => omega
        case rel => exact ⟨p + 2, done ++ [v], rest, by go_num, rfl, HC2.out.2, HC2.out.1, HK.out.1.1, HK.out.2, HK.out.1.2⟩
      · rw [peekI_at hps] at h1 h3 h45 hv
        have e3 : (((s[p].toNat : Nat) : Int) != 93) = true := by simp; omega
        have e4 : (((s[p].toNat : Nat) : Int) == 45) = false := by simp; omega
        have e5 : (((s[p].toNat : Nat) : Int) == 92) = false := by simp; omega
        have hlt := s[p].toNat_lt
        have hwv : wrap64 ((s[p].toNat : Nat) : Int) = v := by rw [hv]; unfold wrap64; omega
        have HC2 := hide (And.intro h2 hl2)
        clear h1 h3 h45 hpz h2 hl hl2 hrow hlo hbl hdl hv hlt
        go_wp2_with (at_builtin; (refine append1 Tryz.underlying60 Tryz.infoI3 rfl (by omega) (la := intsV done) (ll := [.int .i64 v]) (va := .slice ad done.length cap) (vl := .slice (some ⟨wr.heap.size, 0, none⟩) 1 1) (by rfl) _ _ (by rfl) (by rfl) (by rfl) (rowAl HR.out _) (one_row wr 3 (.int .i64 v)) (fun u hu => by rw [List.mem_singleton] at hu; rw [hu]; rfl) w.heap.size (by simp; omega) HLO.out hsz ?_))
        intro v6 w6 r1 r2 r3
        have HK := hide (And.intro (key.out _ w6 v6 (Below1 wr _) r1 r3) r2)
        clear r1 r2 r3 key HR HLO hsz hwv
        go_wp2_with fail
        go_roundg (s.size - (p + 1))
        case measure => omega
        case rel => exact ⟨p + 1, done ++ [v], rest, by go_num, rfl, HC2.out.2, HC2.out.1, HK.out.1.1, HK.out.2, HK.out.1.2⟩
theorem extract_size {s:ByteArray} {i e:Nat} (he:e ≤ s.size):(s.extract i e).size = e - i:=by rw [ByteArray.size_extract]; omega
theorem peekI_sub {s:ByteArray} {i e k:Nat} (he:e ≤ s.size) (hk:i + k < e):peekI (s.extract i e) k = peekI s (i + k):=by
 have h1:k < (s.extract i e).size:=by rw [extract_size he]; omega
 rw [peekI_at h1,peekI_at (by omega),ByteArray.getElem_extract]
theorem Cls.sub {s:ByteArray} {i e:Nat} (he:e ≤ s.size):∀ {l:List Int} {q z:Nat},Cls s l (i + q) (i + z)→i + z < e→Cls (s.extract i e) l q z
 | [],q,z,h,hz=>⟨by have:=h.1; omega,by rw [peekI_sub he hz]; exact h.2⟩
 |v :: l,q,z,h,hz=>by
  rcases h with ⟨h1,h2,h3⟩ | ⟨h1,h2,h3,h4,h5⟩ | ⟨h1,h2,h3,h4,h5,h6,h7⟩
  ·have:=h3.le
   exact .inl ⟨by rw [peekI_sub he (by omega)]; exact h1,h2,Cls.sub he (by rw [show i + (q + 1) = i + q + 1 by omega]; exact h3) hz⟩
  ·have:=h5.le
   have e1:peekI (s.extract i e) (q + 1) = peekI s (i + q + 1):=by rw [peekI_sub he (by omega)]; congr 1
   exact .inr (.inl ⟨by rw [peekI_sub he (by omega)]; exact h1,by rw [e1]; exact h2,by rw [e1]; exact h3,by rw [e1]; exact h4,Cls.sub he (by rw [show i + (q + 2) = i + q + 2 by omega]; exact h5) hz⟩)
  ·have:=h7.le
   have e1:peekI (s.extract i e) q = peekI s (i + q):=peekI_sub he (by omega)
   exact .inr (.inr ⟨by rw [e1]; exact h1,by rw [e1]; exact h2,by rw [e1]; exact h3,by rw [e1]; exact h4,by rw [e1]; exact h5,by rw [e1]; exact h6,Cls.sub he (by rw [show i + (q + 1) = i + q + 1 by omega]; exact h7) hz⟩)
theorem PlaceIs.sub {s:ByteArray} {i e:Nat} {A:Nat→Bool} (h:PlaceIs s i e A):PlaceIs (s.extract i e) 0 (s.extract i e).size A:=by
 have hl:=h.lt
 have hz:=extract_size (i:=i) hl.2
 have e0:peekI (s.extract i e) 0 = peekI s i:=by rw [peekI_sub hl.2 (by omega)]; rfl
 rw [hz]
 cases h with
 |any h1 h2 h3=>exact .any (by rw [e0]; exact h1) (by omega) h3
 |esc h1 h2 h3 h4 h5 =>
  have e1:peekI (s.extract i e) (0 + 1) = peekI s (i + 1):=peekI_sub hl.2 (by omega)
  exact .esc (by rw [e0]; exact h1) (by omega) (by rw [e1]; exact h3) (by rw [e1]; exact h4) (by rw [e1]; exact h5)
 |cls l neg z h1 h2 h3 h4 h5 =>
  have hc:=h4.le
  have hn:neg.toNat ≤ 1:=by cases neg <;> simp
  have e1:peekI (s.extract i e) (0 + 1) = peekI s (i + 1):=peekI_sub hl.2 (by omega)
  refine .cls l neg (z - i) (by rw [e0]; exact h1) (by omega) (by rw [e1]; exact h3) ?_ h5
  refine Cls.sub hl.2 ?_ (by omega)
  rw [show i + (0 + 1 + neg.toNat) = i + 1 + neg.toNat by omega,show i + (z - i) = z by omega]
  exact h4
 |one h1 h2 h3 h4 h5 h6=>exact .one (by rw [e0]; exact h1) (by rw [e0]; exact h2) (by rw [e0]; exact h3) (by rw [e0]; exact h4) (by omega) (by rw [e0]; exact h6)
def AllC (t:ByteArray) (A:Nat→Bool):Prop:=∀ (c:Nat) (w:World),c < 256→Calls Tryz.prog 97 #[.string t,.int .i64 (c:Int)] w fun e w'=>e = .returned (.bool (A c))∧Below w.heap.size w w'
set_option maxHeartbeats 1600000 in
theorem allows_any1 (t:ByteArray) (A:Nat→Bool) (h1:peekI t 0 = 46) (h3:∀ c:Nat,A c = true):AllC t A:=by
 intro c w hc
 have h0:=peekI_in (s:=t) (p:=0) (by rw [h1]; decide)
 rw [peekI_at h0] at h1
 rw [h3 c]
 have i1:(0:Int) < (t.size:Int):=by omega
 have e1:(((t[0].toNat:Nat):Int) == 46) = true:=by simp; omega
 clear h1 h3
 go_enter Tryz.func97,Tryz.ntmps97
 go_wp2_with fail
 go_ret
 exact ⟨rfl,Below.refl _ _⟩
set_option maxHeartbeats 1600000 in
theorem allows_one (t:ByteArray) (A:Nat→Bool) (hb:¬ placeBar (peekI t 0)) (h1:peekI t 0 ≠ 46) (h2:peekI t 0 ≠ 91) (h4:peekI t 0 ≠ 92) (h3:∀ c:Nat,A c = decide (peekI t 0 = (c:Int))):AllC t A:=by
 intro c w hc
 have h0:=peekI_in (s:=t) (p:=0) (fun e=>hb (.inl e))
 rw [peekI_at h0] at h1 h2 h4
 rw [h3 c,peekI_at h0]
 have i1:(0:Int) < (t.size:Int):=by omega
 have e1:(((t[0].toNat:Nat):Int) == 46) = false:=by simp; omega
 have e2:(((t[0].toNat:Nat):Int) == 92) = false:=by simp; omega
 have e3:(((t[0].toNat:Nat):Int) == 91) = false:=by simp; omega
 have hlt:=t[0].toNat_lt
 have hw:wrap64 ((t[0].toNat:Nat):Int) = ((t[0].toNat:Nat):Int):=by unfold wrap64; omega
 clear h1 h2 h4 h3 hb hlt
 go_enter Tryz.func97,Tryz.ntmps97
 go_wp2_with fail
 go_ret
 refine ⟨?_,Below.refl _ _⟩
 show Ending.returned (Value.bool (((t[0].toNat:Nat):Int) == (c:Int))) = _
 congr 2
set_option maxHeartbeats 1600000 in
theorem allows_esc (t:ByteArray) (A:Nat→Bool) (h1:peekI t 0 = 92) (h2:peekI t 1 ≠ -1) (h3:∀ c:Nat,A c = decide (meantF (peekI t 1) = (c:Int))):AllC t A:=by
 intro c w hc
 have h0:=peekI_in (s:=t) (p:=0) (by rw [h1]; decide)
 have h9:=peekI_in h2
 rw [peekI_at h0] at h1
 rw [h3 c,peekI_at h9]
 have i1:(0:Int) < (t.size:Int):=by omega
 have i2:(1:Int) < (t.size:Int):=by omega
 have e1:(((t[0].toNat:Nat):Int) == 46) = false:=by simp; omega
 have e2:(((t[0].toNat:Nat):Int) == 92) = true:=by simp; omega
 have HM:=hide (fun W=>meant_any t[1].toNat W (t[1].toNat_lt))
 generalize meantF ((t[1].toNat:Nat):Int) = mm at HM ⊢
 clear h1 h2 h3
 go_enter Tryz.func97,Tryz.ntmps97
 go_wp2_with fail
 refine (HM.out _).mono ?_
 rintro e w1 ⟨rfl,rfl⟩
 go_wp2_with fail
 go_ret
 refine ⟨?_,Below.refl _ _⟩
 show Ending.returned (Value.bool (mm == (c:Int))) = _
 congr 2
theorem memF_skip {l:List Int} {i:Nat} {c:Int} (h:i < l.length) (hn:¬ (i + 2 < l.length∧l.getD (i + 1) 0 = -1)):memF (l.drop i) c = (decide (c = l.getD i 0) || memF (l.drop (i + 1)) c):=by
 rw [List.drop_eq_getElem_cons h,memF_one]
 ·simp [h]
 ·intro d b r' e hd
  apply hn
  have hl:=congrArg List.length e
  simp only [List.length_drop,List.length_cons] at hl
  refine ⟨by omega,?_⟩
  have hh:=congrArg (fun l=>l.getD 0 0) e
  simp only [List.getD_cons_zero] at hh
  rw [← hd,← hh]
  simp
theorem memF_take {l:List Int} {i:Nat} {c:Int} (h:i + 2 < l.length) (hn:l.getD (i + 1) 0 = -1):memF (l.drop i) c = ((decide (l.getD i 0 ≤ c) && decide (c ≤ l.getD (i + 2) 0)) || memF (l.drop (i + 3)) c):=by
 have e1:l.getD i 0 = l[i]:=by simp [show i < l.length by omega]
 have e2:l.getD (i + 1) 0 = l[i + 1]:=by simp [show i + 1 < l.length by omega]
 have e3:l.getD (i + 2) 0 = l[i + 2]:=by simp [h]
 rw [e2] at hn
 rw [List.drop_eq_getElem_cons (show i < l.length by omega),List.drop_eq_getElem_cons (show i + 1 < l.length by omega),List.drop_eq_getElem_cons (show i + 1 + 1 < l.length by omega),hn,memF_pair,e1,e3]
theorem IRow.getD {w:World} {l:List Int} {g n cap:Nat} (h:IRow w (.slice (some ⟨g,0,none⟩) n cap) l) (j:Nat) (hj:j < l.length):w.cell? ⟨g,j,none⟩ = some (.int .i64 (l.getD j 0)):=by
 obtain ⟨_,ad,cap',e,_⟩:=ownsRow_form h
 injection e with e1 e2 e3
 subst e2
 rw [h.cell j hj]; simp [hj]
set_option maxRecDepth 20000 in
set_option maxHeartbeats 6400000 in
theorem allows_cls (t:ByteArray) (A:Nat→Bool) (l:List Int) (neg:Bool) (z:Nat) (hs:t.size ≤ 120) (h1:peekI t 0 = 91) (h2:neg = decide (peekI t 1 = 94)) (hc:Cls t l (1 + neg.toNat) z) (h3:∀ c:Nat,A c = (memF l (c:Int) != neg)):AllC t A:=by
 intro c w hcc
 have hcl:=hc.le
 have h0:=peekI_in (s:=t) (p:=0) (by rw [h1]; decide)
 have h9:1 < t.size:=by omega
 rw [peekI_at h0] at h1
 rw [peekI_at h9] at h2
 rw [h3 c]
 have i1:(0:Int) < (t.size:Int):=by omega
 have i2:(1:Int) < (t.size:Int):=by omega
 have e1:(((t[0].toNat:Nat):Int) == 46) = false:=by simp; omega
 have e2:(((t[0].toNat:Nat):Int) == 92) = false:=by simp; omega
 have e3:(((t[0].toNat:Nat):Int) == 91) = true:=by simp; omega
 have hll:l.length ≤ 120:=by omega
 have HM:∃ M,M = memF l (c:Int):=⟨_,rfl⟩
 obtain ⟨M,hM⟩:=HM
 rw [← hM]
 have HMM:=hide hM
 have HIT:=hide (items_any t (1 + neg.toNat) z l w hs hc)
 clear h1 h3 hc hcl hM
 have e4:(((t[1].toNat:Nat):Int) == 94) = neg:=h2.symm
 clear h2
 cases neg
 all_goals
  go_enter Tryz.func97,Tryz.ntmps97
  go_wp2_with fail
  refine HIT.out.mono ?_
  rintro e w1 ⟨v,rfl,hrow,hlo,hbl⟩
  obtain ⟨ad,cap,rfl,hrw⟩:=hrow.form
  have HR:=hide (And.intro hrow hbl)
  clear hrow hlo hbl HIT
  go_wp2_with fail
  go_loopg [8,9] l.length (fun G bv iv wr=>∃ (i:Nat) (x:Bool),bv = .bool x∧iv = .int .i64 (i:Int)∧i ≤ l.length∧G = l.length - i∧(x || memF (l.drop i) (c:Int)) = M∧wr = w1)
  case atStart=>exact ⟨0,false,rfl,rfl,by omega,rfl,by simp [HMM.out],rfl⟩
  case round =>
   obtain ⟨i,x,rfl,rfl,hi,rfl,hinv,rfl⟩:=hrel
   by_cases hlt:i < l.length
   ·rcases hrw with e | ⟨g,rfl⟩
    ·omega
    have f0:decide ((i:Int) < (l.length:Int)) = true:=by simp; omega
    have c0:=HR.out.1.getD i hlt
    have j0:(0:Int) ≤ (i:Int):=by omega
    have j1:(i:Int) < (l.length:Int):=by omega
    by_cases ht:i + 2 < l.length∧l.getD (i + 1) 0 = -1
    ·have f1:decide ((i:Int) + 2 < (l.length:Int)) = true:=by simp; omega
     have c1:=HR.out.1.getD (i + 1) (by omega)
     have c2:=HR.out.1.getD (i + 2) (by omega)
     rw [ht.2] at c1
     have j2:(0:Int) ≤ (i:Int) + 1:=by omega
     have j3:(i:Int) + 1 < (l.length:Int):=by omega
     have j4:(0:Int) ≤ (i:Int) + 2:=by omega
     have j5:(i:Int) + 2 < (l.length:Int):=by omega
     have j6:((i:Int) + 1).toNat = i + 1:=by omega
     have j7:((i:Int) + 2).toNat = i + 2:=by omega
     have hmt:=memF_take (c:=(c:Int)) ht.1 ht.2
     generalize hx1:decide (l.getD i 0 ≤ (c:Int)) = x1 at hmt
     generalize hx2:decide ((c:Int) ≤ l.getD (i + 2) 0) = x2 at hmt
     have HI:=hide (And.intro hinv hmt)
     have hi2:=ht.1
     generalize l.getD i 0 = a0 at c0 hx1
     generalize l.getD (i + 2) 0 = a2 at c2 hx2
     clear hinv hmt ht
     cases x <;> cases x1 <;> cases x2
     all_goals
      go_wp2_with fail
      go_roundg (l.length - (i + 3))
      case measure=>omega
      case rel =>
       obtain ⟨b1,b2⟩:=HI.out
       rw [b2] at b1
       exact ⟨i + 3,_,rfl,by go_num,by omega,rfl,by simpa using b1,rfl⟩
    ·have hms:=memF_skip (c:=(c:Int)) hlt ht
     generalize hx1:decide ((c:Int) = l.getD i 0) = x1 at hms
     have hx2:((c:Int) == l.getD i 0) = x1:=hx1
     have HI:=hide (And.intro hinv hms)
     clear hx1 hinv hms
     by_cases ht1:i + 2 < l.length
     ·have f1:decide ((i:Int) + 2 < (l.length:Int)) = true:=by simp; omega
      have c1:=HR.out.1.getD (i + 1) (by omega)
      have j2:(0:Int) ≤ (i:Int) + 1:=by omega
      have j3:(i:Int) + 1 < (l.length:Int):=by omega
      have j6:((i:Int) + 1).toNat = i + 1:=by omega
      have f2:(l.getD (i + 1) 0 == -1) = false:=by
       cases hh:(l.getD (i + 1) 0 == -1) with
       |false=>rfl
       |true=>exact absurd ⟨ht1,by simpa using hh⟩ ht
      generalize l.getD i 0 = a0 at c0 hx2
      generalize l.getD (i + 1) 0 = a1 at c1 f2
      clear ht
      cases x <;> cases x1
      all_goals
       go_wp2_with fail
       go_roundg (l.length - (i + 1))
       case measure=>omega
       case rel =>
        obtain ⟨b1,b2⟩:=HI.out
        rw [b2] at b1
        exact ⟨i + 1,_,rfl,by go_num,by omega,rfl,by simpa using b1,rfl⟩
     ·have f1:decide ((i:Int) + 2 < (l.length:Int)) = false:=by simp; omega
      generalize l.getD i 0 = a0 at c0 hx2
      clear ht
      cases x <;> cases x1
      all_goals
       go_wp2_with fail
       go_roundg (l.length - (i + 1))
       case measure=>omega
       case rel =>
        obtain ⟨b1,b2⟩:=HI.out
        rw [b2] at b1
        exact ⟨i + 1,_,rfl,by go_num,by omega,rfl,by simpa using b1,rfl⟩
   ·obtain rfl:i = l.length:=by omega
    have f0:decide ((l.length:Int) < (l.length:Int)) = false:=by simp
    rw [List.drop_length,memF_nil,Bool.or_false] at hinv
    subst hinv
    go_wp2_with fail
    go_ret
    exact ⟨by cases x <;> rfl,HR.out.2⟩
theorem allows_place {t:ByteArray} {A:Nat→Bool} (hs:t.size ≤ 120) (h:PlaceIs t 0 t.size A):AllC t A:=by
 cases h with
 |any h1 h2 h3=>exact allows_any1 t A h1 h3
 |esc h1 h2 h3 h4 h5=>exact allows_esc t A h1 h3 h5
 |cls l neg z h1 h2 h3 h4 h5=>exact allows_cls t A l neg z hs h1 h3 (by simpa using h4) h5
 |one h1 h2 h3 h4 h5 h6=>exact allows_one t A h1 h2 h3 h4 h6
end Go.Proofs.YtcckhngbdoiikaaGreat
