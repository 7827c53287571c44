import Derived.Test.YtcckhngbdoiikaaGreatG11
import Derived.Test.YtcckhngbdoiikaaGreatG12
import Derived.Test.YtcckhngbdoiikaaGreatG23
import Derived.Deep.LoopGhost
import Derived.Deep.DeepCutAuto

namespace Go.Proofs.YtcckhngbdoiikaaGreat
open Go.RowKit Go.Deep
set_option linter.unusedVariables false
inductive MT where
 |place (b i e:Nat) (A:Nat→Bool)
 |node (b:Nat) (v:Value) (k:Nat) (l:List MT)
def MT.root:MT→Nat
 | .place b _ _ _=>b
 | .node b _ _ _=>b
mutual
def MT.nt:MT→NT
 | .place b i e A=>.place i e A
 | .node b v k l=>.node k (ntL l)
def ntL:List MT→List NT
 | []=>[]
 |x :: l=>x.nt :: ntL l
end
mutual
def MT.has:MT→Nat→Prop
 | .place b _ _ _,x=>x = b
 | .node b v k l,x=>x = b∨v.ownBlock = some x∨hasL l x
def hasL:List MT→Nat→Prop
 | [],x=>False
 |y :: l,x=>y.has x∨hasL l x
end
mutual
def MT.blks:MT→List Nat
 | .place b _ _ _=>[b]
 | .node b v k l=>b :: blksL l
def blksL:List MT→List Nat
 | []=>[]
 |y :: l=>y.blks ++ blksL l
end
def prtC (k:Nat) (id:Int) (i:Nat) (t:ByteArray) (v:Value):Array Value:=#[.int .i64 (k:Int),.int .i64 id,.int .i64 (i:Int),.string t,v]
def ptrs (l:List Nat):List Value:=l.map (fun b=>.pointer (some ⟨b,0,none⟩))
def PRow (w:World) (v:Value) (l:List Nat):Prop:=w.ownsRow 0 80 1 v l.length (ptrs l)
def noT:ByteArray:=⟨#[]⟩
def nilV:Value:=.slice none 0 0
mutual
def MT.At (w:World) (s:ByteArray) (f:Nat→Int):MT→Prop
 | .place b i e A=>Blk w b (prtC 0 (f b) i (s.extract i e) nilV) 129
 | .node b v k l=>Blk w b (prtC k (f b) 0 noT v) 129∧PRow w v (l.map MT.root)∧AtL w s f l
def AtL (w:World) (s:ByteArray) (f:Nat→Int):List MT→Prop
 | []=>True
 |y :: l=>y.At w s f∧AtL w s f l
end
theorem ntL_map:∀ l:List MT,ntL l = l.map MT.nt
 | []=>rfl
 |x :: l=>by simp [ntL,ntL_map l]
theorem hasL_iff:∀ (l:List MT) (x:Nat),hasL l x↔∃ y ∈ l,y.has x
 | [],x=>by simp [hasL]
 |y :: l,x=>by simp [hasL,hasL_iff l x]
theorem AtL_iff {w:World} {s:ByteArray} {f:Nat→Int}:∀ (l:List MT),AtL w s f l↔∀ y ∈ l,y.At w s f
 | []=>by simp [AtL]
 |y :: l=>by simp [AtL,AtL_iff l]
theorem blksL_append:∀ l m:List MT,blksL (l ++ m) = blksL l ++ blksL m
 | [],m=>rfl
 |x :: l,m=>by simp [blksL,blksL_append l m]
theorem MT.has_root (T:MT):T.has T.root:=by cases T <;> simp [MT.has,MT.root]
mutual
theorem MT.blks_has:∀ (T:MT) (x:Nat),x ∈ T.blks→T.has x
 | .place b _ _ _,x,h=>by simpa [MT.blks,MT.has] using h
 | .node b v k l,x,h=>by
  simp only [MT.blks,List.mem_cons] at h
  simp only [MT.has]
  rcases h with h | h
  ·exact .inl h
  ·exact .inr (.inr (blksL_has l x h))
theorem blksL_has:∀ (l:List MT) (x:Nat),x ∈ blksL l→hasL l x
 | [],x,h=>by simp [blksL] at h
 |y :: l,x,h=>by
  simp only [blksL,List.mem_append] at h
  simp only [hasL]
  rcases h with h | h
  ·exact .inl (MT.blks_has y x h)
  ·exact .inr (blksL_has l x h)
end
mutual
theorem MT.At.kept {w w':World} {s:ByteArray} {f:Nat→Int} {ex:Nat→Prop} (k:Kept ex w w'):∀ (T:MT),T.At w s f→(∀ x,T.has x→¬ ex x)→T.At w' s f
 | .place b i e A,h,hx=>by
  simp only [MT.At] at h ⊢
  exact h.kept k (hx b (by simp [MT.has]))
 | .node b v n l,h,hx=>by
  simp only [MT.At] at h ⊢
  exact ⟨h.1.kept k (hx b (by simp [MT.has])),ownsRow_kept h.2.1 k (fun x e=>hx x (by simp [MT.has,e])),AtL.kept k l h.2.2 (fun x e=>hx x (by simp [MT.has,e]))⟩
theorem AtL.kept {w w':World} {s:ByteArray} {f:Nat→Int} {ex:Nat→Prop} (k:Kept ex w w'):∀ (l:List MT),AtL w s f l→(∀ x,hasL l x→¬ ex x)→AtL w' s f l
 | [],h,hx=>by simp [AtL]
 |y :: l,h,hx=>by
  simp only [AtL] at h ⊢
  exact ⟨MT.At.kept k y h.1 (fun x e=>hx x (by simp [hasL,e])),AtL.kept k l h.2 (fun x e=>hx x (by simp [hasL,e]))⟩
end
theorem MT.At.below {w w':World} {s:ByteArray} {f:Nat→Int} {T:MT} (h:T.At w s f) (k:Below w.heap.size w w'):T.At w' s f:=MT.At.kept (ex:=fun _=>False) (Kept.ofBelow k) T h (fun _ _ e=>e)
mutual
theorem MT.At.lt {w:World} {s:ByteArray} {f:Nat→Int}:∀ (T:MT),T.At w s f→∀ x,T.has x→x < w.heap.size
 | .place b i e A,h,x,hx=>by
  simp only [MT.At] at h
  simp only [MT.has] at hx
  rw [hx]; exact h.lt
 | .node b v n l,h,x,hx=>by
  simp only [MT.At] at h
  simp only [MT.has] at hx
  rcases hx with hx | hx | hx
  ·rw [hx]; exact h.1.lt
  ·exact ownsRow_lt h.2.1 x hx
  ·exact AtL.lt l h.2.2 x hx
theorem AtL.lt {w:World} {s:ByteArray} {f:Nat→Int}:∀ (l:List MT),AtL w s f l→∀ x,hasL l x→x < w.heap.size
 | [],h,x,hx=>by simp [hasL] at hx
 |y :: l,h,x,hx=>by
  simp only [AtL] at h
  simp only [hasL] at hx
  rcases hx with hx | hx
  ·exact MT.At.lt y h.1 x hx
  ·exact AtL.lt l h.2 x hx
end
def zeroI:Nat→Int:=fun _=>0
structure MadeP (w0 w:World) (s:ByteArray) (b k:Nat) (v:Value) (kids:List MT) (D:Nat→Prop):Prop where
 blk:Blk w b (prtC k 0 0 noT v) 129
 row:PRow w v (kids.map MT.root)
 kidsAt:AtL w s zeroI kids
 own:∀ x,hasL kids x→D x∧x ≠ b∧v.ownBlock ≠ some x
 db:D b
 dv:∀ x,v.ownBlock = some x→D x
 lt:∀ x,D x→w0.heap.size ≤ x∧x < w.heap.size
 nodup:(blksL kids).Nodup
theorem MadeP.kept {w0 w w':World} {s:ByteArray} {b k:Nat} {v:Value} {kids:List MT} {D ex:Nat→Prop} (h:MadeP w0 w s b k v kids D) (hk:Kept ex w w') (hx:∀ x,D x→¬ ex x):MadeP w0 w' s b k v kids D :=
 ⟨h.blk.kept hk (hx b h.db),ownsRow_kept h.row hk (fun x e=>hx x (h.dv x e)),AtL.kept hk kids h.kidsAt (fun x e=>hx x (h.own x e).1),h.own,h.db,h.dv,fun x e=>⟨(h.lt x e).1,Nat.lt_of_lt_of_le (h.lt x e).2 hk.size⟩,h.nodup⟩
theorem MadeP.below {w0 w w':World} {s:ByteArray} {b k:Nat} {v:Value} {kids:List MT} {D:Nat→Prop} (h:MadeP w0 w s b k v kids D) (hk:Below w.heap.size w w'):MadeP w0 w' s b k v kids D:=h.kept (ex:=fun _=>False) (Kept.ofBelow hk) (fun _ _ e=>e)
theorem MadeP.part {w0 w:World} {s:ByteArray} {b k:Nat} {v:Value} {kids:List MT} {D:Nat→Prop} (h:MadeP w0 w s b k v kids D):(MT.node b v k kids).At w s zeroI∧(∀ x,(MT.node b v k kids).has x→D x)∧(MT.node b v k kids).blks.Nodup:=by
 refine ⟨by simp only [MT.At]; exact ⟨h.blk,h.row,h.kidsAt⟩,fun x hx=>?_,?_⟩
 ·simp only [MT.has] at hx
  rcases hx with hx | hx | hx
  ·rw [hx]; exact h.db
  ·exact h.dv x hx
  ·exact (h.own x hx).1
 ·simp only [MT.blks]
  exact List.nodup_cons.2 ⟨fun e=>(h.own b (blksL_has _ _ e)).2.1 rfl,h.nodup⟩
theorem MadeP.new (w0 w:World) (s:ByteArray) (k:Nat) (hw:w0.heap.size ≤ w.heap.size):MadeP w0 (w.alloc (.cells (prtC k 0 0 noT nilV) 129)) s w.heap.size k nilV [] (fun x=>x = w.heap.size) :=
 ⟨Blk.new _ _ _,World.ownsRow_nil _ _ _ _,by simp [AtL],fun x hx=>by simp [hasL] at hx,rfl,fun x hx=>by simp [nilV,Value.ownBlock] at hx,fun x hx=>by rw [hx]; simp; exact hw,by simp [blksL]⟩
theorem MadeP.push {w0 w w6:World} {s:ByteArray} {b k g cap:Nat} {v:Value} {kids:List MT} {D E:Nat→Prop} (h:MadeP w0 w s b k v kids D) {T:MT} (hT:T.At w s zeroI) (hE:∀ x,T.has x→E x) (hED:∀ x,E x→¬ D x∧w0.heap.size ≤ x∧x < w.heap.size) (hn:T.blks.Nodup) (o:Obj)
  (hown:w6.ownsRow 0 80 1 (.slice (some ⟨g,0,none⟩) (kids.length + 1) cap) (kids.length + 1) (ptrs (kids.map MT.root) ++ [.pointer (some ⟨T.root,0,none⟩)]))
  (hg:(w.alloc o).grownBy w6 v.ownBlock) (hat:v.ownBlock = some g∨g = (w.alloc o).heap.size) (hlt:g < w6.heap.size) (hw:w0.heap.size ≤ w.heap.size) :
  MadeP w0 (w6.setCell ⟨b,4,none⟩ (.slice (some ⟨g,0,none⟩) (kids.length + 1) cap)) s b k (.slice (some ⟨g,0,none⟩) (kids.length + 1) cap) (kids ++ [T]) (fun x=>D x∨E x∨x = g) ∧
  Kept D w (w6.setCell ⟨b,4,none⟩ (.slice (some ⟨g,0,none⟩) (kids.length + 1) cap))∧Blk w6 b (prtC k 0 0 noT v) 129:=by
 have hk:Kept (fun x=>v.ownBlock = some x) w w6:=((Kept.refl _ _).alloc o).trans (Kept_grown (O:=fun x=>v.ownBlock = some x) hg (fun x e=>e)) (fun _ _ e=>e)
 have hb6:Blk w6 b (prtC k 0 0 noT v) 129:=h.blk.kept hk (fun e=>ownsRow_ne h.row h.blk (by decide) e)
 have hgb:g ≠ b:=by
  rcases hat with e | e
  ·exact fun e'=>ownsRow_ne h.row h.blk (by decide) (e' ▸ e)
  ·have:=h.blk.lt; simp at e; omega
 have hgD:D g∨w.heap.size ≤ g:=by
  rcases hat with e | e
  ·exact .inl (h.dv g e)
  ·right; simp at e; omega
 have hkD:Kept D w (w6.setCell ⟨b,4,none⟩ (.slice (some ⟨g,0,none⟩) (kids.length + 1) cap)):=(hk.weaken (fun i _ e=>h.dv i e)).setCell (p:=⟨b,4,none⟩) (fun _=>h.db) _
 have hk2:Kept (fun x=>v.ownBlock = some x∨x = b) w (w6.setCell ⟨b,4,none⟩ (.slice (some ⟨g,0,none⟩) (kids.length + 1) cap)):=(hk.weaken (fun i _ e=>.inl e)).setCell (p:=⟨b,4,none⟩) (fun _=>.inr rfl) _
 refine ⟨⟨?_,?_,?_,?_,.inl h.db,?_,?_,?_⟩,hkD,hb6⟩
 ·have:=hb6.set 4 (.slice (some ⟨g,0,none⟩) (kids.length + 1) cap)
  exact this
 ·have h1:=ownsRow_setOther hown (p:=⟨b,4,none⟩) (fun e=>hgb (Option.some.inj e)) (.slice (some ⟨g,0,none⟩) (kids.length + 1) cap)
  unfold PRow
  rw [List.map_append,List.length_append,List.length_map]
  have e:ptrs (kids.map MT.root ++ [T].map MT.root) = ptrs (kids.map MT.root) ++ [.pointer (some ⟨T.root,0,none⟩)]:=by simp [ptrs]
  rw [e]
  exact h1
 ·rw [AtL_iff]
  intro y hy
  rw [List.mem_append,List.mem_singleton] at hy
  rcases hy with hy | hy
  ·refine MT.At.kept hk2 y ((AtL_iff kids).1 h.kidsAt y hy) (fun x hx e=>?_)
   have:=h.own x ((hasL_iff kids x).2 ⟨y,hy,hx⟩)
   rcases e with e | e
   ·exact this.2.2 e
   ·exact this.2.1 e
  ·subst hy
   exact MT.At.kept hkD y hT (fun x hx=>(hED x (hE x hx)).1)
 ·intro x hx
  rw [hasL_iff] at hx
  obtain ⟨y,hy,hx⟩:=hx
  rw [List.mem_append,List.mem_singleton] at hy
  rcases hy with hy | hy
  ·have:=h.own x ((hasL_iff kids x).2 ⟨y,hy,hx⟩)
   refine ⟨.inl this.1,this.2.1,fun e=>?_⟩
   cases (Option.some.inj e:g = x)
   rcases hat with e' | e'
   ·exact this.2.2 e'
   ·have:=(h.lt g this.1).2; simp at e'; omega
  ·subst hy
   have hEx:=hED x (hE x hx)
   refine ⟨.inr (.inl (hE x hx)),fun e=>hEx.1 (e ▸ h.db),fun e=>?_⟩
   cases (Option.some.inj e:g = x)
   rcases hgD with e' | e'
   ·exact hEx.1 e'
   ·omega
 ·intro x e
  cases (Option.some.inj e:g = x)
  exact .inr (.inr rfl)
 ·intro x e
  have hz:=hkD.size
  rcases e with e | e | e
  ·have:=h.lt x e; exact ⟨this.1,by omega⟩
  ·have:=hED x e; exact ⟨this.2.1,by omega⟩
  ·subst e
   refine ⟨?_,by simpa using hlt⟩
   rcases hgD with e' | e'
   ·exact (h.lt x e').1
   ·omega
 ·rw [blksL_append,List.nodup_append]
  refine ⟨h.nodup,by simpa [blksL] using hn,fun x hx y hy e=>?_⟩
  subst e
  have h1:=(h.own x (blksL_has _ _ hx)).1
  have h2:T.has x:=MT.blks_has T x (by simpa [blksL] using hy)
  exact (hED x (hE x h2)).1 h1
def PartOut (s:ByteArray) (x:NT) (w:World) (e:Ending) (w':World):Prop :=
 ∃ T:MT,e = .returned (.pointer (some ⟨T.root,0,none⟩))∧T.nt = x∧T.At w' s zeroI∧(∀ b,T.has b→w.heap.size ≤ b)∧T.blks.Nodup∧Below w.heap.size w w'
def ExprC (s:ByteArray) (t:PT) (i j:Nat):Prop:=∀ w:World,Calls Tryz.prog 50 #[.string s,.int .i64 (i:Int),.int .i64 (j:Int)] w (PartOut s (t.nt [] []) w)
set_option maxHeartbeats 1600000 in
theorem atom_place (s:ByteArray) (i e:Nat) (A:Nat→Bool) (w:World) (hs:s.size ≤ 120) (hi:i < e) (he:e ≤ s.size) (h40:peekI s i ≠ 40) :
  Calls Tryz.prog 93 #[.string s,.int .i64 (i:Int),.int .i64 (e:Int)] w (PartOut s (.place i e A) w):=by
 have his:i < s.size:=by omega
 rw [peekI_at his] at h40
 have e0:(((s[i].toNat:Nat):Int) == 40) = false:=by simp; omega
 have i0:(0:Int) ≤ (i:Int):=by omega
 have i1:(i:Int) < (s.size:Int):=by omega
 have i2:(i:Int) ≤ (e:Int):=by omega
 have i3:(e:Int) ≤ (s.size:Int):=by omega
 have i4:(0:Int) ≤ (e:Int):=by omega
 clear h40
 go_enter Tryz.func93,Tryz.ntmps93
 go_wp2_with fail
 go_ret
 refine ⟨.place w.heap.size i e A,rfl,by simp [MT.nt],?_,fun b hb=>by simp [MT.has] at hb; omega,by simp [MT.blks],Below1 _ _⟩
 simp only [MT.At]
 exact Blk.new _ _ _
set_option maxHeartbeats 1600000 in
theorem atom_group (s:ByteArray) (t:PT) (i e:Nat) (w:World) (hs:s.size ≤ 120) (he:e < s.size) (h40:peekI s i = 40) (H:ExprC s t (i + 1) e) :
  Calls Tryz.prog 93 #[.string s,.int .i64 (i:Int),.int .i64 ((e + 1:Nat):Int)] w (PartOut s (t.nt [] []) w):=by
 have his:=peekI_in (s:=s) (p:=i) (by rw [h40]; decide)
 rw [peekI_at his] at h40
 have e0:(((s[i].toNat:Nat):Int) == 40) = true:=by simp; omega
 have i0:(0:Int) ≤ (i:Int):=by omega
 have i1:(i:Int) < (s.size:Int):=by omega
 have hw1:wrap64 ((i:Int) + 1) = ((i + 1:Nat):Int):=by unfold wrap64; omega
 have hw2:wrap64 (((e + 1:Nat):Int) - 1) = (e:Int):=by unfold wrap64; omega
 have hw3:wrap64 ((e:Int) + 1 - 1) = (e:Int):=by unfold wrap64; omega
 have HX:=hide (H w)
 clear h40 H
 go_enter Tryz.func93,Tryz.ntmps93
 go_wp2_with fail
 refine HX.out.mono ?_
 rintro e w1 ⟨T,rfl,h1,h2,h3,h4,h5⟩
 have HH:=hide (And.intro h1 (And.intro h2 (And.intro h3 (And.intro h4 h5))))
 clear h1 h2 h3 h4 h5
 go_wp2_with fail
 go_ret
 obtain ⟨h1,h2,h3,h4,h5⟩:=HH.out
 exact ⟨T,rfl,h1,h2,h3,h4,h5⟩
def GrpC (s:ByteArray):PT→Prop
 | .nil=>True
 | .bar r=>GrpC s r
 | .leaf _ _ _ _ r=>GrpC s r
 | .group t _ r=>(∀ i j,t.Sp s i j→j ≤ s.size→ExprC s t i j)∧GrpC s r
theorem sp_cases {s:ByteArray} (hs:s.size ≤ 120) {r:PT} {k j:Nat} (h:r.Sp s k j) (hj:j ≤ s.size) (hg:GrpC s r) :
  (r = .nil∧k = j)∨(∃ r',r = .bar r'∧peekI s k = 124∧k < j∧r'.Sp s (k + 1) j∧GrpC s r') ∨
  (∃ (x:NT) (e m:Nat) (r':PT),(∀ rows cur,r.nt rows cur = r'.nt rows (cur ++ [markNT m x]))∧peekI s k ≠ 124∧k < e∧e + stepM m ≤ j∧AEC s k e∧(∀ w:World,Calls Tryz.prog 93 #[.string s,.int .i64 (k:Int),.int .i64 (e:Int)] w (PartOut s x w))∧MarkOk s e m∧r'.Sp s (e + stepM m) j∧GrpC s r'):=by
 cases r with
 |nil=>exact .inl ⟨rfl,h⟩
 |bar r'=>exact .inr (.inl ⟨r',rfl,h.1,by have:=PT.sp_le h.2; omega,h.2,hg⟩)
 |leaf a e A m r' =>
  obtain ⟨rfl,h2,h3,h4,h5⟩:=h
  have hp:=place_is h2
  have hl:=hp.lt
  refine .inr (.inr ⟨.place a e A,e,m,r',fun rows cur=>rfl,fun e'=>hp.first (.inr (.inr (.inl e'))),hl.1,PT.sp_le h5,ae_place hs hp h3,fun w=>atom_place s a e A w hs hl.1 hl.2 h3,h4,h5,hg⟩)
 |group t m r' =>
  obtain ⟨h1,e,h2,h3,h4,h5⟩:=h
  have he:=peekI_in (s:=s) (p:=e) (by rw [h3]; decide)
  have hle:=PT.sp_le h2
  exact .inr (.inr ⟨t.nt [] [],e + 1,m,r',fun rows cur=>rfl,by rw [h1]; decide,by omega,PT.sp_le h5,ae_grp hs h1 h2 h3,fun w=>atom_group s t k e w hs he h1 (hg.1 _ _ h2 (by omega)),h4,h5,hg.2⟩)
theorem wrapT {w0 w:World} {s:ByteArray} {T:MT} (k:Nat) (hT:T.At w s zeroI) (hh:∀ b,T.has b→w0.heap.size ≤ b) (hn:T.blks.Nodup) (hw:w0.heap.size ≤ w.heap.size) :
  (MT.node (w.heap.size + 1) (.slice (some ⟨w.heap.size,0,none⟩) 1 1) k [T]).At ((w.alloc (.cells #[.pointer (some ⟨T.root,0,none⟩)] 80)).alloc (.cells (prtC k 0 0 noT (.slice (some ⟨w.heap.size,0,none⟩) 1 1)) 129)) s zeroI ∧
  (∀ b,(MT.node (w.heap.size + 1) (.slice (some ⟨w.heap.size,0,none⟩) 1 1) k [T]).has b→w0.heap.size ≤ b)∧(MT.node (w.heap.size + 1) (.slice (some ⟨w.heap.size,0,none⟩) 1 1) k [T]).blks.Nodup:=by
 refine ⟨?_,fun b hb=>?_,?_⟩
 ·simp only [MT.At]
  refine ⟨Blk.at1 _ _ _ _,?_,by simp only [AtL]; exact ⟨(hT.below (Below1 _ _)).below (Below1 _ _),trivial⟩⟩
  have hb:Blk ((w.alloc (.cells #[.pointer (some ⟨T.root,0,none⟩)] 80)).alloc (.cells (prtC k 0 0 noT (.slice (some ⟨w.heap.size,0,none⟩) 1 1)) 129)) w.heap.size #[.pointer (some ⟨T.root,0,none⟩)] 80:=(Blk.new w _ _).alloc _
  exact ownsRow_mk (by simp [ptrs]) hb (Nat.le_refl _) (by unfold maxLen; omega) (by simp) (by simp [ptrs])
 ·simp only [MT.has,hasL,or_false] at hb
  rcases hb with hb | hb | hb
  ·omega
  ·cases (Option.some.inj hb:w.heap.size = b); exact hw
  ·exact hh b hb
 ·simp only [MT.blks,blksL,List.append_nil]
  refine List.nodup_cons.2 ⟨fun e=>?_,hn⟩
  have:=MT.At.lt T hT _ (MT.blks_has T _ e)
  omega
theorem Tryz.infoP3:(Tryz.prog.info? 80).map (fun i=>(i.zero,i.size,i.bytes)) = some (some (.pointer none),1,8):=by kernel_rfl
structure ExInv (w wr:World) (s:ByteArray) (t r:PT) (k j ab rb:Nat) (va vr:Value) (rows cur:List MT) (D1 D2:Nat→Prop):Prop where
 sp:r.Sp s k j
 grp:GrpC s r
 nt:r.nt (ntL rows) (ntL cur) = t.nt [] []
 all:MadeP w wr s ab 2 va rows D1
 row:MadeP w wr s rb 1 vr cur D2
 dis:∀ x,D1 x→¬ D2 x
 below:Below w.heap.size w wr
 few:rows.length + cur.length ≤ k
theorem ntL_snoc (l:List MT) (x:MT):ntL (l ++ [x]) = ntL l ++ [x.nt]:=by simp [ntL_map]
theorem ExInv.bar {w wr w6:World} {s:ByteArray} {t r:PT} {k j ab rb g cap:Nat} {va vr:Value} {rows cur:List MT} {D1 D2:Nat→Prop} (h:ExInv w wr s t (.bar r) k j ab rb va vr rows cur D1 D2) (o:Obj)
  (hown:w6.ownsRow 0 80 1 (.slice (some ⟨g,0,none⟩) (rows.length + 1) cap) (rows.length + 1) (ptrs (rows.map MT.root) ++ [.pointer (some ⟨rb,0,none⟩)]))
  (hg:(wr.alloc o).grownBy w6 va.ownBlock) (hat:va.ownBlock = some g∨g = (wr.alloc o).heap.size) (hlt:g < w6.heap.size) :
  ∃ D1' D2',ExInv w ((w6.setCell ⟨ab,4,none⟩ (.slice (some ⟨g,0,none⟩) (rows.length + 1) cap)).alloc (.cells (prtC 1 0 0 noT nilV) 129)) s t r (k + 1) j ab w6.heap.size (.slice (some ⟨g,0,none⟩) (rows.length + 1) cap) nilV (rows ++ [.node rb vr 1 cur]) [] D1' D2'∧Blk w6 ab (prtC 2 0 0 noT va) 129:=by
 obtain ⟨p1,p2,p3⟩:=h.row.part
 have hz:=h.below.size
 obtain ⟨q1,q2,q3⟩:=h.all.push (T:=.node rb vr 1 cur) (E:=D2) p1 p2 (fun x hx=>⟨fun e=>h.dis x e hx,(h.row.lt x hx).1,(h.row.lt x hx).2⟩) p3 o hown hg hat hlt hz
 refine ⟨_,fun x=>x = w6.heap.size,⟨h.sp.2,h.grp,?_,q1.below (Below1 _ _),?_,fun x hx e=>?_,?_,?_⟩,q3⟩
 ·rw [ntL_snoc,← h.nt]
  show r.nt (ntL rows ++ [(MT.node rb vr 1 cur).nt]) [] = r.nt (ntL rows ++ [.node 1 (ntL cur)]) []
  simp [MT.nt]
 ·have:=MadeP.new w (w6.setCell ⟨ab,4,none⟩ (.slice (some ⟨g,0,none⟩) (rows.length + 1) cap)) s 1 (by have:=q2.size; omega)
  simpa using this
 ·have:=(q1.lt x hx).2
  simp at this; omega
 ·have hb:Below w.heap.size w (w6.setCell ⟨ab,4,none⟩ (.slice (some ⟨g,0,none⟩) (rows.length + 1) cap)):=Below_kept h.below q2 hz (fun i hi e=>by have:=(h.all.lt i e).1; omega)
  exact hb.alloc (by have:=hb.size; exact this) _
 ·have:=h.few; simp; omega
theorem ExInv.piece {w wr w2 w6:World} {s:ByteArray} {t r r':PT} {k k' j ab rb g cap:Nat} {va vr:Value} {rows cur:List MT} {D1 D2:Nat→Prop} (h:ExInv w wr s t r k j ab rb va vr rows cur D1 D2) {T:MT} {y:NT} (hy:∀ rows cur,r.nt rows cur = r'.nt rows (cur ++ [y])) (hsp:r'.Sp s k' j) (hgr:GrpC s r') (hk:k < k')
  (hb:Below wr.heap.size wr w2) (hT:T.At w2 s zeroI) (hTn:T.nt = y) (hTh:∀ b,T.has b→wr.heap.size ≤ b) (hTd:T.blks.Nodup) (o:Obj)
  (hown:w6.ownsRow 0 80 1 (.slice (some ⟨g,0,none⟩) (cur.length + 1) cap) (cur.length + 1) (ptrs (cur.map MT.root) ++ [.pointer (some ⟨T.root,0,none⟩)]))
  (hg:(w2.alloc o).grownBy w6 vr.ownBlock) (hat:vr.ownBlock = some g∨g = (w2.alloc o).heap.size) (hlt:g < w6.heap.size) :
  ∃ D2',ExInv w (w6.setCell ⟨rb,4,none⟩ (.slice (some ⟨g,0,none⟩) (cur.length + 1) cap)) s t r' k' j ab rb va (.slice (some ⟨g,0,none⟩) (cur.length + 1) cap) rows (cur ++ [T]) D1 D2'∧Blk w6 rb (prtC 1 0 0 noT vr) 129:=by
 have hz:=h.below.size
 have hz2:=hb.size
 have hrow:=h.row.below hb
 obtain ⟨q1,q2,q3⟩:=hrow.push (T:=T) (E:=fun x=>T.has x) hT (fun x hx=>hx) (fun x hx=>⟨fun e=>by have:=(h.row.lt x e).2; have:=hTh x hx; omega,by have:=hTh x hx; omega,MT.At.lt T hT x hx⟩) hTd o hown hg hat hlt (by omega)
 refine ⟨_,⟨hsp,hgr,?_,(h.all.below hb).kept q2 (fun x hx e=>h.dis x hx e),q1,fun x hx e=>?_,?_,?_⟩,q3⟩
 ·rw [ntL_snoc,hTn,← hy]; exact h.nt
 ·have hx2:=h.all.lt x hx
  rcases e with e | e | e
  ·exact h.dis x hx e
  ·have:=hTh x e; omega
  ·subst e
   rcases hat with e' | e'
   ·exact h.dis x hx (h.row.dv x e')
   ·simp at e'; omega
 ·have hb2:Below w.heap.size w w2:=Below_kept (ex:=fun _=>False) h.below (Kept.ofBelow hb) hz (fun _ _ e=>e)
  exact Below_kept hb2 q2 (by omega) (fun i hi e=>by have:=(h.row.lt i e).1; omega)
 ·have:=h.few; simp; omega
end Go.Proofs.YtcckhngbdoiikaaGreat
