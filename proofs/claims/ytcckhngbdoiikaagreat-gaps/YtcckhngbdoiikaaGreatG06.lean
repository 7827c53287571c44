import Derived.Test.YtcckhngbdoiikaaGreatG05
import Derived.Test.YtcckhngbdoiikaaGreatG03

namespace Go.Proofs.YtcckhngbdoiikaaGreat
set_option linter.unusedVariables false
theorem allLoop_le {s:ByteArray}:∀ (n:Nat) (p:Nat) (R:RulesT),p ≤ s.size→(allLoopF s n (ruleF s p R)).1 = true→(allLoopF s n (ruleF s p R)).2.1 ≤ s.size
 | 0,p,R,hp,h=>by
  obtain ⟨t,t1,_,_⟩:=ruleF_sp (s:=s) (p:=p) (R:=R) h
  exact PT.sp_top hp t1
 |n + 1,p,R,hp,h=>by
  have h1:=allLoop_ok (s:=s) _ _ h
  obtain ⟨t,t1,_,_⟩:=ruleF_sp (s:=s) (p:=p) (R:=R) h1
  unfold allLoopF at h ⊢
  by_cases hc:(ruleF s p R).1 = true∧peekI s (ruleF s p R).2.1 = 10
  ·rw [if_pos hc] at h ⊢
   have:=peekI_in (s:=s) (p:=(ruleF s p R).2.1) (by rw [hc.2]; decide)
   exact allLoop_le n _ _ (by omega) h
  ·rw [if_neg hc]
   exact PT.sp_top hp t1
def PT.bt0 (t:PT):BT:=t.bt none none
def PT.nt0 (t:PT):NT:=t.nt [] []
structure ReadT (s:ByteArray) (R:RulesT) (ts:List PT):Prop where
 sp:RSp s ts 0
 ne:∀ t ∈ ts,t.Ne false
 inv:BTInv R (ts.map PT.bt0)
 rises:Rises (posAll (ts.map PT.bt0)) 0 s.size
theorem ReadT.apart {s:ByteArray} {R:RulesT} {ts:List PT} (h:ReadT s R ts):PosApart (ts.map PT.bt0):=h.rises.nodup
theorem ReadT.same {s:ByteArray} {R:RulesT} {ts:List PT} (h:ReadT s R ts) {t:PT} (ht:t ∈ ts):SameT t.bt0 t.nt0.Word t.nt0.PLast:=PT.same0 t (h.ne t ht)
def RSetIs (ts:List PT) (w:List Nat) (l:List Bool):Prop:=l.length = 120∧∀ a,l.getD a false = true↔∃ t ∈ ts,t.nt0.PLast w a
theorem ReadT.plast {s:ByteArray} {R:RulesT} {ts:List PT} (h:ReadT s R ts) (w:List Nat) (a:Nat):(∃ t ∈ ts,t.nt0.PLast w a)↔∃ t ∈ ts.map PT.bt0,t.PLast w a:=by
 constructor
 ·rintro ⟨t,ht,h1⟩; exact ⟨t.bt0,List.mem_map_of_mem ht,((h.same ht).last w a).2 h1⟩
 ·rintro ⟨_,hm,h1⟩
  obtain ⟨t,ht,rfl⟩:=List.mem_map.1 hm
  exact ⟨t,ht,((h.same ht).last w a).1 h1⟩
theorem bools_ext {l m:List Bool} (hl:l.length = m.length) (h:∀ a,l.getD a false = true↔m.getD a false = true):l = m:=by
 refine List.ext_getElem hl fun i h1 h2=>?_
 have:=h i
 simp only [List.getD_eq_getElem?_getD,List.getElem?_eq_getElem h1,List.getElem?_eq_getElem h2,Option.getD_some] at this
 exact Bool.eq_iff_iff.2 this
theorem rset_same {s:ByteArray} {R:RulesT} {ts:List PT} (h:ReadT s R ts) {v w:List Nat} {l m:List Bool} (hv:v ≠ []) (hw:w ≠ []) (h1:RSetIs ts v l) (h2:RSetIs ts w m):l = m↔setW R v = setW R w:=by
 rw [← set_same h.inv h.apart hv hw]
 constructor
 ·rintro rfl a
  rw [← h.plast,← h.plast,← h1.2 a,← h2.2 a]
 ·intro e
  refine bools_ext (h1.1.trans h2.1.symm) fun a=>?_
  rw [h1.2 a,h2.2 a,h.plast,h.plast]
  exact e a
theorem rset_empty {s:ByteArray} {R:RulesT} {ts:List PT} (h:ReadT s R ts) {w:List Nat} {l:List Bool} (hw:w ≠ []) (h1:RSetIs ts w l):(∀ a,l.getD a false = false)↔(setW R w).isEmpty = true:=by
 rw [← set_empty h.inv hw]
 constructor
 ·intro e a hx
  have:=(h1.2 a).2 ((h.plast w a).2 hx)
  rw [e a] at this; cases this
 ·intro e a
  cases hh:l.getD a false with
  |false=>rfl
  |true=>exact absurd ((h.plast w a).1 ((h1.2 a).1 hh)) (e a)
def RTokIs (ts:List PT) (w:List Nat) (r:Int):Prop:=(r = -1∧∀ t ∈ ts,¬ t.nt0.Word w)∨∃ i,∃ h:i < ts.length,r = (i:Int)∧ts[i].nt0.Word w∧∀ j,(hj:j < i)→¬ (ts[j]'(by omega)).nt0.Word w
theorem ReadT.tok {s:ByteArray} {R:RulesT} {ts:List PT} (h:ReadT s R ts) {w:List Nat} (hw:w ≠ []) {r:Int} (hr:RTokIs ts w r):r = R.rule (setW R w):=by
 refine BTokIs.one ?_ (rule_btok h.inv w hw)
 rcases hr with ⟨h1,h2⟩ | ⟨i,hi,h1,h2,h3⟩
 ·refine .inl ⟨h1,fun i hi hW=>?_⟩
  simp only [List.length_map] at hi
  rw [List.getElem_map] at hW
  exact h2 ts[i] (List.getElem_mem hi) (((h.same (List.getElem_mem hi)).word w).1 hW)
 ·refine .inr ⟨i,by simpa using hi,h1,?_,fun j hj hW=>?_⟩
  ·rw [List.getElem_map]; exact ((h.same (List.getElem_mem hi)).word w).2 h2
  ·rw [List.getElem_map] at hW
   exact h3 j hj (((h.same (List.getElem_mem (by omega))).word w).1 hW)
def seg (L:List Nat) (p q:Nat):List Nat:=(L.drop p).take (q - p)
theorem seg_len {L:List Nat} {p q:Nat} (h:q ≤ L.length):(seg L p q).length = q - p:=by simp [seg]; omega
theorem seg_join {L:List Nat} {p m q:Nat} (h1:p ≤ m) (h2:m ≤ q):seg L p m ++ seg L m q = seg L p q:=by
 unfold seg
 have e:L.drop m = (L.drop p).drop (m - p):=by rw [List.drop_drop]; congr 1; omega
 have e2:q - p = (m - p) + (q - m):=by omega
 rw [e,e2,List.take_add]
theorem seg_split {L:List Nat} {p q:Nat} {u v:List Nat} (hpq:p ≤ q) (hq:q ≤ L.length) (h:seg L p q = u ++ v):∃ m,p ≤ m∧m ≤ q∧seg L p m = u∧seg L m q = v:=by
 have hl:=seg_len (L:=L) (p:=p) hq
 rw [h] at hl
 simp at hl
 have h2:=seg_join (L:=L) (p:=p) (m:=p + u.length) (q:=q) (by omega) (by omega)
 rw [h] at h2
 have h3:=List.append_inj h2 (by rw [seg_len (by omega)]; omega)
 exact ⟨p + u.length,by omega,by omega,h3.1,h3.2⟩
theorem seg_nil {L:List Nat} {p q:Nat} (hpq:p ≤ q) (hq:q ≤ L.length) (h:seg L p q = []):p = q:=by
 have:=seg_len (L:=L) (p:=p) hq
 rw [h] at this
 simp at this
 omega
theorem seg_self (L:List Nat) (p:Nat):seg L p p = []:=by simp [seg]
theorem seg_one {L:List Nat} {p:Nat} (h:p < L.length):seg L p (p + 1) = [L[p]]:=by
 unfold seg
 rw [show p + 1 - p = 1 by omega,List.drop_eq_getElem_cons h]; rfl
def EndsW (L:List Nat) (P:List Nat→Prop) (p q:Nat):Prop:=p ≤ q∧q ≤ L.length∧P (seg L p q)
noncomputable def rowW (L:List Nat) (P:List Nat→Prop) (p:Nat):List Bool:=(List.range (L.length + 1)).map (fun q=>@decide (EndsW L P p q) (Classical.propDecidable _))
theorem rowW_len (L:List Nat) (P:List Nat→Prop) (p:Nat):(rowW L P p).length = L.length + 1:=by simp [rowW]
theorem rowW_get {L:List Nat} {P:List Nat→Prop} {p q:Nat} (h:q < (rowW L P p).length):(rowW L P p)[q] = true↔EndsW L P p q:=by
 simp [rowW]
theorem rowW_getD {L:List Nat} {P:List Nat→Prop} {p q:Nat}:(rowW L P p).getD q false = true↔EndsW L P p q:=by
 by_cases h:q < (rowW L P p).length
 ·rw [List.getD_eq_getElem?_getD,List.getElem?_eq_getElem h]
  exact rowW_get h
 ·rw [List.getD_eq_getElem?_getD,List.getElem?_eq_none (by omega)]
  rw [rowW_len] at h
  constructor
  ·intro e; cases e
  ·intro e; have:=e.2.1; omega
theorem rowW_ext {L:List Nat} {P:List Nat→Prop} {p:Nat} {l:List Bool} (hl:l.length = L.length + 1) (h:∀ q,q ≤ L.length→(l.getD q false = true↔EndsW L P p q)):l = rowW L P p:=by
 refine List.ext_getElem (by rw [hl,rowW_len]) fun q h1 h2=>?_
 rw [Bool.eq_iff_iff,rowW_get h2,← h q (by omega)]
 simp [h1]
theorem ends_row {L:List Nat} {P Q:List Nat→Prop} {p q:Nat}:EndsW L (fun w=>∃ u v,w = u ++ v∧P u∧Q v) p q↔∃ m,EndsW L P p m∧EndsW L Q m q:=by
 constructor
 ·rintro ⟨h1,h2,u,v,h3,h4,h5⟩
  obtain ⟨m,h6,h7,h8,h9⟩:=seg_split h1 h2 h3
  exact ⟨m,⟨h6,by omega,h8 ▸ h4⟩,⟨h7,h2,h9 ▸ h5⟩⟩
 ·rintro ⟨m,⟨h1,h2,h3⟩,⟨h4,h5,h6⟩⟩
  exact ⟨by omega,h5,_,_,(seg_join h1 h4).symm,h3,h6⟩
theorem ends_or {L:List Nat} {P Q:List Nat→Prop} {p q:Nat}:EndsW L (fun w=>P w∨Q w) p q↔(EndsW L P p q∨EndsW L Q p q):=by
 constructor
 ·rintro ⟨h1,h2,h3 | h3⟩
  ·exact .inl ⟨h1,h2,h3⟩
  ·exact .inr ⟨h1,h2,h3⟩
 ·rintro (⟨h1,h2,h3⟩ | ⟨h1,h2,h3⟩)
  ·exact ⟨h1,h2,.inl h3⟩
  ·exact ⟨h1,h2,.inr h3⟩
theorem ends_maybe {L:List Nat} {P:List Nat→Prop} {p q:Nat} (hp:p ≤ L.length):EndsW L (fun w=>w = []∨P w) p q↔(q = p∨EndsW L P p q):=by
 constructor
 ·rintro ⟨h1,h2,h3 | h3⟩
  ·exact .inl (seg_nil h1 h2 h3).symm
  ·exact .inr ⟨h1,h2,h3⟩
 ·rintro (rfl | ⟨h1,h2,h3⟩)
  ·exact ⟨Nat.le_refl _,hp,.inl (seg_self _ _)⟩
  ·exact ⟨h1,h2,.inr h3⟩
def LowIs (al:Nat→PSet) (b k:Nat):Prop:=k ≤ b∧al k = al b∧∀ j,j < k→al j ≠ al b
theorem kinds_mem (al:Nat→PSet):∀ n s,s ∈ kindsAt al n→∃ b,b < n∧al b = s
 | 0,s,h=>by simp [kindsAt] at h
 |n + 1,s,h=>by
  unfold kindsAt at h
  split at h
  ·rw [List.mem_append,List.mem_singleton] at h
   rcases h with h | h
   ·obtain ⟨b,h1,h2⟩:=kinds_mem al n s h; exact ⟨b,by omega,h2⟩
   ·exact ⟨n,by omega,h.symm⟩
  ·obtain ⟨b,h1,h2⟩:=kinds_mem al n s h; exact ⟨b,by omega,h2⟩
theorem idxF_lt:∀ (l:List PSet) (s:PSet),s ∈ l→idxF l s < l.length
 | [],s,h=>by simp at h
 |x :: r,s,h=>by
  unfold idxF
  split
  ·simp
  ·rename_i e
   rw [List.mem_cons] at h
   rcases h with h | h
   ·exact absurd h.symm e
   ·have:=idxF_lt r s h; simp; omega
theorem idxF_not:∀ (l:List PSet) (s:PSet),s ∉ l→idxF l s = l.length
 | [],s,h=>rfl
 |x :: r,s,h=>by
  unfold idxF
  rw [List.mem_cons,not_or] at h
  rw [if_neg (fun e=>h.1 e.symm),idxF_not r s h.2]
  simp
theorem idxF_prefix:∀ {l m:List PSet} {s:PSet},l <+: m→s ∈ l→idxF m s = idxF l s
 | [],m,s,_,h=>by simp at h
 |x :: l,[],s,hp,h=>by have:=hp.length_le; simp at this
 |x :: l,y :: m,s,hp,h=>by
  obtain ⟨r,hr⟩:=hp
  injection hr with e1 e2
  subst e1
  unfold idxF
  split
  ·rfl
  ·rename_i e
   rw [List.mem_cons] at h
   rcases h with h | h
   ·exact absurd h.symm e
   ·rw [idxF_prefix ⟨r,e2⟩ h]
theorem kind_same {al:Nat→PSet} {b k:Nat} (h:LowIs al b k) (hk:k < b):kindOf al b = kindOf al k∧kindsAt al (b + 1) = kindsAt al b:=by
 have hm:=kindOf_get al k (k + 1) (by omega)
 have hp:kindsAt al (k + 1) <+: kindsAt al b:=by
  have:=kindsAt_prefix al (k + 1) (b - (k + 1))
  rwa [show k + 1 + (b - (k + 1)) = b by omega] at this
 have hmem:al k ∈ kindsAt al (k + 1):=by
  rw [← hm.2,List.getD_eq_getElem?_getD,List.getElem?_eq_getElem hm.1]
  exact List.getElem_mem _
 have e1:idxF (kindsAt al b) (al b) = idxF (kindsAt al (k + 1)) (al k):=by rw [← h.2.1]; exact idxF_prefix hp hmem
 have hlt:=idxF_lt (kindsAt al b) (al b) (by rw [← h.2.1]; exact hp.subset hmem)
 refine ⟨?_,by rw [kindsAt,if_neg (by omega)]⟩
 unfold kindOf
 rw [e1]
 have e2:kindsAt al (k + 1) = (if idxF (kindsAt al k) (al k) = (kindsAt al k).length then kindsAt al k ++ [al k] else kindsAt al k):=rfl
 rw [e2]
 have hl:=idxF_le (kindsAt al k) (al k)
 split
 ·rename_i hx
  have hn:=idxF_mem _ _ hx
  rw [hx]
  have:∀ (l:List PSet) (s:PSet),s ∉ l→idxF (l ++ [s]) s = l.length:=by
   intro l s hs
   induction l with
   |nil=>simp [idxF]
   |cons x r ih =>
    rw [List.mem_cons,not_or] at hs
    show (if x = s then 0 else idxF (r ++ [s]) s + 1) = _
    rw [if_neg (fun e=>hs.1 e.symm),ih hs.2]; simp
  exact this _ _ hn
 ·rfl
theorem kind_new {al:Nat→PSet} {b:Nat} (h:LowIs al b b):kindOf al b = (kindsAt al b).length∧kindsAt al (b + 1) = kindsAt al b ++ [al b]:=by
 have hn:al b ∉ kindsAt al b:=fun e=>by
  obtain ⟨j,h1,h2⟩:=kinds_mem al b _ e
  exact h.2.2 j h1 h2
 have:=idxF_not _ _ hn
 exact ⟨this,by rw [kindsAt,if_pos this]⟩
theorem rowF_snoc (aft k:PSet):∀ (K S:List PSet),rowF aft (K ++ [k]) S = ((rowF aft K S).1 ++ [findF (rowF aft K S).2 (aft.and k)],if findF (rowF aft K S).2 (aft.and k) = ((rowF aft K S).2.length:Int) then (rowF aft K S).2 ++ [aft.and k] else (rowF aft K S).2)
 | [],S=>rfl
 |x :: K,S=>by
  show (_ :: (rowF aft (K ++ [k]) _).1,(rowF aft (K ++ [k]) _).2) = _
  rw [rowF_snoc aft k K]
  rfl
theorem rowF_prefix (aft:PSet) (K S:List PSet):S <+: (rowF aft K S).2:=(rowF_sets aft K S).1
theorem rowF_more (aft:PSet):∀ (M K S:List PSet),(rowF aft K S).2 <+: (rowF aft (K ++ M) S).2
 | [],K,S=>by simp
 |m :: M,K,S=>by
  have h:=rowF_more aft M (K ++ [m]) S
  rw [List.append_assoc] at h
  refine List.IsPrefix.trans ?_ h
  rw [rowF_snoc]
  simp only
  split
  ·exact List.prefix_append _ _
  ·exact List.prefix_refl _
def aftF (R:RulesT) (S:List PSet) (n:Nat):PSet:=if 0 < n then R.after (S.getD n PSet.none) else R.first
theorem aftF_prefix {R:RulesT} {S S':List PSet} {n:Nat} (h:S <+: S') (hn:n < S.length):aftF R S' n = aftF R S n:=by
 unfold aftF; rw [prefix_getD h hn]
structure TextsOf (R:RulesT) (S:List PSet) (T:List (List Nat)):Prop where
 len:T.length = S.length
 pos:0 < S.length
 zero:S.getD 0 PSet.none = PSet.none∧T.getD 0 [] = []
 bytes:∀ i,∀ x ∈ T.getD i [],x < 256
 set:∀ i,0 < i→i < S.length→T.getD i [] ≠ []∧setW R (T.getD i []) = S.getD i PSet.none∧(S.getD i PSet.none).isEmpty = false
 short:∀ i,(T.getD i []).length ≤ i
theorem TextsOf.next {R:RulesT} {S:List PSet} {T:List (List Nat)} (h:TextsOf R S T) {n:Nat} (hn:n < S.length) (b:Nat):setW R (T.getD n [] ++ [b]) = (aftF R S n).and (R.allow b):=by
 unfold aftF
 by_cases h0:0 < n
 ·obtain ⟨h1,h2,_⟩:=h.set n h0 hn
  rw [if_pos h0,setW_snoc R b _ h1,h2]; rfl
 ·rw [if_neg h0,show n = 0 by omega,h.zero.2]; rfl
theorem TextsOf.push {R:RulesT} {S:List PSet} {T:List (List Nat)} (h:TextsOf R S T) {n b:Nat} (hn:n < S.length) (hb:b < 256) (he:((aftF R S n).and (R.allow b)).isEmpty = false):TextsOf R (S ++ [(aftF R S n).and (R.allow b)]) (T ++ [T.getD n [] ++ [b]]):=by
 have hx:=h.next hn b
 have hl:=h.len
 refine ⟨by simp [h.len],by simp,⟨by rw [getD_snoc,if_pos h.pos]; exact h.zero.1,by rw [getD_snoc,if_pos (by rw [h.len]; exact h.pos)]; exact h.zero.2⟩,fun i x hi=>?_,fun i h0 hi=>?_,fun i=>?_⟩
 ·rw [getD_snoc] at hi
  split at hi
  ·exact h.bytes i x hi
  ·split at hi
   ·rw [List.mem_append,List.mem_singleton] at hi
    rcases hi with hi | hi
    ·exact h.bytes n x hi
    ·omega
   ·simp at hi
 ·simp only [List.length_append,List.length_cons,List.length_nil] at hi
  rw [getD_snoc,getD_snoc,h.len]
  split
  ·rename_i h1; exact h.set i h0 h1
  ·rw [if_pos (by omega),if_pos (by omega)]
   exact ⟨by simp,hx,he⟩
 ·rw [getD_snoc]
  split
  ·exact h.short i
  ·split
   ·have:=h.short n; rw [List.length_append,List.length_singleton]; omega
   ·simp
structure FindInv (R:RulesT) (n:Nat) (S:List PSet) (g:Graph) (T:List (List Nat)):Prop where
 loop:exploreF R (kindsAt R.allow 256) = exploreLoop R (kindsAt R.allow 256) (63 - n) n S g
 le:n ≤ S.length
 top:S.length ≤ 61
 texts:TextsOf R S T
 nodup:S.Nodup
 ex:ExOk R (kindsAt R.allow 256) S g n
theorem FindInv.start (R:RulesT):FindInv R 0 [PSet.none] Graph.new [[]] :=
 ⟨rfl,by simp,by simp,⟨rfl,by simp,⟨rfl,rfl⟩,fun i x hx=>by cases i <;> simp at hx,fun i h0 hi=>by simp at hi; omega,fun i=>by cases i <;> simp⟩,by simp,
  ⟨rfl,rfl,⟨by simp,rfl⟩,fun j hj=>by omega,fun j hj=>by omega,fun j hj=>by omega⟩⟩
structure RowInv (R:RulesT) (n b:Nat) (S0 S:List PSet) (T:List (List Nat)) (row:List Int):Prop where
 sets:S = (rowF (aftF R S0 n) (kindsAt R.allow b) S0).2
 row:row = (rowF (aftF R S0 n) (kindsAt R.allow b) S0).1
 top:S.length ≤ 61
 texts:TextsOf R S T
 nodup:S.Nodup
theorem RowInv.start {R:RulesT} {n:Nat} {S:List PSet} {g:Graph} {T:List (List Nat)} (h:FindInv R n S g T):RowInv R n 0 S S T []:=⟨rfl,rfl,h.top,h.texts,h.nodup⟩
theorem RowInv.skip {R:RulesT} {n b k:Nat} {S0 S:List PSet} {T:List (List Nat)} {row:List Int} (h:RowInv R n b S0 S T row) (hl:LowIs R.allow b k) (hk:k < b):RowInv R n (b + 1) S0 S T row:=by
 have:=(kind_same hl hk).2
 exact ⟨by rw [this]; exact h.sets,by rw [this]; exact h.row,h.top,h.texts,h.nodup⟩
theorem RowInv.pre {R:RulesT} {n b:Nat} {S0 S:List PSet} {T:List (List Nat)} {row:List Int} (h:RowInv R n b S0 S T row):S0 <+: S:=by rw [h.sets]; exact rowF_prefix _ _ _
theorem RowInv.set {R:RulesT} {n b:Nat} {S0 S:List PSet} {T:List (List Nat)} {row:List Int} (h:RowInv R n b S0 S T row) (hn:n < S0.length) (c:Nat):setW R (T.getD n [] ++ [c]) = (aftF R S0 n).and (R.allow c):=by
 have:=h.pre.length_le
 rw [h.texts.next (by omega),aftF_prefix h.pre hn]
theorem RowInv.known {R:RulesT} {n b:Nat} {S0 S:List PSet} {T:List (List Nat)} {row:List Int} (h:RowInv R n b S0 S T row) (hn:n < S0.length) (hl:LowIs R.allow b b) (hk:findF S (setW R (T.getD n [] ++ [b])) ≠ (S.length:Int)) :
  RowInv R n (b + 1) S0 S T (row ++ [findF S (setW R (T.getD n [] ++ [b]))]):=by
 rw [h.set hn] at hk ⊢
 have e:=(kind_new hl).2
 refine ⟨?_,?_,h.top,h.texts,h.nodup⟩
 ·rw [e,rowF_snoc,← h.sets]; simp only; rw [if_neg hk]
 ·rw [e,rowF_snoc,← h.sets,← h.row]
theorem RowInv.fresh {R:RulesT} {n b:Nat} {S0 S:List PSet} {T:List (List Nat)} {row:List Int} (h:RowInv R n b S0 S T row) (hn:n < S0.length) (hb:b < 256) (hl:LowIs R.allow b b) (hk:findF S (setW R (T.getD n [] ++ [b])) = (S.length:Int)) (ht:S.length + 1 ≤ 61) :
  RowInv R n (b + 1) S0 (S ++ [setW R (T.getD n [] ++ [b])]) (T ++ [T.getD n [] ++ [b]]) (row ++ [(S.length:Int)]):=by
 have hlen:=h.pre.length_le
 have hs:=h.set hn b
 rw [hs] at hk ⊢
 have e:=(kind_new hl).2
 have hne:((aftF R S0 n).and (R.allow b)).isEmpty = false:=by
  cases hc:((aftF R S0 n).and (R.allow b)).isEmpty with
  |false=>rfl
  |true=>unfold findF at hk; rw [hc] at hk; simp at hk
 refine ⟨?_,?_,by simp; omega,?_,?_⟩
 ·rw [e,rowF_snoc,← h.sets]; simp only; rw [if_pos hk]
 ·rw [e,rowF_snoc,← h.sets,← h.row,hk]
 ·have:=h.texts.push (n:=n) (b:=b) (by omega) hb (by rw [aftF_prefix h.pre hn]; exact hne)
  rw [aftF_prefix h.pre hn] at this
  exact this
 ·rw [List.nodup_append]
  refine ⟨h.nodup,by simp,fun x hx y hy=>?_⟩
  rw [List.mem_singleton] at hy
  subst hy
  intro exy
  subst exy
  have:=idxF_lt _ _ hx
  unfold findF at hk
  rw [hne] at hk
  simp at hk
  omega
theorem RowInv.fail {R:RulesT} {n b:Nat} {S0 S:List PSet} {T:List (List Nat)} {row:List Int} {g:Graph} {T0:List (List Nat)} (h:RowInv R n b S0 S T row) (hi:FindInv R n S0 g T0) (hn:n < S0.length) (hb:b < 256) (hl:LowIs R.allow b b) (hk:findF S (setW R (T.getD n [] ++ [b])) = (S.length:Int)) (ht:61 < S.length + 1) :
  exploreF R (kindsAt R.allow 256) = none:=by
 have hs:=h.set hn b
 rw [hs] at hk
 have e:=(kind_new hl).2
 have hp:kindsAt R.allow (b + 1) <+: kindsAt R.allow 256:=by
  have:=kindsAt_prefix R.allow (b + 1) (256 - (b + 1))
  rwa [show b + 1 + (256 - (b + 1)) = 256 by omega] at this
 obtain ⟨M,hM⟩:=hp
 have hlen:=(rowF_more (aftF R S0 n) M (kindsAt R.allow (b + 1)) S0).length_le
 rw [hM] at hlen
 have:(rowF (aftF R S0 n) (kindsAt R.allow (b + 1)) S0).2.length = S.length + 1:=by
  rw [e,rowF_snoc,← h.sets]; simp only; rw [if_pos hk]; simp
 rw [hi.loop]
 have:=hi.top
 rw [show 63 - n = (62 - n) + 1 by omega,exploreLoop,if_pos hn]
 simp only
 rw [if_pos]
 show 61 < (rowF (aftF R S0 n) _ S0).2.length
 omega
theorem rowK_len (aft:PSet) (K S:List PSet):(rowF aft K S).1.length = K.length:=(rowF_sets aft K S).2.1
theorem RowInv.done {R:RulesT} {n:Nat} {S0 S:List PSet} {T:List (List Nat)} {row:List Int} {g:Graph} {T0:List (List Nat)} (h:RowInv R n 256 S0 S T row) (hi:FindInv R n S0 g T0) (hn:n < S0.length) :
  FindInv R (n + 1) S ⟨g.rule ++ [R.rule (S.getD n PSet.none)],g.next ++ [row]⟩ T:=by
 have htop:=hi.top
 have hlen:=h.pre.length_le
 have ho:=hi.ex
 have hr:=rowF_sets (aftF R S0 n) (kindsAt R.allow 256) S0
 rw [← h.sets,← h.row] at hr
 refine ⟨?_,by omega,h.top,h.texts,h.nodup,?_⟩
 ·rw [hi.loop,show 63 - n = (62 - n) + 1 by omega,exploreLoop,if_pos hn]
  have e:(if 0 < n then R.after (S0.getD n PSet.none) else R.first) = aftF R S0 n:=rfl
  simp only
  rw [e,← h.sets,← h.row,if_neg (by have:=h.top; omega),show 63 - (n + 1) = 62 - n by omega]
 ·refine ⟨by simp [ho.rl],by simp [ho.nl],⟨h.texts.pos,h.texts.zero.1⟩,fun j hj=>?_,fun j hj=>?_,fun j hj k hk=>?_⟩
  ·rw [getD_snoc,ho.rl]
   split
   ·rename_i h1; rw [ho.rule j h1,prefix_getD hr.1 (by omega)]
   ·rw [if_pos (by omega),show j = n by omega]
  ·rw [getD_snoc,ho.nl]
   split
   ·rename_i h1; exact ho.row j h1
   ·rw [if_pos (by omega)]; exact hr.2.1
  ·rw [getD_snoc,ho.nl]
   split
   ·rename_i h1
    rw [prefix_getD hr.1 (by omega:j < S0.length)]
    exact (ho.next j h1 k hk).mono hr.1
   ·rw [if_pos (by omega),prefix_getD hr.1 (by omega:j < S0.length),show j = n by omega]
    exact hr.2.2 k hk
theorem FindInv.done {R:RulesT} {n:Nat} {S:List PSet} {g:Graph} {T:List (List Nat)} (h:FindInv R n S g T) (hn:S.length ≤ n):exploreF R (kindsAt R.allow 256) = some g:=by
 have:=h.le
 have:=h.top
 rw [h.loop,show 63 - n = (62 - n) + 1 by omega,exploreLoop,if_neg (by omega)]
theorem RowInv.get {R:RulesT} {n b:Nat} {S0 S:List PSet} {T:List (List Nat)} {row:List Int} (h:RowInv R n b S0 S T row):row.length = (kindsAt R.allow b).length:=by rw [h.row,rowK_len]
def BT.Tw (a b:Nat):BT→Prop
 | .leaf _ A=>A a = A b
 | .row l r=>l.Tw a b∧r.Tw a b
 | .or l r=>l.Tw a b∧r.Tw a b
 | .plus l=>l.Tw a b
 | .maybe l=>l.Tw a b
def TwR (a b:Nat) (R:RulesT):Prop:=∀ q,R.A q a↔R.A q b
theorem bglush_tw (a b:Nat):∀ (t:BT) (R:RulesT),R.follow.length + t.places ≤ 128→Closed R→(TwR a b (t.glush R).2↔(TwR a b R∧t.Tw a b))
 | .leaf i A,R,hn,hc=>by
  simp only [BT.places] at hn
  have hA:∀ p x,(R.add A).A p x↔(R.A p x∨(p = R.follow.length∧A x = true)):=by
   intro p x
   unfold RulesT.A RulesT.add addAllow
   simp only
   split
   ·rename_i hx
    rw [has_or,has_only _ _ (by omega),hx]
    simp only [Bool.or_eq_true,decide_eq_true_eq,and_true]
    exact or_congr Iff.rfl ⟨fun e=>e.symm,fun e=>e.symm⟩
   ·rename_i hx
    simp [hx]
  show TwR a b (R.add A)↔_
  unfold TwR
  simp only [hA,BT.Tw]
  constructor
  ·intro h
   refine ⟨fun q=>?_,?_⟩
   ·have:=h q
    have h1:=hc.2 q a
    have h2:=hc.2 q b
    constructor
    ·intro e
     rcases this.1 (.inl e) with x | x
     ·exact x
     ·have:=h1 e; omega
    ·intro e
     rcases this.2 (.inl e) with x | x
     ·exact x
     ·have:=h2 e; omega
   ·have:=h R.follow.length
    have n1:¬ R.A R.follow.length a:=fun e=>by have:=hc.2 _ _ e; omega
    have n2:¬ R.A R.follow.length b:=fun e=>by have:=hc.2 _ _ e; omega
    simp only [n1,n2,false_or,true_and] at this
    exact Bool.eq_iff_iff.2 this
  ·rintro ⟨h1,h2⟩ q
   rw [h1 q,h2]
 | .row l r,R,hn,hc=>by
  simp only [BT.places] at hn
  have c1:=fits_closed (bglush_fits l R (by omega)) hc
  have i1:=bglush_tw a b l R (by omega) hc
  have i2:=bglush_tw a b r (l.glush R).2 (by rw [bglush_len]; omega) c1
  show TwR a b (r.glush (l.glush R).2).2↔_
  rw [i2,i1,and_assoc]; rfl
 | .or l r,R,hn,hc=>by
  simp only [BT.places] at hn
  have c1:=fits_closed (bglush_fits l R (by omega)) hc
  have i1:=bglush_tw a b l R (by omega) hc
  have i2:=bglush_tw a b r (l.glush R).2 (by rw [bglush_len]; omega) c1
  show TwR a b (r.glush (l.glush R).2).2↔_
  rw [i2,i1,and_assoc]; rfl
 | .plus l,R,hn,hc=>bglush_tw a b l R hn hc
 | .maybe l,R,hn,hc=>bglush_tw a b l R hn hc
theorem bglushAll_tw (a b:Nat):∀ (ts us:List BT) (R:RulesT),BTInv R us→R.follow.length + bplaces ts ≤ 128→(TwR a b (bglushAll ts R)↔(TwR a b R∧∀ t ∈ ts,t.Tw a b))
 | [],us,R,h,hn=>by simp [bglushAll]
 |t :: ts,us,R,h,hn=>by
  unfold bplaces at hn
  unfold bglushAll
  have i1:=bglush_tw a b t R (by omega) h.closed
  have i2:=bglushAll_tw a b ts (us ++ [t]) _ (h.step t (by omega)) (by show (t.glush R).2.follow.length + _ ≤ 128; rw [bglush_len]; omega)
  rw [i2]
  have e:TwR a b ((t.glush R).2.endRule (t.glush R).1)↔TwR a b (t.glush R).2:=Iff.rfl
  rw [e,i1,and_assoc]
  simp
theorem brules_tw (a b:Nat) (ts:List BT) (hn:bplaces ts ≤ 128):(bglushAll ts RulesT.new).allow a = (bglushAll ts RulesT.new).allow b↔∀ t ∈ ts,t.Tw a b:=by
 have h:=bglushAll_tw a b ts [] RulesT.new BTInv.new (by simp [RulesT.new]; exact hn)
 have h0:TwR a b RulesT.new:=fun q=>by simp [RulesT.A,RulesT.new]
 have e:(bglushAll ts RulesT.new).allow a = (bglushAll ts RulesT.new).allow b↔TwR a b (bglushAll ts RulesT.new):=by
  constructor
  ·intro e q; unfold RulesT.A; rw [e]
  ·intro e
   exact pset_ext fun q=>Bool.eq_iff_iff.2 (e q)
 rw [e,h]
 simp [h0]
mutual
def NT.Tw (a b:Nat):NT→Prop
 | .place i e A=>A a = A b
 | .node k l=>twL a b l
def twL (a b:Nat):List NT→Prop
 | []=>True
 |x :: l=>x.Tw a b∧twL a b l
end
theorem twL_iff (a b:Nat):∀ l:List NT,twL a b l↔∀ x ∈ l,x.Tw a b
 | []=>by simp [twL]
 |x :: l=>by simp [twL,twL_iff a b l]
theorem node_tw (a b k:Nat) (l:List NT):(NT.node k l).Tw a b↔∀ x ∈ l,x.Tw a b:=by rw [NT.Tw,twL_iff]
def PT.Tw (a b:Nat):PT→Prop
 | .nil=>True
 | .bar r=>r.Tw a b
 | .leaf i e A m r=>A a = A b∧r.Tw a b
 | .group t m r=>t.Tw a b∧r.Tw a b
theorem mark_tw (a b m:Nat) (t:BT):(markBT m t).Tw a b↔t.Tw a b:=by
 unfold markBT
 split
 ·rfl
 ·split
  ·rfl
  ·split <;> rfl
theorem markN_tw (a b m:Nat) (x:NT):(markNT m x).Tw a b↔x.Tw a b:=by
 unfold markNT
 split
 ·simp [node_tw]
 ·split
  ·simp [node_tw]
  ·split
   ·simp [node_tw]
   ·rfl
def twO (a b:Nat):Option BT→Prop
 |none=>True
 |some t=>t.Tw a b
theorem chainO_tw (a b:Nat) (c:Option BT) (x:BT):(chainO c x).Tw a b↔(twO a b c∧x.Tw a b):=by cases c <;> simp [chainO,twO,BT.Tw]
theorem joinO_tw (a b:Nat) (c:Option BT) (x:BT):(joinO c x).Tw a b↔(twO a b c∧x.Tw a b):=by cases c <;> simp [joinO,twO,BT.Tw]
theorem dead_tw (a b:Nat) (c:Option BT):(c.getD deadBT).Tw a b↔twO a b c:=by cases c <;> simp [twO,deadBT,BT.Tw]
theorem PT.bt_tw (a b:Nat):∀ (t:PT) (acc cur:Option BT),(t.bt acc cur).Tw a b↔(twO a b acc∧twO a b cur∧t.Tw a b)
 | .nil,acc,cur=>by simp only [PT.bt,joinO_tw,dead_tw,PT.Tw,and_true]
 | .bar r,acc,cur=>by
  simp only [PT.bt,PT.bt_tw a b r,PT.Tw]
  simp only [twO,joinO_tw,dead_tw,true_and,and_assoc]
 | .leaf i e A m r,acc,cur=>by
  simp only [PT.bt,PT.bt_tw a b r,PT.Tw]
  simp only [twO,chainO_tw,mark_tw,BT.Tw,and_assoc]
 | .group t m r,acc,cur=>by
  simp only [PT.bt,PT.bt_tw a b r,PT.Tw]
  simp only [twO,chainO_tw,mark_tw,PT.bt_tw a b t,true_and,and_assoc]
theorem PT.nt_tw (a b:Nat):∀ (t:PT) (rows cur:List NT),(t.nt rows cur).Tw a b↔((∀ x ∈ rows,x.Tw a b)∧(∀ x ∈ cur,x.Tw a b)∧t.Tw a b)
 | .nil,rows,cur=>by
  simp only [PT.nt,PT.Tw,and_true]
  rw [node_tw]
  simp only [List.mem_append,List.mem_singleton]
  constructor
  ·intro h
   exact ⟨fun x hx=>h x (.inl hx),(node_tw a b 1 cur).1 (h _ (.inr rfl))⟩
  ·rintro ⟨h1,h2⟩ x (hx | rfl)
   ·exact h1 x hx
   ·exact (node_tw a b 1 cur).2 h2
 | .bar r,rows,cur=>by
  simp only [PT.nt,PT.nt_tw a b r,PT.Tw,List.mem_append,List.mem_singleton]
  constructor
  ·rintro ⟨h,_,h3⟩
   exact ⟨fun x hx=>h x (.inl hx),(node_tw a b 1 cur).1 (h _ (.inr rfl)),h3⟩
  ·rintro ⟨h1,h2,h3⟩
   refine ⟨?_,by simp,h3⟩
   rintro x (hx | rfl)
   ·exact h1 x hx
   ·exact (node_tw a b 1 cur).2 h2
 | .leaf i e A m r,rows,cur=>by
  simp only [PT.nt,PT.nt_tw a b r,PT.Tw,List.mem_append,List.mem_singleton]
  have hm:=markN_tw a b m (.place i e A)
  rw [NT.Tw] at hm
  constructor
  ·rintro ⟨h1,h2,h3⟩
   exact ⟨h1,fun x hx=>h2 x (.inl hx),hm.1 (h2 _ (.inr rfl)),h3⟩
  ·rintro ⟨h1,h2,h3,h4⟩
   refine ⟨h1,?_,h4⟩
   rintro x (hx | rfl)
   ·exact h2 x hx
   ·exact hm.2 h3
 | .group t m r,rows,cur=>by
  simp only [PT.nt,PT.nt_tw a b r,PT.Tw,List.mem_append,List.mem_singleton]
  have hm:=markN_tw a b m (t.nt [] [])
  rw [PT.nt_tw a b t] at hm
  simp only [List.not_mem_nil,false_implies,implies_true,true_and] at hm
  constructor
  ·rintro ⟨h1,h2,h3⟩
   exact ⟨h1,fun x hx=>h2 x (.inl hx),hm.1 (h2 _ (.inr rfl)),h3⟩
  ·rintro ⟨h1,h2,h3,h4⟩
   refine ⟨h1,?_,h4⟩
   rintro x (hx | rfl)
   ·exact h2 x hx
   ·exact hm.2 h3
theorem read_tw {s:ByteArray} (h:(allF s).1 = true) (hs:s.size ≤ 120):∃ ts,ReadT s (allF s).2.2 ts∧∀ a b,(allF s).2.2.allow a = (allF s).2.2.allow b↔∀ t ∈ ts,t.nt0.Tw a b:=by
 unfold allF at h ⊢
 simp only [Bool.and_eq_true,decide_eq_true_eq] at h ⊢
 obtain ⟨ts,h1,h2⟩:=allLoop_sp (s:=s) _ 0 RulesT.new h.1 h.2 (allLoop_le _ _ _ (by omega) h.1)
 obtain ⟨r1,r2⟩:=h1.rises (by omega)
 have hpl:bplaces (ts.map PT.bt0) ≤ 128:=by
  rw [← posAll_len]
  have:=nodup_len s.size _ r1.nodup (fun x hx=>(r1.le x hx).2)
  have e:posAll (ts.map PT.bt0) = posAll (ts.map (fun t=>t.bt none none)):=rfl
  rw [e]
  omega
 refine ⟨ts,⟨h1,r2,?_,r1⟩,fun a b=>?_⟩
 ·rw [h2]; exact brules_inv (ts.map PT.bt0) hpl
 ·rw [h2]
  have e:=brules_tw a b (ts.map PT.bt0) hpl
  have e2:bglushAll (ts.map PT.bt0) RulesT.new = bglushAll (ts.map (fun t=>t.bt none none)) RulesT.new:=rfl
  rw [e2] at e
  rw [e]
  have k:∀ t:PT,t.bt0.Tw a b↔t.nt0.Tw a b:=fun t=>by
   show (t.bt none none).Tw a b↔(t.nt [] []).Tw a b
   rw [PT.bt_tw,PT.nt_tw]; simp [twO]
  constructor
  ·intro g t ht
   exact (k t).1 (g _ (List.mem_map_of_mem ht))
  ·intro g x hx
   obtain ⟨t,ht,rfl⟩:=List.mem_map.1 hx
   exact (k t).2 (g t ht)
theorem lowIs_of {al:Nat→PSet} {tw:Nat→Nat→Bool} (h:∀ a b,tw a b = true↔al a = al b) {b k:Nat} (h1:k ≤ b) (h2:tw k b = true) (h3:∀ j,j < k→tw j b = false):LowIs al b k :=
 ⟨h1,(h k b).1 h2,fun j hj e=>by have:=(h j b).2 e; rw [h3 j hj] at this; cases this⟩
theorem markNT_parts (m:Nat) (x:NT):(markNT m x).parts ≤ x.parts + 2:=by
 unfold markNT
 split
 ·simp [NT.parts,partsL]; omega
 ·split
  ·simp [NT.parts,partsL]; omega
  ·split
   ·simp [NT.parts,partsL]; omega
   ·omega
theorem PT.parts_le {s:ByteArray}:∀ (t:PT) (i j:Nat) (rows cur:List NT),t.Sp s i j→(t.nt rows cur).parts ≤ partsL rows + partsL cur + 2 + 4 * (j - i)
 | .nil,i,j,rows,cur,h=>by
  simp only [PT.nt,NT.parts,partsL_append,partsL]; omega
 | .bar r,i,j,rows,cur,h=>by
  have h1:=PT.sp_le h.2
  have h2:=PT.parts_le r (i + 1) j (rows ++ [.node 1 cur]) [] h.2
  simp only [PT.nt]
  simp only [partsL_append,partsL,NT.parts] at h2
  omega
 | .leaf a e A m r,i,j,rows,cur,h=>by
  obtain ⟨_,h2,_,_,h5⟩:=h
  have h3:=(place_is h2).lt
  have h4:=PT.sp_le h5
  have h6:=PT.parts_le r (e + stepM m) j rows (cur ++ [markNT m (.place a e A)]) h5
  have h7:=markNT_parts m (.place a e A)
  simp only [PT.nt]
  simp only [partsL_append,partsL] at h6
  simp only [NT.parts] at h7
  omega
 | .group t m r,i,j,rows,cur,h=>by
  obtain ⟨_,e,h2,_,_,h5⟩:=h
  have h3:=PT.sp_le h2
  have h4:=PT.sp_le h5
  have h6:=PT.parts_le r (e + 1 + stepM m) j rows (cur ++ [markNT m (t.nt [] [])]) h5
  have h7:=markNT_parts m (t.nt [] [])
  have h8:=PT.parts_le t (i + 1) e [] [] h2
  simp only [PT.nt]
  simp only [partsL_append,partsL] at h6 h8
  omega
theorem RSp.parts_le {s:ByteArray}:∀ (ts:List PT) (p:Nat),RSp s ts p→p ≤ s.size→partsL (ts.map PT.nt0) ≤ 6 * (s.size - p) + 2
 | [],p,h,_=>h.elim
 | [t],p,h,hp=>by
  have h1:=PT.sp_le h.1
  have h2:=PT.parts_le t p s.size [] [] h.1
  simp only [List.map_cons,List.map_nil,partsL,PT.nt0] at h2 ⊢
  omega
 |t :: u :: l,p,h,hp=>by
  obtain ⟨q,h1,_,h3,h4⟩:=h
  have h5:=PT.sp_le h1
  have hq:=peekI_in (s:=s) (p:=q) (by rw [h3]; decide)
  have h6:=RSp.parts_le (u :: l) (q + 1) h4 (by omega)
  have h7:=PT.parts_le t p q [] [] h1
  rw [List.map_cons]
  simp only [partsL,PT.nt0] at h7 h6 ⊢
  omega
end Go.Proofs.YtcckhngbdoiikaaGreat
