import Derived.Test.YtcckhngbdoiikaaGreatG33
import Derived.Test.YtcckhngbdoiikaaGreatG34

namespace Go.Proofs.YtcckhngbdoiikaaGreat
open Go.RowKit Go.Deep
set_option linter.unusedVariables false
theorem bytesN_snoc (s:ByteArray) (b:Nat) (hb:b < 256):bytesN (s ++ bytesOf [b]) = bytesN s ++ [b]:=by
 unfold bytesN
 rw [ByteArray.data_append]
 simp [bytesOf]
 omega
theorem idxF_nodup:∀ (l:List PSet) (i:Nat) (h:i < l.length),l.Nodup→idxF l l[i] = i
 | [],i,h,_=>by simp at h
 |x :: l,0,h,_=>by simp [idxF]
 |x :: l,i + 1,h,hn=>by
  rw [List.nodup_cons] at hn
  have hi:i < l.length:=by simpa using h
  rw [List.getElem_cons_succ]
  unfold idxF
  rw [if_neg (fun e=>hn.1 (by rw [e]; exact List.getElem_mem hi)),idxF_nodup l i hi hn.2]
section
variable {rs:ByteArray} {R:RulesT} {ts:List PT} {n b:Nat} {T:List ByteArray} {S:List (Nat × List Bool)} {To:List (Nat × List Int)} {PS PS0:List PSet} {g:Graph} {row rl:List Int}
structure SetsOf (ts:List PT) (T:List ByteArray) (S:List (Nat × List Bool)) (PS:List PSet):Prop where
 sl:S.length = PS.length
 tl:T.length = PS.length
 set:∀ i,(h:i < S.length)→0 < i→RSetIs ts ((T.map bytesN).getD i []) S[i].2
structure FP (ts:List PT) (R:RulesT) (n:Nat) (T:List ByteArray) (S:List (Nat × List Bool)) (To:List (Nat × List Int)) (PS:List PSet) (g:Graph):Prop where
 inv:FindInv R n PS g (T.map bytesN)
 sets:SetsOf ts T S PS
 tl:To.length = n
 lead:∀ i,(h:i < To.length)→∀ c,c < 256→To[i].2.getD c 0 = (g.next.getD i []).getD (kindOf R.allow c) 0
structure RP (ts:List PT) (R:RulesT) (n b:Nat) (T:List ByteArray) (S:List (Nat × List Bool)) (PS0 PS:List PSet) (row rl:List Int):Prop where
 inv:RowInv R n b PS0 PS (T.map bytesN) row
 sets:SetsOf ts T S PS
 rlen:rl.length = 256
 cell:∀ c,c < b→rl.getD c 0 = row.getD (kindOf R.allow c) 0
theorem FP.start (ts:List PT) (R:RulesT) (gb:Nat):FP ts R 0 [noT] [(gb,row120)] [] [PSet.none] Graph.new:=by
 refine ⟨?_,⟨rfl,rfl,fun i hi h0=>by simp at hi; omega⟩,rfl,fun i hi=>by simp at hi⟩
 have:([noT].map bytesN) = [[]]:=rfl
 rw [this]; exact FindInv.start R
theorem FP.begins (h:FP ts R n T S To PS g) {rl:List Int} (hr:rl.length = 256):RP ts R n 0 T S PS PS [] rl:=⟨RowInv.start h.inv,h.sets,hr,fun c hc=>by omega⟩
theorem getD_setI (l:List Int) (k i:Nat) (x:Int) (hk:k < l.length):(l.set k x).getD i 0 = if i = k then x else l.getD i 0:=by
 rw [List.getD_eq_getElem?_getD,List.getElem?_set]
 by_cases h:k = i
 ·subst h; simp [hk]
 ·rw [if_neg h,if_neg (fun e=>h e.symm),List.getD_eq_getElem?_getD]
theorem kind_lt (al:Nat→PSet) {c b:Nat} (h:c < b):kindOf al c < (kindsAt al b).length:=by
 have h1:=(kindOf_get al c (c + 1) (by omega)).1
 have hp:kindsAt al (c + 1) <+: kindsAt al b:=by
  have:=kindsAt_prefix al (c + 1) (b - (c + 1))
  rwa [show c + 1 + (b - (c + 1)) = b by omega] at this
 have:=hp.length_le
 omega
theorem RP.skip (h:RP ts R n b T S PS0 PS row rl) (hb:b < 256) {k:Nat} (hl:LowIs R.allow b k) (hk:k < b):RP ts R n (b + 1) T S PS0 PS row (rl.set b (rl.getD k 0)):=by
 refine ⟨h.inv.skip hl hk,h.sets,by simp [h.rlen],fun c hc=>?_⟩
 rw [getD_setI _ _ _ _ (by rw [h.rlen]; exact hb)]
 by_cases e:c = b
 ·rw [if_pos e,e,h.cell k hk,(kind_same hl hk).1]
 ·rw [if_neg e]; exact h.cell c (by omega)
theorem RP.push (h:RP ts R n b T S PS0 PS row rl) (hb:b < 256) {T':List ByteArray} {S':List (Nat × List Bool)} {PS':List PSet} {v:Int} (hl:LowIs R.allow b b) (hi:RowInv R n (b + 1) PS0 PS' (T'.map bytesN) (row ++ [v])) (hs:SetsOf ts T' S' PS'):RP ts R n (b + 1) T' S' PS0 PS' (row ++ [v]) (rl.set b v):=by
 refine ⟨hi,hs,by simp [h.rlen],fun c hc=>?_⟩
 rw [getD_setI _ _ _ _ (by rw [h.rlen]; exact hb)]
 have e1:=h.inv.get
 by_cases e:c = b
 ·rw [if_pos e,e,(kind_new hl).1,← e1,List.getD_eq_getElem?_getD,List.getElem?_append_right (by omega)]; simp
 ·have hc2:c < b:=by omega
  have:=kind_lt R.allow hc2
  rw [if_neg e,h.cell c hc2,List.getD_eq_getElem?_getD,List.getD_eq_getElem?_getD,List.getElem?_append_left (by omega)]
theorem SetsOf.at (hd:ReadT rs R ts) (hx:TextsOf R PS (T.map bytesN)) (hnd:PS.Nodup) (h:SetsOf ts T S PS) {w:List Nat} (hw:w ≠ []) {l:List Bool} (hl:RSetIs ts w l) {r:Int} (hr:AtIs S l r) {x:Bool} (he:x = true↔∀ q,l.getD q false = false) :
  (x = true∧r = -1∧findF PS (setW R w) = -1)∨(x = false∧r = -1∧findF PS (setW R w) = (PS.length:Int))∨(x = false∧∃ i:Nat,0 < i∧i < PS.length∧r = (i:Int)∧findF PS (setW R w) = (i:Int)):=by
 rw [rset_empty hd hw hl] at he
 rcases hr with ⟨rfl,hno⟩ | ⟨i,hi,h0,rfl,hs⟩
 ·by_cases hx1:x = true
  ·exact .inl ⟨hx1,rfl,by unfold findF; rw [if_pos (he.1 hx1)]⟩
  ·have hx2:(setW R w).isEmpty = false:=by
    cases hh:(setW R w).isEmpty with
    |false=>rfl
    |true=>exact absurd (he.2 hh) hx1
   refine .inr (.inl ⟨by simpa using hx1,rfl,?_⟩)
   unfold findF
   rw [hx2]
   simp only [Bool.false_eq_true,if_false]
   rw [idxF_not]
   intro hm
   obtain ⟨i,hi,e⟩:=List.getElem_of_mem hm
   have hg:PS.getD i PSet.none = PS[i]:=by rw [List.getD_eq_getElem?_getD,List.getElem?_eq_getElem hi]; rfl
   by_cases h0:0 < i
   ·obtain ⟨t1,t2,t3⟩:=hx.set i h0 hi
    rw [hg,e] at t2
    have hS:=h.sl
    exact hno i (by omega) h0 ((rset_same hd t1 hw (h.set i (by omega) h0) hl).2 t2)
   ·have:i = 0:=by omega
    subst this
    have h9:=hx.zero.1
    rw [hg,e] at h9
    rw [h9] at hx2
    have:PSet.none.isEmpty = true:=(isEmpty_iff _).2 (fun q=>has_none q)
    rw [this] at hx2; cases hx2
 ·have hS:=h.sl
  obtain ⟨t1,t2,t3⟩:=hx.set i h0 (by omega)
  have e:=(rset_same hd t1 hw (h.set i hi h0) hl).1 hs
  rw [t2] at e
  refine .inr (.inr ⟨?_,i,h0,by omega,rfl,?_⟩)
  ·rw [← e,t3] at he
   cases x with
   |false=>rfl
   |true=>exact absurd (he.1 rfl) (by simp)
  have hg:PS.getD i PSet.none = PS[i]'(by omega):=by rw [List.getD_eq_getElem?_getD,List.getElem?_eq_getElem (by omega)]; rfl
  unfold findF
  rw [← e,t3]
  simp only [Bool.false_eq_true,if_false]
  rw [hg,idxF_nodup PS i (by omega) hnd]
theorem RP.text (h:RP ts R n b T S PS0 PS row rl) (hn:n < T.length) (hb:b < 256):bytesN (T[n] ++ bytesOf [b]) = (T.map bytesN).getD n [] ++ [b]:=by
 rw [bytesN_snoc _ _ hb,List.getD_eq_getElem?_getD,List.getElem?_map,List.getElem?_eq_getElem hn]; rfl
theorem RP.known (h:RP ts R n b T S PS0 PS row rl) (hn:n < PS0.length) (hb:b < 256) (hl:LowIs R.allow b b) (hnT:n < T.length) {v:Int} (hv:findF PS (setW R (bytesN (T[n] ++ bytesOf [b]))) = v) (hne:v ≠ (PS.length:Int)):RP ts R n (b + 1) T S PS0 PS (row ++ [v]) (rl.set b v):=by
 rw [h.text hnT hb] at hv
 subst hv
 exact h.push hb hl (h.inv.known hn hl hne) h.sets
theorem RP.fresh (h:RP ts R n b T S PS0 PS row rl) (hn:n < PS0.length) (hb:b < 256) (hl:LowIs R.allow b b) (hnT:n < T.length) {l:List Bool} {gb:Nat} (hs:RSetIs ts (bytesN (T[n] ++ bytesOf [b])) l) (hv:findF PS (setW R (bytesN (T[n] ++ bytesOf [b]))) = (PS.length:Int)) (ht:PS.length + 1 ≤ 61) :
  RP ts R n (b + 1) (T ++ [T[n] ++ bytesOf [b]]) (S ++ [(gb,l)]) PS0 (PS ++ [setW R (bytesN (T[n] ++ bytesOf [b]))]) (row ++ [(PS.length:Int)]) (rl.set b (PS.length:Int)):=by
 have htx:=h.text hnT hb
 rw [htx] at hs hv ⊢
 have e:(T ++ [T[n] ++ bytesOf [b]]).map bytesN = T.map bytesN ++ [(T.map bytesN).getD n [] ++ [b]]:=by rw [List.map_append,List.map_singleton,htx]
 refine h.push hb hl (by rw [e]; exact h.inv.fresh hn hb hl hv ht) ⟨by simp [h.sets.sl],by simp [h.sets.tl],fun i hi h0=>?_⟩
 have h1:=h.sets.sl
 have h2:=h.sets.tl
 rw [e]
 simp only [List.length_append,List.length_singleton] at hi
 by_cases hlt:i < S.length
 ·rw [List.getElem_append_left hlt,List.getD_eq_getElem?_getD,List.getElem?_append_left (by simp; omega),← List.getD_eq_getElem?_getD]
  exact h.sets.set i hlt h0
 ·have:i = S.length:=by omega
  subst this
  rw [List.getElem_append_right (Nat.le_refl _),List.getD_eq_getElem?_getD,List.getElem?_append_right (by simp; omega)]
  have e2:S.length - (T.map bytesN).length = 0:=by rw [List.length_map]; omega
  rw [e2]
  simp only [Nat.sub_self,List.getElem_cons_zero,List.getElem?_cons_zero,Option.getD_some]
  exact hs
theorem RP.fail (h:RP ts R n b T S PS0 PS row rl) {T0:List (List Nat)} (hi:FindInv R n PS0 g T0) (hn:n < PS0.length) (hb:b < 256) (hl:LowIs R.allow b b) (hnT:n < T.length) (hv:findF PS (setW R (bytesN (T[n] ++ bytesOf [b]))) = (PS.length:Int)) (ht:61 < PS.length + 1):exploreF R (kindsAt R.allow 256) = none:=by
 rw [h.text hnT hb] at hv
 exact h.inv.fail hi hn hb hl hv ht
theorem RP.done {T0:List ByteArray} {S0:List (Nat × List Bool)} (h:RP ts R n 256 T S PS0 PS row rl) (hi:FP ts R n T0 S0 To PS0 g) (hn:n < PS0.length) (rb:Nat):FP ts R (n + 1) T S (To ++ [(rb,rl)]) PS ⟨g.rule ++ [R.rule (PS.getD n PSet.none)],g.next ++ [row]⟩:=by
 refine ⟨h.inv.done hi.inv hn,h.sets,by simp [hi.tl],fun i hj c hc=>?_⟩
 have h1:=hi.tl
 have h2:=hi.inv.ex.nl
 simp only [List.length_append,List.length_singleton] at hj
 by_cases hlt:i < To.length
 ·rw [List.getElem_append_left hlt,List.getD_eq_getElem?_getD (l:=g.next ++ [row]),List.getElem?_append_left (by omega),← List.getD_eq_getElem?_getD]
  exact hi.lead i hlt c hc
 ·have:i = To.length:=by omega
  subst this
  rw [List.getElem_append_right (Nat.le_refl _),List.getD_eq_getElem?_getD (l:=g.next ++ [row]),List.getElem?_append_right (by omega)]
  simp [h1,h2]
  have:=h.cell c hc
  simpa [List.getD_eq_getElem?_getD] using this
theorem RP.size (h:RP ts R n b T S PS0 PS row rl) {i:Nat} (hi:i < T.length):T[i].size ≤ i∧T.length = S.length∧T.length ≤ 61:=by
 have h1:=h.inv.texts.short i
 rw [List.getD_eq_getElem?_getD,List.getElem?_map,List.getElem?_eq_getElem hi] at h1
 simp [bytesN_len] at h1
 exact ⟨h1,h.sets.tl.trans h.sets.sl.symm,by rw [h.sets.tl]; exact h.inv.top⟩
end
section
variable {w w' w6:World} {lo fb:Nat} {tv sv ov:Value} {T:List ByteArray} {S:List (Nat × List Bool)} {To:List (Nat × List Int)}
theorem FoundAt.kept (h:FoundAt w lo fb tv sv ov T S To) {ex:Nat→Prop} (k:Kept ex w w') (h1:¬ ex fb) (h2:∀ b,tv.ownBlock = some b→¬ ex b) (h3:∀ b,sv.ownBlock = some b→¬ ex b) (h4:∀ b,ov.ownBlock = some b→¬ ex b) (h5:∀ p ∈ S,¬ ex p.1) (h6:∀ p ∈ To,¬ ex p.1):FoundAt w' lo fb tv sv ov T S To :=
 ⟨h.blk.kept k h1,ownsRow_kept h.txt k h2,⟨ownsRow_kept h.sets.row k h3,fun p hp=>⟨(h.sets.each p hp).1.kept k (h5 p hp),(h.sets.each p hp).2⟩⟩,⟨ownsRow_kept h.tos.row k h4,fun p hp=>⟨(h.tos.each p hp).1.kept k (h6 p hp),(h.tos.each p hp).2⟩⟩,h.own⟩
theorem Blk.ne {b b':Nat} {c c':Array Value} {t t':TypeId} (h:Blk w b c t) (h':Blk w b' c' t') (hne:t ≠ t'):b ≠ b':=fun e=>by subst e; exact hne (h.one h').2
theorem own_blk {e:TypeId} {v:Value} {n:Nat} {xs:List Value} (h:w.ownsRow 0 e 1 v n xs) {b:Nat} (hb:v.ownBlock = some b):∃ c,Blk w b c e:=by
 obtain ⟨_,ad,cap,rfl,⟨rfl,_⟩ | ⟨g,cur,rfl,h2,_⟩⟩:=ownsRow_form h
 ·cases hb
 ·cases (Option.some.inj hb:g = b); exact ⟨_,h2⟩
theorem own_apart {e e':TypeId} {v v':Value} {n n':Nat} {xs xs':List Value} (h:w.ownsRow 0 e 1 v n xs) (h':w.ownsRow 0 e' 1 v' n' xs') (hne:e ≠ e') {b:Nat} (hb:v.ownBlock = some b):v'.ownBlock ≠ some b:=fun e=>by
 obtain ⟨c,hc⟩:=own_blk h hb
 exact ownsRow_ne h' hc hne e
theorem FoundAt.write (h:FoundAt w lo fb tv sv ov T S To) {rb:Nat} {c:Array Value} (hr:Blk w rb c 3) (hT:∀ p ∈ To,p.1 ≠ rb) (i:Nat) (v:Value):FoundAt (w.setCell ⟨rb,i,none⟩ v) lo fb tv sv ov T S To:=by
 refine h.kept (ex:=fun x=>x = rb) (Kept.setCell (ex:=fun x=>x = rb) (p:=⟨rb,i,none⟩) (Kept.refl _ _) (fun _=>rfl) _) (fun e=>?_) (fun b hb e=>?_) (fun b hb e=>?_) (fun b hb e=>?_) (fun p hp e=>?_) (fun p hp e=>hT p hp e)
 ·exact h.blk.ne hr (by decide) e
 ·subst e; exact ownsRow_ne h.txt hr (by decide) hb
 ·subst e; exact ownsRow_ne h.sets.row hr (by decide) hb
 ·subst e; exact ownsRow_ne h.tos.row hr (by decide) hb
 ·exact (h.sets.each p hp).1.ne hr (by decide) e
theorem kept_field {v:Value} {fld:Nat} {v6:Value} (r3:Kept (fun b=>v.ownBlock = some b) w w6):Kept (fun b=>v.ownBlock = some b∨b = fb) w (w6.setCell ⟨fb,fld,none⟩ v6) :=
 (r3.weaken (fun _ _ e=>.inl e)).setCell (p:=⟨fb,fld,none⟩) (fun _=>.inr rfl) _
theorem FoundAt.text (h:FoundAt w lo fb tv sv ov T S To) {v6:Value} {s:ByteArray} (r1:w6.ownsRow 0 9 1 v6 (T.map Value.string ++ [Value.string s]).length (T.map Value.string ++ [Value.string s])) (r2:∀ b,v6.ownBlock = some b→lo ≤ b) (r3:Kept (fun b=>tv.ownBlock = some b) w w6) :
  FoundAt (w6.setCell ⟨fb,0,none⟩ v6) lo fb v6 sv ov (T ++ [s]) S To:=by
 have k9:=kept_field (fb:=fb) (fld:=0) (v6:=v6) r3
 have b6:Blk w6 fb #[tv,sv,ov] 133:=h.blk.kept r3 (fun e=>ownsRow_ne h.txt h.blk (by decide) e)
 have kk:Kept (fun b=>b = fb) w6 (w6.setCell ⟨fb,0,none⟩ v6):=Kept.setCell (ex:=fun b=>b = fb) (p:=⟨fb,0,none⟩) (Kept.refl _ _) (fun _=>rfl) _
 have n6:v6.ownBlock ≠ some fb:=ownsRow_ne r1 b6 (by decide)
 refine ⟨b6.set 0 v6,?_,⟨ownsRow_kept h.sets.row k9 (fun b hb e=>?_),fun p hp=>⟨(h.sets.each p hp).1.kept k9 (fun e=>?_),(h.sets.each p hp).2⟩⟩,⟨ownsRow_kept h.tos.row k9 (fun b hb e=>?_),fun p hp=>⟨(h.tos.each p hp).1.kept k9 (fun e=>?_),(h.tos.each p hp).2⟩⟩,h.own.1,r2,h.own.2.2.1,h.own.2.2.2⟩
 ·have:=ownsRow_kept r1 kk (fun b hb e=>n6 (by rw [← e]; exact hb))
  simpa using this
 ·rcases e with e | e
  ·exact own_apart h.txt h.sets.row (by decide) e hb
  ·subst e; exact ownsRow_ne h.sets.row h.blk (by decide) hb
 ·rcases e with e | e
  ·exact ownsRow_ne h.txt (h.sets.each p hp).1 (by decide) e
  ·exact (h.sets.each p hp).1.ne h.blk (by decide) e
 ·rcases e with e | e
  ·exact own_apart h.txt h.tos.row (by decide) e hb
  ·subst e; exact ownsRow_ne h.tos.row h.blk (by decide) hb
 ·rcases e with e | e
  ·exact ownsRow_ne h.txt (h.tos.each p hp).1 (by decide) e
  ·exact (h.tos.each p hp).1.ne h.blk (by decide) e
theorem FoundAt.set (h:FoundAt w lo fb tv sv ov T S To) {v6:Value} {sb:Nat} {l:List Bool} (hs:Blk w sb (boolsA l) 4) (hl:l.length = 120) (r1:w6.ownsRow 0 130 1 v6 (S.map (fun p=>slV 120 p.1) ++ [slV 120 sb]).length (S.map (fun p=>slV 120 p.1) ++ [slV 120 sb])) (r2:∀ b,v6.ownBlock = some b→lo ≤ b) (r3:Kept (fun b=>sv.ownBlock = some b) w w6) :
  FoundAt (w6.setCell ⟨fb,1,none⟩ v6) lo fb tv v6 ov T (S ++ [(sb,l)]) To:=by
 have k9:=kept_field (fb:=fb) (fld:=1) (v6:=v6) r3
 have b6:Blk w6 fb #[tv,sv,ov] 133:=h.blk.kept r3 (fun e=>ownsRow_ne h.sets.row h.blk (by decide) e)
 have kk:Kept (fun b=>b = fb) w6 (w6.setCell ⟨fb,1,none⟩ v6):=Kept.setCell (ex:=fun b=>b = fb) (p:=⟨fb,1,none⟩) (Kept.refl _ _) (fun _=>rfl) _
 have n6:v6.ownBlock ≠ some fb:=ownsRow_ne r1 b6 (by decide)
 have hset:∀ {b:Nat} {m:List Bool},Blk w b (boolsA m) 4→Blk (w6.setCell ⟨fb,1,none⟩ v6) b (boolsA m) 4:=fun hb=>hb.kept k9 (fun e=>by
  rcases e with e | e
  ·exact ownsRow_ne h.sets.row hb (by decide) e
  ·exact hb.ne h.blk (by decide) e)
 refine ⟨b6.set 1 v6,ownsRow_kept h.txt k9 (fun b hb e=>?_),⟨?_,fun p hp=>?_⟩,⟨ownsRow_kept h.tos.row k9 (fun b hb e=>?_),fun p hp=>⟨(h.tos.each p hp).1.kept k9 (fun e=>?_),(h.tos.each p hp).2⟩⟩,h.own.1,h.own.2.1,r2,h.own.2.2.2⟩
 ·rcases e with e | e
  ·exact own_apart h.sets.row h.txt (by decide) e hb
  ·subst e; exact ownsRow_ne h.txt h.blk (by decide) hb
 ·have:=ownsRow_kept r1 kk (fun b hb e=>n6 (by rw [← e]; exact hb))
  simpa using this
 ·rw [List.mem_append,List.mem_singleton] at hp
  rcases hp with hp | rfl
  ·exact ⟨hset (h.sets.each p hp).1,(h.sets.each p hp).2⟩
  ·exact ⟨hset hs,hl⟩
 ·rcases e with e | e
  ·exact own_apart h.sets.row h.tos.row (by decide) e hb
  ·subst e; exact ownsRow_ne h.tos.row h.blk (by decide) hb
 ·rcases e with e | e
  ·exact ownsRow_ne h.sets.row (h.tos.each p hp).1 (by decide) e
  ·exact (h.tos.each p hp).1.ne h.blk (by decide) e
theorem FoundAt.tos' (h:FoundAt w lo fb tv sv ov T S To) {v6:Value} {sb:Nat} {l:List Int} (hs:Blk w sb (intsA l) 3) (hl:l.length = 256) (r1:w6.ownsRow 0 60 1 v6 (To.map (fun p=>slV 256 p.1) ++ [slV 256 sb]).length (To.map (fun p=>slV 256 p.1) ++ [slV 256 sb])) (r2:∀ b,v6.ownBlock = some b→lo ≤ b) (r3:Kept (fun b=>ov.ownBlock = some b) w w6) :
  FoundAt (w6.setCell ⟨fb,2,none⟩ v6) lo fb tv sv v6 T S (To ++ [(sb,l)]):=by
 have k9:=kept_field (fb:=fb) (fld:=2) (v6:=v6) r3
 have b6:Blk w6 fb #[tv,sv,ov] 133:=h.blk.kept r3 (fun e=>ownsRow_ne h.tos.row h.blk (by decide) e)
 have kk:Kept (fun b=>b = fb) w6 (w6.setCell ⟨fb,2,none⟩ v6):=Kept.setCell (ex:=fun b=>b = fb) (p:=⟨fb,2,none⟩) (Kept.refl _ _) (fun _=>rfl) _
 have n6:v6.ownBlock ≠ some fb:=ownsRow_ne r1 b6 (by decide)
 have hset:∀ {b:Nat} {m:List Int},Blk w b (intsA m) 3→Blk (w6.setCell ⟨fb,2,none⟩ v6) b (intsA m) 3:=fun hb=>hb.kept k9 (fun e=>by
  rcases e with e | e
  ·exact ownsRow_ne h.tos.row hb (by decide) e
  ·exact hb.ne h.blk (by decide) e)
 refine ⟨b6.set 2 v6,ownsRow_kept h.txt k9 (fun b hb e=>?_),⟨ownsRow_kept h.sets.row k9 (fun b hb e=>?_),fun p hp=>⟨(h.sets.each p hp).1.kept k9 (fun e=>?_),(h.sets.each p hp).2⟩⟩,⟨?_,fun p hp=>?_⟩,h.own.1,h.own.2.1,h.own.2.2.1,r2⟩
 ·rcases e with e | e
  ·exact own_apart h.tos.row h.txt (by decide) e hb
  ·subst e; exact ownsRow_ne h.txt h.blk (by decide) hb
 ·rcases e with e | e
  ·exact own_apart h.tos.row h.sets.row (by decide) e hb
  ·subst e; exact ownsRow_ne h.sets.row h.blk (by decide) hb
 ·rcases e with e | e
  ·exact ownsRow_ne h.tos.row (h.sets.each p hp).1 (by decide) e
  ·exact (h.sets.each p hp).1.ne h.blk (by decide) e
 ·have:=ownsRow_kept r1 kk (fun b hb e=>n6 (by rw [← e]; exact hb))
  simpa using this
 ·rw [List.mem_append,List.mem_singleton] at hp
  rcases hp with hp | rfl
  ·exact ⟨hset (h.tos.each p hp).1,(h.tos.each p hp).2⟩
  ·exact ⟨hset hs,hl⟩
theorem FoundAt.other (h:FoundAt w lo fb tv sv ov T S To) {v v6:Value} {e:TypeId} {n:Nat} {xs:List Value} (hv:w.ownsRow 0 e 1 v n xs) (r3:Kept (fun b=>v.ownBlock = some b) w w6) (fld:Nat) {b:Nat} {c:Array Value} {t:TypeId} (hb:Blk w b c t) (h1:t ≠ e) (h2:t ≠ 133):Blk (w6.setCell ⟨fb,fld,none⟩ v6) b c t :=
 hb.kept (kept_field (fb:=fb) (fld:=fld) (v6:=v6) r3) (fun e=>by
  rcases e with e | e
  ·exact ownsRow_ne hv hb h1 e
  ·exact hb.ne h.blk h2 e)
theorem rules_ts {rules:List MT} {ts:List PT} (h:ntL rules = ts.map PT.nt0) (P:NT→Prop):(∃ T ∈ rules,P T.nt)↔∃ t ∈ ts,P t.nt0:=by
 rw [ntL_map] at h
 have h1:(∃ T ∈ rules,P T.nt)↔∃ x ∈ rules.map MT.nt,P x:=⟨fun ⟨T,a,b⟩=>⟨_,List.mem_map_of_mem a,b⟩,fun ⟨x,a,b⟩=>by obtain ⟨T,c,rfl⟩:=List.mem_map.1 a; exact ⟨T,c,b⟩⟩
 have h2:(∃ t ∈ ts,P t.nt0)↔∃ x ∈ ts.map PT.nt0,P x:=⟨fun ⟨T,a,b⟩=>⟨_,List.mem_map_of_mem a,b⟩,fun ⟨x,a,b⟩=>by obtain ⟨T,c,rfl⟩:=List.mem_map.1 a; exact ⟨T,c,b⟩⟩
 rw [h1,h2,h]
end
def row256:List Int:=List.replicate 256 0
theorem row256_len:row256.length = 256:=List.length_replicate
theorem make256 (W:World):(Instr.makeSlice 60 (.int .i64 256) (.int .i64 256)).run Tryz.prog W = .ok (.slice (some ⟨W.heap.size,0,none⟩) 256 256) (W.alloc (.cells (intsA row256) 3)):=makeInts 256 (by omega) W
theorem intsA_cellD {w:World} {b:Nat} {l:List Int} (h:Blk w b (intsA l) 3) (i:Nat) (hi:i < l.length):w.cell? ⟨b,i,none⟩ = some (.int .i64 (l.getD i 0)):=by
 rw [intsA_cell h i hi]; simp [hi]
structure XAt (w:World) (xb:Nat) (rv pn pv tv ov fv:Value) (TX:List ByteArray) (OX:List (Nat × List Int)) (FX:List Int):Prop where
 blk:Blk w xb #[rv,pn,pv,tv,ov,fv] 78
 txt:w.ownsRow 0 9 1 tv TX.length (TX.map Value.string)
 tos:ITos w ov OX
 of:IRow w fv FX
 sep:∀ p ∈ OX,fv.ownBlock ≠ some p.1
section
variable {w w' w6:World} {xb:Nat} {rv pn pv tv ov fv:Value} {TX:List ByteArray} {OX:List (Nat × List Int)} {FX:List Int}
theorem XAt.kept (h:XAt w xb rv pn pv tv ov fv TX OX FX) {ex:Nat→Prop} (k:Kept ex w w') (h1:¬ ex xb) (h2:∀ b,tv.ownBlock = some b→¬ ex b) (h3:∀ b,ov.ownBlock = some b→¬ ex b) (h4:∀ b,fv.ownBlock = some b→¬ ex b) (h5:∀ p ∈ OX,¬ ex p.1):XAt w' xb rv pn pv tv ov fv TX OX FX :=
 ⟨h.blk.kept k h1,ownsRow_kept h.txt k h2,⟨ownsRow_kept h.tos.row k h3,fun p hp=>⟨(h.tos.each p hp).1.kept k (h5 p hp),(h.tos.each p hp).2⟩⟩,ownsRow_kept h.of k h4,h.sep⟩
theorem XAt.below (h:XAt w xb rv pn pv tv ov fv TX OX FX) (k:Below w.heap.size w w'):XAt w' xb rv pn pv tv ov fv TX OX FX:=h.kept (ex:=fun _=>False) (Kept.ofBelow k) (fun e=>e) (fun _ _ e=>e) (fun _ _ e=>e) (fun _ _ e=>e) (fun _ _ e=>e)
theorem XAt.to (h:XAt w xb rv pn pv tv ov fv TX OX FX) {v6:Value} {sb:Nat} {l:List Int} (hs:Blk w sb (intsA l) 3) (hl:l.length = 256) (hsep:fv.ownBlock ≠ some sb) (r1:w6.ownsRow 0 60 1 v6 (OX.map (fun p=>slV 256 p.1) ++ [slV 256 sb]).length (OX.map (fun p=>slV 256 p.1) ++ [slV 256 sb])) (r3:Kept (fun b=>ov.ownBlock = some b) w w6) :
  XAt (w6.setCell ⟨xb,4,none⟩ v6) xb rv pn pv tv v6 fv TX (OX ++ [(sb,l)]) FX:=by
 have k9:=kept_field (fb:=xb) (fld:=4) (v6:=v6) r3
 have b6:Blk w6 xb #[rv,pn,pv,tv,ov,fv] 78:=h.blk.kept r3 (fun e=>ownsRow_ne h.tos.row h.blk (by decide) e)
 have kk:Kept (fun b=>b = xb) w6 (w6.setCell ⟨xb,4,none⟩ v6):=Kept.setCell (ex:=fun b=>b = xb) (p:=⟨xb,4,none⟩) (Kept.refl _ _) (fun _=>rfl) _
 have n6:v6.ownBlock ≠ some xb:=ownsRow_ne r1 b6 (by decide)
 have hset:∀ {b:Nat} {m:List Int},Blk w b (intsA m) 3→Blk (w6.setCell ⟨xb,4,none⟩ v6) b (intsA m) 3:=fun hb=>hb.kept k9 (fun e=>by
  rcases e with e | e
  ·exact ownsRow_ne h.tos.row hb (by decide) e
  ·exact hb.ne h.blk (by decide) e)
 refine ⟨b6.set 4 v6,ownsRow_kept h.txt k9 (fun b hb e=>?_),⟨?_,fun p hp=>?_⟩,ownsRow_kept h.of k9 (fun b hb e=>?_),fun p hp=>?_⟩
 ·rcases e with e | e
  ·exact own_apart h.tos.row h.txt (by decide) e hb
  ·subst e; exact ownsRow_ne h.txt h.blk (by decide) hb
 ·have:=ownsRow_kept r1 kk (fun b hb e=>n6 (by rw [← e]; exact hb))
  simpa using this
 ·rw [List.mem_append,List.mem_singleton] at hp
  rcases hp with hp | rfl
  ·exact ⟨hset (h.tos.each p hp).1,(h.tos.each p hp).2⟩
  ·exact ⟨hset hs,hl⟩
 ·rcases e with e | e
  ·exact own_apart h.tos.row h.of (by decide) e hb
  ·subst e; exact ownsRow_ne h.of h.blk (by decide) hb
 ·rw [List.mem_append,List.mem_singleton] at hp
  rcases hp with hp | rfl
  ·exact h.sep p hp
  ·exact hsep
theorem XAt.text (h:XAt w xb rv pn pv tv ov fv TX OX FX) {v6:Value} {s:ByteArray} (r1:w6.ownsRow 0 9 1 v6 (TX.map Value.string ++ [Value.string s]).length (TX.map Value.string ++ [Value.string s])) (r3:Kept (fun b=>tv.ownBlock = some b) w w6) :
  XAt (w6.setCell ⟨xb,3,none⟩ v6) xb rv pn pv v6 ov fv (TX ++ [s]) OX FX:=by
 have k9:=kept_field (fb:=xb) (fld:=3) (v6:=v6) r3
 have b6:Blk w6 xb #[rv,pn,pv,tv,ov,fv] 78:=h.blk.kept r3 (fun e=>ownsRow_ne h.txt h.blk (by decide) e)
 have kk:Kept (fun b=>b = xb) w6 (w6.setCell ⟨xb,3,none⟩ v6):=Kept.setCell (ex:=fun b=>b = xb) (p:=⟨xb,3,none⟩) (Kept.refl _ _) (fun _=>rfl) _
 have n6:v6.ownBlock ≠ some xb:=ownsRow_ne r1 b6 (by decide)
 refine ⟨b6.set 3 v6,?_,⟨ownsRow_kept h.tos.row k9 (fun b hb e=>?_),fun p hp=>⟨(h.tos.each p hp).1.kept k9 (fun e=>?_),(h.tos.each p hp).2⟩⟩,ownsRow_kept h.of k9 (fun b hb e=>?_),h.sep⟩
 ·have:=ownsRow_kept r1 kk (fun b hb e=>n6 (by rw [← e]; exact hb))
  simpa using this
 ·rcases e with e | e
  ·exact own_apart h.txt h.tos.row (by decide) e hb
  ·subst e; exact ownsRow_ne h.tos.row h.blk (by decide) hb
 ·rcases e with e | e
  ·exact ownsRow_ne h.txt (h.tos.each p hp).1 (by decide) e
  ·exact (h.tos.each p hp).1.ne h.blk (by decide) e
 ·rcases e with e | e
  ·exact own_apart h.txt h.of (by decide) e hb
  ·subst e; exact ownsRow_ne h.of h.blk (by decide) hb
theorem XAt.rule (h:XAt w xb rv pn pv tv ov fv TX OX FX) {v6:Value} {r:Int} (r1:IRow w6 v6 (FX ++ [r])) (r2:∀ b,v6.ownBlock = some b→fv.ownBlock = some b∨w.heap.size ≤ b) (r3:Kept (fun b=>fv.ownBlock = some b) w w6) :
  XAt (w6.setCell ⟨xb,5,none⟩ v6) xb rv pn pv tv ov v6 TX OX (FX ++ [r]):=by
 have k9:=kept_field (fb:=xb) (fld:=5) (v6:=v6) r3
 have b6:Blk w6 xb #[rv,pn,pv,tv,ov,fv] 78:=h.blk.kept r3 (fun e=>ownsRow_ne h.of h.blk (by decide) e)
 have kk:Kept (fun b=>b = xb) w6 (w6.setCell ⟨xb,5,none⟩ v6):=Kept.setCell (ex:=fun b=>b = xb) (p:=⟨xb,5,none⟩) (Kept.refl _ _) (fun _=>rfl) _
 have n6:v6.ownBlock ≠ some xb:=ownsRow_ne r1 b6 (by decide)
 refine ⟨b6.set 5 v6,ownsRow_kept h.txt k9 (fun b hb e=>?_),⟨ownsRow_kept h.tos.row k9 (fun b hb e=>?_),fun p hp=>⟨(h.tos.each p hp).1.kept k9 (fun e=>?_),(h.tos.each p hp).2⟩⟩,ownsRow_kept r1 kk (fun b hb e=>n6 (by rw [← e]; exact hb)),fun p hp e=>?_⟩
 ·rcases e with e | e
  ·exact own_apart h.of h.txt (by decide) e hb
  ·subst e; exact ownsRow_ne h.txt h.blk (by decide) hb
 ·rcases e with e | e
  ·exact own_apart h.of h.tos.row (by decide) e hb
  ·subst e; exact ownsRow_ne h.tos.row h.blk (by decide) hb
 ·rcases e with e | e
  ·exact h.sep p hp e
  ·exact (h.tos.each p hp).1.ne h.blk (by decide) e
 ·rcases r2 _ e with e' | e'
  ·exact h.sep p hp e'
  ·have:=(h.tos.each p hp).1.lt; omega
end
theorem LexR.keptX {w w':World} {xb:Nat} {rs:ByteArray} {f:Nat→Int} {rules:List MT} {ex:Nat→Prop} (h:LexR w xb rs f rules) (k:Kept ex w w') (hx:∀ x,hasL rules x→¬ ex x) {c':Array Value} (hb:Blk w' xb c' 78)
  {c:Array Value} (hc:Blk w xb c 78) (h0:c'[0]? = c[0]?) (h1:c'[1]? = c[1]?) (hr:∀ rv,c[0]? = some rv→∀ b,rv.ownBlock = some b→¬ ex b):LexR w' xb rs f rules:=by
 obtain ⟨c2,rv,g1,g2,g3,g4⟩:=h.blk
 have e:=(hc.one g1).1
 subst e
 exact ⟨⟨c',rv,hb,by rw [h0]; exact g2,by rw [h1]; exact g3,ownsRow_kept g4 k (hr rv g2)⟩,AtL.kept k rules h.prt hx,h.num,h.wf,h.rsz,h.psz,h.pos⟩
end Go.Proofs.YtcckhngbdoiikaaGreat
