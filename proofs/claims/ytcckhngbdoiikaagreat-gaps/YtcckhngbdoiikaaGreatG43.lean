import Derived.Test.YtcckhngbdoiikaaGreatG41
import Derived.Test.YtcckhngbdoiikaaGreatG14
import Derived.Test.YtcckhngbdoiikaaGreatG06
import Derived.Test.YtcckhngbdoiikaaGreatG23
import Derived.Test.YtcckhngbdoiikaaGreatG05
import Derived.Test.YtcckhngbdoiikaaGreatG25
import Derived.Deep.RegionHeld3
import Derived.IntWalk
import Derived.Laws.CopyOwn
import Derived.Deep.DeepCutAuto
import Derived.BigQuiet
import Derived.Deep.QuietTactic
import Derived.Test.YtcckhngbdoiikaaGreatG24
import Derived.Test.YtcckhngbdoiikaaGreatG42

namespace Go.Proofs.YtcckhngbdoiikaaGreat
open Go.RowKit Go.Deep
set_option linter.unusedVariables false
theorem bytesN_getF (s:ByteArray) (p:Nat) (h:p < s.size) (h9:p < (bytesN s).length):(bytesN s)[p] = s[p].toNat:=by
 have e:(bytesN s)[p]? = some s[p].toNat:=by
  show (s.data.toList.map UInt8.toNat)[p]? = _
  rw [List.getElem?_map,Array.getElem?_toList,Array.getElem?_eq_getElem h]
  rfl
 rw [List.getElem?_eq_getElem h9] at e
 exact Option.some.inj e
end Go.Proofs.YtcckhngbdoiikaaGreat

namespace Go.Proofs.YtcckhngbdoiikaaGreat
set_option linter.unusedVariables false
theorem numberF_ok {g:Graph} {K:Nat} (ho:GOk g K) (hpos:0 < g.rule.length) {cls:List Int} (hcl:cls.length = g.rule.length) (hc:∀ x ∈ cls,0 ≤ x∧x < (g.rule.length:Int)) (hst:Stable g K cls) {j k:Nat} (hj:j < (numberF g cls).rule.length) (hk:k < K) :
  stepK (numberF g cls) (j:Int) k = -1∨∃ j':Nat,stepK (numberF g cls) (j:Int) k = (j':Int)∧j' < (numberF g cls).rule.length:=by
 have hj':j < (visitF g cls).1.length:=by simpa [numberF] using hj
 have hv:=(visitF_inv ho hpos hcl hc).1
 have hF:=hv.ok.ok _ (getD_mem (l:=(visitF g cls).1) hj' 0)
 rcases number_step ho hpos hcl hc hst hj' (a:=((visitF g cls).1.getD j 0).toNat) (by omega) rfl hk with ⟨h1,_⟩ | ⟨j2,a2,h1,_,h3,_,_⟩
 ·exact .inl h1
 ·exact .inr ⟨j2,h1,by simpa [numberF] using h3⟩
structure LexG (kd:Nat→Nat) (g:Graph):Prop where
 pos:0 < g.rule.length
 len:g.next.length = g.rule.length
 step:∀ j b,j < g.rule.length→b < 256→stepK g (j:Int) (kd b) = -1∨∃ j':Nat,stepK g (j:Int) (kd b) = (j':Int)∧j' < g.rule.length
theorem build_lexG {R:RulesT} {kd:Nat→Nat} {g:Graph} (h:buildF R = some (kd,g)):LexG kd g:=by
 obtain ⟨g0,hg,rfl,rfl⟩:=buildF_some h
 obtain ⟨ho,hp,hn⟩:=exploreF_ok hg
 have ho':=pruneF_ok ho
 have hp':0 < (pruneF g0).rule.length:=hp
 have hv:=visitF_inv ho' hp' (mergeF_len _) (mergeF_bd _ hp')
 refine ⟨by simpa [numberF] using hv.1.pos.1,by simp [numberF],fun j b hj hb=>?_⟩
 exact numberF_ok ho' hp' (mergeF_len _) (mergeF_bd _ hp') (mergeF_stable ho' hp') hj (kindOf_get R.allow b 256 hb).1
theorem nextF_step {kd:Nat→Nat} {g:Graph} (h:LexG kd g) {j b:Nat} (hj:j < g.rule.length) (hb:b < 256):nextF kd g (j:Int) (b:Int) = stepK g (j:Int) (kd b):=by
 unfold nextF stepK
 rw [if_neg (by rw [h.len]; omega),if_neg (by omega),Int.toNat_natCast,Int.toNat_natCast]
theorem ruleOf_acc {g:Graph} {j:Nat} (hj:j < g.rule.length):ruleOfF g (j:Int) = accK g (j:Int):=by
 unfold ruleOfF accK
 rw [if_neg (by omega),if_neg (by omega)]
theorem peek_bytes (s:ByteArray) (p:Nat) (h:p < s.size) (h9:p < (bytesN s).length):peekI s p = ((bytesN s)[p]:Int)∧(bytesN s)[p] < 256:=by
 rw [bytesN_getF s p h h9]
 unfold peekI
 rw [dif_pos h]
 exact ⟨rfl,s[p].toNat_lt⟩
theorem build_lives {R:RulesT} {kd:Nat→Nat} {g:Graph} (h:buildF R = some (kd,g)) {j j' k:Nat} (hj:j < g.rule.length) (hk:k < (kindsAt R.allow 256).length) (hs:stepK g (j:Int) k = (j':Int)):Lives g (kindsAt R.allow 256).length (j':Int):=by
 obtain ⟨g0,hg,rfl,rfl⟩:=buildF_some h
 clear h
 obtain ⟨ho,hp,hn⟩:=exploreF_ok hg
 have ho':=pruneF_ok ho
 have hp':0 < (pruneF g0).rule.length:=hp
 have hv:=(visitF_inv ho' hp' (mergeF_len _) (mergeF_bd _ hp')).1
 have hst:=mergeF_stable ho' hp'
 have hj':j < (visitF (pruneF g0) (mergeF (pruneF g0))).1.length:=by simpa [numberF] using hj
 have hF:=hv.ok.ok _ (getD_mem (l:=(visitF (pruneF g0) (mergeF (pruneF g0))).1) hj' 0)
 rcases number_step ho' hp' (mergeF_len _) (mergeF_bd _ hp') hst hj' (a:=((visitF (pruneF g0) (mergeF (pruneF g0))).1.getD j 0).toNat) (by omega) rfl hk with ⟨h1,_⟩ | ⟨j2,a2,h1,h2,h3,h4,h5⟩
 ·rw [hs] at h1; omega
 ·rw [hs] at h1
  have e:j' = j2:=by omega
  subst e
  obtain ⟨ks,g1,g2⟩:=prune_lives ho (s:=((visitF (pruneF g0) (mergeF (pruneF g0))).1.getD j 0).toNat) (t:=a2) (k:=k) (by have:(pruneF g0).rule.length = g0.rule.length:=rfl; omega) hk h2
  refine ⟨ks,g1,?_⟩
  rw [number_acc ho' hp' (mergeF_len _) (mergeF_bd _ hp') hst ks j' a2 g1 h3 h4 h5]
  exact g2
theorem build_row {R:RulesT} {kd:Nat→Nat} {g:Graph} (h:buildF R = some (kd,g)) {j:Nat} (hj:j < g.rule.length):(g.next.getD j []).length = (kindsAt R.allow 256).length:=by
 obtain ⟨g0,hg,rfl,rfl⟩:=buildF_some h
 clear h
 obtain ⟨ho,hp,hn⟩:=exploreF_ok hg
 have ho':=pruneF_ok ho
 have hp':0 < (pruneF g0).rule.length:=hp
 have hv:=(visitF_inv ho' hp' (mergeF_len _) (mergeF_bd _ hp')).1
 have hj':j < (visitF (pruneF g0) (mergeF (pruneF g0))).1.length:=by simpa [numberF] using hj
 have hF:=hv.ok.ok _ (getD_mem (l:=(visitF (pruneF g0) (mergeF (pruneF g0))).1) hj' 0)
 have e1:(numberF (pruneF g0) (mergeF (pruneF g0))).next.getD j [] = numberRow (mergeF (pruneF g0)) (visitF (pruneF g0) (mergeF (pruneF g0))).2 ((pruneF g0).next.getD ((visitF (pruneF g0) (mergeF (pruneF g0))).1.getD j 0).toNat []):=by simp [numberF,hj']
 rw [e1]
 unfold numberRow
 rw [List.length_map]
 exact (ho'.row _ (by rw [ho'.len]; omega)).1
def FarT (kd:Nat→Nat) (g:Graph):Nat→Int→Prop
 | 0,s=>ruleOfF g s ≠ -1
 |d + 1,s=>ruleOfF g s = -1∧∃ b:Nat,b < 256∧nextF kd g s (b:Int) ≠ -1∧FarT kd g d (nextF kd g s (b:Int))
def LeadT (kd:Nat→Nat) (g:Graph) (d:Nat) (s:Int):Prop:=∃ b:Nat,b < 256∧nextF kd g s (b:Int) ≠ -1∧FarT kd g d (nextF kd g s (b:Int))
theorem lives_far {R:RulesT} {kd:Nat→Nat} {g:Graph} (h:buildF R = some (kd,g)):∀ (ks:List Nat) (j:Nat),(∀ k ∈ ks,k < (kindsAt R.allow 256).length)→j < g.rule.length→accK g (runK g (j:Int) ks) ≠ -1→∃ d,FarT kd g d (j:Int)
 | [],j,_,hj,ha=>⟨0,by show ruleOfF g (j:Int) ≠ -1; rw [ruleOf_acc hj]; exact ha⟩
 |k :: ks,j,hk,hj,ha=>by
  by_cases hr:ruleOfF g (j:Int) = -1
  ·have ha':accK g (runK g (stepK g (j:Int) k) ks) ≠ -1:=ha
   have hG:=build_lexG h
   obtain ⟨b,hb,e⟩:=kind_onto R.allow 256 k (hk k (by simp))
   have hkd:kd = kindOf R.allow:=by obtain ⟨_,_,e,_⟩:=buildF_some h; exact e
   have hs:=hG.step j b hj hb
   have hn:=nextF_step hG hj hb
   rw [hkd,e] at hs
   rw [hkd,e,← hkd] at hn
   rcases hs with e1 | ⟨j',e1,hj'⟩
   ·exfalso
    rw [e1,runK_dead g ks (-1) (by omega)] at ha'
    apply ha'
    split <;> rfl
   ·rw [e1] at ha' hn
    obtain ⟨d,hd⟩:=lives_far h ks j' (fun x hx=>hk x (by simp [hx])) hj' ha'
    exact ⟨d + 1,hr,b,hb,by rw [hn]; omega,by rw [hn]; exact hd⟩
  ·exact ⟨0,hr⟩
theorem LexG.stepsIn {kd:Nat→Nat} {g:Graph} (h:LexG kd g):StepsIn kd g:=by
 intro s b
 by_cases hc:s < 0∨(g.next.length:Int) ≤ s∨b < 0∨256 ≤ b
 ·left
  unfold nextF
  rw [if_pos hc]
 ·obtain ⟨j,rfl⟩:∃ j:Nat,s = (j:Int):=⟨s.toNat,by omega⟩
  obtain ⟨c,rfl⟩:∃ c:Nat,b = (c:Int):=⟨b.toNat,by omega⟩
  have hl:=h.len
  rw [nextF_step h (by omega) (by omega)]
  rcases h.step j c (by omega) (by omega) with e | ⟨j',e,hj'⟩
  ·exact .inl e
  ·right; rw [e]; omega
theorem build_small {R:RulesT} {kd:Nat→Nat} {g:Graph} (h:buildF R = some (kd,g)):g.rule.length ≤ 61:=by
 obtain ⟨g0,hg,rfl,rfl⟩:=buildF_some h
 obtain ⟨ho,hp,hn⟩:=exploreF_ok hg
 have ho':=pruneF_ok ho
 have hp':0 < (pruneF g0).rule.length:=hp
 have hv:=(visitF_inv ho' hp' (mergeF_len _) (mergeF_bd _ hp')).1
 have h1:=hv.ok
 have e1:(numberF (pruneF g0) (mergeF (pruneF g0))).rule.length = (visitF (pruneF g0) (mergeF (pruneF g0))).1.length:=by simp [numberF]
 have e2:(pruneF g0).rule.length = g0.rule.length:=rfl
 have:=h1.sum
 omega
theorem newF_build {s:ByteArray} {kd:Nat→Nat} {g:Graph} (h:newF s = .lexer kd g):∃ R,buildF R = some (kd,g):=by
 unfold newF at h
 split at h
 ·cases h
 ·split at h
  ·cases h
  ·split at h
   ·cases h
   ·rename_i hx
    injection h with h1 h2
    subst h1 h2
    exact ⟨_,hx⟩
theorem visitStep_new {cls:List Int} {N:Nat} {st:List Int × List Int} (hl:st.2.length = N) {tt:Int} (hc:0 ≤ cls.getD tt.toNat 0∧cls.getD tt.toNat 0 < (N:Int)∨tt = -1) {j:Nat} (h1:st.1.length ≤ j) (h2:j < (visitStep cls st tt).1.length):tt ≠ -1∧(visitStep cls st tt).2.getD (cls.getD tt.toNat 0).toNat 0 = (j:Int):=by
 unfold visitStep at h2 ⊢
 split at h2
 ·rename_i hcd
  rw [if_pos hcd]
  simp only [Bool.and_eq_true,bne_iff_ne,ne_eq,beq_iff_eq] at hcd
  simp only [List.length_append,List.length_cons,List.length_nil] at h2
  refine ⟨hcd.1,?_⟩
  simp only
  rcases hc with hc | hc
  ·rw [getD_set _ _ _ _ (by omega),if_pos rfl]
   omega
  ·exact absurd hc hcd.1
 ·omega
theorem visitRow_new {N:Nat} {cls:List Int} (hcl:cls.length = N) (hc:∀ x ∈ cls,0 ≤ x∧x < (N:Int)):∀ (row:List Int) (st:List Int × List Int),VInv N cls st→RowOk N row →
  ∀ j:Nat,st.1.length ≤ j→j < (visitRow cls row st).1.length→∃ tt ∈ row,tt ≠ -1∧(visitRow cls row st).2.getD (cls.getD tt.toNat 0).toNat 0 = (j:Int)
 | [],st,h,_,j,h1,h2=>by
  have e:visitRow cls [] st = st:=rfl
  rw [e] at h2
  omega
 |x :: r,st,h,hr,j,h1,h2=>by
  have e:visitRow cls (x :: r) st = visitRow cls r (visitStep cls st x):=rfl
  rw [e] at h2 ⊢
  obtain ⟨s1,s2,s3⟩:=visitStep_inv hcl hc h (hr x (by simp))
  obtain ⟨r1,r2,r3⟩:=visitRow_inv hcl hc r _ s1 (fun y hy=>hr y (by simp [hy]))
  by_cases hj:j < (visitStep cls st x).1.length
  ·have hx:=hr x (by simp)
   obtain ⟨g1,g2⟩:=visitStep_new (cls:=cls) (N:=N) h.ok.len (tt:=x) (by
    rcases hx with e | e
    ·exact .inr e
    ·exact .inl (hc _ (getD_mem (by omega) 0))) h1 hj
   refine ⟨x,by simp,g1,?_⟩
   rw [r2.2 _ (by rw [g2]; omega),g2]
  ·obtain ⟨tt,g1,g2,g3⟩:=visitRow_new hcl hc r _ s1 (fun y hy=>hr y (by simp [hy])) j (by omega) h2
   exact ⟨tt,by simp [g1],g2,g3⟩
def Found (g:Graph) (cls:List Int) (st:List Int × List Int) (i:Nat):Prop:=∀ j:Nat,0 < j→j < st.1.length→∃ i':Nat,i' < i∧i' < j∧∃ tt ∈ g.next.getD (st.1.getD i' 0).toNat [],tt ≠ -1∧st.2.getD (cls.getD tt.toNat 0).toNat 0 = (j:Int)
theorem visitLoop_found {g:Graph} {K:Nat} (ho:GOk g K) {cls:List Int} (hcl:cls.length = g.rule.length) (hc:∀ x ∈ cls,0 ≤ x∧x < (g.rule.length:Int)):∀ (f i:Nat) (st:List Int × List Int),i ≤ st.1.length→VInv g.rule.length cls st→Found g cls st i →
  ∃ i',Found g cls (visitLoop g cls f i st) i'
 | 0,i,st,hi,h,hF=>⟨i,hF⟩
 |f + 1,i,st,hi,h,hF=>by
  unfold visitLoop
  split
  ·rename_i hlt
   have hin:=h.ok.ok _ (getD_mem (l:=st.1) hlt 0)
   have hrow:=(ho.row (st.1.getD i 0).toNat (by rw [ho.len]; omega)).2
   obtain ⟨r1,r2,r3⟩:=visitRow_inv hcl hc _ st h hrow
   have r4:=visitRow_new hcl hc _ st h hrow
   refine visitLoop_found ho hcl hc f (i + 1) _ (by have:=r2.1.length_le; omega) r1 (fun j j0 jl=>?_)
   by_cases hj:j < st.1.length
   ·obtain ⟨i',a1,a2,tt,a3,a4,a5⟩:=hF j j0 hj
    refine ⟨i',by omega,a2,tt,by rw [prefix_getI r2.1 (by omega)]; exact a3,a4,?_⟩
    rw [r2.2 _ (by rw [a5]; omega),a5]
   ·obtain ⟨tt,a3,a4,a5⟩:=r4 j (by omega) jl
    exact ⟨i,by omega,by omega,tt,by rw [prefix_getI r2.1 hlt]; exact a3,a4,a5⟩
  ·exact ⟨i,hF⟩
theorem visitF_found {g:Graph} {K:Nat} (ho:GOk g K) (hpos:0 < g.rule.length) {cls:List Int} (hcl:cls.length = g.rule.length) (hc:∀ x ∈ cls,0 ≤ x∧x < (g.rule.length:Int)):∃ i',Found g cls (visitF g cls) i':=by
 have hx:=hc _ (getD_mem (l:=cls) (k:=0) (by omega) 0)
 have hck:(cls.getD 0 0).toNat < (List.replicate cls.length (-1:Int)).length:=by rw [List.length_replicate]; omega
 have hrep:∀ d,d < cls.length→(List.replicate cls.length (-1:Int)).getD d 0 = -1:=fun d hd=>by simp [hd]
 refine visitLoop_found ho hcl hc _ 0 _ (by simp) ⟨⟨?_,by simp [hcl],fun x hx=>by simp at hx; omega⟩,⟨by simp,rfl⟩,fun j hj=>?_,fun d hd=>?_⟩ (fun j j0 jl=>by simp at jl; omega)
 ·have h1:=neg1_set (List.replicate cls.length (-1:Int)) (cls.getD 0 0).toNat 0 hck (by rw [hrep _ (by omega)]) (by omega)
  have h2:neg1 (List.replicate cls.length (-1:Int)) = cls.length:=by simp [neg1]
  simp only [List.length_cons,List.length_nil]
  omega
 ·simp only [List.length_cons,List.length_nil] at hj
  have:j = 0:=by omega
  subst this
  simp only [List.getD_cons_zero,Int.toNat_zero]
  rw [getD_set _ _ _ _ hck,if_pos rfl]; rfl
 ·simp only
  rw [getD_set _ _ _ _ hck]
  split
  ·rename_i e
   right
   refine ⟨by omega,by simp,?_⟩
   simp only [Int.toNat_zero,List.getD_cons_zero]
   omega
  ·exact .inl (hrep d (by omega))
theorem build_reach {R:RulesT} {kd:Nat→Nat} {g:Graph} (h:buildF R = some (kd,g)) {j:Nat} (j0:0 < j) (hj:j < g.rule.length):∃ i b:Nat,i < j∧b < 256∧nextF kd g (i:Int) (b:Int) = (j:Int):=by
 have hG:=build_lexG h
 have hrow:=fun i (hi:i < g.rule.length)=>build_row h hi
 have hkd:kd = kindOf R.allow:=by obtain ⟨_,_,e,_⟩:=buildF_some h; exact e
 obtain ⟨i,hij,k,hk,hs⟩:∃ i:Nat,i < j∧∃ k,k < (kindsAt R.allow 256).length∧stepK g (i:Int) k = (j:Int):=by
  obtain ⟨g0,hg,rfl,rfl⟩:=buildF_some h
  obtain ⟨ho,hp,hn⟩:=exploreF_ok hg
  have ho':=pruneF_ok ho
  have hp':0 < (pruneF g0).rule.length:=hp
  obtain ⟨x,hF⟩:=visitF_found ho' hp' (mergeF_len _) (mergeF_bd _ hp')
  have hv:=(visitF_inv ho' hp' (mergeF_len _) (mergeF_bd _ hp')).1
  have hj':j < (visitF (pruneF g0) (mergeF (pruneF g0))).1.length:=by simpa [numberF] using hj
  obtain ⟨i,_,hij,tt,a1,a2,a3⟩:=hF j j0 hj'
  have hi':i < (visitF (pruneF g0) (mergeF (pruneF g0))).1.length:=by omega
  have hin:=hv.ok.ok _ (getD_mem (l:=(visitF (pruneF g0) (mergeF (pruneF g0))).1) hi' 0)
  obtain ⟨k,hk,e⟩:=List.getElem_of_mem a1
  have hr:=ho'.row ((visitF (pruneF g0) (mergeF (pruneF g0))).1.getD i 0).toNat (by rw [ho'.len]; omega)
  refine ⟨i,hij,k,by rw [← hr.1]; exact hk,?_⟩
  have e1:(numberF (pruneF g0) (mergeF (pruneF g0))).next.getD i [] = numberRow (mergeF (pruneF g0)) (visitF (pruneF g0) (mergeF (pruneF g0))).2 ((pruneF g0).next.getD ((visitF (pruneF g0) (mergeF (pruneF g0))).1.getD i 0).toNat []):=by simp [numberF,hi']
  have hneg:¬ ((i:Int) < 0):=by omega
  simp only [stepK,if_neg hneg,Int.toNat_natCast]
  rw [e1]
  unfold numberRow
  rw [getD_map _ _ _ hk]
  have e2:((pruneF g0).next.getD ((visitF (pruneF g0) (mergeF (pruneF g0))).1.getD i 0).toNat []).getD k 0 = tt:=by
   rw [List.getD_eq_getElem?_getD,List.getElem?_eq_getElem hk]
   exact e
  rw [e2,if_pos (by simpa using a2),a3]
 obtain ⟨b,hb,e⟩:=kind_onto R.allow 256 k hk
 refine ⟨i,b,hij,hb,?_⟩
 rw [nextF_step hG (by omega) hb,hkd,e]
 exact hs
end Go.Proofs.YtcckhngbdoiikaaGreat
