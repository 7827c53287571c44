import Derived.Test.YtcckhngbdoiikaaGreatG23

namespace Go.Proofs.YtcckhngbdoiikaaGreat
set_option linter.unusedVariables false
theorem mergeLoop_stable {g:Graph} {K:Nat} (ho:GOk g K) (hpos:0 < g.rule.length):∀ (f:Nat) (cls:List Int) (count:Nat),g.rule.length + 1 ≤ f + count→count ≤ g.rule.length→count ≤ (refineAt g cls g.rule.length).2 →
  (count = 0∨((∀ a,a < g.rule.length→0 ≤ cls.getD a 0∧cls.getD a 0 < (count:Int))∧∀ c:Nat,c < count→∃ a,a < g.rule.length∧cls.getD a 0 = (c:Int)))→Stable g K (mergeLoop g f cls count)
 | 0,cls,count,h1,h2,_,_=>by omega
 |f + 1,cls,count,h1,h2,h3,h4=>by
  have hbd:=refineAt_bd g cls g.rule.length
  have hlen:=refineAt_len g cls g.rule.length
  have hsp:=refineAt_spec ho cls g.rule.length (Nat.le_refl _)
  have hmo:=refineAt_mono g cls g.rule.length g.rule.length (Nat.le_refl _)
  have hr:∀ a,a < g.rule.length→0 ≤ (refineAt g cls g.rule.length).1.getD a 0∧(refineAt g cls g.rule.length).1.getD a 0 < ((refineAt g cls g.rule.length).2:Int):=fun a ha=>hbd.1 _ (getD_mem (by omega) 0)
  unfold mergeLoop
  split
  ·rename_i hc
   rcases h4 with h4 | ⟨h4,h5⟩
   ·have:=hr 0 hpos
    omega
   ·exact refine_stable ho cls count h4 h5 hc
  ·rename_i hc
   exact mergeLoop_stable ho hpos f _ _ (by omega) hbd.2 hmo (.inr ⟨hr,hsp.2⟩)
theorem mergeF_stable {g:Graph} {K:Nat} (ho:GOk g K) (hpos:0 < g.rule.length):Stable g K (mergeF g) :=
 mergeLoop_stable ho hpos _ _ 0 (by omega) (by omega) (by omega) (.inl rfl)
theorem mergeLoop_len (g:Graph):∀ (f:Nat) (cls:List Int) (count:Nat),cls.length = g.rule.length→(mergeLoop g f cls count).length = g.rule.length
 | 0,cls,_,h=>h
 |f + 1,cls,count,h=>by
  unfold mergeLoop
  split
  ·exact refineAt_len _ _ _
  ·exact mergeLoop_len g f _ _ (refineAt_len _ _ _)
theorem mergeF_len (g:Graph):(mergeF g).length = g.rule.length:=mergeLoop_len g _ _ _ (by simp)
structure VInv (N:Nat) (cls:List Int) (st:List Int × List Int):Prop where
 ok:VOk N st
 pos:0 < st.1.length∧st.1.getD 0 0 = 0
 num:∀ j,j < st.1.length→st.2.getD (cls.getD (st.1.getD j 0).toNat 0).toNat 0 = (j:Int)
 cls:∀ c:Nat,c < N→st.2.getD c 0 = -1∨(0 ≤ st.2.getD c 0∧st.2.getD c 0 < (st.1.length:Int)∧cls.getD (st.1.getD (st.2.getD c 0).toNat 0).toNat 0 = (c:Int))
def VExt (st st':List Int × List Int):Prop:=st.1 <+: st'.1∧∀ c:Nat,st.2.getD c 0 ≠ -1→st'.2.getD c 0 = st.2.getD c 0
theorem VExt.refl (st:List Int × List Int):VExt st st:=⟨List.prefix_refl _,fun _ _=>rfl⟩
theorem VExt.trans {a b c:List Int × List Int} (h:VExt a b) (g:VExt b c):VExt a c:=⟨h.1.trans g.1,fun x hx=>by rw [g.2 x (by rw [h.2 x hx]; exact hx),h.2 x hx]⟩
theorem prefix_getI {l m:List Int} (h:l <+: m) {k:Nat} (hk:k < l.length):m.getD k 0 = l.getD k 0:=by
 obtain ⟨r,rfl⟩:=h
 rw [List.getD_eq_getElem?_getD,List.getElem?_append_left hk,← List.getD_eq_getElem?_getD]
theorem getD_set (l:List Int) (k i:Nat) (x:Int) (hk:k < l.length):(l.set k x).getD i 0 = if i = k then x else l.getD i 0:=by
 rw [List.getD_eq_getElem?_getD,List.getElem?_set]
 by_cases h:k = i
 ·subst h; simp [hk]
 ·rw [if_neg h,if_neg (fun e=>h e.symm),List.getD_eq_getElem?_getD]
theorem visitStep_inv {N:Nat} {cls:List Int} (hcl:cls.length = N) (hc:∀ x ∈ cls,0 ≤ x∧x < (N:Int)) {st:List Int × List Int} (h:VInv N cls st) {tt:Int} (ht:tt = -1∨(0 ≤ tt∧tt < (N:Int))) :
  VInv N cls (visitStep cls st tt)∧VExt st (visitStep cls st tt)∧(tt ≠ -1→(visitStep cls st tt).2.getD (cls.getD tt.toNat 0).toNat 0 ≠ -1):=by
 have hok:=visitStep_ok hcl hc h.ok ht
 unfold visitStep at hok ⊢
 split at hok
 ·rename_i hcd
  rw [if_pos hcd]
  simp only [Bool.and_eq_true,bne_iff_ne,ne_eq,beq_iff_eq] at hcd
  obtain ⟨h1,h2⟩:=hcd
  have ht':0 ≤ tt∧tt < (N:Int):=by rcases ht with e | e; exact absurd e h1; exact e
  have hx:=hc _ (getD_mem (l:=cls) (k:=tt.toNat) (by omega) 0)
  generalize hcc:cls.getD tt.toNat 0 = c at h2 hok hx ⊢
  have hlen:=h.ok.len
  have hck:c.toNat < st.2.length:=by omega
  have hpre:st.1 <+: st.1 ++ [tt]:=List.prefix_append _ _
  refine ⟨⟨hok,⟨by simp,?_⟩,fun j hj=>?_,fun d hd=>?_⟩,⟨hpre,fun d hd=>?_⟩,fun _=>?_⟩
  ·rw [prefix_getI hpre h.pos.1]; exact h.pos.2
  ·simp only at hj ⊢
   rw [getD_set _ _ _ _ hck]
   simp only [List.length_append,List.length_cons,List.length_nil] at hj
   by_cases hj':j < st.1.length
   ·rw [prefix_getI hpre hj']
    have h3:=h.num j hj'
    rw [if_neg (fun e=>by rw [e] at h3; omega)]
    exact h3
   ·have:j = st.1.length:=by omega
    subst this
    have e9:(st.1 ++ [tt]).getD st.1.length 0 = tt:=by simp
    rw [e9,hcc,if_pos rfl]
  ·simp only
   rw [getD_set _ _ _ _ hck]
   simp only [List.length_append,List.length_cons,List.length_nil]
   split
   ·rename_i e
    right
    refine ⟨by omega,by omega,?_⟩
    rw [Int.toNat_natCast,getD_snoc,if_neg (by omega),if_pos rfl,hcc]
    omega
   ·rcases h.cls d hd with e | ⟨e1,e2,e3⟩
    ·exact .inl e
    ·exact .inr ⟨e1,by omega,by rw [prefix_getI hpre (by omega)]; exact e3⟩
  ·simp only
   rw [getD_set _ _ _ _ hck,if_neg (fun e=>by rw [e] at hd; exact hd h2)]
  ·simp only
   rw [getD_set _ _ _ _ hck,if_pos rfl]
   omega
 ·rename_i hcd
  rw [if_neg hcd]
  refine ⟨h,VExt.refl _,fun hne he=>hcd ?_⟩
  simp only [Bool.and_eq_true,bne_iff_ne,ne_eq,beq_iff_eq]
  exact ⟨hne,he⟩
theorem visitRow_inv {N:Nat} {cls:List Int} (hcl:cls.length = N) (hc:∀ x ∈ cls,0 ≤ x∧x < (N:Int)):∀ (row:List Int) (st:List Int × List Int),VInv N cls st→RowOk N row →
  VInv N cls (visitRow cls row st)∧VExt st (visitRow cls row st)∧∀ tt ∈ row,tt ≠ -1→(visitRow cls row st).2.getD (cls.getD tt.toNat 0).toNat 0 ≠ -1
 | [],st,h,_=>⟨h,VExt.refl _,fun tt hx=>by simp at hx⟩
 |x :: r,st,h,hr=>by
  have e:visitRow cls (x :: r) st = visitRow cls r (visitStep cls st x):=rfl
  rw [e]
  obtain ⟨s1,s2,s3⟩:=visitStep_inv hcl hc h (hr x (by simp))
  obtain ⟨r1,r2,r3⟩:=visitRow_inv hcl hc r _ s1 (fun y hy=>hr y (by simp [hy]))
  refine ⟨r1,s2.trans r2,fun tt htt hne=>?_⟩
  rw [List.mem_cons] at htt
  rcases htt with e' | e'
  ·subst e'
   rw [r2.2 _ (s3 hne)]
   exact s3 hne
  ·exact r3 tt e' hne
theorem visitLoop_inv {g:Graph} {K:Nat} (ho:GOk g K) {cls:List Int} (hcl:cls.length = g.rule.length) (hc:∀ x ∈ cls,0 ≤ x∧x < (g.rule.length:Int)):∀ (f i:Nat) (st:List Int × List Int),f + i = g.rule.length + 1→i ≤ st.1.length→VInv g.rule.length cls st →
  (∀ j,j < i→∀ tt ∈ g.next.getD (st.1.getD j 0).toNat [],tt ≠ -1→st.2.getD (cls.getD tt.toNat 0).toNat 0 ≠ -1) →
  VInv g.rule.length cls (visitLoop g cls f i st)∧∀ j,j < (visitLoop g cls f i st).1.length→∀ tt ∈ g.next.getD ((visitLoop g cls f i st).1.getD j 0).toNat [],tt ≠ -1→(visitLoop g cls f i st).2.getD (cls.getD tt.toNat 0).toNat 0 ≠ -1
 | 0,i,st,hf,hi,h,_=>by have:=h.ok.sum; omega
 |f + 1,i,st,hf,hi,h,hd=>by
  unfold visitLoop
  split
  ·rename_i hlt
   have hin:=h.ok.ok _ (getD_mem (l:=st.1) hlt 0)
   have hrow:=(ho.row (st.1.getD i 0).toNat (by rw [ho.len]; omega)).2
   obtain ⟨r1,r2,r3⟩:=visitRow_inv hcl hc _ st h hrow
   refine visitLoop_inv ho hcl hc f (i + 1) _ (by omega) (by have:=r2.1.length_le; omega) r1 (fun j hj tt htt hne=>?_)
   rw [prefix_getI r2.1 (by omega)] at htt
   by_cases hj':j < i
   ·have:=hd j hj' tt htt hne
    rw [r2.2 _ this]
    exact this
   ·have:j = i:=by omega
    subst this
    exact r3 tt htt hne
  ·rename_i hlt
   exact ⟨h,fun j hj=>hd j (by omega)⟩
theorem visitF_inv {g:Graph} {K:Nat} (ho:GOk g K) (hpos:0 < g.rule.length) {cls:List Int} (hcl:cls.length = g.rule.length) (hc:∀ x ∈ cls,0 ≤ x∧x < (g.rule.length:Int)) :
  VInv g.rule.length cls (visitF g cls)∧∀ j,j < (visitF g cls).1.length→∀ tt ∈ g.next.getD ((visitF g cls).1.getD j 0).toNat [],tt ≠ -1→(visitF g cls).2.getD (cls.getD tt.toNat 0).toNat 0 ≠ -1:=by
 have hx:=hc _ (getD_mem (l:=cls) (k:=0) (by omega) 0)
 have hck:(cls.getD 0 0).toNat < (List.replicate cls.length (-1:Int)).length:=by rw [List.length_replicate]; omega
 have hrep:∀ d,d < cls.length→(List.replicate cls.length (-1:Int)).getD d 0 = -1:=fun d hd=>by simp [hd]
 refine visitLoop_inv ho hcl hc _ 0 _ (by omega) (by simp) ⟨⟨?_,by simp [hcl],fun x hx=>by simp at hx; omega⟩,⟨by simp,rfl⟩,fun j hj=>?_,fun d hd=>?_⟩ (fun j hj=>by omega)
 ·have h1:=neg1_set (List.replicate cls.length (-1:Int)) (cls.getD 0 0).toNat 0 hck (by rw [hrep _ (by omega)]) (by omega)
  have h2:neg1 (List.replicate cls.length (-1:Int)) = cls.length:=by simp [neg1]
  simp only [List.length_cons,List.length_nil]
  omega
 ·simp only [List.length_cons,List.length_nil] at hj
  have:j = 0:=by omega
  subst this
  simp only [List.getD_cons_zero,Int.toNat_zero]
  rw [getD_set _ _ _ _ hck,if_pos rfl]; rfl
 ·simp only
  rw [getD_set _ _ _ _ hck]
  split
  ·rename_i e
   right
   refine ⟨by omega,by simp,?_⟩
   simp only [Int.toNat_zero,List.getD_cons_zero]
   omega
  ·exact .inl (hrep d (by omega))
theorem number_step {g:Graph} {K:Nat} (ho:GOk g K) (hpos:0 < g.rule.length) {cls:List Int} (hcl:cls.length = g.rule.length) (hc:∀ x ∈ cls,0 ≤ x∧x < (g.rule.length:Int)) (hst:Stable g K cls)
  {j a:Nat} (hj:j < (visitF g cls).1.length) (ha:a < g.rule.length) (he:cls.getD ((visitF g cls).1.getD j 0).toNat 0 = cls.getD a 0) {k:Nat} (hk:k < K) :
  (stepK (numberF g cls) (j:Int) k = -1∧stepK g (a:Int) k = -1)∨∃ j' a':Nat,stepK (numberF g cls) (j:Int) k = (j':Int)∧stepK g (a:Int) k = (a':Int)∧j' < (visitF g cls).1.length∧a' < g.rule.length∧cls.getD ((visitF g cls).1.getD j' 0).toNat 0 = cls.getD a' 0:=by
 obtain ⟨hv,hd⟩:=visitF_inv ho hpos hcl hc
 have hF:=hv.ok.ok _ (getD_mem (l:=(visitF g cls).1) hj 0)
 have hdj:=hd j hj
 have e1:(numberF g cls).next.getD j [] = numberRow cls (visitF g cls).2 (g.next.getD ((visitF g cls).1.getD j 0).toNat []):=by simp [numberF,hj]
 generalize hb:((visitF g cls).1.getD j 0).toNat = b at *
 have hb':b < g.rule.length:=by omega
 have rb:=ho.row b (by rw [ho.len]; exact hb')
 have hs:=(hst b a hb' ha he).2 k hk
 have ib:=stepK_in ho (s:=(b:Int)) (by omega) (by omega) hk
 have ia:=stepK_in ho (s:=(a:Int)) (by omega) (by omega) hk
 have eb:stepK g (b:Int) k = (g.next.getD b []).getD k 0:=by unfold stepK; rw [if_neg (by omega),Int.toNat_natCast]
 have ea:stepK g (a:Int) k = (g.next.getD a []).getD k 0:=by unfold stepK; rw [if_neg (by omega),Int.toNat_natCast]
 rw [← eb,← ea] at hs
 have hmem:stepK g (b:Int) k ∈ g.next.getD b []:=by rw [eb]; exact getD_mem (by rw [rb.1]; exact hk) 0
 have en:stepK (numberF g cls) (j:Int) k = if stepK g (b:Int) k != -1 then (visitF g cls).2.getD (cls.getD (stepK g (b:Int) k).toNat 0).toNat 0 else -1:=by
  have hneg:¬ ((j:Int) < 0):=by omega
  have ej:stepK (numberF g cls) (j:Int) k = ((numberF g cls).next.getD j []).getD k 0:=by simp only [stepK,if_neg hneg,Int.toNat_natCast]
  rw [ej,e1,eb]
  have hkl:k < (g.next.getD b []).length:=by rw [rb.1]; exact hk
  unfold numberRow
  rw [getD_map _ _ _ hkl]
 rw [en]
 unfold stepSame at hs
 rcases ib with e | e
 ·rw [e] at hs ⊢
  simp at hs
  left
  exact ⟨by simp,hs.symm⟩
 ·have hne:stepK g (b:Int) k ≠ -1:=by omega
  have hne2:stepK g (a:Int) k ≠ -1:=by
   intro e2
   rw [e2] at hs
   simp at hs
   exact hne hs
  simp [hne,hne2] at hs
  right
  have hd':=hdj _ hmem hne
  generalize stepK g (b:Int) k = x at *
  have ia':0 ≤ stepK g (a:Int) k∧stepK g (a:Int) k < (g.rule.length:Int):=by rcases ia with e2 | e2; exact absurd e2 hne2; exact e2
  generalize stepK g (a:Int) k = y at *
  have hx:=hc _ (getD_mem (l:=cls) (k:=x.toNat) (by omega) 0)
  rcases hv.cls (cls.getD x.toNat 0).toNat (by omega) with e3 | ⟨e3,e4,e5⟩
  ·exact absurd e3 hd'
  ·rw [if_pos (by simpa using hne)]
   generalize (visitF g cls).2.getD (cls.getD x.toNat 0).toNat 0 = m at *
   refine ⟨m.toNat,y.toNat,by omega,by omega,by omega,by omega,?_⟩
   rw [e5]
   have hs':cls.getD x.toNat 0 = cls.getD y.toNat 0:=by simpa using hs
   rw [← hs']
   omega
theorem number_acc {g:Graph} {K:Nat} (ho:GOk g K) (hpos:0 < g.rule.length) {cls:List Int} (hcl:cls.length = g.rule.length) (hc:∀ x ∈ cls,0 ≤ x∧x < (g.rule.length:Int)) (hst:Stable g K cls):∀ (ks:List Nat) (j a:Nat),(∀ k ∈ ks,k < K)→j < (visitF g cls).1.length→a < g.rule.length→cls.getD ((visitF g cls).1.getD j 0).toNat 0 = cls.getD a 0 →
  accK (numberF g cls) (runK (numberF g cls) (j:Int) ks) = accK g (runK g (a:Int) ks)
 | [],j,a,_,hj,ha,he=>by
  show accK (numberF g cls) (j:Int) = accK g (a:Int)
  obtain ⟨hv,_⟩:=visitF_inv ho hpos hcl hc
  have hF:=hv.ok.ok _ (getD_mem (l:=(visitF g cls).1) hj 0)
  have hs:=(hst ((visitF g cls).1.getD j 0).toNat a (by omega) ha he).1
  unfold accK
  rw [if_neg (by omega),if_neg (by omega),Int.toNat_natCast,Int.toNat_natCast,← hs]
  simp [numberF,hj]
 |k :: ks,j,a,hk,hj,ha,he=>by
  show accK (numberF g cls) (runK (numberF g cls) (stepK (numberF g cls) (j:Int) k) ks) = accK g (runK g (stepK g (a:Int) k) ks)
  have dead1:∀ g:Graph,accK g (runK g (-1) ks) = -1:=fun g=>by rw [runK_dead g ks (-1) (by omega)]; split <;> rfl
  rcases number_step ho hpos hcl hc hst hj ha he (hk k (by simp)) with ⟨h1,h2⟩ | ⟨j',a',h1,h2,h3,h4,h5⟩
  ·rw [h1,h2,dead1,dead1]
  ·rw [h1,h2]
   exact number_acc ho hpos hcl hc hst ks j' a' (fun k hk'=>hk k (by simp [hk'])) h3 h4 h5
theorem buildF_some {R:RulesT} {kd:Nat→Nat} {g:Graph} (h:buildF R = some (kd,g)):∃ g0,exploreF R (kindsAt R.allow 256) = some g0∧kd = kindOf R.allow∧g = numberF (pruneF g0) (mergeF (pruneF g0)):=by
 unfold buildF at h
 generalize kindsAt R.allow 256 = ks at h ⊢
 cases hx:exploreF R ks with
 |none=>rw [hx] at h; cases h
 |some g0 =>
  rw [hx] at h
  simp only [Option.some.injEq,Prod.mk.injEq] at h
  exact ⟨g0,rfl,h.1.symm,h.2.symm⟩
theorem kind_onto (al:Nat→PSet):∀ n k,k < (kindsAt al n).length→∃ b,b < n∧kindOf al b = k
 | 0,k,h=>by simp [kindsAt] at h
 |n + 1,k,h=>by
  unfold kindsAt at h
  by_cases hk:k < (kindsAt al n).length
  ·obtain ⟨b,h1,h2⟩:=kind_onto al n k hk
   exact ⟨b,by omega,h2⟩
  ·split at h
   ·rename_i hc
    simp only [List.length_append,List.length_cons,List.length_nil] at h
    exact ⟨n,by omega,by unfold kindOf; omega⟩
   ·omega
def Lives (g:Graph) (K:Nat) (s:Int):Prop:=∃ ks:List Nat,(∀ k ∈ ks,k < K)∧accK g (runK g s ks) ≠ -1
theorem leads_lives {g:Graph} {K:Nat} (ho:GOk g K) {al:List Bool} (h:∀ i:Nat,i < g.rule.length→al.getD i false = true→Lives g K (i:Int)) {i:Nat} (hi:i < g.rule.length) (hl:leadsF (g.next.getD i []) al = true):Lives g K (i:Int):=by
 unfold leadsF at hl
 rw [List.any_eq_true] at hl
 obtain ⟨tt,h1,h2⟩:=hl
 simp only [Bool.and_eq_true,bne_iff_ne,ne_eq] at h2
 obtain ⟨h3,h4⟩:=h2
 have hr:=ho.row i (by rw [ho.len]; exact hi)
 have hin:=hr.2 tt h1
 obtain ⟨k,hk,e⟩:=List.getElem_of_mem h1
 obtain ⟨ks,g1,g2⟩:=h tt.toNat (by omega) h4
 have e2:stepK g (i:Int) k = tt:=by
  unfold stepK
  rw [if_neg (by omega),Int.toNat_natCast,List.getD_eq_getElem?_getD,List.getElem?_eq_getElem hk]
  exact e
 have e3:((tt.toNat:Nat):Int) = tt:=by omega
 rw [e3] at g2
 refine ⟨k :: ks,fun x hx=>?_,?_⟩
 ·rw [List.mem_cons] at hx
  rcases hx with rfl | hx
  ·rw [← hr.1]; exact hk
  ·exact g1 x hx
 ·show accK g (runK g (stepK g (i:Int) k) ks) ≠ -1
  rw [e2]
  exact g2
theorem passF_lives {g:Graph} {K:Nat} (ho:GOk g K) {al:List Bool} (h:∀ i:Nat,i < g.rule.length→al.getD i false = true→Lives g K (i:Int)):∀ k,k ≤ g.rule.length→∀ i:Nat,i < g.rule.length→(passF g al k).1.getD i false = true→Lives g K (i:Int)
 | 0,_,i,hi,hx=>h i hi hx
 |k + 1,hk,i,hi,hx=>by
  have ih:=passF_lives ho h k (by omega)
  unfold passF at hx
  split at hx
  ·rename_i hc
   by_cases e:i = k
   ·subst e
    exact leads_lives ho ih hi hc.2
   ·refine ih i hi ?_
    simp only [List.getD_eq_getElem?_getD] at hx ⊢
    rw [List.getElem?_set_ne (fun e'=>e e'.symm)] at hx
    exact hx
  ·exact ih i hi hx
theorem aliveLoop_lives {g:Graph} {K:Nat} (ho:GOk g K):∀ (n:Nat) (al:List Bool),(∀ i:Nat,i < g.rule.length→al.getD i false = true→Lives g K (i:Int))→∀ i:Nat,i < g.rule.length→(aliveLoop g n al).getD i false = true→Lives g K (i:Int)
 | 0,al,h,i,hi,hx=>h i hi hx
 |n + 1,al,h,i,hi,hx=>by
  have hp:=passF_lives ho h g.next.length (by rw [ho.len]; exact Nat.le_refl _)
  unfold aliveLoop at hx
  split at hx
  ·exact aliveLoop_lives ho n _ hp i hi hx
  ·exact hp i hi hx
theorem aliveF_lives {g:Graph} {K:Nat} (ho:GOk g K) {i:Nat} (hi:i < g.rule.length) (hx:(aliveF g).getD i false = true):Lives g K (i:Int):=by
 refine aliveLoop_lives ho _ _ (fun i hi h=>⟨[],fun k hk=>by simp at hk,?_⟩) i hi hx
 show accK g (i:Int) ≠ -1
 unfold accK
 rw [if_neg (by omega),Int.toNat_natCast]
 simpa [hi] using h
theorem prune_lives {g:Graph} {K:Nat} (ho:GOk g K) {s t k:Nat} (hs:s < g.rule.length) (hk:k < K) (h:stepK (pruneF g) (s:Int) k = (t:Int)):Lives (pruneF g) K (t:Int):=by
 rw [prune_step ho hs hk] at h
 rcases stepK_in ho (s:=(s:Int)) (by omega) (by omega) hk with e | e
 ·rw [e] at h; simp at h
 ·split at h
  ·rename_i hc
   rw [h] at hc e
   simp only [Bool.and_eq_true,Int.toNat_natCast] at hc
   obtain ⟨ks,g1,g2⟩:=aliveF_lives ho (i:=t) (by omega) hc.2
   exact ⟨ks,g1,by rw [prune_acc ho ks t g1 (by omega)]; exact g2⟩
  ·omega
theorem rowsSame_of (cls:List Int):∀ (l m:List Int),l.length = m.length→(∀ k,k < l.length→stepSame cls (l.getD k 0) (m.getD k 0) = true)→rowsSame cls l m = true
 | [],m,_,_=>rfl
 |x :: l,[],hl,_=>by simp at hl
 |x :: l,y :: m,hl,h=>by
  unfold rowsSame
  simp only [List.headD_cons,List.tail_cons,Bool.and_eq_true]
  refine ⟨by have:=h 0 (by simp); simpa using this,rowsSame_of cls l m (by simpa using hl) (fun k hk=>?_)⟩
  have:=h (k + 1) (by simp; omega)
  simpa using this
theorem together_of {g:Graph} {K:Nat} (ho:GOk g K) {cls:List Int} {a b:Nat} (ha:a < g.rule.length) (hb:b < g.rule.length) (h:Alike g K cls a b):togetherF g cls a b = true:=by
 have ra:=ho.row a (by rw [ho.len]; exact ha)
 have rb:=ho.row b (by rw [ho.len]; exact hb)
 unfold togetherF
 rw [if_neg (by
  rintro (e | e)
  ·exact e h.1
  ·exact e h.2.1)]
 exact rowsSame_of cls _ _ (by rw [ra.1,rb.1]) (fun k hk=>h.2.2 k (by rw [← ra.1]; exact hk))
theorem mateF_first (g:Graph) (cls:List Int) (n:Nat):∀ (f k a:Nat),n < f + k→k ≤ a→a < n→togetherF g cls a n = true→∃ e,mateF g cls n f k = some e∧k ≤ e∧e ≤ a∧∀ j,k ≤ j→j < e→togetherF g cls j n = false
 | 0,k,a,hf,h1,h2,_=>by omega
 |f + 1,k,a,hf,h1,h2,h3=>by
  unfold mateF
  rw [if_pos (by omega)]
  cases hk:togetherF g cls k n with
  |true=>exact ⟨k,by simp,Nat.le_refl _,h1,fun j hj hj'=>by omega⟩
  |false =>
   have hka:k ≠ a:=fun e=>by rw [e,h3] at hk; cases hk
   obtain ⟨e,e1,e2,e3,e4⟩:=mateF_first g cls n f (k + 1) a (by omega) (by omega) h2 h3
   refine ⟨e,by simpa using e1,by omega,e3,fun j hj hj'=>?_⟩
   by_cases ejk:j = k
   ·rw [ejk]; exact hk
   ·exact e4 j (by omega) hj'
theorem refine_mate {g:Graph} {cls:List Int} {b e:Nat} (h:mateF g cls b (b + 1) 0 = some e) (hb:b < g.rule.length):(refineAt g cls g.rule.length).1.getD b 0 = (refineAt g cls g.rule.length).1.getD e 0:=by
 have he:=mateF_lt g cls b _ _ _ h
 rw [refineAt_get g cls g.rule.length (b + 1) b (by omega) (by omega),refineAt_get g cls g.rule.length b e (by omega) he]
 have h1:(refineAt g cls (b + 1)).1 = (refineAt g cls b).1 ++ [(refineAt g cls b).1.getD e 0]:=by
  conv=>lhs; unfold refineAt
  rw [h]
 have hl:=refineAt_len g cls b
 rw [h1,List.getD_eq_getElem?_getD,List.getElem?_append_right (by omega),hl,Nat.sub_self]
 simp
theorem refine_alike {g:Graph} {K:Nat} (ho:GOk g K) {cls:List Int} {a b:Nat} (hab:a < b) (hb:b < g.rule.length) (h:Alike g K cls a b):(refineAt g cls g.rule.length).1.getD a 0 = (refineAt g cls g.rule.length).1.getD b 0:=by
 obtain ⟨e,e1,e2,e3,e4⟩:=mateF_first g cls b (b + 1) 0 a (by omega) (Nat.zero_le _) hab (together_of ho (by omega) hb h)
 rw [refine_mate e1 hb]
 by_cases hea:e = a
 ·rw [hea]
 ·have heb:=together_spec ho (a:=e) (b:=b) (by omega) hb (mateF_some g cls b _ _ _ e1).2
  have hae:Alike g K cls e a:=Alike.trans heb (Alike.symm h)
  obtain ⟨f,f1,f2,f3,f4⟩:=mateF_first g cls a (a + 1) 0 e (by omega) (Nat.zero_le _) (by omega) (together_of ho (by omega) (by omega) hae)
  rw [refine_mate f1 (by omega)]
  have hfe:f = e:=by
   refine Nat.le_antisymm f3 (Nat.le_of_not_lt fun hlt=>?_)
   have hfa:=together_spec ho (a:=f) (b:=a) (by omega) (by omega) (mateF_some g cls a _ _ _ f1).2
   have hfb:Alike g K cls f b:=Alike.trans hfa h
   have:=e4 f (Nat.zero_le _) hlt
   rw [together_of ho (by omega) hb hfb] at this
   cases this
  rw [hfe]
def scanL:List Int→Nat→Option Nat
 | [],k=>some k
 |x :: r,k=>if (k:Int) < x then none else scanL r (if x = (k:Int) then k + 1 else k)
theorem visitRow_scan {N:Nat} {cls:List Int} (hcl:cls.length = N) (hc:∀ x ∈ cls,0 ≤ x∧x < (N:Int)):∀ (row:List Int) (st fin:List Int × List Int),VInv N cls st→RowOk N row→VExt (visitRow cls row st) fin →
  scanL (numberRow cls fin.2 row) st.1.length = some (visitRow cls row st).1.length
 | [],st,fin,_,_,_=>rfl
 |x :: r,st,fin,h,hr,hx=>by
  have e:visitRow cls (x :: r) st = visitRow cls r (visitStep cls st x):=rfl
  rw [e] at hx ⊢
  have hxr:=hr x (by simp)
  obtain ⟨s1,s2,s3⟩:=visitStep_inv hcl hc h hxr
  obtain ⟨r1,r2,r3⟩:=visitRow_inv hcl hc r _ s1 (fun y hy=>hr y (by simp [hy]))
  have ih:=visitRow_scan hcl hc r (visitStep cls st x) fin s1 (fun y hy=>hr y (by simp [hy])) hx
  have e2:numberRow cls fin.2 (x :: r) = (if x != -1 then fin.2.getD (cls.getD x.toNat 0).toNat 0 else -1) :: numberRow cls fin.2 r:=rfl
  rw [e2]
  unfold scanL
  by_cases hm:x = -1
  ·have e3:visitStep cls st x = st:=by unfold visitStep; rw [if_neg (by simp [hm])]
   have e4:(if (x != -1) = true then fin.2.getD (cls.getD x.toNat 0).toNat 0 else -1) = -1:=by rw [if_neg (by simp [hm])]
   rw [e4,if_neg (by omega),if_neg (by omega)]
   rw [e3] at ih ⊢
   exact ih
  ·have e4:(if (x != -1) = true then fin.2.getD (cls.getD x.toNat 0).toNat 0 else -1) = fin.2.getD (cls.getD x.toNat 0).toNat 0:=by rw [if_pos (by simp [hm])]
   have hcc:=hc _ (getD_mem (l:=cls) (k:=x.toNat) (by omega) 0)
   have hfin:fin.2.getD (cls.getD x.toNat 0).toNat 0 = (visitStep cls st x).2.getD (cls.getD x.toNat 0).toNat 0:=by
    have h5:=s3 hm
    rw [hx.2 _ (by rw [r2.2 _ h5]; exact h5),r2.2 _ h5]
   rw [e4,hfin]
   by_cases hn:st.2.getD (cls.getD x.toNat 0).toNat 0 = -1
   ·have hcd:(x != -1 && st.2.getD (cls.getD x.toNat 0).toNat 0 == -1) = true:=by simp only [Bool.and_eq_true,bne_iff_ne,ne_eq,beq_iff_eq]; exact ⟨hm,hn⟩
    have e5:visitStep cls st x = (st.1 ++ [x],st.2.set (cls.getD x.toNat 0).toNat (st.1.length:Int)):=by unfold visitStep; rw [if_pos hcd]
    have hl:=h.ok.len
    have e6:(visitStep cls st x).2.getD (cls.getD x.toNat 0).toNat 0 = (st.1.length:Int):=by
     rw [e5]
     show (st.2.set _ _).getD _ 0 = _
     rw [getD_set _ _ _ _ (by omega),if_pos rfl]
    have e7:(visitStep cls st x).1.length = st.1.length + 1:=by rw [e5]; simp
    rw [e6,if_neg (by omega),if_pos rfl,← e7]
    exact ih
   ·have hcd:¬ (x != -1 && st.2.getD (cls.getD x.toNat 0).toNat 0 == -1) = true:=by simp only [Bool.and_eq_true,bne_iff_ne,ne_eq,beq_iff_eq]; exact fun e=>hn e.2
    have e5:visitStep cls st x = st:=by unfold visitStep; rw [if_neg hcd]
    rw [e5] at ih ⊢
    rcases h.cls (cls.getD x.toNat 0).toNat (by omega) with e | ⟨e,e',_⟩
    ·exact absurd e hn
    ·rw [if_neg (by omega),if_neg (by omega)]
     exact ih
def scanRows:List (List Int)→Nat→Nat→Option Nat
 | [],s,k=>some k
 |r :: rs,s,k=>if k ≤ s then none else (scanL r k).bind (fun k'=>scanRows rs (s + 1) k')
theorem visitLoop_ext {g:Graph} {K:Nat} (ho:GOk g K) {cls:List Int} (hcl:cls.length = g.rule.length) (hc:∀ x ∈ cls,0 ≤ x∧x < (g.rule.length:Int)):∀ (f i:Nat) (st:List Int × List Int),VInv g.rule.length cls st→VExt st (visitLoop g cls f i st)
 | 0,i,st,_=>VExt.refl _
 |f + 1,i,st,h=>by
  unfold visitLoop
  split
  ·rename_i hlt
   have hin:=h.ok.ok _ (getD_mem (l:=st.1) hlt 0)
   have hrow:=(ho.row (st.1.getD i 0).toNat (by rw [ho.len]; omega)).2
   obtain ⟨r1,r2,r3⟩:=visitRow_inv hcl hc _ st h hrow
   exact r2.trans (visitLoop_ext ho hcl hc f (i + 1) _ r1)
  ·exact VExt.refl _
theorem visitLoop_scan {g:Graph} {K:Nat} (ho:GOk g K) {cls:List Int} (hcl:cls.length = g.rule.length) (hc:∀ x ∈ cls,0 ≤ x∧x < (g.rule.length:Int)):∀ (f i:Nat) (st fin:List Int × List Int),f + i = g.rule.length + 1→i ≤ st.1.length→VInv g.rule.length cls st→visitLoop g cls f i st = fin →
  scanRows ((fin.1.drop i).map (fun n=>numberRow cls fin.2 (g.next.getD n.toNat []))) i st.1.length = some fin.1.length
 | 0,i,st,fin,hf,hi,h,_=>by have:=h.ok.sum; omega
 |f + 1,i,st,fin,hf,hi,h,hfin=>by
  have hext:=visitLoop_ext ho hcl hc (f + 1) i st h
  rw [hfin] at hext
  unfold visitLoop at hfin
  by_cases hlt:i < st.1.length
  ·rw [if_pos hlt] at hfin
   have hin:=h.ok.ok _ (getD_mem (l:=st.1) hlt 0)
   have hrow:=(ho.row (st.1.getD i 0).toNat (by rw [ho.len]; omega)).2
   obtain ⟨r1,r2,r3⟩:=visitRow_inv hcl hc _ st h hrow
   have hle:=r2.1.length_le
   have ih:=visitLoop_scan ho hcl hc f (i + 1) _ fin (by omega) (by omega) r1 hfin
   have hext2:=visitLoop_ext ho hcl hc f (i + 1) _ r1
   rw [hfin] at hext2
   have hfl:i < fin.1.length:=by have:=hext.1.length_le; omega
   have hget:fin.1[i] = st.1.getD i 0:=by
    have:=prefix_getI hext.1 hlt
    rw [← this]
    simp [hfl]
   rw [List.drop_eq_getElem_cons hfl,List.map_cons,hget]
   unfold scanRows
   rw [if_neg (by omega),visitRow_scan hcl hc _ st fin h hrow hext2]
   exact ih
  ·rw [if_neg hlt] at hfin
   subst hfin
   rw [List.drop_eq_nil_of_le (by omega)]
   rfl
theorem visit_start {g:Graph} {K:Nat} (ho:GOk g K) (hpos:0 < g.rule.length) {cls:List Int} (hcl:cls.length = g.rule.length) (hc:∀ x ∈ cls,0 ≤ x∧x < (g.rule.length:Int)):VInv g.rule.length cls ([0],(List.replicate cls.length (-1:Int)).set (cls.getD 0 0).toNat 0):=by
 have hx:=hc _ (getD_mem (l:=cls) (k:=0) (by omega) 0)
 have hck:(cls.getD 0 0).toNat < (List.replicate cls.length (-1:Int)).length:=by rw [List.length_replicate]; omega
 have hrep:∀ d,d < cls.length→(List.replicate cls.length (-1:Int)).getD d 0 = -1:=fun d hd=>by simp [hd]
 refine ⟨⟨?_,by simp [hcl],fun x hx=>by simp at hx; omega⟩,⟨by simp,rfl⟩,fun j hj=>?_,fun d hd=>?_⟩
 ·have h1:=neg1_set (List.replicate cls.length (-1:Int)) (cls.getD 0 0).toNat 0 hck (by rw [hrep _ (by omega)]) (by omega)
  have h2:neg1 (List.replicate cls.length (-1:Int)) = cls.length:=by simp [neg1]
  simp only [List.length_cons,List.length_nil]
  omega
 ·simp only [List.length_cons,List.length_nil] at hj
  have:j = 0:=by omega
  subst this
  simp only [List.getD_cons_zero,Int.toNat_zero]
  rw [getD_set _ _ _ _ hck,if_pos rfl]; rfl
 ·simp only
  rw [getD_set _ _ _ _ hck]
  split
  ·rename_i e
   right
   refine ⟨by omega,by simp,?_⟩
   simp only [Int.toNat_zero,List.getD_cons_zero]
   omega
  ·exact .inl (hrep d (by omega))
theorem visitF_scan {g:Graph} {K:Nat} (ho:GOk g K) (hpos:0 < g.rule.length) {cls:List Int} (hcl:cls.length = g.rule.length) (hc:∀ x ∈ cls,0 ≤ x∧x < (g.rule.length:Int)) :
  scanRows (numberF g cls).next 0 1 = some (numberF g cls).rule.length:=by
 have hx:=hc _ (getD_mem (l:=cls) (k:=0) (by omega) 0)
 have hck:(cls.getD 0 0).toNat < (List.replicate cls.length (-1:Int)).length:=by rw [List.length_replicate]; omega
 have hrep:∀ d,d < cls.length→(List.replicate cls.length (-1:Int)).getD d 0 = -1:=fun d hd=>by simp [hd]
 have hinv:VInv g.rule.length cls ([0],(List.replicate cls.length (-1:Int)).set (cls.getD 0 0).toNat 0):=visit_start ho hpos hcl hc
 have h:=visitLoop_scan ho hcl hc (cls.length + 1) 0 ([0],(List.replicate cls.length (-1:Int)).set (cls.getD 0 0).toNat 0) (visitF g cls) (by omega) (by simp) hinv rfl
 rw [List.drop_zero] at h
 have e1:(numberF g cls).rule.length = (visitF g cls).1.length:=by simp [numberF]
 rw [e1]
 exact h
def AlikeN (g:Graph) (K:Nat) (a b:Int):Prop:=∀ ks:List Nat,(∀ k ∈ ks,k < K)→accK g (runK g a ks) = accK g (runK g b ks)
theorem AlikeN.symm {g:Graph} {K:Nat} {a b:Int} (h:AlikeN g K a b):AlikeN g K b a:=fun ks hk=>(h ks hk).symm
theorem AlikeN.trans {g:Graph} {K:Nat} {a b c:Int} (h:AlikeN g K a b) (h2:AlikeN g K b c):AlikeN g K a c:=fun ks hk=>(h ks hk).trans (h2 ks hk)
theorem AlikeN.step {g:Graph} {K:Nat} {a b:Int} (h:AlikeN g K a b) {k:Nat} (hk:k < K):AlikeN g K (stepK g a k) (stepK g b k):=fun ks hks=>h (k :: ks) (fun x hx=>by
 rw [List.mem_cons] at hx
 rcases hx with rfl | hx
 ·exact hk
 ·exact hks x hx)
theorem acc_dead (g:Graph) (ks:List Nat):accK g (runK g (-1) ks) = -1:=by rw [runK_dead g ks (-1) (by omega)]; split <;> rfl
theorem stable_alike {g:Graph} {K:Nat} (ho:GOk g K) {cls:List Int} (hst:Stable g K cls):∀ (ks:List Nat) (a b:Nat),(∀ k ∈ ks,k < K)→a < g.rule.length→b < g.rule.length→cls.getD a 0 = cls.getD b 0→accK g (runK g (a:Int) ks) = accK g (runK g (b:Int) ks)
 | [],a,b,_,ha,hb,he=>by
  show accK g (a:Int) = accK g (b:Int)
  unfold accK
  rw [if_neg (by omega),if_neg (by omega),Int.toNat_natCast,Int.toNat_natCast]
  exact (hst a b ha hb he).1
 |k :: ks,a,b,hk,ha,hb,he=>by
  show accK g (runK g (stepK g (a:Int) k) ks) = accK g (runK g (stepK g (b:Int) k) ks)
  have hs:=(hst a b ha hb he).2 k (hk k (by simp))
  have ia:=stepK_in ho (s:=(a:Int)) (by omega) (by omega) (hk k (by simp))
  have ib:=stepK_in ho (s:=(b:Int)) (by omega) (by omega) (hk k (by simp))
  have ea:stepK g (a:Int) k = (g.next.getD a []).getD k 0:=by unfold stepK; rw [if_neg (by omega),Int.toNat_natCast]
  have eb:stepK g (b:Int) k = (g.next.getD b []).getD k 0:=by unfold stepK; rw [if_neg (by omega),Int.toNat_natCast]
  rw [← ea,← eb] at hs
  generalize stepK g (a:Int) k = x at *
  generalize stepK g (b:Int) k = y at *
  unfold stepSame at hs
  by_cases hc:(x == -1 || y == -1) = true
  ·rw [if_pos hc] at hs
   have:x = y:=by simpa using hs
   rw [this]
  ·rw [if_neg hc] at hs
   simp only [Bool.or_eq_true,beq_iff_eq,not_or] at hc
   obtain ⟨x',rfl⟩:∃ x':Nat,x = (x':Int):=⟨x.toNat,by omega⟩
   obtain ⟨y',rfl⟩:∃ y':Nat,y = (y':Int):=⟨y.toNat,by omega⟩
   exact stable_alike ho hst ks x' y' (fun k hk'=>hk k (by simp [hk'])) (by omega) (by omega) (by simpa using hs)
def AllLive (g:Graph) (K:Nat):Prop:=∀ s t k:Nat,s < g.rule.length→k < K→stepK g (s:Int) k = (t:Int)→Lives g K (t:Int)
theorem alike_refine {g:Graph} {K:Nat} (ho:GOk g K) (hl:AllLive g K) {cls:List Int} (hc:∀ a b:Nat,a < g.rule.length→b < g.rule.length→AlikeN g K (a:Int) (b:Int)→cls.getD a 0 = cls.getD b 0) :
  ∀ a b:Nat,a < g.rule.length→b < g.rule.length→AlikeN g K (a:Int) (b:Int)→(refineAt g cls g.rule.length).1.getD a 0 = (refineAt g cls g.rule.length).1.getD b 0:=by
 have key:∀ a b:Nat,a < g.rule.length→b < g.rule.length→AlikeN g K (a:Int) (b:Int)→Alike g K cls a b:=by
  intro a b ha hb h
  refine ⟨hc a b ha hb h,?_,fun k hk=>?_⟩
  ·have:=h [] (fun k hk=>by simp at hk)
   have h':accK g (a:Int) = accK g (b:Int):=this
   unfold accK at h'
   rw [if_neg (by omega),if_neg (by omega),Int.toNat_natCast,Int.toNat_natCast] at h'
   exact h'
  ·have hs:=h.step hk
   have ia:=stepK_in ho (s:=(a:Int)) (by omega) (by omega) hk
   have ib:=stepK_in ho (s:=(b:Int)) (by omega) (by omega) hk
   have ea:stepK g (a:Int) k = (g.next.getD a []).getD k 0:=by unfold stepK; rw [if_neg (by omega),Int.toNat_natCast]
   have eb:stepK g (b:Int) k = (g.next.getD b []).getD k 0:=by unfold stepK; rw [if_neg (by omega),Int.toNat_natCast]
   have la:=fun t=>hl a t k ha hk
   have lb:=fun t=>hl b t k hb hk
   rw [← ea,← eb]
   generalize stepK g (a:Int) k = x at *
   generalize stepK g (b:Int) k = y at *
   unfold stepSame
   by_cases hx:x = -1
   ·subst hx
    by_cases hy:y = -1
    ·subst hy; simp
    ·exfalso
     obtain ⟨y',rfl⟩:∃ y':Nat,y = (y':Int):=⟨y.toNat,by omega⟩
     obtain ⟨ks,k1,k2⟩:=lb y' rfl
     have:=hs ks k1
     rw [acc_dead] at this
     exact k2 this.symm
   ·by_cases hy:y = -1
    ·exfalso
     subst hy
     obtain ⟨x',rfl⟩:∃ x':Nat,x = (x':Int):=⟨x.toNat,by omega⟩
     obtain ⟨ks,k1,k2⟩:=la x' rfl
     have:=hs ks k1
     rw [acc_dead] at this
     exact k2 this
    ·rw [if_neg (by simp [hx,hy])]
     obtain ⟨x',rfl⟩:∃ x':Nat,x = (x':Int):=⟨x.toNat,by omega⟩
     obtain ⟨y',rfl⟩:∃ y':Nat,y = (y':Int):=⟨y.toNat,by omega⟩
     simp only [Int.toNat_natCast,beq_iff_eq]
     exact hc x' y' (by omega) (by omega) hs
 intro a b ha hb h
 rcases Nat.lt_trichotomy a b with e | e | e
 ·exact refine_alike ho e hb (key a b ha hb h)
 ·rw [e]
 ·exact (refine_alike ho e ha (key b a hb ha h.symm)).symm
theorem alike_mergeLoop {g:Graph} {K:Nat} (ho:GOk g K) (hl:AllLive g K):∀ (f:Nat) (cls:List Int) (count:Nat),(∀ a b:Nat,a < g.rule.length→b < g.rule.length→AlikeN g K (a:Int) (b:Int)→cls.getD a 0 = cls.getD b 0) →
  ∀ a b:Nat,a < g.rule.length→b < g.rule.length→AlikeN g K (a:Int) (b:Int)→(mergeLoop g f cls count).getD a 0 = (mergeLoop g f cls count).getD b 0
 | 0,cls,count,h=>h
 |f + 1,cls,count,h=>by
  unfold mergeLoop
  split
  ·exact alike_refine ho hl h
  ·exact alike_mergeLoop ho hl f _ _ (alike_refine ho hl h)
theorem getD_rep (n k:Nat):(List.replicate n (0:Int)).getD k 0 = 0:=by
 rw [List.getD_eq_getElem?_getD,List.getElem?_replicate]; split <;> rfl
theorem merge_alike {g:Graph} {K:Nat} (ho:GOk g K) (hpos:0 < g.rule.length) (hl:AllLive g K) {a b:Nat} (ha:a < g.rule.length) (hb:b < g.rule.length):(mergeF g).getD a 0 = (mergeF g).getD b 0↔AlikeN g K (a:Int) (b:Int):=by
 constructor
 ·intro h ks hk; exact stable_alike ho (mergeF_stable ho hpos) ks a b hk ha hb h
 ·exact alike_mergeLoop ho hl _ _ _ (fun a b _ _ _=>by rw [getD_rep,getD_rep]) a b ha hb
theorem prune_all {g:Graph} {K:Nat} (ho:GOk g K):AllLive (pruneF g) K:=fun s t k hs hk h=>prune_lives ho hs hk h
theorem alive_iff {g:Graph} {K:Nat} (ho:GOk g K) {i:Nat} (hi:i < g.rule.length):(aliveF g).getD i false = true↔Lives g K (i:Int):=by
 constructor
 ·exact aliveF_lives ho hi
 ·rintro ⟨ks,h1,h2⟩; exact alive_of_acc ho ks i h1 hi h2
def Occ (rows:List (List Int)) (c:Nat) (p k:Nat):Prop:=p < rows.length∧k < (rows.getD p []).length∧(rows.getD p []).getD k 0 = (c:Int)
def LexLt (p k p' k':Nat):Prop:=p < p'∨(p = p'∧k < k')
theorem scanL_find:∀ (l:List Int) (k k' c:Nat),scanL l k = some k'→k ≤ c→c < k'→∃ i,i < l.length∧l.getD i 0 = (c:Int)
 | [],k,k',c,h,h1,h2=>by cases h; omega
 |x :: l,k,k',c,h,h1,h2=>by
  unfold scanL at h
  split at h
  ·cases h
  ·by_cases hx:x = (k:Int)
   ·rw [if_pos hx] at h
    by_cases hc:c = k
    ·exact ⟨0,by simp,by simp [hx,hc]⟩
    ·obtain ⟨i,i1,i2⟩:=scanL_find l (k + 1) k' c h (by omega) h2
     exact ⟨i + 1,by simp; omega,by simpa using i2⟩
   ·rw [if_neg hx] at h
    obtain ⟨i,i1,i2⟩:=scanL_find l k k' c h h1 h2
    exact ⟨i + 1,by simp; omega,by simpa using i2⟩
theorem scanL_order:∀ (l:List Int) (k k':Nat),scanL l k = some k'→∀ j c c':Nat,j < l.length→l.getD j 0 = (c':Int)→c < c'→c < k∨∃ i,i < j∧l.getD i 0 = (c:Int)
 | [],k,k',h,j,c,c',hj,_,_=>by simp at hj
 |x :: l,k,k',h,j,c,c',hj,he,hc=>by
  unfold scanL at h
  split at h
  ·cases h
  ·rename_i hx
   cases j with
   |zero =>
    left
    simp at he
    omega
   |succ j =>
    simp only [List.getD_cons_succ,List.length_cons] at he hj
    rcases scanL_order l _ _ h j c c' (by omega) he hc with e | ⟨i,i1,i2⟩
    ·by_cases hxk:x = (k:Int)
     ·rw [if_pos hxk] at e
      by_cases hck:c = k
      ·exact .inr ⟨0,by omega,by simp [hxk,hck]⟩
      ·exact .inl (by omega)
     ·rw [if_neg hxk] at e; exact .inl e
    ·exact .inr ⟨i + 1,by omega,by simpa using i2⟩
theorem scanRows_order:∀ (rows:List (List Int)) (s k n:Nat),scanRows rows s k = some n→∀ p' j c c':Nat,Occ rows c' p' j→c < c'→c < k∨∃ p i,Occ rows c p i∧LexLt p i p' j
 | [],s,k,n,h,p',j,c,c',ho,hc=>by have:=ho.1; simp at this
 |r :: rs,s,k,n,h,p',j,c,c',ho,hc=>by
  unfold scanRows at h
  split at h
  ·cases h
  ·cases hr:scanL r k with
   |none=>rw [hr] at h; cases h
   |some k1 =>
    rw [hr] at h
    have h':scanRows rs (s + 1) k1 = some n:=h
    obtain ⟨o1,o2,o3⟩:=ho
    cases p' with
    |zero =>
     simp only [List.getD_cons_zero] at o2 o3
     rcases scanL_order r k k1 hr j c c' o2 o3 hc with e | ⟨i,i1,i2⟩
     ·exact .inl e
     ·exact .inr ⟨0,i,⟨by simp,by simp; omega,by simpa using i2⟩,.inr ⟨rfl,i1⟩⟩
    |succ p' =>
     simp only [List.getD_cons_succ,List.length_cons] at o1 o2 o3
     rcases scanRows_order rs (s + 1) k1 n h' p' j c c' ⟨by omega,o2,o3⟩ hc with e | ⟨p,i,⟨q1,q2,q3⟩,hl⟩
     ·by_cases hk:c < k
      ·exact .inl hk
      ·obtain ⟨i,i1,i2⟩:=scanL_find r k k1 c hr (by omega) e
       exact .inr ⟨0,i,⟨by simp,by simpa using i1,by simpa using i2⟩,.inl (by omega)⟩
     ·refine .inr ⟨p + 1,i,⟨by simp; omega,by simpa using q2,by simpa using q3⟩,?_⟩
      rcases hl with e | ⟨e1,e2⟩
      ·exact .inl (by omega)
      ·exact .inr ⟨by omega,e2⟩
theorem scanRows_find:∀ (rows:List (List Int)) (s k n:Nat),scanRows rows s k = some n→∀ c,k ≤ c→c < n→∃ p i,Occ rows c p i∧p + s < c
 | [],s,k,n,h,c,h1,h2=>by cases h; omega
 |r :: rs,s,k,n,h,c,h1,h2=>by
  unfold scanRows at h
  split at h
  ·cases h
  ·rename_i hs
   cases hr:scanL r k with
   |none=>rw [hr] at h; cases h
   |some k1 =>
    rw [hr] at h
    have h':scanRows rs (s + 1) k1 = some n:=h
    by_cases hc:c < k1
    ·obtain ⟨i,i1,i2⟩:=scanL_find r k k1 c hr h1 hc
     exact ⟨0,i,⟨by simp,by simpa using i1,by simpa using i2⟩,by omega⟩
    ·obtain ⟨p,i,⟨q1,q2,q3⟩,hp⟩:=scanRows_find rs (s + 1) k1 n h' c (by omega) h2
     exact ⟨p + 1,i,⟨by simp; omega,by simpa using q2,by simpa using q3⟩,by omega⟩
theorem rowF_scan (aft:PSet):∀ (K S:List PSet),scanL (rowF aft K S).1 S.length = some (rowF aft K S).2.length
 | [],S=>rfl
 |x :: K,S=>by
  unfold rowF
  simp only
  have hle:findF S (aft.and x) ≤ (S.length:Int):=by
   unfold findF
   split
   ·omega
   ·have:=idxF_le S (aft.and x); omega
  show (if (S.length:Int) < findF S (aft.and x) then none else scanL _ (if findF S (aft.and x) = (S.length:Int) then S.length + 1 else S.length)) = _
  rw [if_neg (by omega)]
  have ih:=rowF_scan aft K (if findF S (aft.and x) = (S.length:Int) then S ++ [aft.and x] else S)
  by_cases e:findF S (aft.and x) = (S.length:Int)
  ·rw [if_pos e] at ih ⊢
   rw [if_pos e]
   simpa using ih
  ·rw [if_neg e] at ih ⊢
   rw [if_neg e]
   exact ih
theorem explore_scan (R:RulesT) (kinds:List PSet):∀ (n i:Nat) (S:List PSet) (g g':Graph),exploreLoop R kinds n i S g = some g'→g.next.length = i→i ≤ S.length→∃ rs,g'.next = g.next ++ rs∧scanRows rs i S.length = some g'.next.length
 | 0,i,S,g,g',h,_,_=>by simp [exploreLoop] at h
 |n + 1,i,S,g,g',h,hl,hi=>by
  unfold exploreLoop at h
  by_cases hlt:i < S.length
  ·rw [if_pos hlt] at h
   simp only at h
   generalize haft:(if 0 < i then R.after (S.getD i PSet.none) else R.first) = aft at h
   have hr:=rowF_sets aft kinds S
   have hsc:=rowF_scan aft kinds S
   generalize hrow:rowF aft kinds S = r at h hr hsc
   split at h
   ·cases h
   ·have hle:=hr.1.length_le
    obtain ⟨rs,h1,h2⟩:=explore_scan R kinds n (i + 1) r.2 _ g' h (by simp [hl]) (by omega)
    refine ⟨r.1 :: rs,by rw [h1]; simp,?_⟩
    unfold scanRows
    rw [if_neg (by omega),hsc]
    exact h2
  ·rw [if_neg hlt] at h
   cases h
   exact ⟨[],by simp,by unfold scanRows; rw [hl,show i = S.length by omega]⟩
theorem exploreF_scan {R:RulesT} {kinds:List PSet} {g:Graph} (h:exploreF R kinds = some g):scanRows g.next 0 1 = some g.next.length:=by
 obtain ⟨rs,h1,h2⟩:=explore_scan R kinds 63 0 [PSet.none] Graph.new g h rfl (by simp)
 have:g.next = rs:=by rw [h1]; rfl
 rw [this] at h2 ⊢
 exact h2
end Go.Proofs.YtcckhngbdoiikaaGreat
