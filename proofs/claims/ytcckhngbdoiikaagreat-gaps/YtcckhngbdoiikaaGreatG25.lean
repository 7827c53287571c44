import Derived.Test.YtcckhngbdoiikaaGreatG24
import Derived.Test.YtcckhngbdoiikaaGreatG23
import Derived.Test.YtcckhngbdoiikaaGreatG20
import Derived.Test.YtcckhngbdoiikaaGreatG09

namespace Go.Proofs.YtcckhngbdoiikaaGreat
set_option linter.unusedVariables false
theorem exists_least {P:Nat→Prop}:∀ a,P a→∃ m,m ≤ a∧P m∧∀ j,j < m→¬ P j:=by
 intro a
 induction a using Nat.strongRecOn with
 |ind a ih =>
  intro h
  by_cases hx:∃ j,j < a∧P j
  ·obtain ⟨j,hj,hp⟩:=hx
   obtain ⟨m,h1,h2,h3⟩:=ih j hj hp
   exact ⟨m,by omega,h2,h3⟩
  ·exact ⟨a,Nat.le_refl _,h,fun j hj hp=>hx ⟨j,hj,hp⟩⟩
theorem Occ.first {rows:List (List Int)} {c p k:Nat} (h:Occ rows c p k):∃ p' k',p' ≤ p∧Occ rows c p' k'∧∀ p2 k2,Occ rows c p2 k2→¬ LexLt p2 k2 p' k':=by
 obtain ⟨p',h1,⟨k1,h2⟩,h3⟩:=exists_least (P:=fun p=>∃ k,Occ rows c p k) p ⟨k,h⟩
 obtain ⟨k',_,h4,h5⟩:=exists_least (P:=fun k=>Occ rows c p' k) k1 h2
 refine ⟨p',k',h1,h4,fun p2 k2 ho hl=>?_⟩
 rcases hl with e | ⟨e1,e2⟩
 ·exact h3 p2 e ⟨k2,ho⟩
 ·subst e1; exact h5 k2 e2 ho
structure SetsG (g:Graph) (K:Nat):Prop where
 ok:GOk g K
 pos:0 < g.rule.length
 scan:scanRows g.next 0 1 = some g.next.length
 up:∀ (s k:Nat),s < g.rule.length→k < K→stepK g (s:Int) k ≠ 0
def Goes (g:Graph) (K:Nat) (a:Nat):Prop:=a < g.rule.length∧(a = 0∨Lives g K (a:Int))
structure Firsts (g:Graph) (K:Nat) (F:List Nat):Prop where
 mem:∀ a,a ∈ F↔(Goes g K a∧∀ b,b < a→¬ AlikeN (pruneF g) K (b:Int) (a:Int))
 sorted:F.Pairwise (· < ·)
section
variable {g:Graph} {K:Nat} {F:List Nat}
theorem pruned_step (h:SetsG g K) {s k:Nat} (hs:s < g.rule.length) (hk:k < K):stepK (pruneF g) (s:Int) k = -1∨∃ t:Nat,t < g.rule.length∧stepK (pruneF g) (s:Int) k = (t:Int)∧stepK g (s:Int) k = (t:Int)∧Lives g K (t:Int):=by
 rw [prune_step h.ok hs hk]
 rcases stepK_in h.ok (s:=(s:Int)) (by omega) (by omega) hk with e | e
 ·rw [e]; exact .inl (by simp)
 ·obtain ⟨t,ht⟩:∃ t:Nat,stepK g (s:Int) k = (t:Int):=⟨(stepK g (s:Int) k).toNat,by omega⟩
  rw [ht] at e ⊢
  rw [Int.toNat_natCast]
  cases ha:(aliveF g).getD t false with
  |false=>exact .inl (by simp)
  |true=>exact .inr ⟨t,by omega,by rw [if_pos (by simp)],rfl,(alive_iff h.ok (by omega)).1 ha⟩
theorem pruned_lives (h:SetsG g K) {s k t:Nat} (hs:s < g.rule.length) (hk:k < K) (e:stepK g (s:Int) k = (t:Int)) (ht:Lives g K (t:Int)):stepK (pruneF g) (s:Int) k = (t:Int):=by
 have hi:=stepK_in h.ok (s:=(s:Int)) (by omega) (by omega) hk
 rw [prune_step h.ok hs hk,e,Int.toNat_natCast,(alive_iff h.ok (by omega)).2 ht,if_pos (by simp)]
theorem lives_pre (h:SetsG g K) {s k t:Nat} (hk:k < K) (e:stepK g (s:Int) k = (t:Int)) (ht:Lives g K (t:Int)):Lives g K (s:Int):=by
 obtain ⟨ks,h1,h2⟩:=ht
 refine ⟨k :: ks,fun x hx=>?_,?_⟩
 ·rw [List.mem_cons] at hx
  rcases hx with rfl | hx
  ·exact hk
  ·exact h1 x hx
 ·show accK g (runK g (stepK g (s:Int) k) ks) ≠ -1
  rw [e]; exact h2
theorem lives_alike (h:SetsG g K) {a b:Nat} (ha:a < g.rule.length) (hb:b < g.rule.length) (hab:AlikeN (pruneF g) K (a:Int) (b:Int)) (hl:Lives g K (a:Int)):Lives g K (b:Int):=by
 obtain ⟨ks,h1,h2⟩:=hl
 refine ⟨ks,h1,?_⟩
 rw [← prune_acc h.ok ks b h1 hb,← hab ks h1,prune_acc h.ok ks a h1 ha]
 exact h2
theorem occ_step (h:SetsG g K) {c p k:Nat}:Occ g.next c p k↔(p < g.rule.length∧k < K∧stepK g (p:Int) k = (c:Int)):=by
 have e:∀ p:Nat,stepK g (p:Int) k = (g.next.getD p []).getD k 0:=fun p=>by unfold stepK; rw [if_neg (by omega),Int.toNat_natCast]
 rw [e]
 constructor
 ·rintro ⟨h1,h2,h3⟩
  have:=h.ok.row p h1
  rw [h.ok.len] at h1
  exact ⟨h1,by rw [← this.1]; exact h2,h3⟩
 ·rintro ⟨h1,h2,h3⟩
  rw [← h.ok.len] at h1
  exact ⟨h1,by rw [(h.ok.row p h1).1]; exact h2,h3⟩
theorem Firsts.rep (hF:Firsts g K F) (h:SetsG g K) {a:Nat} (ha:Goes g K a):∃ b,b ∈ F∧b ≤ a∧AlikeN (pruneF g) K (b:Int) (a:Int):=by
 obtain ⟨b,h1,h2,h3⟩:=exists_least (P:=fun b=>AlikeN (pruneF g) K (b:Int) (a:Int)) a (fun ks hk=>rfl)
 refine ⟨b,(hF.mem b).2 ⟨⟨by have:=ha.1; omega,?_⟩,fun j hj hl=>h3 j hj (hl.trans h2)⟩,h1,h2⟩
 rcases ha.2 with e | e
 ·left; omega
 ·exact .inr (lives_alike h ha.1 (by have:=ha.1; omega) h2.symm e)
theorem Firsts.least (hF:Firsts g K F) {a b:Nat} (ha:a ∈ F) (hab:AlikeN (pruneF g) K (b:Int) (a:Int)):a ≤ b:=by
 refine Nat.le_of_not_lt fun hlt=>((hF.mem a).1 ha).2 b hlt hab
theorem sorted_lt {l:List Nat} (h:l.Pairwise (· < ·)) {i j:Nat} (hi:i < l.length) (hj:j < l.length):l[i] < l[j]↔i < j:=by
 constructor
 ·intro hl
  refine Nat.lt_of_not_le fun hle=>?_
  rcases Nat.lt_or_ge j i with e | e
  ·have:=List.pairwise_iff_getElem.1 h j i hj hi e; omega
  ·have:i = j:=by omega
   subst this; omega
 ·exact fun e=>List.pairwise_iff_getElem.1 h i j hi hj e
end
structure NumG (g:Graph) (K:Nat) (cls:List Int):Prop where
 clen:cls.length = g.rule.length
 cin:∀ x ∈ cls,0 ≤ x∧x < (g.rule.length:Int)
 ca:∀ a b:Nat,a < g.rule.length→b < g.rule.length→(cls.getD a 0 = cls.getD b 0↔AlikeN (pruneF g) K (a:Int) (b:Int))
theorem merge_num {g:Graph} {K:Nat} (h:SetsG g K):NumG g K (mergeF (pruneF g)):=by
 have ho:=pruneF_ok h.ok
 have hp:0 < (pruneF g).rule.length:=h.pos
 exact ⟨mergeF_len _,mergeF_bd _ hp,fun a b ha hb=>merge_alike ho hp (prune_all h.ok) ha hb⟩
def IsState (g:Graph) (K:Nat) (j a:Nat):Prop:=j < (visitF (pruneF g) (mergeF (pruneF g))).1.length∧AlikeN (pruneF g) K ((((visitF (pruneF g) (mergeF (pruneF g))).1.getD j 0).toNat:Nat):Int) (a:Int)
section
variable {g:Graph} {K:Nat} {F:List Nat}
theorem node_lt (h:SetsG g K) {j:Nat} (hj:j < (visitF (pruneF g) (mergeF (pruneF g))).1.length):((visitF (pruneF g) (mergeF (pruneF g))).1.getD j 0).toNat < g.rule.length:=by
 have hn:=merge_num h
 obtain ⟨hv,_⟩:=visitF_inv (pruneF_ok h.ok) h.pos hn.clen hn.cin
 have:=hv.ok.ok _ (getD_mem (l:=(visitF (pruneF g) (mergeF (pruneF g))).1) hj 0)
 have e:(pruneF g).rule.length = g.rule.length:=rfl
 omega
theorem IsState.one (h:SetsG g K) {i j a:Nat} (ha:a < g.rule.length) (hi:IsState g K i a) (hj:IsState g K j a):i = j:=by
 have hn:=merge_num h
 obtain ⟨hv,_⟩:=visitF_inv (pruneF_ok h.ok) h.pos hn.clen hn.cin
 have h1:=(hn.ca _ _ (node_lt h hi.1) (node_lt h hj.1)).2 (hi.2.trans hj.2.symm)
 have e1:=hv.num i hi.1
 have e2:=hv.num j hj.1
 rw [h1,e2] at e1
 omega
theorem IsState.alike (h:SetsG g K) {i a b:Nat} (hi:IsState g K i a) (hj:IsState g K i b):AlikeN (pruneF g) K (a:Int) (b:Int):=hi.2.symm.trans hj.2
theorem IsState.step (h:SetsG g K) {j a k:Nat} (ha:a < g.rule.length) (hj:IsState g K j a) (hk:k < K) :
  (stepK (numberF (pruneF g) (mergeF (pruneF g))) (j:Int) k = -1∧stepK (pruneF g) (a:Int) k = -1)∨∃ j' a':Nat,stepK (numberF (pruneF g) (mergeF (pruneF g))) (j:Int) k = (j':Int)∧stepK (pruneF g) (a:Int) k = (a':Int)∧a' < g.rule.length∧IsState g K j' a':=by
 have hn:=merge_num h
 have ho:=pruneF_ok h.ok
 rcases number_step ho h.pos hn.clen hn.cin (mergeF_stable ho h.pos) hj.1 ha ((hn.ca _ _ (node_lt h hj.1) ha).2 hj.2) hk with e | ⟨j',a',e1,e2,e3,e4,e5⟩
 ·exact .inl e
 ·exact .inr ⟨j',a',e1,e2,e4,e3,(hn.ca _ _ (node_lt h e3) e4).1 e5⟩
theorem IsState.zero (h:SetsG g K):IsState g K 0 0:=by
 have hn:=merge_num h
 obtain ⟨hv,_⟩:=visitF_inv (pruneF_ok h.ok) h.pos hn.clen hn.cin
 exact ⟨hv.pos.1,by rw [hv.pos.2]; exact fun ks hk=>rfl⟩
theorem IsState.all (h:SetsG g K):∀ a,Goes g K a→∃ j,IsState g K j a:=by
 intro a
 induction a using Nat.strongRecOn with
 |ind a ih =>
  intro ha
  by_cases h0:a = 0
  ·subst h0; exact ⟨0,IsState.zero h⟩
  ·have hl:Lives g K (a:Int):=by rcases ha.2 with e | e; exact absurd e h0; exact e
   obtain ⟨p,k,ho,hp⟩:=scanRows_find g.next 0 1 _ h.scan a (by omega) (by rw [h.ok.len]; exact ha.1)
   obtain ⟨o1,o2,o3⟩:=(occ_step h).1 ho
   obtain ⟨j,hj⟩:=ih p (by omega) ⟨o1,.inr (lives_pre h o2 o3 hl)⟩
   have e:=pruned_lives h o1 o2 o3 hl
   rcases hj.step h o1 o2 with ⟨_,e2⟩ | ⟨j',a',_,e2,_,e4⟩
   ·rw [e] at e2; omega
   ·rw [e] at e2
    have:a = a':=by omega
    subst this
    exact ⟨j',e4⟩
theorem IsState.goes (h:SetsG g K) {j:Nat} (hj:j < (visitF (pruneF g) (mergeF (pruneF g))).1.length):∃ a,Goes g K a∧IsState g K j a:=by
 have hn:=merge_num h
 have hlt:=node_lt h hj
 refine ⟨_,⟨hlt,?_⟩,hj,fun ks hk=>rfl⟩
 by_cases h0:j = 0
 ·left
  obtain ⟨hv,_⟩:=visitF_inv (pruneF_ok h.ok) h.pos hn.clen hn.cin
  rw [h0,hv.pos.2]; rfl
 ·right
  have hsc:=visitF_scan (pruneF_ok h.ok) h.pos hn.clen hn.cin
  have el:(numberF (pruneF g) (mergeF (pruneF g))).rule.length = (visitF (pruneF g) (mergeF (pruneF g))).1.length:=by simp [numberF]
  have en:(numberF (pruneF g) (mergeF (pruneF g))).next.length = (visitF (pruneF g) (mergeF (pruneF g))).1.length:=by simp [numberF]
  obtain ⟨p,k,⟨o1,o2,o3⟩,hp⟩:=scanRows_find _ 0 1 _ hsc j (by omega) (by rw [el]; exact hj)
  rw [en] at o1
  have hplt:=node_lt h o1
  have hst:IsState g K p ((visitF (pruneF g) (mergeF (pruneF g))).1.getD p 0).toNat:=⟨o1,fun ks hk=>rfl⟩
  have hrow:((numberF (pruneF g) (mergeF (pruneF g))).next.getD p []).length = K:=by
   have:(numberF (pruneF g) (mergeF (pruneF g))).next.getD p [] = numberRow (mergeF (pruneF g)) (visitF (pruneF g) (mergeF (pruneF g))).2 ((pruneF g).next.getD ((visitF (pruneF g) (mergeF (pruneF g))).1.getD p 0).toNat []):=by simp [numberF,o1]
   rw [this]
   unfold numberRow
   rw [List.length_map]
   have ho:=pruneF_ok h.ok
   exact (ho.row _ (by rw [ho.len]; exact hplt)).1
  have e3:stepK (numberF (pruneF g) (mergeF (pruneF g))) (p:Int) k = (j:Int):=by unfold stepK; rw [if_neg (by omega),Int.toNat_natCast]; exact o3
  rcases hst.step h hplt (by omega) (k:=k) with ⟨e,_⟩ | ⟨j',a',e,e2,e4,e5⟩
  ·rw [e3] at e; omega
  ·rw [e3] at e
   have:j = j':=by omega
   subst this
   rcases pruned_step h hplt (k:=k) (by omega) with e6 | ⟨t,t1,t2,t3,t4⟩
   ·rw [e2] at e6; omega
   ·rw [e2] at t2
    have:a' = t:=by omega
    subst this
    exact lives_alike h e4 hlt e5.2.symm t4
theorem num_occ (h:SetsG g K) {c p k:Nat} (hp:p < (visitF (pruneF g) (mergeF (pruneF g))).1.length):Occ (numberF (pruneF g) (mergeF (pruneF g))).next c p k↔(k < K∧stepK (numberF (pruneF g) (mergeF (pruneF g))) (p:Int) k = (c:Int)):=by
 have en:(numberF (pruneF g) (mergeF (pruneF g))).next.length = (visitF (pruneF g) (mergeF (pruneF g))).1.length:=by simp [numberF]
 have hplt:=node_lt h hp
 have hrow:((numberF (pruneF g) (mergeF (pruneF g))).next.getD p []).length = K:=by
  have:(numberF (pruneF g) (mergeF (pruneF g))).next.getD p [] = numberRow (mergeF (pruneF g)) (visitF (pruneF g) (mergeF (pruneF g))).2 ((pruneF g).next.getD ((visitF (pruneF g) (mergeF (pruneF g))).1.getD p 0).toNat []):=by simp [numberF,hp]
  rw [this]
  unfold numberRow
  rw [List.length_map]
  have ho:=pruneF_ok h.ok
  exact (ho.row _ (by rw [ho.len]; exact hplt)).1
 have e3:stepK (numberF (pruneF g) (mergeF (pruneF g))) (p:Int) k = ((numberF (pruneF g) (mergeF (pruneF g))).next.getD p []).getD k 0:=by unfold stepK; rw [if_neg (by omega),Int.toNat_natCast]
 rw [e3]
 constructor
 ·rintro ⟨_,h2,h3⟩; exact ⟨by omega,h3⟩
 ·rintro ⟨h2,h3⟩; exact ⟨by omega,by omega,h3⟩
theorem Firsts.state (hF:Firsts g K F) (h:SetsG g K):∀ s,(hs:s < F.length)→IsState g K s F[s]:=by
 have hn:=merge_num h
 have hsc:=visitF_scan (pruneF_ok h.ok) h.pos hn.clen hn.cin
 intro s
 induction s using Nat.strongRecOn with
 |ind s ih =>
  intro hs
  have hmem:=(hF.mem F[s]).1 (List.getElem_mem hs)
  by_cases h0:F[s] = 0
  ·-- the empty text's
   have:s = 0:=by
    refine Nat.eq_zero_of_not_pos fun hp=>?_
    have:=(sorted_lt hF.sorted (i:=0) (j:=s) (by omega) hs).2 hp
    omega
   subst this
   rw [h0]; exact IsState.zero h
  ·obtain ⟨i,hi⟩:=IsState.all h F[s] hmem.1
   have hs0:0 < s:=by
    refine Nat.pos_of_ne_zero fun e=>?_
    subst e
    have h0F:(0:Nat) ∈ F:=(hF.mem 0).2 ⟨⟨h.pos,.inl rfl⟩,fun b hb=>by omega⟩
    obtain ⟨j,hj,e⟩:=List.getElem_of_mem h0F
    have:=(sorted_lt hF.sorted hs hj).1
    rcases Nat.eq_zero_or_pos j with ej | ej
    ·subst ej; exact h0 e
    ·have:=(sorted_lt hF.sorted hs hj).2 ej; omega
   -- no lower state
   have hge:s ≤ i:=by
    refine Nat.le_of_not_lt fun hlt=>?_
    have hi2:=ih i hlt (by omega)
    have:=hF.least (List.getElem_mem hs) (b:=F[i]) (hi2.alike h hi)
    have:=(sorted_lt hF.sorted (i:=i) (j:=s) (by omega) hs).2 hlt
    omega
   rcases Nat.lt_or_ge s i with hlt | hle
   ·exfalso
    -- state s has a first set of its own,a later one
    obtain ⟨a,ha,hsa⟩:=IsState.goes h (j:=s) (by have:=hi.1; omega)
    obtain ⟨b,hb,_,hba⟩:=hF.rep h ha
    obtain ⟨s2,hs2,e2⟩:=List.getElem_of_mem hb
    have hb1:=(hF.mem b).1 hb
    have hsb:IsState g K s b:=⟨hsa.1,hsa.2.trans hba.symm⟩
    have hbc:F[s] < b:=by
     rw [← e2,sorted_lt hF.sorted hs hs2]
     refine Nat.lt_of_not_le fun hle=>?_
     rcases Nat.lt_or_ge s2 s with e | e
     ·have:=ih s2 e hs2
      rw [e2] at this
      have:=IsState.one h hb1.1.1 this hsb
      omega
     ·have:s2 = s:=by omega
      subst this
      rw [← e2] at hsb
      have:=IsState.one h hmem.1.1 hsb hi
      omega
    -- where it is come upon first
    have hl:Lives g K (F[s]:Int):=by rcases hmem.1.2 with e | e; exact absurd e h0; exact e
    obtain ⟨p9,k9,ho9,hp9⟩:=scanRows_find g.next 0 1 _ h.scan F[s] (by omega) (by rw [h.ok.len]; exact hmem.1.1)
    obtain ⟨p,k0,hpp,ho,hfirst⟩:=ho9.first
    obtain ⟨o1,o2,o3⟩:=(occ_step h).1 ho
    have hpl:Goes g K p:=⟨o1,.inr (lives_pre h o2 o3 hl)⟩
    obtain ⟨q,hq,hqp,hqa⟩:=hF.rep h hpl
    obtain ⟨s0,hs00,e0⟩:=List.getElem_of_mem hq
    have hq1:=(hF.mem q).1 hq
    have e4:=pruned_lives h o1 o2 o3 hl
    have hst:=hqa.step o2
    rw [e4] at hst
    -- from q it leads to the same set
    have hqc:stepK g (q:Int) k0 = (F[s]:Int):=by
     rcases pruned_step h hq1.1.1 o2 with e6 | ⟨t,t1,t2,t3,t4⟩
     ·exfalso
      rw [e6] at hst
      obtain ⟨ks,k1,k2⟩:=hl
      have:=hst ks k1
      rw [acc_dead,prune_acc h.ok ks F[s] k1 hmem.1.1] at this
      exact k2 this.symm
     ·rw [t2] at hst
      have hle:=hF.least (List.getElem_mem hs) hst
      rcases Nat.lt_or_ge F[s] t with hlt2 | hge2
      ·exfalso
       have ho2:Occ g.next t q k0:=(occ_step h).2 ⟨hq1.1.1,o2,t3⟩
       rcases scanRows_order g.next 0 1 _ h.scan q k0 F[s] t ho2 hlt2 with e | ⟨p2,k2,ho3,hlx⟩
       ·omega
       ·refine hfirst p2 k2 ho3 ?_
        rcases hlx with e | ⟨e1,e2⟩
        ·exact .inl (by omega)
        ·rcases Nat.lt_or_ge q p with e3 | e3
         ·exact .inl (by omega)
         ·exact .inr ⟨by omega,e2⟩
      ·rw [t3,show t = F[s] by omega]
    have hpq:p ≤ q:=by
     refine Nat.le_of_not_lt fun hlt2=>?_
     exact hfirst q k0 ((occ_step h).2 ⟨hq1.1.1,o2,hqc⟩) (.inl hlt2)
    have hpe:p = q:=by omega
    subst hpe
    have hs0s:s0 < s:=by
     rw [← sorted_lt hF.sorted hs00 hs,e0]; omega
    have hp0:=ih s0 hs0s hs00
    rw [e0] at hp0
    -- so in the program's graph
    have hG:stepK (numberF (pruneF g) (mergeF (pruneF g))) (s0:Int) k0 = (i:Int):=by
     rcases hp0.step h o1 o2 with ⟨_,e⟩ | ⟨j',a',e5,e6,e7,e8⟩
     ·rw [e4] at e; omega
     ·rw [e4] at e6
      have:F[s] = a':=by omega
      rw [← this] at e8
      rw [e5,IsState.one h hmem.1.1 e8 hi]
    rcases scanRows_order _ 0 1 _ hsc s0 k0 s i ((num_occ h hp0.1).2 ⟨o2,hG⟩) hlt with e | ⟨j1,k1,ho3,hlx⟩
    ·omega
    ·have hj1:j1 ≤ s0:=by rcases hlx with e | ⟨e,_⟩ <;> omega
     have hst1:=ih j1 (by omega) (by omega)
     have hj1m:=(hF.mem F[j1]).1 (List.getElem_mem (by omega))
     obtain ⟨k1K,hG1⟩:=(num_occ h hst1.1).1 ho3
     rcases hst1.step h hj1m.1.1 k1K with ⟨e,_⟩ | ⟨j',a',e5,e6,e7,e8⟩
     ·rw [hG1] at e; omega
     ·rw [hG1] at e5
      have:s = j':=by omega
      subst this
      have hle:=hF.least hb (e8.alike h hsb)
      rcases pruned_step h hj1m.1.1 k1K with e9 | ⟨t,t1,t2,t3,t4⟩
      ·rw [e6] at e9; omega
      ·rw [e6] at t2
       have:a' = t:=by omega
       subst this
       have ho4:Occ g.next a' F[j1] k1:=(occ_step h).2 ⟨hj1m.1.1,k1K,t3⟩
       rcases scanRows_order g.next 0 1 _ h.scan F[j1] k1 F[s] a' ho4 (by omega) with e | ⟨p2,k2,ho5,hlx2⟩
       ·omega
       ·refine hfirst p2 k2 ho5 ?_
        have hcmp:F[j1] < p∨(F[j1] = p∧k1 < k0):=by
         rcases hlx with e | ⟨e,e'⟩
         ·left; rw [← e0]; exact (sorted_lt hF.sorted (by omega) hs00).2 e
         ·right; subst e; exact ⟨e0,e'⟩
        rcases hlx2 with e | ⟨e1,e2'⟩
        ·left; omega
        ·rcases hcmp with e | ⟨e,e'⟩
         ·left; omega
         ·right; exact ⟨by omega,by omega⟩
   ·have:i = s:=by omega
    subst this
    exact hi
theorem Firsts.len (hF:Firsts g K F) (h:SetsG g K):F.length = (numberF (pruneF g) (mergeF (pruneF g))).rule.length:=by
 have el:(numberF (pruneF g) (mergeF (pruneF g))).rule.length = (visitF (pruneF g) (mergeF (pruneF g))).1.length:=by simp [numberF]
 rw [el]
 refine Nat.le_antisymm (Nat.le_of_not_lt fun hlt=>?_) (Nat.le_of_not_lt fun hlt=>?_)
 ·have:=(hF.state h _ hlt).1; omega
 ·obtain ⟨a,ha,hsa⟩:=IsState.goes h hlt
  obtain ⟨b,hb,_,hba⟩:=hF.rep h ha
  obtain ⟨s2,hs2,e2⟩:=List.getElem_of_mem hb
  have:=hF.state h s2 hs2
  rw [e2] at this
  have:=IsState.one h ((hF.mem b).1 hb).1.1 this ⟨hsa.1,hsa.2.trans hba.symm⟩
  omega
theorem Firsts.rule (hF:Firsts g K F) (h:SetsG g K) {s:Nat} (hs:s < F.length):(numberF (pruneF g) (mergeF (pruneF g))).rule.getD s 0 = g.rule.getD F[s] 0:=by
 have hst:=hF.state h s hs
 have hlt:=node_lt h hst.1
 have hm:=((hF.mem F[s]).1 (List.getElem_mem hs)).1.1
 have h1:accK (pruneF g) ((((visitF (pruneF g) (mergeF (pruneF g))).1.getD s 0).toNat:Nat):Int) = accK (pruneF g) (F[s]:Int):=hst.2 [] (fun k hk=>by simp at hk)
 unfold accK at h1
 rw [if_neg (by omega),if_neg (by omega),Int.toNat_natCast,Int.toNat_natCast] at h1
 have hst1:=hst.1
 rw [← (show (pruneF g).rule = g.rule from rfl),← h1]
 simp [numberF,hst1]
theorem Firsts.next (hF:Firsts g K F) (h:SetsG g K) {s k:Nat} (hs:s < F.length) (hk:k < K) :
  (stepK (numberF (pruneF g) (mergeF (pruneF g))) (s:Int) k = -1∧(stepK g (F[s]:Int) k = -1∨∃ t:Nat,stepK g (F[s]:Int) k = (t:Int)∧¬ Lives g K (t:Int))) ∨
  ∃ t s':Nat,∃ hs':s' < F.length,stepK g (F[s]:Int) k = (t:Int)∧Lives g K (t:Int)∧t < g.rule.length∧stepK (numberF (pruneF g) (mergeF (pruneF g))) (s:Int) k = (s':Int)∧AlikeN (pruneF g) K (F[s']:Int) (t:Int):=by
 have hst:=hF.state h s hs
 have hm:=((hF.mem F[s]).1 (List.getElem_mem hs)).1.1
 rcases hst.step h hm hk with ⟨e1,e2⟩ | ⟨j',a',e1,e2,e3,e4⟩
 ·left
  refine ⟨e1,?_⟩
  rcases stepK_in h.ok (s:=(F[s]:Int)) (by omega) (by omega) hk with e | e
  ·exact .inl e
  ·right
   refine ⟨(stepK g (F[s]:Int) k).toNat,by omega,fun hl=>?_⟩
   have:=pruned_lives h hm hk (t:=(stepK g (F[s]:Int) k).toNat) (by omega) hl
   rw [e2] at this; omega
 ·right
  rcases pruned_step h hm hk with e9 | ⟨t,t1,t2,t3,t4⟩
  ·rw [e2] at e9; omega
  ·rw [e2] at t2
   have:a' = t:=by omega
   subst this
   have hj':j' < F.length:=by
    rw [hF.len h]
    have el:(numberF (pruneF g) (mergeF (pruneF g))).rule.length = (visitF (pruneF g) (mergeF (pruneF g))).1.length:=by simp [numberF]
    rw [el]; exact e4.1
   exact ⟨a',j',hj',t3,t4,t1,e1,(hF.state h j' hj').alike h e4⟩
end
end Go.Proofs.YtcckhngbdoiikaaGreat

namespace Go.Proofs.YtcckhngbdoiikaaGreat
open Go.RowKit Go.Deep
set_option linter.unusedVariables false
theorem allLoopF_good (s:ByteArray):∀ (n:Nat) (r:Bool × Nat × RulesT),r.2.1 ≤ s.size∧r.2.2.follow.length ≤ r.2.1∧r.2.2.last.length ≤ r.2.1 →
  (allLoopF s n r).2.1 ≤ s.size∧(allLoopF s n r).2.2.follow.length ≤ (allLoopF s n r).2.1∧(allLoopF s n r).2.2.last.length ≤ (allLoopF s n r).2.1
 | 0,r,h=>h
 |n + 1,r,h=>by
  unfold allLoopF
  split
  ·rename_i hc
   have hlt:=peekI_in (s:=s) (p:=r.2.1) (by rw [hc.2]; decide)
   have g:=ruleF_good s (r.2.1 + 1) r.2.2 (by omega) (by omega) (by omega)
   exact allLoopF_good s n _ ⟨g.top,g.few,g.last⟩
  ·exact h
theorem allF_good (s:ByteArray):(allF s).2.1 ≤ s.size∧(allF s).2.2.follow.length ≤ s.size∧(allF s).2.2.last.length ≤ s.size:=by
 have g:=ruleF_good s 0 RulesT.new (by omega) (by simp [RulesT.new]) (by simp [RulesT.new])
 have:=allLoopF_good s (s.size + 1) (ruleF s 0 RulesT.new) ⟨g.top,g.few,g.last⟩
 unfold allF
 simp only
 omega
inductive NewT where
 |bad (e at':Nat)
 |lexer (kd:Nat→Nat) (g:Graph)
def newF (s:ByteArray):NewT :=
 if 120 < s.size then .bad 1 0
 else if (allF s).1 = false then .bad 2 (allF s).2.1
 else match buildF (allF s).2.2 with
  |none=>.bad 3 0
  |some (kd,g)=>.lexer kd g
def LexAt (w:World) (pb:Nat) (kd:Nat→Nat) (g:Graph):Prop:=∃ ruv nxv,Blk w pb (tableC kd ruv nxv) 67∧GraphAt w ruv nxv g
def NewAns (w':World) (e:Ending):NewT→Prop
 | .bad c a=>e = .returned (.tuple #[.pointer none,.int .i64 (c:Int),.int .i64 (a:Int)])
 | .lexer kd g=>∃ pb,e = .returned (.tuple #[.pointer (some ⟨pb,0,none⟩),.int .i64 0,.int .i64 0])∧LexAt w' pb kd g
set_option maxHeartbeats 3200000 in
theorem new_any (s:ByteArray) (hm:s.size ≤ maxLen) (w:World) :
  Calls Tryz.prog 11 #[.string s] w fun e w'=>Below w.heap.size w w'∧NewAns w' e (newF s):=by
 by_cases hs:120 < s.size
 ·have e1:newF s = .bad 1 0:=by unfold newF; rw [if_pos hs]
  rw [e1]
  have HC:=hide (read_long s hs hm)
  clear e1 hm
  go_enter Tryz.func11,Tryz.ntmps11
  go_wp2_with fail
  refine (HC.out _).mono ?_
  rintro e w1 ⟨rfl,rfl⟩
  go_wp2_with fail
  go_ret3
  exact ⟨Below.refl _ _,rfl⟩
 ·have HC:=hide (read_any s (by omega))
  have hgood:=allF_good s
  generalize hX:newF s = X
  unfold newF at hX
  rw [if_neg hs] at hX
  generalize allF s = F at HC hgood hX
  obtain ⟨ok,p,R⟩:=F
  have HX:=hide hX
  clear hX hm
  go_enter Tryz.func11,Tryz.ntmps11
  go_wp2_with fail
  refine (HC.out _).mono ?_
  rintro e w1 ⟨hb1,hres⟩
  rcases hres with ⟨hok,rfl⟩ | ⟨hok,gb,rfl,O,fv,lv,hR1,hO⟩
  ·subst hok
   have hx:=HX.out
   simp only [if_true] at hx
   subst hx
   go_wp2_with fail
   go_ret3
   exact ⟨hb1,rfl⟩
  ·subst hok
   have HBU:=hide (build_any R gb O fv lv w1 hR1 (by omega) (by omega))
   have HB1:=hide hb1
   clear hb1 hR1 hO
   go_wp2_with fail
   refine HBU.out.mono ?_
   rintro e w2 ⟨hb2,hres⟩
   have hb3:Below w.heap.size w w2:=HB1.out.trans (hb2.mono HB1.out.size)
   have hz:=HB1.out.size
   have hz2:=hb2.size
   rcases hres with ⟨hx0,rfl⟩ | ⟨kd,g,ruv,nxv,hx0,rfl,hG2⟩
   ·have hx:=HX.out
    simp only [hx0] at hx
    simp only [Bool.true_eq_false,if_false] at hx
    subst hx
    have HB3:=hide hb3
    clear hb2 hb3 hx0
    go_wp2_with (first | refine storeT rfl (.tmp 8) (.tmp 22) rfl w2.heap.size rfl rfl (Blk.new _ _ _) zeroT ⟨rfl,rfl⟩ ?_)
    go_ret3
    exact ⟨Below_setRow (HB3.out.alloc (by omega) _) (by omega) _,rfl⟩
   ·have hx:=HX.out
    simp only [hx0] at hx
    simp only [Bool.true_eq_false,if_false] at hx
    subst hx
    have hone:=hG2.one
    have HB3:=hide hb3
    have HG2:=hide hG2
    have HON:=hide hone
    clear hb2 hb3 hx0 hG2 hone
    go_wp2_with (first | refine storeT rfl (.tmp 8) (.tmp 22) rfl w2.heap.size rfl rfl (Blk.new _ _ _) zeroT HON.out ?_ | refine loadT rfl (.tmp 8) rfl w2.heap.size rfl ((Blk.new _ _ _).setRow _) ?_ | refine buildL rfl (.tmp 27) rfl rfl ?_)
    go_ret3
    have hb4:Below w2.heap.size w2 (((w2.alloc (.cells Tryz.zeroCells65 65)).setRow w2.heap.size (tableC kd ruv nxv)).alloc (.cells (tableC kd ruv nxv) 67)):=(Below_setRow (Below1 _ _) (Nat.le_refl _) _).alloc (by simp) _
    refine ⟨HB3.out.trans (hb4.mono (by omega)),w2.heap.size + 1,rfl,ruv,nxv,?_,HG2.out.below hb4⟩
    have:=Blk.new ((w2.alloc (.cells Tryz.zeroCells65 65)).setRow w2.heap.size (tableC kd ruv nxv)) (tableC kd ruv nxv) 67
    simpa using this
theorem LexAt.below {w w':World} {pb:Nat} {kd:Nat→Nat} {g:Graph} (h:LexAt w pb kd g) (k:Below w.heap.size w w'):LexAt w' pb kd g:=by
 obtain ⟨ruv,nxv,h1,h2⟩:=h
 exact ⟨ruv,nxv,h1.below k,h2.below k⟩
theorem tableC_256 (f:Nat→Nat) (ru nx:Value):(tableC f ru nx)[256]? = some ru:=by
 rw [tableC,Array.getElem?_append_right (by rw [kindC_size]; omega),kindC_size]; rfl
theorem tableC_257 (f:Nat→Nat) (ru nx:Value):(tableC f ru nx)[257]? = some nx:=by
 rw [tableC,Array.getElem?_append_right (by rw [kindC_size]; omega),kindC_size]; rfl
theorem count_any (pb:Nat) (ruv:Value) (l:List Int) (w:World) (hc:w.cell? ⟨pb,256,none⟩ = some ruv) (hl:IRow w ruv l) :
  Calls Tryz.prog 20 #[.pointer (some ⟨pb,0,none⟩)] w fun e w'=>e = .returned (.int .i64 (l.length:Int))∧w' = w:=by
 obtain ⟨ad,cap,rfl,_⟩:=hl.form
 clear hl
 go_enter Tryz.func20,Tryz.ntmps20
 go_wp2_with fail
 go_ret
 exact ⟨rfl,rfl⟩
theorem states_any (pb:Nat) (kd:Nat→Nat) (g:Graph) (w:World) (h:LexAt w pb kd g) :
  Calls Tryz.prog 10 #[.pointer (some ⟨pb,0,none⟩)] w fun e w'=>e = .returned (.int .i64 (g.rule.length:Int))∧w' = w:=by
 obtain ⟨ruv,nxv,h1,h2⟩:=h
 have HC:=hide (count_any pb ruv g.rule w (by rw [h1.cell]; exact tableC_256 _ _ _) h2.rule)
 clear h1 h2
 go_enter Tryz.func10,Tryz.ntmps10
 go_wp2_with fail
 refine HC.out.mono ?_
 rintro e w1 ⟨rfl,rfl⟩
 go_wp2_with fail
 go_ret
 exact ⟨rfl,rfl⟩
def nextF (kd:Nat→Nat) (g:Graph) (s b:Int):Int:=if s < 0∨(g.next.length:Int) ≤ s∨b < 0∨256 ≤ b then -1 else (g.next.getD s.toNat []).getD (kd b.toNat) 0
def ruleOfF (g:Graph) (s:Int):Int:=if s < 0∨(g.rule.length:Int) ≤ s then -1 else g.rule.getD s.toNat 0
def LexOk (kd:Nat→Nat) (g:Graph):Prop:=∀ i,i < g.next.length→∀ b,b < 256→kd b < (g.next.getD i []).length
theorem tableC_kind (f:Nat→Nat) (ru nx:Value) (b:Nat) (h:b < 256):(tableC f ru nx)[b]? = some (.int .i64 (f b:Int)):=by
 rw [tableC,Array.getElem?_append_left (by rw [kindC_size]; omega),kindC_get _ _ h]
set_option maxHeartbeats 1600000 in
theorem tableRule_any (pb:Nat) (kd:Nat→Nat) (g:Graph) (s:Int) (w:World) (h:LexAt w pb kd g) :
  Calls Tryz.prog 100 #[.pointer (some ⟨pb,0,none⟩),.int .i64 s] w fun e w'=>e = .returned (.int .i64 (ruleOfF g s))∧w' = w:=by
 obtain ⟨ruv,nxv,h1,h2⟩:=h
 have hl:=h2.rule
 have c0:w.cell? ⟨pb,256,none⟩ = some ruv:=by rw [h1.cell]; exact tableC_256 _ _ _
 obtain ⟨ad,cap,rfl,hrow⟩:=hl.form
 generalize hF:ruleOfF g s = F
 unfold ruleOfF at hF
 by_cases hs0:s < 0
 ·have e0:decide (s < 0) = true:=by simp [hs0]
  rw [if_pos (.inl hs0)] at hF
  subst hF
  clear h1 h2 hl
  go_enter Tryz.func100,Tryz.ntmps100
  go_wp2_with fail
  go_ret
  exact ⟨rfl,rfl⟩
 ·have e0:decide (s < 0) = false:=by simp; omega
  by_cases hs1:(g.rule.length:Int) ≤ s
  ·have e1:decide ((g.rule.length:Int) ≤ s) = true:=by simp [hs1]
   rw [if_pos (.inr hs1)] at hF
   subst hF
   clear h1 h2 hl
   go_enter Tryz.func100,Tryz.ntmps100
   go_wp2_with fail
   go_ret
   exact ⟨rfl,rfl⟩
  ·have e1:decide ((g.rule.length:Int) ≤ s) = false:=by simp; omega
   rw [if_neg (by omega)] at hF
   obtain ⟨j,rfl⟩:∃ j:Nat,s = (j:Int):=⟨s.toNat,by omega⟩
   have hj:j < g.rule.length:=by omega
   rcases hrow with h0 | ⟨rg,rfl⟩
   ·omega
   have r0:=hl.cell j hj
   have hg:g.rule.getD j 0 = g.rule[j]:=by simp [hj]
   rw [Int.toNat_natCast,hg] at hF
   generalize g.rule[j] = rj at r0 hF
   subst hF
   have i0:(0:Int) ≤ (j:Int):=by omega
   have i1:(j:Int) < (g.rule.length:Int):=by omega
   clear h1 h2 hl hg
   go_enter Tryz.func100,Tryz.ntmps100
   go_wp2_with fail
   go_ret
   exact ⟨rfl,rfl⟩
set_option maxHeartbeats 3200000 in
theorem tableNext_any (pb:Nat) (kd:Nat→Nat) (g:Graph) (s b:Int) (w:World) (h:LexAt w pb kd g) (ho:LexOk kd g) :
  Calls Tryz.prog 132 #[.pointer (some ⟨pb,0,none⟩),.int .i64 s,.int .i64 b] w fun e w'=>e = .returned (.int .i64 (nextF kd g s b))∧Below w.heap.size w w':=by
 obtain ⟨ruv,nxv,h1,h2⟩:=h
 obtain ⟨vs,hN,hvl,hvs⟩:=h2.next
 have c0:w.cell? ⟨pb,257,none⟩ = some nxv:=by rw [h1.cell]; exact tableC_257 _ _ _
 obtain ⟨ad,cap,rfl,hrow⟩:=hN.form
 generalize hF:nextF kd g s b = F
 unfold nextF at hF
 rw [← hvl] at hF
 by_cases hs0:s < 0
 ·have e0:decide (s < 0) = true:=by simp [hs0]
  rw [if_pos (.inl hs0)] at hF
  subst hF
  clear h1 h2 hN hvl hvs ho
  go_enter Tryz.func132,Tryz.ntmps132
  go_wp2_with fail
  go_ret
  exact ⟨rfl,Below.refl _ _⟩
 ·have e0:decide (s < 0) = false:=by simp; omega
  by_cases hs1:(vs.length:Int) ≤ s
  ·have e1:decide ((vs.length:Int) ≤ s) = true:=by simp [hs1]
   rw [if_pos (.inr (.inl hs1))] at hF
   subst hF
   clear h1 h2 hN hvl hvs ho
   go_enter Tryz.func132,Tryz.ntmps132
   go_wp2_with fail
   go_ret
   exact ⟨rfl,Below.refl _ _⟩
  ·have e1:decide ((vs.length:Int) ≤ s) = false:=by simp; omega
   by_cases hb0:b < 0
   ·have e2:decide (b < 0) = true:=by simp [hb0]
    rw [if_pos (.inr (.inr (.inl hb0)))] at hF
    subst hF
    clear h1 h2 hN hvl hvs ho
    go_enter Tryz.func132,Tryz.ntmps132
    go_wp2_with fail
    go_ret
    exact ⟨rfl,Below.refl _ _⟩
   ·have e2:decide (b < 0) = false:=by simp; omega
    by_cases hb1:256 ≤ b
    ·have e3:decide ((256:Int) ≤ b) = true:=by simp [hb1]
     rw [if_pos (.inr (.inr (.inr hb1)))] at hF
     subst hF
     clear h1 h2 hN hvl hvs ho
     go_enter Tryz.func132,Tryz.ntmps132
     go_wp2_with fail
     go_ret
     exact ⟨rfl,Below.refl _ _⟩
    ·have e3:decide ((256:Int) ≤ b) = false:=by simp; omega
     rw [if_neg (by omega)] at hF
     obtain ⟨j,rfl⟩:∃ j:Nat,s = (j:Int):=⟨s.toNat,by omega⟩
     obtain ⟨c,rfl⟩:∃ c:Nat,b = (c:Int):=⟨b.toNat,by omega⟩
     have hj:j < vs.length:=by omega
     have hc:c < 256:=by omega
     have hkd:=ho j (by omega) c hc
     rcases hrow with h0 | ⟨ng,rfl⟩
     ·omega
     have n0:=hN.cell j hj
     have hr:=hvs j vs[j] (List.getElem?_eq_getElem _)
     rw [Int.toNat_natCast,Int.toNat_natCast] at hF
     generalize g.next.getD j [] = row at hr hF hkd
     generalize vs[j] = vj at n0 hr
     obtain ⟨ed,ecap,rfl,herow⟩:=hr.form
     rcases herow with h0 | ⟨eg,rfl⟩
     ·omega
     have k0:w.cell? ⟨pb,c,none⟩ = some (.int .i64 (kd c:Int)):=by rw [h1.cell]; exact tableC_kind _ _ _ c hc
     have r0:=hr.cell (kd c) hkd
     have hg:row.getD (kd c) 0 = row[kd c]:=by simp [hkd]
     rw [hg] at hF
     generalize row[kd c] = rv at r0 hF
     subst hF
     generalize kd c = kc at k0 r0 hkd
     have i0:(0:Int) ≤ (j:Int):=by omega
     have i1:(j:Int) < (vs.length:Int):=by omega
     have i2:(0:Int) ≤ (c:Int):=by omega
     have i3:(c:Int) < 256:=by omega
     have i4:(0:Int) ≤ (kc:Int):=by omega
     have i5:(kc:Int) < (row.length:Int):=by omega
     clear h1 h2 hN hvl hvs ho hr hg
     go_enter Tryz.func132,Tryz.ntmps132
     go_wp2_with fail
     go_quiet (fail)
     go_wp2_with fail
     go_ret
     exact ⟨rfl,Below_drewN (Below.refl _ _) _⟩
theorem kindsAt_mono (al:Nat→PSet):∀ (d b:Nat),(kindsAt al b).length ≤ (kindsAt al (b + d)).length
 | 0,b=>Nat.le_refl _
 |d + 1,b=>by
  refine Nat.le_trans (kindsAt_mono al d b) ?_
  show (kindsAt al (b + d)).length ≤ (if idxF (kindsAt al (b + d)) (al (b + d)) = (kindsAt al (b + d)).length then kindsAt al (b + d) ++ [al (b + d)] else kindsAt al (b + d)).length
  split
  ·simp
  ·exact Nat.le_refl _
theorem kindOf_lt (al:Nat→PSet) (b n:Nat) (h:b < n):kindOf al b < (kindsAt al n).length:=by
 have h1:=idxF_le (kindsAt al b) (al b)
 have h2:kindOf al b < (kindsAt al (b + 1)).length:=by
  show idxF (kindsAt al b) (al b) < (if idxF (kindsAt al b) (al b) = (kindsAt al b).length then kindsAt al b ++ [al b] else kindsAt al b).length
  split
  ·simp; omega
  ·omega
 have h3:=kindsAt_mono al (n - (b + 1)) (b + 1)
 rw [show b + 1 + (n - (b + 1)) = n by omega] at h3
 omega
theorem visitRow_in {N:Nat} {cls:List Int}:∀ (row:List Int) (st:List Int × List Int),RowOk N row→(∀ x ∈ st.1,0 ≤ x∧x < (N:Int))→∀ x ∈ (visitRow cls row st).1,0 ≤ x∧x < (N:Int)
 | [],st,_,h=>h
 |x :: r,st,hr,h=>by
  unfold visitRow
  refine visitRow_in r _ (fun y hy=>hr y (by simp [hy])) ?_
  split
  ·rename_i hc
   simp at hc
   intro y hy
   simp at hy
   rcases hy with e | e
   ·exact h y e
   ·subst e
    rcases hr y (by simp) with e' | e'
    ·exact absurd e' hc.1
    ·exact e'
  ·exact h
theorem visitLoop_in {g:Graph} {K:Nat} {cls:List Int} (ho:GOk g K):∀ (f i:Nat) (st:List Int × List Int),(∀ x ∈ st.1,0 ≤ x∧x < (g.rule.length:Int))→∀ x ∈ (visitLoop g cls f i st).1,0 ≤ x∧x < (g.rule.length:Int)
 | 0,i,st,h=>h
 |f + 1,i,st,h=>by
  unfold visitLoop
  split
  ·rename_i hlt
   refine visitLoop_in ho f (i + 1) _ (visitRow_in _ _ ?_ h)
   have hm:st.1.getD i 0 ∈ st.1:=by simp [hlt]
   have:=h _ hm
   exact (ho.row _ (by rw [ho.len]; omega)).2
  ·exact h
theorem visitF_in {g:Graph} {K:Nat} {cls:List Int} (ho:GOk g K) (hp:0 < g.rule.length):∀ x ∈ (visitF g cls).1,0 ≤ x∧x < (g.rule.length:Int) :=
 visitLoop_in ho _ _ _ (fun x hx=>by simp at hx; omega)
theorem numberF_rows {g:Graph} {K:Nat} {cls:List Int} (ho:GOk g K) (hp:0 < g.rule.length):(numberF g cls).next.length = (numberF g cls).rule.length∧∀ i,i < (numberF g cls).next.length→((numberF g cls).next.getD i []).length = K:=by
 refine ⟨by simp [numberF],fun i hi=>?_⟩
 have hi':i < (visitF g cls).1.length:=by simpa [numberF] using hi
 have hx:=visitF_in (cls:=cls) ho hp (visitF g cls).1[i] (List.getElem_mem hi')
 have e1:(numberF g cls).next.getD i [] = numberRow cls (visitF g cls).2 (g.next.getD (visitF g cls).1[i].toNat []):=by simp [numberF,hi']
 rw [e1]
 have:=(ho.row (visitF g cls).1[i].toNat (by rw [ho.len]; omega)).1
 simpa [numberRow] using this
theorem buildF_ok {R:RulesT} {kd:Nat→Nat} {g:Graph} (h:buildF R = some (kd,g)):LexOk kd g∧g.next.length = g.rule.length:=by
 unfold buildF at h
 split at h
 ·cases h
 ·rename_i g0 hx
  obtain ⟨ho,hp,hn⟩:=exploreF_ok hx
  have hr:=numberF_rows (cls:=mergeF (pruneF g0)) (pruneF_ok ho) hp
  injection h with h
  injection h with h1 h2
  subst h1 h2
  exact ⟨fun i hi b hb=>by rw [hr.2 i hi]; exact kindOf_lt _ _ _ hb,hr.1⟩
theorem newF_lexOk {s:ByteArray} {kd:Nat→Nat} {g:Graph} (h:newF s = .lexer kd g):LexOk kd g∧g.next.length = g.rule.length:=by
 unfold newF at h
 split at h
 ·cases h
 ·split at h
  ·cases h
  ·split at h
   ·cases h
   ·rename_i hx
    injection h with h1 h2
    subst h1 h2
    exact buildF_ok hx
abbrev sureText:ByteArray:=⟨#[97,124,97,98,99]⟩
def lenOf:NewT→Nat
 | .bad _ _=>0
 | .lexer _ g=>g.rule.length
theorem sureLen:lenOf (newF sureText) = 4:=by kernel_rfl
theorem sureNew:∃ kd g,newF sureText = .lexer kd g∧g.rule.length = 4:=by
 have h:=sureLen
 generalize newF sureText = X at h ⊢
 cases X with
 |bad e a=>simp [lenOf] at h
 |lexer kd g=>exact ⟨kd,g,rfl,h⟩
def RefAns (P:World→Nat→Prop) (w':World) (e:Ending):NewT→Prop
 | .bad c a=>e = .returned (.tuple #[.pointer none,.int .i64 (c:Int),.int .i64 (a:Int)])
 | .lexer kd g=>∃ yb,e = .returned (.tuple #[.pointer (some ⟨yb,0,none⟩),.int .i64 0,.int .i64 0])∧P w' yb
def RefNewC (P:World→Nat→Prop) (s:ByteArray):Prop:=∀ w,Calls Tryz.prog 12 #[.string s] w fun e w'=>Below w.heap.size w w'∧RefAns P w' e (newF s)
def MadeAns (P:World→Nat→Prop) (w':World) (e:Ending):NewT→Prop
 | .bad c a=>e = .returned (.tuple #[.pointer none,.bool true])
 | .lexer kd g=>∃ pb xb yb,e = .returned (.tuple #[.pointer (some ⟨pb,0,none⟩),.bool true])∧Blk w' pb #[.pointer (some ⟨xb,0,none⟩),.pointer (some ⟨yb,0,none⟩)] 33∧LexAt w' xb kd g∧P w' yb
theorem LexAt.below' {w w':World} {pb:Nat} {kd:Nat→Nat} {g:Graph} (h:LexAt w pb kd g) (k:Below w.heap.size w w'):LexAt w' pb kd g:=by
 obtain ⟨ruv,nxv,h1,h2⟩:=h
 exact ⟨ruv,nxv,h1.below k,h2.below k⟩
set_option maxHeartbeats 1600000 in
theorem num_law (v:Int) (w:World):Calls Tryz.prog 13 #[.int .i64 v] w fun e w'=>e = .returned (.int .i64 v)∧w' = w:=by
 go_enter Tryz.func13,Tryz.ntmps13
 go_wp2_with fail
 go_ret
 exact ⟨rfl,rfl⟩
set_option maxRecDepth 20000 in
set_option maxHeartbeats 3200000 in
theorem made_x (P:World→Nat→Prop) (hP:∀ w w' b,P w b→Below w.heap.size w w'→P w' b) (s:ByteArray) (hm:s.size ≤ maxLen) (hr:RefNewC P s) (w:World) :
  Calls Tryz.prog 6 #[.string s] w fun e w'=>Below w.heap.size w w'∧MadeAns P w' e (newF s):=by
 have HN:=hide (new_any s hm w)
 have HR:=hide hr
 have HP:=hide hP
 have HNUM:=hide num_law
 clear hr hP hm
 unfold RefNewC at HR
 generalize newF s = X at HN HR ⊢
 cases X with
 |bad c a =>
  have e0:((c:Int) != (c:Int)) = false:=by simp
  have e1:((a:Int) != (a:Int)) = false:=by simp
  go_enter Tryz.func6,Tryz.ntmps6
  go_wp2_with fail
  refine HN.out.mono ?_
  rintro e w1 ⟨hb1,rfl⟩
  have HR1:=hide (HR.out w1)
  have HB1:=hide hb1
  clear hb1 HN
  go_wp2_with fail
  refine HR1.out.mono ?_
  rintro e w2 ⟨hb2,rfl⟩
  have HB2:=hide hb2
  clear hb2 HR1 HR
  go_wp2_with fail
  refine (HNUM.out _ _).mono ?_
  rintro e w3 ⟨rfl,rfl⟩
  go_wp2_with fail
  refine (HNUM.out _ _).mono ?_
  rintro e w4 ⟨rfl,rfl⟩
  go_wp2_with fail
  go_ret2
  exact ⟨HB1.out.trans (HB2.out.mono HB1.out.size),rfl⟩
 |lexer kd g =>
  go_enter Tryz.func6,Tryz.ntmps6
  go_wp2_with fail
  refine HN.out.mono ?_
  rintro e w1 ⟨hb1,xb,rfl,hx⟩
  have HR1:=hide (HR.out w1)
  have HB1:=hide (And.intro hb1 hx)
  clear hb1 hx HN
  go_wp2_with fail
  refine HR1.out.mono ?_
  rintro e w2 ⟨hb2,yb,rfl,hy⟩
  have HB2:=hide (And.intro hb2 hy)
  clear hb2 hy HR1 HR
  go_wp2_with fail
  refine (HNUM.out _ _).mono ?_
  rintro e w3 ⟨rfl,rfl⟩
  go_wp2_with fail
  refine (HNUM.out _ _).mono ?_
  rintro e w4 ⟨rfl,rfl⟩
  go_wp2_with fail
  go_ret2
  obtain ⟨b1,x1⟩:=HB1.out
  obtain ⟨b2,y2⟩:=HB2.out
  refine ⟨(b1.trans (b2.mono b1.size)).alloc (Nat.le_trans b1.size b2.size) _,_,xb,yb,rfl,Blk.new _ _ _,(x1.below' b2).below' (Below1 _ _),HP.out _ _ _ y2 (Below1 _ _)⟩
set_option maxRecDepth 20000 in
set_option maxHeartbeats 3200000 in
theorem known_x (P:World→Nat→Prop) (hP:∀ w w' b,P w b→Below w.heap.size w w'→P w' b) (hr:RefNewC P sureText) (w:World) :
  Calls Tryz.prog 5 #[] w fun e w'=>e = .returned (.bool true)∧Below w.heap.size w w':=by
 obtain ⟨kd,g,hn,hg⟩:=sureNew
 have HC:=hide (made_x P hP sureText (by decide) hr w)
 rw [hn] at HC
 have HG:=hide hg
 clear hn hg hr hP
 go_enter Tryz.func5,Tryz.ntmps5
 go_wp2_with fail
 refine HC.out.mono ?_
 rintro e w1 ⟨hb1,pb,xb,yb,rfl,hb,hx,hy⟩
 have HS:=hide (states_any xb kd g w1 hx)
 have c0:w1.cell? ⟨pb,0,none⟩ = some (.pointer (some ⟨xb,0,none⟩)):=hb.cell 0
 have zb:=hb.lt
 have HB:=hide hb1
 clear hb1 hb hx hy HC
 go_wp2_with fail
 refine HS.out.mono ?_
 rintro e w2 ⟨rfl,rfl⟩
 rw [HG.out]
 go_wp2_with fail
 go_ret
 exact ⟨rfl,HB.out⟩
theorem wrapByte (s:ByteArray) (p:Nat) (h:p < s.size):wrap64 ((s[p].toNat:Nat):Int) = peekI s p:=by
 have hl:((s[p].toNat:Nat):Int) < 256:=by have:=s[p].toNat_lt; omega
 rw [wrap64_small ((s[p].toNat:Nat):Int) (by omega) (by omega)]
 simp [peekI,h]
end Go.Proofs.YtcckhngbdoiikaaGreat
