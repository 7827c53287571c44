import Derived.Test.YtcckhngbdoiikaaGreatG50
import Derived.Test.YtcckhngbdoiikaaGreatG43

namespace Go.Proofs.YtcckhngbdoiikaaGreat
open Go.RowKit Go.Deep
set_option linter.unusedVariables false
def rowB (kd:Nat→Nat) (g:Graph) (s:Nat):List Int:=(List.range 256).map (fun (b:Nat)=>nextF kd g (s:Int) (b:Int))
theorem rowB_len (kd:Nat→Nat) (g:Graph) (s:Nat):(rowB kd g s).length = 256:=by simp [rowB]
structure FroT where
 next:List Bool
 any:Bool
 far:Nat
def fstep (g:Graph) (k:Nat) (st:FroT) (u:Int):FroT :=
 if 0 ≤ u∧ruleOfF g u ≠ -1 then ⟨st.next,st.any,k⟩ else if 0 ≤ u then ⟨st.next.set u.toNat true,true,st.far⟩ else st
theorem fstep_len (g:Graph) (k:Nat) (st:FroT) (u:Int):(fstep g k st u).next.length = st.next.length:=by
 unfold fstep
 split
 ·rfl
 ·split
  ·simp
  ·rfl
theorem fsteps_len (g:Graph) (k:Nat):∀ (l:List Int) (st:FroT),(l.foldl (fstep g k) st).next.length = st.next.length
 | [],st=>rfl
 |u :: l,st=>by rw [List.foldl_cons,fsteps_len g k l,fstep_len]
theorem fsteps_next (g:Graph) (k:Nat):∀ (l:List Int) (st:FroT) (v:Nat),(∀ u ∈ l,u < (st.next.length:Int))→((l.foldl (fstep g k) st).next.getD v false = true↔st.next.getD v false = true∨((v:Int) ∈ l∧ruleOfF g (v:Int) = -1))
 | [],st,v,_=>by simp
 |u :: l,st,v,h=>by
  have hu:=h u (by simp)
  rw [List.foldl_cons,fsteps_next g k l (fstep g k st u) v (fun x hx=>by rw [fstep_len]; exact h x (by simp [hx]))]
  have hs:(fstep g k st u).next.getD v false = true↔st.next.getD v false = true∨((v:Int) = u∧ruleOfF g (v:Int) = -1):=by
   unfold fstep
   by_cases h1:0 ≤ u∧ruleOfF g u ≠ -1
   ·rw [if_pos h1]
    constructor
    ·exact .inl
    ·rintro (e | ⟨e1,e2⟩)
     ·exact e
     ·rw [e1] at e2; exact absurd e2 h1.2
   ·rw [if_neg h1]
    by_cases h2:0 ≤ u
    ·have h3:ruleOfF g u = -1:=Classical.byContradiction fun e=>h1 ⟨h2,e⟩
     rw [if_pos h2]
     show (st.next.set u.toNat true).getD v false = true↔_
     rw [getD_setB']
     by_cases e:u.toNat = v
     ·have e':(v:Int) = u:=by omega
      rw [if_pos ⟨e,by omega⟩]
      simp [e',h3]
     ·rw [if_neg (fun x=>e x.1)]
      have e':¬ (v:Int) = u:=by omega
      simp [e']
    ·rw [if_neg h2]
     have e':¬ (v:Int) = u:=by omega
     simp [e']
  rw [hs,List.mem_cons]
  constructor
  ·rintro ((e | ⟨e1,e2⟩) | ⟨e1,e2⟩)
   ·exact .inl e
   ·exact .inr ⟨.inl e1,e2⟩
   ·exact .inr ⟨.inr e1,e2⟩
  ·rintro (e | ⟨e1 | e1,e2⟩)
   ·exact .inl (.inl e)
   ·exact .inl (.inr ⟨e1,e2⟩)
   ·exact .inr ⟨e1,e2⟩
theorem fsteps_any (g:Graph) (k:Nat):∀ (l:List Int) (st:FroT),((l.foldl (fstep g k) st).any = true↔st.any = true∨∃ u ∈ l,0 ≤ u∧ruleOfF g u = -1)
 | [],st=>by simp
 |u :: l,st=>by
  rw [List.foldl_cons,fsteps_any g k l]
  have hs:(fstep g k st u).any = true↔st.any = true∨(0 ≤ u∧ruleOfF g u = -1):=by
   unfold fstep
   by_cases h1:0 ≤ u∧ruleOfF g u ≠ -1
   ·rw [if_pos h1]
    constructor
    ·exact .inl
    ·rintro (e | ⟨_,e2⟩)
     ·exact e
     ·exact absurd e2 h1.2
   ·rw [if_neg h1]
    by_cases h2:0 ≤ u
    ·have h3:ruleOfF g u = -1:=Classical.byContradiction fun e=>h1 ⟨h2,e⟩
     rw [if_pos h2]
     simp [h2,h3]
    ·rw [if_neg h2]
     simp [h2]
  rw [hs]
  simp only [List.mem_cons,exists_eq_or_imp]
  rw [or_assoc]
theorem fsteps_far (g:Graph) (k:Nat):∀ (l:List Int) (st:FroT),((∃ u ∈ l,0 ≤ u∧ruleOfF g u ≠ -1)∧(l.foldl (fstep g k) st).far = k)∨((¬ ∃ u ∈ l,0 ≤ u∧ruleOfF g u ≠ -1)∧(l.foldl (fstep g k) st).far = st.far)
 | [],st=>by simp
 |u :: l,st=>by
  rw [List.foldl_cons]
  simp only [List.mem_cons,exists_eq_or_imp]
  rcases fsteps_far g k l (fstep g k st u) with ⟨h1,h2⟩ | ⟨h1,h2⟩
  ·exact .inl ⟨.inr h1,h2⟩
  ·rw [h2]
   by_cases h3:0 ≤ u∧ruleOfF g u ≠ -1
   ·left
    refine ⟨.inl h3,?_⟩
    unfold fstep
    rw [if_pos h3]
   ·right
    refine ⟨fun e=>?_,?_⟩
    ·rcases e with e | e
     ·exact h3 e
     ·exact h1 e
    ·unfold fstep
     rw [if_neg h3]
     split <;> rfl
def rowsTo (kd:Nat→Nat) (g:Graph) (now:List Bool) (n:Nat):List Int:=(List.range n).flatMap (fun i=>if now.getD i false = true then rowB kd g i else [])
theorem rowsTo_succ (kd:Nat→Nat) (g:Graph) (now:List Bool) (n:Nat):rowsTo kd g now (n + 1) = rowsTo kd g now n ++ if now.getD n false = true then rowB kd g n else []:=by
 unfold rowsTo
 rw [List.range_succ,List.flatMap_append]
 simp
theorem mem_rowsTo {kd:Nat→Nat} {g:Graph} {now:List Bool} {n:Nat} {u:Int}:u ∈ rowsTo kd g now n↔∃ i:Nat,i < n∧now.getD i false = true∧∃ b:Nat,b < 256∧nextF kd g (i:Int) (b:Int) = u:=by
 unfold rowsTo
 rw [List.mem_flatMap]
 constructor
 ·rintro ⟨i,h1,h2⟩
  split at h2
  ·rename_i h3
   unfold rowB at h2
   rw [List.mem_map] at h2
   obtain ⟨b,h4,h5⟩:=h2
   exact ⟨i,List.mem_range.1 h1,h3,b,List.mem_range.1 h4,h5⟩
  ·simp at h2
 ·rintro ⟨i,h1,h2,b,h3,h4⟩
  refine ⟨i,List.mem_range.2 h1,?_⟩
  rw [if_pos h2]
  unfold rowB
  exact List.mem_map.2 ⟨b,List.mem_range.2 h3,h4⟩
structure FInv (kd:Nat→Nat) (g:Graph) (s k:Nat) (now:List Bool) (far:Nat):Prop where
 len:now.length = g.rule.length
 now:∀ u:Nat,u < g.rule.length→(now.getD u false = true↔FwdT kd g (s:Int) k (u:Int))
 near:∀ d,d < k→LeadT kd g d (s:Int)→d + 1 ≤ far
 there:far = 0∨LeadT kd g (far - 1) (s:Int)
 le:far ≤ k
theorem FInv.start {kd:Nat→Nat} {g:Graph} {s:Nat} (hs:s < g.rule.length):FInv kd g s 0 ((List.replicate g.rule.length false).set s true) 0:=by
 refine ⟨by simp,fun u hu=>?_,fun d hd=>by omega,.inl rfl,Nat.le_refl _⟩
 rw [getD_setB']
 show _↔(u:Int) = (s:Int)
 by_cases e:s = u
 ·rw [if_pos ⟨e,by simp; omega⟩]; simp [e]
 ·rw [if_neg (fun x=>e x.1)]
  simp [hu]
  omega
theorem FInv.round {kd:Nat→Nat} {g:Graph} (hf:LexFit kd g) {s k:Nat} {now:List Bool} {far:Nat} (h:FInv kd g s k now far) (hl:g.next.length = g.rule.length) (st:FroT) (hst:(rowsTo kd g now g.rule.length).foldl (fstep g (k + 1)) ⟨List.replicate g.rule.length false,false,far⟩ = st) :
  FInv kd g s (k + 1) st.next st.far∧(st.any = false→∀ d,LeadT kd g d (s:Int)→d + 1 ≤ st.far)∧(st.any = true→∃ u,FwdT kd g (s:Int) (k + 1) u):=by
 have hin:∀ u ∈ rowsTo kd g now g.rule.length,u < (g.rule.length:Int):=fun u hu=>by
  obtain ⟨i,_,_,b,_,e⟩:=mem_rowsTo.1 hu
  have:=hf.into (i:Int) (b:Int)
  have hp:=hf.pos
  rw [e] at this
  omega
 have hfw:∀ u:Int,(∃ m,FwdT kd g (s:Int) k m∧∃ b:Nat,b < 256∧nextF kd g m (b:Int) = u∧u ≠ -1)↔(u ∈ rowsTo kd g now g.rule.length∧0 ≤ u):=fun u=>by
  rw [mem_rowsTo]
  constructor
  ·rintro ⟨m,h1,b,h2,h3,h4⟩
   have hc:¬ (m < 0∨(g.next.length:Int) ≤ m∨(b:Int) < 0∨256 ≤ (b:Int)):=fun e=>h4 (by rw [← h3]; unfold nextF; rw [if_pos e])
   obtain ⟨i,rfl⟩:∃ i:Nat,m = (i:Int):=⟨m.toNat,by omega⟩
   have hi:i < g.rule.length:=by omega
   refine ⟨⟨i,hi,(h.now i hi).2 h1,b,h2,h3⟩,?_⟩
   have:=hf.into (i:Int) (b:Int)
   rw [h3] at this
   omega
  ·rintro ⟨⟨i,h1,h2,b,h3,h4⟩,h5⟩
   exact ⟨(i:Int),(h.now i h1).1 h2,b,h3,h4,by omega⟩
 have hlead:LeadT kd g k (s:Int)↔∃ u ∈ rowsTo kd g now g.rule.length,0 ≤ u∧ruleOfF g u ≠ -1:=by
  constructor
  ·intro hL
   obtain ⟨m,h1,b,h2,h3,h4⟩:=lead_fwd k _ hL
   obtain ⟨h5,h6⟩:=(hfw (nextF kd g m (b:Int))).1 ⟨m,h1,b,h2,rfl,h3⟩
   exact ⟨_,h5,h6,h4⟩
  ·rintro ⟨u,h1,h2,h3⟩
   obtain ⟨m,h4,b,h5,h6,h7⟩:=(hfw u).2 ⟨h1,h2⟩
   have:=fwd_lead k 0 m h4 ⟨b,h5,by rw [h6]; exact h7,by rw [h6]; exact h3⟩
   rwa [Nat.zero_add] at this
 have hnx:=fun v=>fsteps_next g (k + 1) (rowsTo kd g now g.rule.length) ⟨List.replicate g.rule.length false,false,far⟩ v (fun u hu=>by simpa using hin u hu)
 have han:=fsteps_any g (k + 1) (rowsTo kd g now g.rule.length) ⟨List.replicate g.rule.length false,false,far⟩
 have hfa:=fsteps_far g (k + 1) (rowsTo kd g now g.rule.length) ⟨List.replicate g.rule.length false,false,far⟩
 have hle:=fsteps_len g (k + 1) (rowsTo kd g now g.rule.length) ⟨List.replicate g.rule.length false,false,far⟩
 rw [hst] at hnx han hfa hle
 simp only [Bool.false_eq_true,false_or] at han
 rw [← hlead] at hfa
 simp only at hfa
 have hnear:∀ d,d < k + 1→LeadT kd g d (s:Int)→d + 1 ≤ st.far:=fun d hd hL=>by
  rcases hfa with ⟨_,e⟩ | ⟨e1,e2⟩
  ·omega
  ·have hd':d < k:=by
    rcases Nat.lt_or_ge d k with e | e
    ·exact e
    ·have:d = k:=by omega
     subst this
     exact absurd hL e1
   have:=h.near d hd' hL
   omega
 have hthere:st.far = 0∨LeadT kd g (st.far - 1) (s:Int):=by
  rcases hfa with ⟨e1,e2⟩ | ⟨_,e2⟩
  ·right; rw [e2]; exact e1
  ·rw [e2]; exact h.there
 have hlefar:st.far ≤ k + 1:=by
  have:=h.le
  rcases hfa with ⟨_,e⟩ | ⟨_,e⟩ <;> omega
 refine ⟨⟨by simpa using hle,fun u hu=>?_,hnear,hthere,hlefar⟩,fun ha d hL=>?_,fun ha=>?_⟩
 ·rw [hnx u]
  have e0:¬ (List.replicate g.rule.length false).getD u false = true:=by simp [hu]
  constructor
  ·rintro (e | ⟨e1,e2⟩)
   ·exact absurd e e0
   ·obtain ⟨m,h4,b,h5,h6,h7⟩:=(hfw (u:Int)).2 ⟨e1,by omega⟩
    exact ⟨m,h4,b,h5,h6,h7,e2⟩
  ·rintro ⟨m,h4,b,h5,h6,h7,h8⟩
   exact .inr ⟨((hfw (u:Int)).1 ⟨m,h4,b,h5,h6,h7⟩).1,h8⟩
 ·rcases Nat.lt_or_ge d (k + 1) with e | e
  ·exact hnear d e hL
  ·exfalso
   obtain ⟨m,h1,_⟩:=lead_fwd d _ hL
   have hdown:∀ j,k + 1 ≤ j→∀ m,FwdT kd g (s:Int) j m→∃ m',FwdT kd g (s:Int) (k + 1) m':=by
    intro j hj
    induction j with
    |zero=>omega
    |succ j ih =>
     intro m hm
     rcases Nat.lt_or_ge j (k + 1) with e | e
     ·have:j + 1 = k + 1:=by omega
      rw [this] at hm
      exact ⟨m,hm⟩
     ·obtain ⟨m',h',_⟩:=hm
      exact ih e m' h'
   obtain ⟨m',m0,h4,b,h5,h6,h7,h8⟩:=hdown d e m h1
   obtain ⟨h9,h10⟩:=(hfw m').1 ⟨m0,h4,b,h5,h6,h7⟩
   have:=han.2 ⟨m',h9,h10,h8⟩
   rw [ha] at this
   cases this
 ·obtain ⟨u,h1,h2,h3⟩:=han.1 ha
  obtain ⟨m,h4,b,h5,h6,h7⟩:=(hfw u).2 ⟨h1,h2⟩
  exact ⟨u,m,h4,b,h5,h6,h7,h3⟩
def FrontIs (kd:Nat→Nat) (g:Graph) (s:Nat) (f:Int):Prop :=
 (∃ far:Nat,f = (far:Int)∧far ≤ g.rule.length + 1∧(∀ d,LeadT kd g d (s:Int)→d + 1 ≤ far)∧(far = 0∨LeadT kd g (far - 1) (s:Int)))∨(f = -1∧∃ u,FwdT kd g (s:Int) (g.rule.length + 1) u)
structure GrInv (kd:Nat→Nat) (g:Graph) (s k:Nat):Prop where
 near:∀ s':Nat,s' < s→(ruleOfF g (s':Int) ≠ -1∨s' = 0)→∀ d,LeadT kd g d (s':Int)→d + 1 ≤ k
 there:k = 0∨∃ s':Nat,s' < g.rule.length∧(ruleOfF g (s':Int) ≠ -1∨s' = 0)∧LeadT kd g (k - 1) (s':Int)
 le:k ≤ g.rule.length + 1
theorem GrInv.start (kd:Nat→Nat) (g:Graph):GrInv kd g 0 0:=⟨fun s' h=>by omega,.inl rfl,by omega⟩
theorem GrInv.skip {kd:Nat→Nat} {g:Graph} {s k:Nat} (h:GrInv kd g s k) (h0:0 < s) (hr:ruleOfF g (s:Int) = -1):GrInv kd g (s + 1) k:=by
 refine ⟨fun s' hs' ht d hL=>?_,h.there,h.le⟩
 rcases Nat.lt_or_ge s' s with e | e
 ·exact h.near s' e ht d hL
 ·have:s' = s:=by omega
  subst this
  rcases ht with e | e
  ·exact absurd hr e
  ·omega
theorem GrInv.step {kd:Nat→Nat} {g:Graph} {s k far:Nat} (h:GrInv kd g s k) (hs:s < g.rule.length) (ht:ruleOfF g (s:Int) ≠ -1∨s = 0) (h1:far ≤ g.rule.length + 1) (h2:∀ d,LeadT kd g d (s:Int)→d + 1 ≤ far) (h3:far = 0∨LeadT kd g (far - 1) (s:Int)):GrInv kd g (s + 1) (if k < far then far else k):=by
 refine ⟨fun s' hs' ht' d hL=>?_,?_,?_⟩
 ·rcases Nat.lt_or_ge s' s with e | e
  ·have:=h.near s' e ht' d hL
   split <;> omega
  ·have:s' = s:=by omega
   subst this
   have:=h2 d hL
   split <;> omega
 ·split
  ·rename_i hlt
   rcases h3 with e | e
   ·omega
   ·exact .inr ⟨s,hs,ht,e⟩
  ·exact h.there
 ·have:=h.le
  split <;> omega
theorem gap_none {kd:Nat→Nat} {g:Graph} (hb:(gapOf kd g).bounded = true):gapOf kd g = boundedF (weaveF kd g) (layersF (weaveF kd g) g.rule.length):=by
 unfold gapOf at hb ⊢
 split
 ·rename_i s hs
  rw [hs] at hb
  cases hb
 ·rfl
theorem gap_k {kd:Nat→Nat} {g:Graph} (hb:(gapOf kd g).bounded = true):(gapOf kd g).k = (farD (weaveF kd g) (layersF (weaveF kd g) g.rule.length) g.rule.length).2:=by
 rw [gap_none hb]
 show (farD (weaveF kd g) (layersF (weaveF kd g) g.rule.length) (layersF (weaveF kd g) g.rule.length).length).2 = _
 rw [layersF_len]
theorem GrInv.done {R:RulesT} {kd:Nat→Nat} {g:Graph} (hR:buildF R = some (kd,g)) (hf:LexFit kd g) {k:Nat} (h:GrInv kd g g.rule.length k):(gapOf kd g).bounded = true∧k = (gapOf kd g).k:=by
 have hb:(gapOf kd g).bounded = true:=by
  cases hbb:(gapOf kd g).bounded with
  |true=>rfl
  |false =>
   exfalso
   obtain ⟨s,h1,h2,h3⟩:=endless_fwd hR hbb
   obtain ⟨u,_,h4⟩:=h3 (k + 1)
   obtain ⟨d,h5,h6⟩:=fwd_far hR h4
   have:=h.near s h1 h2 d h6
   omega
 refine ⟨hb,?_⟩
 have h1:k ≤ (gapOf kd g).k:=by
  rcases h.there with e | ⟨s',h1,h2,h3⟩
  ·omega
  ·have:=lead_near hf hb h1 h2 h3
   omega
 have h2:(gapOf kd g).k ≤ k:=by
  rw [gap_k hb]
  rcases Nat.eq_zero_or_pos (farD (weaveF kd g) (layersF (weaveF kd g) g.rule.length) g.rule.length).2 with e | e
  ·omega
  ·obtain ⟨s,_,h3,h4,h5⟩:=far_there hf e
   have:=h.near s h3 h4 _ h5
   omega
 omega
theorem front_bad {R:RulesT} {kd:Nat→Nat} {g:Graph} (hR:buildF R = some (kd,g)) (hf:LexFit kd g) {s:Nat} (hs:s < g.rule.length) (ht:ruleOfF g (s:Int) ≠ -1∨s = 0) (h:∃ u,FwdT kd g (s:Int) (g.rule.length + 1) u):(gapOf kd g).bounded = false:=by
 cases hbb:(gapOf kd g).bounded with
 |false=>rfl
 |true =>
  exfalso
  obtain ⟨u,h1⟩:=h
  have h2:=fwd_near hR hf hbb hs ht h1
  rw [gap_k hbb] at h2
  have:=(farD_le (weaveF kd g) (layersF (weaveF kd g) g.rule.length) g.rule.length).1
  omega
abbrev apSz (a:ApprT) (i:Nat):Nat:=(a.token.getD i noStr).size + (a.rest.getD i noStr).size
theorem noStr_size:noStr.size = 0:=rfl
theorem apprStep_sz {x:WebT} {state c:Nat} {a:ApprT} {s:StepT} (hl:a.token.length = a.rest.length) (hf:a.found.getD state false = true) (h1:apSz a state ≤ c) (h2:∀ i,apSz a i ≤ c + 1) :
  (apprStep x state a s).token.length = (apprStep x state a s).rest.length∧(apprStep x state a s).found.getD state false = true∧apSz (apprStep x state a s) state ≤ c∧∀ i,apSz (apprStep x state a s) i ≤ c + 1:=by
 unfold apprStep
 by_cases h3:a.found.getD s.q false = true
 ·rw [if_pos h3]; exact ⟨hl,hf,h1,h2⟩
 ·rw [if_neg h3]
  have hne:¬ s.q = state:=fun e=>h3 (by rw [e]; exact hf)
  have hfs:(a.found.set s.q true).getD state false = true:=by rw [getD_setB',if_neg (fun e=>hne e.1)]; exact hf
  have hb:=bytes1_size s.b
  have h1':(a.token.getD state noStr).size + (a.rest.getD state noStr).size ≤ c:=h1
  split
  ·refine ⟨by simp [hl],hfs,?_,fun i=>?_⟩
   ·show ((a.token.set s.q _).getD state noStr).size + ((a.rest.set s.q noStr).getD state noStr).size ≤ c
    rw [getD_setS,if_neg (fun e=>hne e.1),getD_setS,if_neg (fun e=>hne e.1)]
    exact h1
   ·show ((a.token.set s.q _).getD i noStr).size + ((a.rest.set s.q noStr).getD i noStr).size ≤ c + 1
    have h2':(a.token.getD i noStr).size + (a.rest.getD i noStr).size ≤ c + 1:=h2 i
    rw [getD_setS,getD_setS]
    by_cases e:s.q = i∧s.q < a.token.length
    ·rw [if_pos e,if_pos ⟨e.1,by rw [← hl]; exact e.2⟩]
     simp only [ByteArray.size_append,noStr_size]
     omega
    ·rw [if_neg e,if_neg (fun e'=>e ⟨e'.1,by rw [hl]; exact e'.2⟩)]
     exact h2'
  ·refine ⟨by simp [hl],hfs,?_,fun i=>?_⟩
   ·show ((a.token.set s.q _).getD state noStr).size + ((a.rest.set s.q _).getD state noStr).size ≤ c
    rw [getD_setS,if_neg (fun e=>hne e.1),getD_setS,if_neg (fun e=>hne e.1)]
    exact h1
   ·show ((a.token.set s.q _).getD i noStr).size + ((a.rest.set s.q _).getD i noStr).size ≤ c + 1
    have h2':(a.token.getD i noStr).size + (a.rest.getD i noStr).size ≤ c + 1:=h2 i
    rw [getD_setS,getD_setS]
    by_cases e:s.q = i∧s.q < a.token.length
    ·rw [if_pos e,if_pos ⟨e.1,by rw [← hl]; exact e.2⟩]
     simp only [ByteArray.size_append]
     omega
    ·rw [if_neg e,if_neg (fun e'=>e ⟨e'.1,by rw [hl]; exact e'.2⟩)]
     exact h2'
theorem apprSteps_sz {x:WebT} {state c:Nat}:∀ (l:List StepT) (a:ApprT),a.token.length = a.rest.length→a.found.getD state false = true→apSz a state ≤ c→(∀ i,apSz a i ≤ c + 1)→∀ i,apSz (l.foldl (apprStep x state) a) i ≤ c + 1
 | [],a,_,_,_,h2=>h2
 |s :: l,a,hl,hf,h1,h2=>by
  obtain ⟨e1,e2,e3,e4⟩:=apprStep_sz (x:=x) (s:=s) hl hf h1 h2
  rw [List.foldl_cons]
  exact apprSteps_sz l _ e1 e2 e3 e4
theorem apprTo_sz {R:RulesT} {kd:Nat→Nat} {g:Graph} (h:buildF R = some (kd,g)):∀ k,k ≤ g.rule.length→∀ i,apSz (apprTo (weaveF kd g) k) i ≤ k
 | 0,_,i=>by
  have hrep:∀ q n,(List.replicate n noStr).getD q noStr = noStr:=fun q n=>by
   rw [List.getD_eq_getElem?_getD,List.getElem?_replicate]
   split <;> rfl
  show ((List.replicate (weaveF kd g).token.length noStr).getD i noStr).size + ((List.replicate (weaveF kd g).token.length noStr).getD i noStr).size ≤ 0
  rw [hrep]
  exact Nat.le_refl _
 |k + 1,hk,i=>by
  obtain ⟨a1,a2,a3⟩:=apprTo_is h k (by omega)
  have hfk:(apprTo (weaveF kd g) k).found.getD k false = true:=by
   by_cases e:k = 0
   ·rw [e] at a2 ⊢; exact a2
   ·obtain ⟨i,b,h1,h2,h3⟩:=build_reach h (j:=k) (by omega) (by omega)
    exact a3 k i b h1 h2 h3
  have ih:=apprTo_sz h k (by omega)
  exact apprSteps_sz _ _ (by rw [a1.tl,a1.rl]) hfk (ih k) (fun i=>by have:=ih i; omega) i
theorem approach_short {R:RulesT} {kd:Nat→Nat} {g:Graph} (h:buildF R = some (kd,g)) (q:Nat):(approachF (weaveF kd g) q).1.size + (approachF (weaveF kd g) q).2.size ≤ g.rule.length:=by
 have hl:(weaveF kd g).steps.length = g.rule.length:=by simp [weaveF,stepsTo]
 have:=apprTo_sz h g.rule.length (Nat.le_refl _) q
 unfold approachF
 rw [hl]
 exact this
theorem extract_le (x:ByteArray) (a b:Nat):(x.extract a b).size ≤ x.size:=by
 rw [ByteArray.size_extract]; omega
theorem gap_short {R:RulesT} {kd:Nat→Nat} {g:Graph} (h:buildF R = some (kd,g)) (hf:LexFit kd g):(gapOf kd g).fr.size ≤ g.rule.length∧(gapOf kd g).lead.size ≤ g.rule.length∧(gapOf kd g).lp.size ≤ g.rule.length∧(gapOf kd g).tail.size ≤ g.rule.length:=by
 have hfew:=hf.few
 have hW:=weave_ok kd g hf.into (by omega)
 unfold gapOf
 split
 ·rename_i s hs
  have h1:=List.mem_of_find?_eq_some hs
  have h2:s < g.rule.length:=by simpa using h1
  have h3:=(walkW_sz hW (layersF (weaveF kd g) g.rule.length) s (by simpa [weaveF,tokenF_len] using h2)).2.1
  rw [layersF_len] at h3
  unfold endlessF
  have h4:=approach_short h ((walkW (weaveF kd g) (layersF (weaveF kd g) g.rule.length) s).1.getD (repeatF (walkW (weaveF kd g) (layersF (weaveF kd g) g.rule.length) s).1).1 0)
  refine ⟨by show (approachF _ _).1.size ≤ _; omega,by show (approachF _ _).2.size ≤ _; omega,?_,?_⟩
  ·exact Nat.le_trans (extract_le _ _ _) h3
  ·exact Nat.le_trans (extract_le _ _ _) h3
 ·have h4:=approach_short h (farD (weaveF kd g) (layersF (weaveF kd g) g.rule.length) (layersF (weaveF kd g) g.rule.length).length).1
  unfold boundedF
  exact ⟨by show (approachF _ _).1.size ≤ _; omega,by show noStr.size ≤ _; rw [noStr_size]; omega,by show noStr.size ≤ _; rw [noStr_size]; omega,by show noStr.size ≤ _; rw [noStr_size]; omega⟩
def turnsB (x y:ByteArray):Nat→ByteArray
 | 0=>x
 |i + 1=>turnsB x y i ++ y
theorem turnsB_bytes (x y:ByteArray):∀ i,bytesN (turnsB x y i) = bytesN x ++ (List.replicate i (bytesN y)).flatten
 | 0=>by simp [turnsB]
 |i + 1=>by
  unfold turnsB
  rw [bytesN_app,turnsB_bytes x y i,List.replicate_succ',List.flatten_append]
  simp
theorem turnsB_size (x y:ByteArray):∀ i,(turnsB x y i).size = x.size + i * y.size
 | 0=>by simp [turnsB]
 |i + 1=>by
  unfold turnsB
  rw [ByteArray.size_append,turnsB_size x y i,Nat.add_mul]
  omega
theorem apprSteps_zero {x:WebT} {state:Nat}:∀ (l:List StepT) (a:ApprT),a.found.getD 0 false = true→(l.foldl (apprStep x state) a).token.getD 0 noStr = a.token.getD 0 noStr∧(l.foldl (apprStep x state) a).found.getD 0 false = true
 | [],a,h=>⟨rfl,h⟩
 |s :: l,a,h=>by
  rw [List.foldl_cons]
  have h1:(apprStep x state a s).token.getD 0 noStr = a.token.getD 0 noStr∧(apprStep x state a s).found.getD 0 false = true:=by
   unfold apprStep
   by_cases h3:a.found.getD s.q false = true
   ·rw [if_pos h3]; exact ⟨rfl,h⟩
   ·rw [if_neg h3]
    have hne:¬ s.q = 0:=fun e=>h3 (by rw [e]; exact h)
    have hfs:(a.found.set s.q true).getD 0 false = true:=by rw [getD_setB',if_neg (fun e=>hne e.1)]; exact h
    split
    ·refine ⟨?_,hfs⟩
     show (a.token.set s.q _).getD 0 noStr = _
     rw [getD_setS,if_neg (fun e=>hne e.1)]
    ·refine ⟨?_,hfs⟩
     show (a.token.set s.q _).getD 0 noStr = _
     rw [getD_setS,if_neg (fun e=>hne e.1)]
  obtain ⟨e1,e2⟩:=apprSteps_zero l (apprStep x state a s) h1.2
  exact ⟨by rw [e1,h1.1],e2⟩
theorem apprTo_zero {R:RulesT} {kd:Nat→Nat} {g:Graph} (h:buildF R = some (kd,g)):∀ k,k ≤ g.rule.length→(apprTo (weaveF kd g) k).token.getD 0 noStr = noStr
 | 0,_=>by
  show (List.replicate (weaveF kd g).token.length noStr).getD 0 noStr = noStr
  rw [List.getD_eq_getElem?_getD,List.getElem?_replicate]
  split <;> rfl
 |k + 1,hk=>by
  obtain ⟨_,a2,_⟩:=apprTo_is h k (by omega)
  have e1:(apprTo (weaveF kd g) (k + 1)).token.getD 0 noStr = (apprTo (weaveF kd g) k).token.getD 0 noStr:=(apprSteps_zero _ _ a2).1
  rw [e1]
  exact apprTo_zero h k (by omega)
theorem gap_endless {R:RulesT} {kd:Nat→Nat} {g:Graph} (h:buildF R = some (kd,g)) (hb:(gapOf kd g).bounded = false) (i:Nat):PairIs kd g (bytesN (gapOf kd g).fr) (bytesN (turnsB (gapOf kd g).lead (gapOf kd g).lp i ++ (gapOf kd g).tail))∧0 < (gapOf kd g).lp.size∧0 < (gapOf kd g).tail.size∧(gapOf kd g).tt.size = 0∧(gapOf kd g).k = 0:=by
 unfold gapOf at hb ⊢
 split at hb
 ·rename_i s hs
  have h1:=List.mem_of_find?_eq_some hs
  have h2:s < g.rule.length:=by simpa using h1
  have h3:=List.find?_some hs
  obtain ⟨p1,p2,p3⟩:=endless_pair h h2 h3 i
  rw [bytesN_app,turnsB_bytes]
  exact ⟨p1,p2,p3,rfl,rfl⟩
 ·cases hb
theorem gap_bounded {R:RulesT} {kd:Nat→Nat} {g:Graph} (h:buildF R = some (kd,g)) (hf:LexFit kd g) (hb:(gapOf kd g).bounded = true):(gapOf kd g).lead.size = 0∧(gapOf kd g).lp.size = 0∧(gapOf kd g).tail.size = 0 ∧
  ((gapOf kd g).k = 0→(gapOf kd g).fr.size = 0∧(gapOf kd g).tt.size = 0)∧(0 < (gapOf kd g).k→∃ z:ByteArray,z.size = (gapOf kd g).k∧(gapOf kd g).tt = (gapOf kd g).fr ++ z∧PairIs kd g (bytesN (gapOf kd g).fr) (bytesN z)):=by
 rw [gap_none hb]
 refine ⟨rfl,rfl,rfl,fun hk=>?_,fun hk=>?_⟩
 ·have hk':(farD (weaveF kd g) (layersF (weaveF kd g) g.rule.length) (layersF (weaveF kd g) g.rule.length).length).2 = 0:=hk
  have h0:∀ D LL,(farD (weaveF kd g) LL D).2 = 0→(farD (weaveF kd g) LL D).1 = 0:=by
   intro D
   induction D with
   |zero=>intro LL _; rfl
   |succ D ih =>
    intro LL h9
    unfold farD at h9 ⊢
    split at h9
    ·cases h9
    ·rename_i h8
     exact ih LL h9
  have h1:=h0 _ _ hk'
  obtain ⟨a1,a2⟩:=approach_is h (q:=0) hf.pos
  have hrun:=a1.run
  have h5:(approachF (weaveF kd g) 0).1 = noStr:=by
   have hs:=apprTo_zero h g.rule.length (Nat.le_refl _)
   have hl:(weaveF kd g).steps.length = g.rule.length:=by simp [weaveF,stepsTo]
   unfold approachF
   rw [hl]
   exact hs
  unfold boundedF
  rw [hk',h1]
  show (approachF (weaveF kd g) 0).1.size = 0∧((approachF (weaveF kd g) 0).1 ++ (walkW (weaveF kd g) ((layersF (weaveF kd g) g.rule.length).take 0) 0).2).size = 0
  rw [h5,List.take_zero]
  exact ⟨rfl,rfl⟩
 ·obtain ⟨T,h1,h2,h3⟩:=bounded_pair h hf hk
  have hT:∀ b ∈ T,b < 256:=fun b hb=>h3.byte b (by simp [hb])
  exact ⟨bytesOf T,by rw [bytesOf_size,h1],h2,by rw [bytesN_of hT]; exact h3⟩
end Go.Proofs.YtcckhngbdoiikaaGreat
