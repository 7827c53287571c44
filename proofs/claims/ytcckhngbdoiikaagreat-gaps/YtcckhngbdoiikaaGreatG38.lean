import Derived.Test.YtcckhngbdoiikaaGreatG37
import Derived.Test.YtcckhngbdoiikaaGreatG35
import Derived.Test.YtcckhngbdoiikaaGreatG06
import Derived.Test.YtcckhngbdoiikaaGreatG25

namespace Go.Proofs.YtcckhngbdoiikaaGreat
open Go.RowKit Go.Deep
set_option linter.unusedVariables false
section
variable {g:Graph} {K n:Nat} {F:List Nat} {st:List Int} {al:List Bool}
theorem alike_apart (ho:GOk g K) {a b:Nat} (ha:a < g.rule.length) (hb:b < g.rule.length):AlikeN (pruneF g) K (a:Int) (b:Int)↔¬ ApartK g K (a:Int) (b:Int):=by
 constructor
 ·rintro h ⟨ks,h1,h2⟩
  have:=h ks h1
  rw [prune_acc ho ks a h1 ha,prune_acc ho ks b h1 hb] at this
  exact h2 this
 ·intro h ks hk
  rw [prune_acc ho ks a hk ha,prune_acc ho ks b hk hb]
  exact Decidable.not_not.1 fun hn=>h ⟨ks,hk,hn⟩
structure StI (g:Graph) (K n:Nat) (F:List Nat) (st:List Int):Prop where
 mem:∀ a,a ∈ F↔(a < n∧Goes g K a∧∀ b,b < a→¬ AlikeN (pruneF g) K (b:Int) (a:Int))
 sorted:F.Pairwise (· < ·)
 len:st.length = g.rule.length
 good:∀ a,a < n→Goes g K a→∃ s,∃ h:s < F.length,st.getD a 0 = (s:Int)∧AlikeN (pruneF g) K (F[s]:Int) (a:Int)
theorem StI.start (h:st.length = g.rule.length):StI g K 0 [] st:=⟨fun a=>by simp,by simp,h,fun a ha=>by omega⟩
theorem StI.lt (h:StI g K n F st) {s:Nat} (hs:s < F.length):F[s] < n:=((h.mem F[s]).1 (List.getElem_mem hs)).1
theorem StI.few (h:StI g K n F st):F.length ≤ n:=by
 have:=nodup_len n F (h.sorted.imp (fun hab=>Nat.ne_of_lt hab)) (fun x hx=>((h.mem x).1 hx).1)
 exact this
theorem StI.skip (h:StI g K n F st) (hn:n < g.rule.length) (hg:¬ Goes g K n) (v:Int):StI g K (n + 1) F (st.set n v):=by
 have hl:=h.len
 refine ⟨fun a=>?_,h.sorted,by simp [hl],fun a ha hga=>?_⟩
 ·rw [h.mem a]
  constructor
  ·rintro ⟨h1,h2⟩; exact ⟨by omega,h2⟩
  ·rintro ⟨h1,h2,h3⟩
   refine ⟨?_,h2,h3⟩
   by_cases e:a = n
   ·subst e; exact absurd h2 hg
   ·omega
 ·have e:a ≠ n:=fun e=>by subst e; exact hg hga
  rw [getD_setI _ _ _ _ (by omega),if_neg e]
  exact h.good a (by omega) hga
theorem StI.known (h:StI g K n F st) (hn:n < g.rule.length) {s:Nat} (hs:s < F.length) (ha:AlikeN (pruneF g) K (F[s]:Int) (n:Int)):StI g K (n + 1) F (st.set n (s:Int)):=by
 have hl:=h.len
 refine ⟨fun a=>?_,h.sorted,by simp [hl],fun a ha' hga=>?_⟩
 ·rw [h.mem a]
  constructor
  ·rintro ⟨h1,h2⟩; exact ⟨by omega,h2⟩
  ·rintro ⟨h1,h2,h3⟩
   refine ⟨?_,h2,h3⟩
   by_cases e:a = n
   ·subst e; exact absurd ha (h3 _ (h.lt hs))
   ·omega
 ·rw [getD_setI _ _ _ _ (by omega)]
  by_cases e:a = n
  ·subst e; rw [if_pos rfl]; exact ⟨s,hs,rfl,ha⟩
  ·rw [if_neg e]; exact h.good a (by omega) hga
theorem StI.fresh (hS:SetsG g K) (h:StI g K n F st) (hg:Goes g K n) (hno:∀ s,(hs:s < F.length)→¬ AlikeN (pruneF g) K (F[s]:Int) (n:Int)):StI g K (n + 1) (F ++ [n]) (st.set n (F.length:Int)):=by
 have hl:=h.len
 have hn:=hg.1
 have hnone:∀ b,b < n→¬ AlikeN (pruneF g) K (b:Int) (n:Int):=by
  intro b hb hab
  have hgb:Goes g K b:=by
   refine ⟨by omega,?_⟩
   rcases hg.2 with e | e
   ·omega
   ·exact .inr (lives_alike hS hn (by omega) hab.symm e)
  obtain ⟨s,hs,_,h2⟩:=h.good b hb hgb
  exact hno s hs (h2.trans hab)
 refine ⟨fun a=>?_,?_,by simp [hl],fun a ha hga=>?_⟩
 ·rw [List.mem_append,List.mem_singleton,h.mem a]
  constructor
  ·rintro (⟨h1,h2⟩ | rfl)
   ·exact ⟨by omega,h2⟩
   ·exact ⟨by omega,hg,hnone⟩
  ·rintro ⟨h1,h2,h3⟩
   by_cases e:a = n
   ·exact .inr e
   ·exact .inl ⟨by omega,h2,h3⟩
 ·rw [List.pairwise_append]
  refine ⟨h.sorted,by simp,fun x hx y hy=>?_⟩
  rw [List.mem_singleton] at hy
  subst hy
  exact ((h.mem x).1 hx).1
 ·rw [getD_setI _ _ _ _ (by omega)]
  by_cases e:a = n
  ·subst e
   rw [if_pos rfl]
   exact ⟨F.length,by simp,rfl,by simp; exact fun ks hk=>rfl⟩
  ·rw [if_neg e]
   obtain ⟨s,hs,h1,h2⟩:=h.good a (by omega) hga
   exact ⟨s,by simp; omega,h1,by rw [List.getElem_append_left hs]; exact h2⟩
theorem StI.firsts (h:StI g K g.rule.length F st):Firsts g K F:=by
 refine ⟨fun a=>?_,h.sorted⟩
 rw [h.mem a]
 exact ⟨fun h=>h.2,fun h=>⟨h.1.1,h⟩⟩
def stRow (al:List Bool) (st:List Int) (s:Int):Int:=if alS al s then st.getD s.toNat 0 else -1
theorem StI.next (hS:SetsG g K) (h:StI g K g.rule.length F st) (hal:∀ i:Nat,i < g.rule.length→(al.getD i false = true↔Lives g K (i:Int))) {s k:Nat} (hs:s < F.length) (hk:k < K):stRow al st (stepK g (F[s]:Int) k) = stepK (numberF (pruneF g) (mergeF (pruneF g))) (s:Int) k:=by
 have hF:=h.firsts
 have hm:=((hF.mem F[s]).1 (List.getElem_mem hs)).1.1
 unfold stRow
 rcases hF.next hS hs hk with ⟨h1,e | ⟨t,e,hl⟩⟩ | ⟨t,s',hs',e,hl,ht,h2,h3⟩
 ·rw [h1,e,alS_dead]; rfl
 ·have hin:=stepK_in hS.ok (s:=(F[s]:Int)) (by omega) (by omega) hk
  rw [e] at hin
  have ht:t < g.rule.length:=by omega
  have:al.getD t false = false:=Bool.eq_false_iff.2 fun hx=>hl ((hal t ht).1 hx)
  rw [h1,e,alS_nat,this]; rfl
 ·rw [e,alS_nat,(hal t ht).2 hl,h2,Int.toNat_natCast,if_pos rfl]
  obtain ⟨s2,hs2,h4,h5⟩:=h.good t ht ⟨ht,.inr hl⟩
  rw [h4]
  have e1:=hF.least (List.getElem_mem hs2) (h3.trans h5.symm)
  have e2:=hF.least (List.getElem_mem hs') (h5.trans h3.symm)
  have e3:F[s2] = F[s']:=by omega
  have:s2 = s':=by
   rcases Nat.lt_trichotomy s2 s' with e | e | e
   ·have:=(sorted_lt hF.sorted hs2 hs').2 e; omega
   ·exact e
   ·have:=(sorted_lt hF.sorted hs' hs2).2 e; omega
  rw [this]
end
theorem rule_none (R:RulesT):R.rule PSet.none = -1:=by
 unfold RulesT.rule
 rcases ruleFrom_spec PSet.none R.last 0 with ⟨h,_⟩ | ⟨i,_,_,h,_⟩
 ·exact h
 ·obtain ⟨p,h1,_⟩:=(meets_iff _ _).1 h
  rw [has_none] at h1; cases h1
theorem mtok_rtok {rules:List MT} {ts:List PT} (hnt:ntL rules = ts.map PT.nt0) {w:List Nat} {r:Int} (hw:w ≠ []) (h:MTokIs rules w r):RTokIs ts w r:=by
 rw [ntL_map] at hnt
 have hlen:rules.length = ts.length:=by have:=congrArg List.length hnt; simpa using this
 have hget:∀ i,(h1:i < rules.length)→(h2:i < ts.length)→rules[i].nt = ts[i].nt0:=fun i h1 h2=>by
  have:=congrArg (fun l=>l[i]?) hnt
  simp only [List.getElem?_map,List.getElem?_eq_getElem h1,List.getElem?_eq_getElem h2,Option.map_some] at this
  exact Option.some.inj this
 rcases h with ⟨h1,h2 | h2⟩ | ⟨_,i,hi,h1,h2,h3⟩
 ·exact absurd h2 hw
 ·refine .inl ⟨h1,fun t ht hW=>?_⟩
  obtain ⟨i,hi,rfl⟩:=List.getElem_of_mem ht
  exact h2 _ (List.getElem_mem (by omega:i < rules.length)) (by rw [hget i (by omega) hi]; exact hW)
 ·refine .inr ⟨i,by omega,h1,by rw [← hget i hi (by omega)]; exact h2,fun j hj hW=>?_⟩
  exact h3 j hj (by rw [hget j (by omega) (by omega)]; exact hW)
theorem stepK_nat (g:Graph) (i k:Nat):stepK g (i:Int) k = (g.next.getD i []).getD k 0:=by unfold stepK; rw [if_neg (by omega),Int.toNat_natCast]
section
variable {rs:ByteArray} {R:RulesT} {ts:List PT} {T:List ByteArray} {S:List (Nat × List Bool)} {To:List (Nat × List Int)} {PS:List PSet} {g:Graph} {rules:List MT}
theorem FP.gp (hd:ReadT rs R ts) (hnt:ntL rules = ts.map PT.nt0) (h:FP ts R PS.length T S To PS g) (he:exploreF R (kindsAt R.allow 256) = some g):GP T To g (kindsAt R.allow 256).length (kindOf R.allow) rules:=by
 obtain ⟨o1,o2,o3⟩:=exploreF_ok he
 have hrl:=h.inv.ex.rl
 have htl:=h.sets.tl
 have hbt:∀ i,(hi:i < T.length)→(T.map bytesN).getD i [] = bytesN T[i]:=fun i hi=>by rw [List.getD_eq_getElem?_getD,List.getElem?_map,List.getElem?_eq_getElem hi]; rfl
 refine ⟨by omega,by rw [h.tl]; omega,o1,⟨o2,o3⟩,fun i hi=>?_,fun i b hi hb=>?_,fun b hb=>kind_lt _ hb,fun k hk=>kind_onto _ 256 k hk,fun i r hi hr=>?_⟩
 ·have:=h.inv.texts.short i
  rw [hbt i hi,bytesN_len] at this
  omega
 ·rw [stepK_nat]; exact h.lead i hi b hb
 ·rw [h.inv.ex.rule i (by omega)]
  by_cases h0:0 < i
  ·obtain ⟨t1,t2,_⟩:=h.inv.texts.set i h0 (by omega)
   rw [hbt i hi] at t1 t2
   rw [hd.tok t1 (mtok_rtok hnt t1 hr),t2]
  ·have e0:i = 0:=by omega
   subst e0
   have hz:=h.inv.texts.zero
   rw [hbt 0 hi] at hz
   rw [hz.1,rule_none]
   rcases hr with ⟨h1,_⟩ | ⟨h1,_⟩
   ·exact h1
   ·exact absurd hz.2 h1
theorem FP.setsG (h:FP ts R PS.length T S To PS g) (he:exploreF R (kindsAt R.allow 256) = some g):SetsG g (kindsAt R.allow 256).length:=by
 obtain ⟨o1,o2,o3⟩:=exploreF_ok he
 refine ⟨o1,o2,exploreF_scan he,fun s k hs hk=>?_⟩
 have hrl:=h.inv.ex.rl
 rw [stepK_nat]
 rcases h.inv.ex.next s (by omega) k hk with ⟨_,e⟩ | ⟨e1,m,e2,e3,e4⟩
 ·rw [e]; decide
 ·rw [e2]
  intro e0
  have:m = 0:=by omega
  subst this
  rw [h.inv.texts.zero.1] at e4
  rw [← e4] at e1
  have:PSet.none.isEmpty = true:=(isEmpty_iff _).2 (fun q=>has_none q)
  rw [this] at e1; cases e1
end
mutual
theorem MT.pl_tw (a b:Nat):∀ T:MT,T.nt.Tw a b↔∀ p ∈ T.pl,p.nt.Tw a b
 | .place bb i e A=>by simp [MT.pl]
 | .node bb v k l=>by
  simp only [MT.pl,MT.nt,NT.Tw]
  exact plL_tw a b l
theorem plL_tw (a b:Nat):∀ l:List MT,twL a b (ntL l)↔∀ p ∈ plL l,p.nt.Tw a b
 | []=>by simp [plL,ntL,twL]
 |x :: l=>by
  simp only [ntL,twL,plL,List.mem_append]
  rw [MT.pl_tw a b x,plL_tw a b l]
  constructor
  ·rintro ⟨h1,h2⟩ p (hp | hp)
   ·exact h1 p hp
   ·exact h2 p hp
  ·intro h
   exact ⟨fun p hp=>h p (.inl hp),fun p hp=>h p (.inr hp)⟩
end
mutual
theorem MT.pl_place:∀ (T:MT) (p:MT),p ∈ T.pl→∃ b i e A,p = .place b i e A
 | .place b i e A,p,h=>by simp only [MT.pl,List.mem_singleton] at h; exact ⟨b,i,e,A,h⟩
 | .node b v k l,p,h=>by simp only [MT.pl] at h; exact plL_place l p h
theorem plL_place:∀ (l:List MT) (p:MT),p ∈ plL l→∃ b i e A,p = .place b i e A
 | [],p,h=>by simp [plL] at h
 |x :: l,p,h=>by
  simp only [plL,List.mem_append] at h
  rcases h with h | h
  ·exact MT.pl_place x p h
  ·exact plL_place l p h
end
theorem RSp.wf {s:ByteArray}:∀ (ts:List PT) (p:Nat),RSp s ts p→WfL s (ts.map PT.nt0)
 | [],p,h=>by simp [WfL]
 | [t],p,h=>by
  have:=PT.nt_wf t _ _ [] [] h.1 (by simp [WfL]) (by simp [WfL])
  simp only [List.map_cons,List.map_nil,WfL,and_true]
  exact this
 |t :: u :: l,p,h=>by
  obtain ⟨q,h1,_,_,h4⟩:=h
  have:=PT.nt_wf t _ _ [] [] h1 (by simp [WfL]) (by simp [WfL])
  have ih:=RSp.wf (u :: l) _ h4
  rw [List.map_cons,WfL]
  exact ⟨this,ih⟩
mutual
theorem MT.pl_at {w:World} {s:ByteArray} {f:Nat→Int}:∀ (T p:MT),T.At w s f→T.nt.Wf s→p ∈ T.pl→p.At w s f∧p.nt.Wf s
 | .place b i e A,p,h,hw,hp=>by simp only [MT.pl,List.mem_singleton] at hp; subst hp; exact ⟨h,hw⟩
 | .node b v k l,p,h,hw,hp=>by
  simp only [MT.pl] at hp
  simp only [MT.At] at h
  simp only [MT.nt,NT.Wf] at hw
  exact plL_at l p h.2.2 hw.2 hp
theorem plL_at {w:World} {s:ByteArray} {f:Nat→Int}:∀ (l:List MT) (p:MT),AtL w s f l→WfL s (ntL l)→p ∈ plL l→p.At w s f∧p.nt.Wf s
 | [],p,h,hw,hp=>by simp [plL] at hp
 |x :: l,p,h,hw,hp=>by
  simp only [plL,List.mem_append] at hp
  simp only [AtL] at h
  simp only [ntL,WfL] at hw
  rcases hp with hp | hp
  ·exact MT.pl_at x p h.1 hw.1 hp
  ·exact plL_at l p h.2 hw.2 hp
end
def MT.plt (s:ByteArray):MT→PlT
 | .place b i e A=>⟨b,s.extract i e,A⟩
 | .node b v k l=>⟨b,noT,fun _=>false⟩
def plTs (s:ByteArray) (l:List MT):List PlT:=(plL l).map (MT.plt s)
theorem plt_root (s:ByteArray) (T:MT):(T.plt s).b = T.root:=by cases T <;> rfl
theorem plTs_roots (s:ByteArray) (l:List MT):(plTs s l).map PlT.b = (plL l).map MT.root:=by
 unfold plTs
 rw [List.map_map]
 exact List.map_congr_left fun T _=>plt_root s T
theorem plTs_len (s:ByteArray) (l:List MT):(plTs s l).length = (plL l).length:=by simp [plTs]
theorem plTs_tw (s:ByteArray) (l:List MT) (a b:Nat):twF (plTs s l) a b = true↔twL a b (ntL l):=by
 rw [twF_iff,plL_tw]
 unfold plTs
 constructor
 ·intro h p hp
  obtain ⟨bb,i,e,A,rfl⟩:=plL_place l p hp
  have:=h _ (List.mem_map_of_mem hp)
  simp only [MT.nt,NT.Tw]
  exact this
 ·intro h q hq
  obtain ⟨p,hp,rfl⟩:=List.mem_map.1 hq
  obtain ⟨bb,i,e,A,rfl⟩:=plL_place l p hp
  have:=h _ hp
  simp only [MT.nt,NT.Tw] at this
  exact this
theorem plTs_at {w:World} {s:ByteArray} {f:Nat→Int} {l:List MT} (hs:s.size ≤ 120) (h:AtL w s f l) (hw:WfL s (ntL l)):(∀ p ∈ plTs s l,∃ c,Blk w p.b c 129∧c[3]? = some (.string p.t))∧∀ p ∈ plTs s l,AllC p.t p.A:=by
 have key:∀ q ∈ plTs s l,(∃ c,Blk w q.b c 129∧c[3]? = some (.string q.t))∧AllC q.t q.A:=by
  intro q hq
  obtain ⟨p,hp,rfl⟩:=List.mem_map.1 hq
  obtain ⟨h1,h2⟩:=plL_at l p h hw hp
  obtain ⟨bb,i,e,A,rfl⟩:=plL_place l p hp
  simp only [MT.At] at h1
  simp only [MT.nt,NT.Wf] at h2
  exact ⟨⟨_,h1,rfl⟩,h2.allows hs⟩
 exact ⟨fun p hp=>(key p hp).1,fun p hp=>(key p hp).2⟩
theorem low_is {s:ByteArray} {R:RulesT} {ts:List PT} {l:List MT} (hnt:ntL l = ts.map PT.nt0) (htw:∀ a b,R.allow a = R.allow b↔∀ t ∈ ts,t.nt0.Tw a b) {b k:Nat} (h:LowB (plTs s l) b k):LowIs R.allow b k:=by
 refine lowIs_of (tw:=twF (plTs s l)) (fun a b=>?_) h.1 h.2.1 h.2.2
 rw [plTs_tw,htw,hnt,twL_iff]
 constructor
 ·intro h t ht; exact h _ (List.mem_map_of_mem ht)
 ·intro h x hx
  obtain ⟨t,ht,rfl⟩:=List.mem_map.1 hx
  exact h t ht
mutual
theorem MT.At.typ {w:World} {s:ByteArray} {f:Nat→Int}:∀ (T:MT),T.At w s f→∀ x,T.has x→∃ c t,Blk w x c t∧(t = 129∨t = 80)
 | .place b i e A,h,x,hx=>by
  simp only [MT.At] at h
  simp only [MT.has] at hx
  subst hx
  exact ⟨_,_,h,.inl rfl⟩
 | .node b v n l,h,x,hx=>by
  simp only [MT.At] at h
  simp only [MT.has] at hx
  rcases hx with hx | hx | hx
  ·subst hx; exact ⟨_,_,h.1,.inl rfl⟩
  ·obtain ⟨c,hc⟩:=own_blk h.2.1 hx
   exact ⟨c,_,hc,.inr rfl⟩
  ·exact AtL.typ l h.2.2 x hx
theorem AtL.typ {w:World} {s:ByteArray} {f:Nat→Int}:∀ (l:List MT),AtL w s f l→∀ x,hasL l x→∃ c t,Blk w x c t∧(t = 129∨t = 80)
 | [],h,x,hx=>by simp [hasL] at hx
 |y :: l,h,x,hx=>by
  simp only [AtL] at h
  simp only [hasL] at hx
  rcases hx with hx | hx
  ·exact MT.At.typ y h.1 x hx
  ·exact AtL.typ l h.2 x hx
end
section
variable {wz w w' w6:World} {xb:Nat} {rv pn pv tv ov fv tv' ov' fv':Value} {TX TX':List ByteArray} {OX OX':List (Nat × List Int)} {FX FX':List Int} {rs:ByteArray} {f:Nat→Int} {rules:List MT}
theorem LexR.written (h:LexR w xb rs f rules) (hx:XAt w xb rv pn pv tv ov fv TX OX FX) (k:Kept (fun b=>b = xb) w w') (hx':XAt w' xb rv pn pv tv' ov' fv' TX' OX' FX'):LexR w' xb rs f rules:=by
 refine h.keptX k (fun x hh e=>?_) hx'.blk hx.blk rfl rfl (fun rv' hr b hb e=>?_)
 ·obtain ⟨c,t,hc,ht⟩:=AtL.typ rules h.prt x hh
  subst e
  rcases ht with rfl | rfl
  ·exact absurd (hc.one hx.blk).2 (by decide)
  ·exact absurd (hc.one hx.blk).2 (by decide)
 ·obtain ⟨c,rv2,h1,h2,h3,h4⟩:=h.blk
  have e1:=(h1.one hx.blk).1
  subst e1
  rw [h2] at hr
  cases hr
  subst e
  exact ownsRow_ne h4 hx.blk (by decide) hb
structure XO (wz w:World) (xb:Nat) (rv pn pv tv ov fv:Value) (TX:List ByteArray) (OX:List (Nat × List Int)) (FX:List Int):Prop where
 x:XAt w xb rv pn pv tv ov fv TX OX FX
 kept:Kept (fun b=>b = xb) wz w
 o1:∀ b,tv.ownBlock = some b→wz.heap.size ≤ b
 o2:∀ b,ov.ownBlock = some b→wz.heap.size ≤ b
 o3:∀ b,fv.ownBlock = some b→wz.heap.size ≤ b
theorem XO.below (h:XO wz w xb rv pn pv tv ov fv TX OX FX) (k:Below w.heap.size w w'):XO wz w' xb rv pn pv tv ov fv TX OX FX:=⟨h.x.below k,h.kept.below k,h.o1,h.o2,h.o3⟩
theorem kept_put {v v6:Value} {fld:Nat} (k:Kept (fun b=>b = xb) wz w) (ho:∀ b,v.ownBlock = some b→wz.heap.size ≤ b) (r3:Kept (fun b=>v.ownBlock = some b) w w6):Kept (fun b=>b = xb) wz (w6.setCell ⟨xb,fld,none⟩ v6) :=
 k.trans (kept_field (fb:=xb) (fld:=fld) (v6:=v6) r3) (fun i hi e=>by
  rcases e with e | e
  ·have:=ho i e; omega
  ·exact e)
theorem XO.to (h:XO wz w xb rv pn pv tv ov fv TX OX FX) {v6:Value} {sb:Nat} {l:List Int} (hs:Blk w sb (intsA l) 3) (hl:l.length = 256) (hsep:fv.ownBlock ≠ some sb) (r1:w6.ownsRow 0 60 1 v6 (OX.map (fun p=>slV 256 p.1) ++ [slV 256 sb]).length (OX.map (fun p=>slV 256 p.1) ++ [slV 256 sb])) (r2:∀ b,v6.ownBlock = some b→wz.heap.size ≤ b) (r3:Kept (fun b=>ov.ownBlock = some b) w w6) :
  XO wz (w6.setCell ⟨xb,4,none⟩ v6) xb rv pn pv tv v6 fv TX (OX ++ [(sb,l)]) FX:=⟨h.x.to hs hl hsep r1 r3,kept_put h.kept h.o2 r3,h.o1,r2,h.o3⟩
theorem XO.text (h:XO wz w xb rv pn pv tv ov fv TX OX FX) {v6:Value} {s:ByteArray} (r1:w6.ownsRow 0 9 1 v6 (TX.map Value.string ++ [Value.string s]).length (TX.map Value.string ++ [Value.string s])) (r2:∀ b,v6.ownBlock = some b→wz.heap.size ≤ b) (r3:Kept (fun b=>tv.ownBlock = some b) w w6) :
  XO wz (w6.setCell ⟨xb,3,none⟩ v6) xb rv pn pv v6 ov fv (TX ++ [s]) OX FX:=⟨h.x.text r1 r3,kept_put h.kept h.o1 r3,r2,h.o2,h.o3⟩
theorem XO.rule (h:XO wz w xb rv pn pv tv ov fv TX OX FX) {v6:Value} {r:Int} (r1:IRow w6 v6 (FX ++ [r])) (r2:∀ b,v6.ownBlock = some b→fv.ownBlock = some b∨w.heap.size ≤ b) (r3:Kept (fun b=>fv.ownBlock = some b) w w6) :
  XO wz (w6.setCell ⟨xb,5,none⟩ v6) xb rv pn pv tv ov v6 TX OX (FX ++ [r]):=⟨h.x.rule r1 r2 r3,kept_put h.kept h.o3 r3,h.o1,h.o2,fun b hb=>by
  rcases r2 b hb with e | e
  ·exact h.o3 b e
  ·exact Nat.le_trans h.kept.size e⟩
end
structure SP (row:Nat→Nat→Int) (rl:Nat→Int) (s:Nat) (OX:List (Nat × List Int)) (FX:List Int):Prop where
 ol:OX.length = s
 fl:FX.length = s
 row:∀ i b,i < s→b < 256→((OX.getD i (0,[])).2).getD b 0 = row i b
 tok:∀ i,i < s→FX.getD i 0 = rl i
section
variable {row:Nat→Nat→Int} {rl:Nat→Int} {s:Nat} {OX:List (Nat × List Int)} {FX:List Int}
theorem SP.start:SP row rl 0 [] []:=⟨rfl,rfl,fun i b hi=>by omega,fun i hi=>by omega⟩
theorem getD_snocQ {α:Type} (l:List α) (a d:α) (i:Nat):(l ++ [a]).getD i d = if i < l.length then l.getD i d else if i = l.length then a else d:=by
 simp only [List.getD_eq_getElem?_getD]
 by_cases h:i < l.length
 ·rw [if_pos h,List.getElem?_append_left h]
 ·rw [if_neg h]
  by_cases e:i = l.length
  ·rw [if_pos e,List.getElem?_append_right (by omega)]; simp [e]
  ·rw [if_neg e,List.getElem?_eq_none (by simp; omega)]; rfl
theorem SP.next (h:SP row rl s OX FX) {sb:Nat} {l:List Int} {r:Int} (hl:∀ b,b < 256→l.getD b 0 = row s b) (hr:r = rl s):SP row rl (s + 1) (OX ++ [(sb,l)]) (FX ++ [r]):=by
 refine ⟨by simp [h.ol],by simp [h.fl],fun i b hi hb=>?_,fun i hi=>?_⟩
 ·rw [getD_snocQ,h.ol]
  by_cases e:i < s
  ·rw [if_pos e]; exact h.row i b e hb
  ·have:i = s:=by omega
   subst this
   rw [if_neg e,if_pos rfl]; exact hl b hb
 ·rw [getD_snocQ,h.fl]
  by_cases e:i < s
  ·rw [if_pos e]; exact h.tok i e
  ·have:i = s:=by omega
   subst this
   rw [if_neg e,if_pos rfl]; exact hr
end
def txts (T:List ByteArray) (F:List Nat) (s:Nat):List ByteArray:=(F.take s).map (fun n=>T.getD n noT)
theorem txts_succ (T:List ByteArray) (F:List Nat) {s:Nat} (hs:s < F.length):txts T F (s + 1) = txts T F s ++ [T.getD (F.getD s 0) noT]:=by
 unfold txts
 rw [show F.take (s + 1) = F.take s ++ [F[s]] from (List.take_append_getElem hs).symm,List.map_append,List.getD_eq_getElem?_getD (l:=F),List.getElem?_eq_getElem hs]
 rfl
theorem txts_len (T:List ByteArray) (F:List Nat) {s:Nat} (hs:s ≤ F.length):(txts T F s).length = s:=by unfold txts; rw [List.length_map,List.length_take]; omega
theorem FoundAt.keptX {w w':World} {lo fb xb:Nat} {tv sv ov:Value} {T:List ByteArray} {S:List (Nat × List Bool)} {To:List (Nat × List Int)} (h:FoundAt w lo fb tv sv ov T S To) {c:Array Value} (hx:Blk w xb c 78) (k:Kept (fun b=>b = xb) w w'):FoundAt w' lo fb tv sv ov T S To :=
 h.kept k (h.blk.ne hx (by decide)) (fun b hb e=>by subst e; exact ownsRow_ne h.txt hx (by decide) hb) (fun b hb e=>by subst e; exact ownsRow_ne h.sets.row hx (by decide) hb) (fun b hb e=>by subst e; exact ownsRow_ne h.tos.row hx (by decide) hb) (fun p hp=>(h.sets.each p hp).1.ne hx (by decide)) (fun p hp=>(h.tos.each p hp).1.ne hx (by decide))
mutual
theorem MT.At.part {w:World} {s:ByteArray} {f:Nat→Int}:∀ (T:MT),T.At w s f→∀ x,x ∈ T.blks→∃ c,Blk w x c 129
 | .place b i e A,h,x,hx=>by
  simp only [MT.At] at h
  simp only [MT.blks,List.mem_singleton] at hx
  subst hx
  exact ⟨_,h⟩
 | .node b v n l,h,x,hx=>by
  simp only [MT.At] at h
  simp only [MT.blks,List.mem_cons] at hx
  rcases hx with hx | hx
  ·subst hx; exact ⟨_,h.1⟩
  ·exact AtL.part l h.2.2 x hx
theorem AtL.part {w:World} {s:ByteArray} {f:Nat→Int}:∀ (l:List MT),AtL w s f l→∀ x,x ∈ blksL l→∃ c,Blk w x c 129
 | [],h,x,hx=>by simp [blksL] at hx
 |y :: l,h,x,hx=>by
  simp only [AtL] at h
  simp only [blksL,List.mem_append] at hx
  rcases hx with hx | hx
  ·exact MT.At.part y h.1 x hx
  ·exact AtL.part l h.2 x hx
end
structure NI (lo:Nat) (w:World) (s:ByteArray) (xb:Nat) (rv pv:Value) (kids:List MT) (r q:Nat):Prop where
 blk:Blk w xb #[rv,.int .i64 ((partsL (ntL (kids.take r)):Nat):Int),pv,.slice none 0 0,.slice none 0 0,.slice none 0 0] 78
 row:w.ownsRow 0 80 1 rv kids.length (ptrs (kids.map MT.root))
 prt:AtL w s (numL (kids.take r) 0 zeroI) kids
 pls:w.ownsRow 0 80 1 pv (plL (kids.take q)).length (ptrs ((plL (kids.take q)).map MT.root))
 klt:∀ x,hasL kids x→x < lo
 rlt:∀ x,rv.ownBlock = some x→x < lo
 xlo:lo ≤ xb
 plo:∀ x,pv.ownBlock = some x→lo ≤ x
section
variable {lo:Nat} {w w1 w6:World} {s:ByteArray} {xb:Nat} {rv pv:Value} {kids:List MT} {r q:Nat}
theorem NI.below (h:NI lo w s xb rv pv kids r q) (k:Below w.heap.size w w1):NI lo w1 s xb rv pv kids r q :=
 ⟨h.blk.below k,ownsRow_kept (ex:=fun _=>False) h.row (Kept.ofBelow k) (fun _ _ e=>e),AtL.kept (ex:=fun _=>False) (Kept.ofBelow k) _ h.prt (fun _ _ e=>e),ownsRow_kept (ex:=fun _=>False) h.pls (Kept.ofBelow k) (fun _ _ e=>e),h.klt,h.rlt,h.xlo,h.plo⟩
theorem NI.num (h:NI lo w s xb rv pv kids r q) (hr:r < kids.length) (hU:∀ U:MT,U.At w s (numL (kids.take r) 0 zeroI)→U.At w1 s (kids[r].num (partsL (ntL (kids.take r))) (numL (kids.take r) 0 zeroI))) (hk:Kept (fun x=>x ∈ kids[r].blks) w w1) :
  NI lo (w1.setCell ⟨xb,1,none⟩ (.int .i64 ((partsL (ntL (kids.take r)) + kids[r].nt.parts:Nat):Int))) s xb rv pv kids (r + 1) q:=by
 have hin:∀ x,x ∈ kids[r].blks→hasL kids x:=fun x hx=>(hasL_iff kids x).2 ⟨kids[r],List.getElem_mem hr,MT.blks_has _ _ hx⟩
 have hpt:∀ x,x ∈ kids[r].blks→∃ c,Blk w x c 129:=fun x hx=>MT.At.part _ ((AtL_iff kids).1 h.prt _ (List.getElem_mem hr)) x hx
 have htk:kids.take (r + 1) = kids.take r ++ [kids[r]]:=(List.take_append_getElem hr).symm
 have hps:partsL (ntL (kids.take (r + 1))) = partsL (ntL (kids.take r)) + kids[r].nt.parts:=by rw [htk,partsL_snoc]
 have hnum:numL (kids.take (r + 1)) 0 zeroI = kids[r].num (partsL (ntL (kids.take r))) (numL (kids.take r) 0 zeroI):=by rw [htk,numL_append]; simp [numL]
 have kk:Kept (fun b=>b = xb) w1 (w1.setCell ⟨xb,1,none⟩ (.int .i64 ((partsL (ntL (kids.take r)) + kids[r].nt.parts:Nat):Int))):=Kept.setCell (ex:=fun b=>b = xb) (p:=⟨xb,1,none⟩) (Kept.refl _ _) (fun _=>rfl) _
 have hb1:=h.blk.kept hk (fun hx=>by have:=h.klt xb (hin xb hx); have:=h.xlo; omega)
 have hxlo:=h.xlo
 refine ⟨?_,ownsRow_kept (ownsRow_kept h.row hk (fun b hb hx=>?_)) kk (fun b hb e=>?_),?_,ownsRow_kept (ownsRow_kept h.pls hk (fun b hb hx=>?_)) kk (fun b hb e=>?_),h.klt,h.rlt,h.xlo,h.plo⟩
 ·rw [hps]; exact hb1.set 1 _
 ·obtain ⟨c,hc⟩:=hpt b hx; exact ownsRow_ne h.row hc (by decide) hb
 ·have:=h.rlt b hb; omega
 ·rw [hnum]
  refine AtL.kept kk _ ((AtL_iff kids).2 fun U hUm=>hU U ((AtL_iff kids).1 h.prt U hUm)) (fun x hx e=>?_)
  have:=h.klt x hx; omega
 ·obtain ⟨c,hc⟩:=hpt b hx; exact ownsRow_ne h.pls hc (by decide) hb
 ·subst e; exact ownsRow_ne h.pls h.blk (by decide) hb
theorem NI.app (h:NI lo w s xb rv pv kids r q) (hq:q < kids.length) {v6:Value} (r1:w6.ownsRow 0 80 1 v6 ((plL (kids.take q)).map MT.root ++ kids[q].pl.map MT.root).length (ptrs ((plL (kids.take q)).map MT.root ++ kids[q].pl.map MT.root))) (r2:∀ b,v6.ownBlock = some b→lo ≤ b) (r3:Kept (fun b=>pv.ownBlock = some b) w w6) :
  NI lo (w6.setCell ⟨xb,2,none⟩ v6) s xb rv v6 kids r (q + 1):=by
 have htk:kids.take (q + 1) = kids.take q ++ [kids[q]]:=(List.take_append_getElem hq).symm
 have hpl:(plL (kids.take (q + 1))).map MT.root = (plL (kids.take q)).map MT.root ++ kids[q].pl.map MT.root:=by rw [htk,plL_append]; simp [plL]
 have kk:Kept (fun b=>b = xb) w6 (w6.setCell ⟨xb,2,none⟩ v6):=Kept.setCell (ex:=fun b=>b = xb) (p:=⟨xb,2,none⟩) (Kept.refl _ _) (fun _=>rfl) _
 have b6:=h.blk.kept r3 (fun e=>ownsRow_ne h.pls h.blk (by decide) e)
 have hxlo:=h.xlo
 refine ⟨b6.set 2 _,ownsRow_kept (ownsRow_kept h.row r3 (fun b hb hx=>?_)) kk (fun b hb e=>?_),?_,?_,h.klt,h.rlt,h.xlo,r2⟩
 ·have:=h.rlt b hb; have:=h.plo b hx; omega
 ·have:=h.rlt b hb; omega
 ·refine AtL.kept kk _ (AtL.kept r3 _ h.prt (fun x hx e=>?_)) (fun x hx e=>?_)
  ·have:=h.klt x hx; have:=h.plo x e; omega
  ·have:=h.klt x hx; omega
 ·have h9:=ownsRow_kept r1 kk (fun b hb e=>by subst e; exact ownsRow_ne r1 b6 (by decide) hb)
  rw [← hpl,List.length_map] at h9
  exact h9
theorem NI.lex (h:NI lo w s xb rv pv kids kids.length kids.length) (hn:(blksL kids).Nodup) (hw:WfL s (ntL kids)) (hs:s.size ≤ 120) (hp:partsL (ntL kids) ≤ 100000) (hk:kids ≠ []):LexR w xb s (numL kids 0 zeroI) kids∧PlsAt w xb (plTs s kids)∧XAt w xb rv (.int .i64 ((partsL (ntL kids):Nat):Int)) pv (.slice none 0 0) (.slice none 0 0) (.slice none 0 0) [] [] []:=by
 have hb:=h.blk
 have hpt:=h.prt
 have hpl:=h.pls
 rw [List.take_of_length_le (Nat.le_refl _)] at hb hpt hpl
 obtain ⟨p1,p2⟩:=plTs_at hs hpt hw
 refine ⟨⟨⟨_,rv,hb,rfl,rfl,h.row⟩,hpt,numL_numd kids 0 zeroI hn,hw,hs,hp,hk⟩,⟨⟨_,pv,hb,rfl,?_⟩,p1,p2⟩,⟨hb,World.ownsRow_nil _ _ _ _,⟨World.ownsRow_nil _ _ _ _,fun p hp=>by simp at hp⟩,World.ownsRow_nil _ _ _ _,fun p hp=>by simp at hp⟩⟩
 rw [plTs_roots,plTs_len]
 exact hpl
end
section
variable {w w':World} {xb yb:Nat} {rv pn pv tv ov fv:Value} {TX:List ByteArray} {OX:List (Nat × List Int)} {FX:List Int} {kd:Nat→Nat} {g:Graph}
theorem XAt.tos' (h:XAt w xb rv pn pv tv ov fv TX OX FX) (h0:0 < OX.length):∃ og ocap,w.cell? ⟨xb,4,none⟩ = some (.slice (some ⟨og,0,none⟩) OX.length ocap)∧∀ i,(hi:i < OX.length)→w.cell? ⟨og,i,none⟩ = some (.slice (some ⟨OX[i].1,0,none⟩) 256 256)∧∀ b,b < 256→w.cell? ⟨OX[i].1,b,none⟩ = some (.int .i64 (OX[i].2.getD b 0)):=by
 have hr:=h.tos.row
 obtain ⟨_,od,ocap,rfl,⟨_,e⟩ | ⟨og,oc,rfl,_⟩⟩:=ownsRow_form hr
 ·omega
 refine ⟨og,ocap,h.blk.cell 4,fun i hi=>⟨by rw [ownsRow_cell hr i (by omega)]; simp [slV,hi],fun b hb=>?_⟩⟩
 obtain ⟨h1,h2⟩:=h.tos.each OX[i] (List.getElem_mem hi)
 exact intsA_cellD h1 b (by omega)
theorem XAt.txt' (h:XAt w xb rv pn pv tv ov fv TX OX FX) (h0:0 < TX.length):∃ tg tcap,w.cell? ⟨xb,3,none⟩ = some (.slice (some ⟨tg,0,none⟩) TX.length tcap)∧∀ i,(hi:i < TX.length)→w.cell? ⟨tg,i,none⟩ = some (.string TX[i]):=by
 have hr:=h.txt
 obtain ⟨_,od,ocap,rfl,⟨_,e⟩ | ⟨og,oc,rfl,_⟩⟩:=ownsRow_form hr
 ·omega
 exact ⟨og,ocap,h.blk.cell 3,fun i hi=>by rw [ownsRow_cell hr i (by omega)]; simp [hi]⟩
theorem XAt.of' (h:XAt w xb rv pn pv tv ov fv TX OX FX) (h0:0 < FX.length):∃ fg fcap,w.cell? ⟨xb,5,none⟩ = some (.slice (some ⟨fg,0,none⟩) FX.length fcap)∧∀ i,i < FX.length→w.cell? ⟨fg,i,none⟩ = some (.int .i64 (FX.getD i 0)):=by
 obtain ⟨ad,cap,rfl,e | ⟨fg,rfl⟩⟩:=h.of.form
 ·omega
 exact ⟨fg,cap,h.blk.cell 5,fun i hi=>h.of.getD i hi⟩
structure RLexP (w:World) (yb:Nat) (kd:Nat→Nat) (g:Graph) (TX:List ByteArray):Prop where
 x:∃ rv pn pv xt xo xf OX FX,XAt w yb rv pn pv xt xo xf TX OX FX∧SP (fun i b=>stepK g (i:Int) (kd b)) (fun i=>g.rule.getD i 0) g.rule.length OX FX
 tl:TX.length = g.rule.length
 pos:0 < g.rule.length∧g.rule.length ≤ 61
 nl:g.next.length = g.rule.length
theorem RLexP.below (h:RLexP w yb kd g TX) (k:Below w.heap.size w w'):RLexP w' yb kd g TX:=by
 obtain ⟨rv,pn,pv,xt,xo,xf,OX,FX,h1,h2⟩:=h.x
 exact ⟨⟨rv,pn,pv,xt,xo,xf,OX,FX,h1.below k,h2⟩,h.tl,h.pos,h.nl⟩
theorem RLexP.cells (h:RLexP w yb kd g TX):yb < w.heap.size∧(∃ tg tcap,w.cell? ⟨yb,3,none⟩ = some (.slice (some ⟨tg,0,none⟩) g.rule.length tcap)∧∀ i,(hi:i < TX.length)→w.cell? ⟨tg,i,none⟩ = some (.string TX[i])) ∧
  (∃ og ocap,w.cell? ⟨yb,4,none⟩ = some (.slice (some ⟨og,0,none⟩) g.rule.length ocap)∧∀ i,i < g.rule.length→∃ ob,w.cell? ⟨og,i,none⟩ = some (.slice (some ⟨ob,0,none⟩) 256 256)∧∀ b,b < 256→w.cell? ⟨ob,b,none⟩ = some (.int .i64 (stepK g (i:Int) (kd b)))) ∧
  (∃ fg fcap,w.cell? ⟨yb,5,none⟩ = some (.slice (some ⟨fg,0,none⟩) g.rule.length fcap)∧∀ i,i < g.rule.length→w.cell? ⟨fg,i,none⟩ = some (.int .i64 (g.rule.getD i 0))):=by
 obtain ⟨rv,pn,pv,xt,xo,xf,OX,FX,h1,h2⟩:=h.x
 have hp:=h.pos.1
 refine ⟨h1.blk.lt,?_,?_,?_⟩
 ·obtain ⟨tg,tcap,e1,e2⟩:=h1.txt' (by rw [h.tl]; exact hp)
  exact ⟨tg,tcap,by rw [e1,h.tl],e2⟩
 ·obtain ⟨og,ocap,e1,e2⟩:=h1.tos' (by rw [h2.ol]; exact hp)
  refine ⟨og,ocap,by rw [e1,h2.ol],fun i hi=>?_⟩
  have hi':i < OX.length:=by rw [h2.ol]; exact hi
  obtain ⟨e3,e4⟩:=e2 i hi'
  refine ⟨_,e3,fun b hb=>?_⟩
  have h5:=h2.row i b hi hb
  rw [List.getD_eq_getElem?_getD (l:=OX),List.getElem?_eq_getElem hi',Option.getD_some] at h5
  rw [e4 b hb,h5]
 ·obtain ⟨fg,fcap,e1,e2⟩:=h1.of' (by rw [h2.fl]; exact hp)
  exact ⟨fg,fcap,by rw [e1,h2.fl],fun i hi=>by rw [e2 i (by rw [h2.fl]; exact hi),h2.tok i hi]⟩
theorem nextF_stepQ (hnl:g.next.length = g.rule.length) {i b:Nat} (hi:i < g.rule.length) (hb:b < 256):nextF kd g (i:Int) (b:Int) = stepK g (i:Int) (kd b):=by
 unfold nextF stepK
 rw [if_neg (by omega),if_neg (by omega),Int.toNat_natCast,Int.toNat_natCast]
end
set_option maxHeartbeats 1600000 in
theorem refRule_any (yb:Nat) (kd:Nat→Nat) (g:Graph) (TX:List ByteArray) (s:Int) (w:World) (h:RLexP w yb kd g TX) :
  Calls Tryz.prog 64 #[.pointer (some ⟨yb,0,none⟩),.int .i64 s] w fun e w'=>e = .returned (.int .i64 (ruleOfF g s))∧w' = w:=by
 obtain ⟨zy,⟨tg,tcap,c3,_⟩,_,⟨fg,fcap,c5,cf⟩⟩:=h.cells
 generalize hF:ruleOfF g s = F
 unfold ruleOfF at hF
 clear h
 by_cases hs0:s < 0
 ·have e0:decide (s < 0) = true:=by simp [hs0]
  rw [if_pos (.inl hs0)] at hF
  subst hF
  clear cf c5
  go_enter Tryz.func64,Tryz.ntmps64
  go_wp2_with fail
  go_ret
  exact ⟨rfl,rfl⟩
 ·have e0:decide (s < 0) = false:=by simp; omega
  by_cases hs1:(g.rule.length:Int) ≤ s
  ·have e1:decide ((g.rule.length:Int) ≤ s) = true:=by simp [hs1]
   rw [if_pos (.inr hs1)] at hF
   subst hF
   clear cf c5
   go_enter Tryz.func64,Tryz.ntmps64
   go_wp2_with fail
   go_ret
   exact ⟨rfl,rfl⟩
  ·have e1:decide ((g.rule.length:Int) ≤ s) = false:=by simp; omega
   rw [if_neg (by omega)] at hF
   obtain ⟨j,rfl⟩:∃ j:Nat,s = (j:Int):=⟨s.toNat,by omega⟩
   have r0:=cf j (by omega)
   rw [Int.toNat_natCast] at hF
   rw [hF] at r0
   have i0:(0:Int) ≤ (j:Int):=by omega
   have i1:(j:Int) < (g.rule.length:Int):=by omega
   clear cf hF
   go_enter Tryz.func64,Tryz.ntmps64
   go_wp2_with fail
   go_ret
   exact ⟨rfl,rfl⟩
set_option maxHeartbeats 3200000 in
theorem refNext_any (yb:Nat) (kd:Nat→Nat) (g:Graph) (TX:List ByteArray) (s b:Int) (w:World) (h:RLexP w yb kd g TX) :
  Calls Tryz.prog 62 #[.pointer (some ⟨yb,0,none⟩),.int .i64 s,.int .i64 b] w fun e w'=>e = .returned (.int .i64 (nextF kd g s b))∧Below w.heap.size w w':=by
 obtain ⟨zy,⟨tg,tcap,c3,_⟩,⟨og,ocap,c4,co⟩,_⟩:=h.cells
 have hnl:=h.nl
 generalize hF:nextF kd g s b = F
 clear h
 by_cases hs0:s < 0
 ·have e0:decide (s < 0) = true:=by simp [hs0]
  unfold nextF at hF
  rw [if_pos (.inl hs0)] at hF
  subst hF
  clear co c4 hnl
  go_enter Tryz.func62,Tryz.ntmps62
  go_wp2_with fail
  go_ret
  exact ⟨rfl,Below.refl _ _⟩
 ·have e0:decide (s < 0) = false:=by simp; omega
  by_cases hs1:(g.rule.length:Int) ≤ s
  ·have e1:decide ((g.rule.length:Int) ≤ s) = true:=by simp [hs1]
   unfold nextF at hF
   rw [if_pos (.inr (.inl (by omega)))] at hF
   subst hF
   clear co c4 hnl
   go_enter Tryz.func62,Tryz.ntmps62
   go_wp2_with fail
   go_ret
   exact ⟨rfl,Below.refl _ _⟩
  ·have e1:decide ((g.rule.length:Int) ≤ s) = false:=by simp; omega
   by_cases hb0:b < 0
   ·have e2:decide (b < 0) = true:=by simp [hb0]
    unfold nextF at hF
    rw [if_pos (.inr (.inr (.inl hb0)))] at hF
    subst hF
    clear co c4 hnl
    go_enter Tryz.func62,Tryz.ntmps62
    go_wp2_with fail
    go_ret
    exact ⟨rfl,Below.refl _ _⟩
   ·have e2:decide (b < 0) = false:=by simp; omega
    by_cases hb1:256 ≤ b
    ·have e3:decide ((255:Int) < b) = true:=by simp; omega
     unfold nextF at hF
     rw [if_pos (.inr (.inr (.inr hb1)))] at hF
     subst hF
     clear co c4 hnl
     go_enter Tryz.func62,Tryz.ntmps62
     go_wp2_with fail
     go_ret
     exact ⟨rfl,Below.refl _ _⟩
    ·have e3:decide ((255:Int) < b) = false:=by simp; omega
     obtain ⟨j,rfl⟩:∃ j:Nat,s = (j:Int):=⟨s.toNat,by omega⟩
     obtain ⟨c,rfl⟩:∃ c:Nat,b = (c:Int):=⟨b.toNat,by omega⟩
     rw [nextF_stepQ hnl (by omega) (by omega)] at hF
     obtain ⟨ob,q1,q2⟩:=co j (by omega)
     have q3:=q2 c (by omega)
     rw [hF] at q3
     have i0:(0:Int) ≤ (j:Int):=by omega
     have i1:(j:Int) < (g.rule.length:Int):=by omega
     have i2:(0:Int) ≤ (c:Int):=by omega
     have i3:(c:Int) < 256:=by omega
     clear co hnl hF q2
     go_enter Tryz.func62,Tryz.ntmps62
     go_wp2_with fail
     first
     |(go_ret; exact ⟨rfl,Below.refl _ _⟩)
     |(go_quiet (fail); go_wp2_with fail; go_ret; exact ⟨rfl,Below_drewN (Below.refl _ _) _⟩)
end Go.Proofs.YtcckhngbdoiikaaGreat
