import Derived.Test.YtcckhngbdoiikaaGreatG25
import Derived.Test.YtcckhngbdoiikaaGreatG49
import Derived.Test.YtcckhngbdoiikaaGreatG43

namespace Go.Proofs.YtcckhngbdoiikaaGreat
set_option linter.unusedVariables false
theorem newF_fit {s:ByteArray} {kd:Nat→Nat} {g:Graph} (h:newF s = .lexer kd g):LexFit kd g:=by
 obtain ⟨R,hR⟩:=newF_build h
 exact ⟨(newF_lexOk h).1,(build_lexG hR).stepsIn,build_small hR,(build_lexG hR).pos⟩
end Go.Proofs.YtcckhngbdoiikaaGreat

namespace Go.Proofs.YtcckhngbdoiikaaGreat
open Go.RowKit Go.Deep
set_option linter.unusedVariables false
theorem stepsLoop_keeps (kd:Nat→Nat) (g:Graph) (s:Nat):∀ (n b:Nat) (seen:List Bool) (acc:List StepT),∀ t ∈ acc,t ∈ stepsLoop kd g s n b seen acc
 | 0,b,seen,acc,t,ht=>ht
 |n + 1,b,seen,acc,t,ht=>by
  unfold stepsLoop
  split
  ·split
   ·exact stepsLoop_keeps kd g s n _ _ _ t ht
   ·exact stepsLoop_keeps kd g s n _ _ _ t (by simp [ht])
  ·exact ht
theorem stepsLoop_all {kd:Nat→Nat} {g:Graph} (hi:StepsIn kd g) (s:Nat):∀ (n b:Nat) (seen:List Bool) (acc:List StepT),256 < n + b→seen.length = g.rule.length→(∀ q,seen.getD q false = true→∃ t ∈ acc,t.q = q) →
  ∀ c:Nat,b ≤ c→c < 256→nextF kd g (s:Int) (c:Int) ≠ -1→∃ t ∈ stepsLoop kd g s n b seen acc,t.q = (nextF kd g (s:Int) (c:Int)).toNat
 | 0,b,seen,acc,hn,hl,hs,c,h1,h2,h3=>by omega
 |n + 1,b,seen,acc,hn,hl,hs,c,h1,h2,h3=>by
  unfold stepsLoop
  rw [if_pos (by omega)]
  by_cases e:c = b
  ·subst e
   split
   ·rename_i hc
    rcases hc with hc | hc
    ·exact absurd hc h3
    ·obtain ⟨t,ht,hq⟩:=hs _ hc
     exact ⟨t,stepsLoop_keeps kd g s n _ _ _ t ht,hq⟩
   ·exact ⟨_,stepsLoop_keeps kd g s n _ _ _ ⟨c,(nextF kd g (s:Int) (c:Int)).toNat⟩ (by simp),rfl⟩
  ·split
   ·exact stepsLoop_all hi s n (b + 1) seen acc (by omega) hl hs c (by omega) h2 h3
   ·rename_i hc
    have hin:=hi (s:Int) (b:Int)
    refine stepsLoop_all hi s n (b + 1) _ _ (by omega) (by simp [hl]) (fun q hq=>?_) c (by omega) h2 h3
    rw [getD_setB _ _ _ _ (by omega)] at hq
    split at hq
    ·rename_i eq
     exact ⟨_,List.mem_append.2 (.inr (List.mem_singleton.2 rfl)),eq.symm⟩
    ·obtain ⟨t,ht,hq'⟩:=hs q hq
     exact ⟨t,by simp [ht],hq'⟩
theorem stepsF_all {kd:Nat→Nat} {g:Graph} (hi:StepsIn kd g) (s c:Nat) (hc:c < 256) (h:nextF kd g (s:Int) (c:Int) ≠ -1):∃ t ∈ stepsF kd g s,t.q = (nextF kd g (s:Int) (c:Int)).toNat :=
 stepsLoop_all hi s 257 0 _ _ (by omega) (by simp) (fun q hq=>by simp [List.getD_eq_getElem?_getD,List.getElem?_replicate] at hq; split at hq <;> cases hq) c (Nat.zero_le _) hc h
theorem weave_token (kd:Nat→Nat) (g:Graph) {s:Nat} (hs:s < g.rule.length):(weaveF kd g).token.getD s false = decide (ruleOfF g (s:Int) ≠ -1):=by simp [weaveF,tokenF,hs]
theorem weave_lead {kd:Nat→Nat} {g:Graph} (hi:StepsIn kd g) {s c:Nat} (hs:s < g.rule.length) (hc:c < 256) (h:nextF kd g (s:Int) (c:Int) ≠ -1) {m:List Bool} (hm:m.getD (nextF kd g (s:Int) (c:Int)).toNat false = true):leadsInto (weaveF kd g) m s = true:=by
 obtain ⟨t,h1,h2⟩:=stepsF_all hi s c hc h
 unfold leadsInto intoF
 have e:(weaveF kd g).steps.getD s [] = stepsF kd g s:=by simp [weaveF,stepsTo,hs]
 rw [e,List.find?_isSome]
 exact ⟨t,h1,by rw [h2]; exact hm⟩
theorem far_layer {kd:Nat→Nat} {g:Graph} (hi:StepsIn kd g):∀ (d s:Nat),s < g.rule.length→FarT kd g d (s:Int)→(layerAt (weaveF kd g) d).getD s false = true
 | 0,s,hs,h=>by
  show (weaveF kd g).token.getD s false = true
  rw [weave_token kd g hs]
  exact decide_eq_true h
 |d + 1,s,hs,⟨h1,b,h2,h3,h4⟩=>by
  have hin:=hi (s:Int) (b:Int)
  obtain ⟨q,hq⟩:∃ q:Nat,nextF kd g (s:Int) (b:Int) = (q:Int):=⟨(nextF kd g (s:Int) (b:Int)).toNat,by omega⟩
  rw [hq] at h4 hin
  have ih:=far_layer hi d q (by omega) h4
  have hl:=weave_lead hi hs h2 h3 (m:=layerAt (weaveF kd g) d) (by rw [hq,Int.toNat_natCast]; exact ih)
  have ht:=weave_token kd g hs
  rw [h1] at ht
  have hlen:s < (weaveF kd g).token.length:=by simp [weaveF,tokenF_len,hs]
  show (layerF (weaveF kd g) (layerAt (weaveF kd g) d)).getD s false = true
  unfold layerF
  simp [hlen,hl]
  simpa [hlen] using ht
theorem far_down {kd:Nat→Nat} {g:Graph} (hi:StepsIn kd g):∀ (e d s:Nat),s < g.rule.length→FarT kd g (d + e) (s:Int)→∃ s':Nat,s' < g.rule.length∧FarT kd g d (s':Int)
 | 0,d,s,hs,h=>⟨s,hs,h⟩
 |e + 1,d,s,hs,h=>by
  obtain ⟨h1,b,h2,h3,h4⟩:FarT kd g (d + e + 1) (s:Int):=h
  have hin:=hi (s:Int) (b:Int)
  obtain ⟨q,hq⟩:∃ q:Nat,nextF kd g (s:Int) (b:Int) = (q:Int):=⟨(nextF kd g (s:Int) (b:Int)).toNat,by omega⟩
  rw [hq] at h4 hin
  exact far_down hi e d q (by omega) h4
theorem farD_max (x:WebT) (LL:List (List Bool)) {d s:Nat} (hs:s < x.token.length) (h:farStop x (LL.getD d []) s = true):∀ D,d < D→d + 1 ≤ (farD x LL D).2
 | 0,hD=>by omega
 |D + 1,hD=>by
  unfold farD
  split
  ·show d + 1 ≤ D + 1
   omega
  ·rename_i hf
   by_cases e:D = d
   ·subst e
    rw [List.find?_eq_none] at hf
    exact absurd h (hf s (by simp [hs]))
   ·exact farD_max x LL hs h D (by omega)
theorem lead_near {kd:Nat→Nat} {g:Graph} (hf:LexFit kd g) (hb:(gapOf kd g).bounded = true) {d s:Nat} (hs:s < g.rule.length) (ht:ruleOfF g (s:Int) ≠ -1∨s = 0) (h:LeadT kd g d (s:Int)):d + 1 ≤ (gapOf kd g).k:=by
 have hi:=hf.into
 obtain ⟨b,h2,h3,h4⟩:=h
 have hin:=hi (s:Int) (b:Int)
 obtain ⟨q,hq⟩:∃ q:Nat,nextF kd g (s:Int) (b:Int) = (q:Int):=⟨(nextF kd g (s:Int) (b:Int)).toNat,by omega⟩
 have h4':=h4
 rw [hq] at h4'
 rw [hq] at hin
 unfold gapOf at hb ⊢
 split at hb
 ·simp [endlessF] at hb
 ·rename_i hnone
  have hd:d < g.rule.length:=by
   refine Nat.lt_of_not_le fun hge=>?_
   obtain ⟨e,rfl⟩:∃ e,d = g.rule.length + e:=⟨d - g.rule.length,by omega⟩
   obtain ⟨s',g1,g2⟩:=far_down hi e g.rule.length q (by omega) h4'
   have g3:=far_layer hi _ s' g1 g2
   rw [List.find?_eq_none] at hnone
   exact hnone s' (by simp [g1]) g3
  have hL:=far_layer hi d q (by omega) h4'
  have hl:=weave_lead hi hs h2 h3 (m:=layerAt (weaveF kd g) d) (by rw [hq,Int.toNat_natCast]; exact hL)
  have hlen:s < (weaveF kd g).token.length:=by simp [weaveF,tokenF_len,hs]
  have hst:farStop (weaveF kd g) ((layersF (weaveF kd g) g.rule.length).getD d []) s = true:=by
   unfold farStop
   rw [layersF_get _ _ _ hd,hl,weave_token kd g hs]
   rcases ht with e | e <;> simp [e]
  show d + 1 ≤ (farD (weaveF kd g) (layersF (weaveF kd g) g.rule.length) (layersF (weaveF kd g) g.rule.length).length).2
  exact farD_max _ _ hlen hst _ (by rw [layersF_len]; exact hd)
theorem stepsLoop_from {kd:Nat→Nat} {g:Graph} (hi:StepsIn kd g) (s:Nat):∀ (n b:Nat) (seen:List Bool) (acc:List StepT),(∀ t ∈ acc,t.b < 256∧nextF kd g (s:Int) (t.b:Int) = (t.q:Int))→∀ t ∈ stepsLoop kd g s n b seen acc,t.b < 256∧nextF kd g (s:Int) (t.b:Int) = (t.q:Int)
 | 0,b,seen,acc,h,t,ht=>h t ht
 |n + 1,b,seen,acc,h,t,ht=>by
  unfold stepsLoop at ht
  split at ht
  ·rename_i hb
   split at ht
   ·exact stepsLoop_from hi s n _ _ _ h t ht
   ·rename_i hc
    have hin:=hi (s:Int) (b:Int)
    have hne:nextF kd g (s:Int) (b:Int) ≠ -1:=fun e=>hc (.inl e)
    refine stepsLoop_from hi s n _ _ _ (fun t' ht'=>?_) t ht
    rw [List.mem_append,List.mem_singleton] at ht'
    rcases ht' with ht' | rfl
    ·exact h t' ht'
    ·refine ⟨hb,?_⟩
     show nextF kd g (s:Int) (b:Int) = (((nextF kd g (s:Int) (b:Int)).toNat:Nat):Int)
     omega
  ·exact h t ht
theorem stepsF_from {kd:Nat→Nat} {g:Graph} (hi:StepsIn kd g) (s:Nat):∀ t ∈ stepsF kd g s,t.b < 256∧nextF kd g (s:Int) (t.b:Int) = (t.q:Int) :=
 stepsLoop_from hi s 257 0 _ _ (fun t ht=>by simp at ht)
theorem lead_weave {kd:Nat→Nat} {g:Graph} (hi:StepsIn kd g) {s:Nat} (hs:s < g.rule.length) {m:List Bool} (h:leadsInto (weaveF kd g) m s = true):∃ b q:Nat,b < 256∧nextF kd g (s:Int) (b:Int) = (q:Int)∧q < g.rule.length∧m.getD q false = true:=by
 unfold leadsInto intoF at h
 have e:(weaveF kd g).steps.getD s [] = stepsF kd g s:=by simp [weaveF,stepsTo,hs]
 rw [e,List.find?_isSome] at h
 obtain ⟨t,h1,h2⟩:=h
 obtain ⟨h3,h4⟩:=stepsF_from hi s t h1
 have hin:=hi (s:Int) (t.b:Int)
 rw [h4] at hin
 exact ⟨t.b,t.q,h3,h4,by omega,h2⟩
theorem layer_far {kd:Nat→Nat} {g:Graph} (hi:StepsIn kd g):∀ (d s:Nat),s < g.rule.length→(layerAt (weaveF kd g) d).getD s false = true→FarT kd g d (s:Int)
 | 0,s,hs,h=>by
  have h':(weaveF kd g).token.getD s false = true:=h
  rw [weave_token kd g hs] at h'
  show ruleOfF g (s:Int) ≠ -1
  exact of_decide_eq_true h'
 |d + 1,s,hs,h=>by
  have hlen:s < (weaveF kd g).token.length:=by simp [weaveF,tokenF_len,hs]
  have h':(layerF (weaveF kd g) (layerAt (weaveF kd g) d)).getD s false = true:=h
  have e:(layerF (weaveF kd g) (layerAt (weaveF kd g) d)).getD s false = (leadsInto (weaveF kd g) (layerAt (weaveF kd g) d) s && !((weaveF kd g).token.getD s false)):=by
   unfold layerF
   simp [hlen]
  rw [e,Bool.and_eq_true,weave_token kd g hs] at h'
  obtain ⟨h1,h2⟩:=h'
  have hr:ruleOfF g (s:Int) = -1:=by simpa using h2
  obtain ⟨b,q,h3,h4,h5,h6⟩:=lead_weave hi hs h1
  exact ⟨hr,b,h3,by rw [h4]; omega,by rw [h4]; exact layer_far hi d q h5 h6⟩
theorem farD_is (x:WebT) (LL:List (List Bool)):∀ D,(farD x LL D).2 = 0∨((farD x LL D).2 ≤ D∧0 < (farD x LL D).2∧(farD x LL D).1 < x.token.length∧farStop x (LL.getD ((farD x LL D).2 - 1) []) (farD x LL D).1 = true)
 | 0=>.inl rfl
 |D + 1=>by
  unfold farD
  split
  ·rename_i s hs
   have h1:=List.mem_of_find?_eq_some hs
   have h2:=List.find?_some hs
   exact .inr ⟨Nat.le_refl _,by show 0 < D + 1; omega,by simpa using h1,h2⟩
  ·rcases farD_is x LL D with e | ⟨h1,h2⟩
   ·exact .inl e
   ·exact .inr ⟨by omega,h2⟩
theorem far_there {kd:Nat→Nat} {g:Graph} (hf:LexFit kd g) (h:0 < (farD (weaveF kd g) (layersF (weaveF kd g) g.rule.length) g.rule.length).2) :
  ∃ s:Nat,s = (farD (weaveF kd g) (layersF (weaveF kd g) g.rule.length) g.rule.length).1∧s < g.rule.length∧(ruleOfF g (s:Int) ≠ -1∨s = 0)∧LeadT kd g ((farD (weaveF kd g) (layersF (weaveF kd g) g.rule.length) g.rule.length).2 - 1) (s:Int):=by
 rcases farD_is (weaveF kd g) (layersF (weaveF kd g) g.rule.length) g.rule.length with e | ⟨h1,h2,h3,h4⟩
 ·omega
 ·generalize farD (weaveF kd g) (layersF (weaveF kd g) g.rule.length) g.rule.length = r at *
  have hs:r.1 < g.rule.length:=by simpa [weaveF,tokenF_len] using h3
  rw [layersF_get _ _ _ (by omega)] at h4
  unfold farStop at h4
  rw [Bool.and_eq_true,weave_token kd g hs] at h4
  obtain ⟨h5,h6⟩:=h4
  obtain ⟨b,q,h7,h8,h9,h10⟩:=lead_weave hf.into hs h5
  refine ⟨r.1,rfl,hs,?_,b,h7,by rw [h8]; omega,by rw [h8]; exact layer_far hf.into _ q h9 h10⟩
  simpa using h6
theorem bytesN_app (x y:ByteArray):bytesN (x ++ y) = bytesN x ++ bytesN y:=by simp [bytesN]
theorem bytesN_one {b:Nat} (h:b < 256):bytesN (bytesOf [b]) = [b]:=by
 simp [bytesN,bytesOf]
 omega
theorem runK_app (g:Graph) (s:Int) (k m:List Nat):runK g s (k ++ m) = runK g (runK g s k) m:=by simp [runK]
structure AtText (kd:Nat→Nat) (g:Graph) (tok rest:List Nat) (q:Nat):Prop where
 byte:∀ b ∈ tok ++ rest,b < 256
 tokn:tok = []∨accK g (runK g 0 (tok.map kd)) ≠ -1
 run:runK g 0 ((tok ++ rest).map kd) = (q:Int)
 non:∀ k,0 < k→k ≤ rest.length→accK g (runK g 0 ((tok ++ rest.take k).map kd)) = -1
theorem AtText.zero (kd:Nat→Nat) (g:Graph):AtText kd g [] [] 0:=⟨by simp,.inl rfl,rfl,fun k h1 h2=>by simp at h2; omega⟩
theorem AtText.step {kd:Nat→Nat} {g:Graph} (hg:LexG kd g) {tok rest:List Nat} {q b q':Nat} (h:AtText kd g tok rest q) (hq:q < g.rule.length) (hb:b < 256) (hn:nextF kd g (q:Int) (b:Int) = (q':Int)) (hq':q' < g.rule.length) (hr:ruleOfF g (q':Int) = -1):AtText kd g tok (rest ++ [b]) q':=by
 have hrun:runK g 0 ((tok ++ (rest ++ [b])).map kd) = (q':Int):=by
  rw [← List.append_assoc,List.map_append,runK_app,h.run,← hn,nextF_step hg hq hb]
  rfl
 refine ⟨fun x hx=>?_,h.tokn,hrun,fun k k0 k1=>?_⟩
 ·rw [← List.append_assoc,List.mem_append,List.mem_singleton] at hx
  rcases hx with hx | rfl
  ·exact h.byte x hx
  ·exact hb
 ·by_cases hk:k ≤ rest.length
  ·rw [List.take_append_of_le_length hk]
   exact h.non k k0 hk
  ·rw [List.take_of_length_le (by simp at k1 ⊢; omega),hrun,← ruleOf_acc hq']
   exact hr
theorem AtText.token {kd:Nat→Nat} {g:Graph} (hg:LexG kd g) {tok rest:List Nat} {q b q':Nat} (h:AtText kd g tok rest q) (hq:q < g.rule.length) (hb:b < 256) (hn:nextF kd g (q:Int) (b:Int) = (q':Int)) (hq':q' < g.rule.length) (hr:ruleOfF g (q':Int) ≠ -1):AtText kd g (tok ++ (rest ++ [b])) [] q':=by
 have hrun:runK g 0 ((tok ++ (rest ++ [b])).map kd) = (q':Int):=by
  rw [← List.append_assoc,List.map_append,runK_app,h.run,← hn,nextF_step hg hq hb]
  rfl
 refine ⟨fun x hx=>?_,.inr ?_,by rw [List.append_nil]; exact hrun,fun k k0 k1=>by simp at k1; omega⟩
 ·rw [List.append_nil,← List.append_assoc,List.mem_append,List.mem_singleton] at hx
  rcases hx with hx | rfl
  ·exact h.byte x hx
  ·exact hb
 ·rw [hrun,← ruleOf_acc hq']
  exact hr
structure ApprIs (kd:Nat→Nat) (g:Graph) (a:ApprT):Prop where
 tl:a.token.length = g.rule.length
 rl:a.rest.length = g.rule.length
 fl:a.found.length = g.rule.length
 is:∀ q,a.found.getD q false = true→AtText kd g (bytesN (a.token.getD q noStr)) (bytesN (a.rest.getD q noStr)) q
 tok:∀ q,a.found.getD q false = true→ruleOfF g (q:Int) ≠ -1∨q = 0→a.rest.getD q noStr = noStr
theorem getD_setB' (l:List Bool) (k i:Nat) (x:Bool):(l.set k x).getD i false = if k = i∧k < l.length then x else l.getD i false:=by
 rw [List.getD_eq_getElem?_getD,List.getElem?_set]
 by_cases h:k = i
 ·subst h
  by_cases h2:k < l.length
  ·simp [h2]
  ·simp [h2]
 ·simp [h]
theorem apprStep_is {kd:Nat→Nat} {g:Graph} (hg:LexG kd g) {a:ApprT} (h:ApprIs kd g a) {state:Nat} (hs:state < g.rule.length) (hf:a.found.getD state false = true) (h0:a.found.getD 0 false = true) {t:StepT} (hb:t.b < 256) (hn:nextF kd g (state:Int) (t.b:Int) = (t.q:Int)) (hq:t.q < g.rule.length) :
  ApprIs kd g (apprStep (weaveF kd g) state a t)∧(apprStep (weaveF kd g) state a t).found.getD t.q false = true∧∀ q,a.found.getD q false = true→(apprStep (weaveF kd g) state a t).found.getD q false = true:=by
 have hst:=h.is state hf
 unfold apprStep
 by_cases hfd:a.found.getD t.q false = true
 ·rw [if_pos hfd]
  exact ⟨h,hfd,fun q hq=>hq⟩
 ·rw [if_neg hfd,weave_token kd g hq]
  have hmono:∀ q,a.found.getD q false = true→(a.found.set t.q true).getD q false = true:=fun q hq9=>by
   rw [getD_setB']; split
   ·rfl
   ·exact hq9
  have hself:(a.found.set t.q true).getD t.q false = true:=by rw [getD_setB',if_pos ⟨rfl,by rw [h.fl]; exact hq⟩]
  have hold:∀ q,(a.found.set t.q true).getD q false = true→q ≠ t.q→a.found.getD q false = true:=fun q h1 h2=>by
   rw [getD_setB',if_neg (fun e=>h2 e.1.symm)] at h1
   exact h1
  have hz:t.q ≠ 0:=fun e=>hfd (by rw [e]; exact h0)
  by_cases hr:ruleOfF g (t.q:Int) = -1
  ·rw [if_neg (by simp [hr])]
   refine ⟨⟨by simp [h.tl],by simp [h.rl],by simp [h.fl],fun q h1=>?_,fun q h1 h2=>?_⟩,hself,hmono⟩
   ·simp only at h1 ⊢
    by_cases e:q = t.q
    ·subst e
     rw [getD_setS,if_pos ⟨rfl,by rw [h.tl]; exact hq⟩,getD_setS,if_pos ⟨rfl,by rw [h.rl]; exact hq⟩,bytesN_app,bytesN_one hb]
     exact hst.step hg hs hb hn hq hr
    ·rw [getD_setS,if_neg (fun e'=>e e'.1.symm),getD_setS,if_neg (fun e'=>e e'.1.symm)]
     exact h.is q (hold q h1 e)
   ·simp only at h1 ⊢
    have e:q ≠ t.q:=fun e=>by
     subst e
     rcases h2 with h2 | h2
     ·exact h2 hr
     ·exact hz h2
    rw [getD_setS,if_neg (fun e'=>e e'.1.symm)]
    exact h.tok q (hold q h1 e) h2
  ·rw [if_pos (by simp [hr])]
   refine ⟨⟨by simp [h.tl],by simp [h.rl],by simp [h.fl],fun q h1=>?_,fun q h1 h2=>?_⟩,hself,hmono⟩
   ·simp only at h1 ⊢
    by_cases e:q = t.q
    ·subst e
     rw [getD_setS,if_pos ⟨rfl,by rw [h.tl]; exact hq⟩,getD_setS,if_pos ⟨rfl,by rw [h.rl]; exact hq⟩,bytesN_app,bytesN_app,bytesN_one hb]
     exact hst.token hg hs hb hn hq hr
    ·rw [getD_setS,if_neg (fun e'=>e e'.1.symm),getD_setS,if_neg (fun e'=>e e'.1.symm)]
     exact h.is q (hold q h1 e)
   ·simp only at h1 ⊢
    by_cases e:q = t.q
    ·subst e
     rw [getD_setS,if_pos ⟨rfl,by rw [h.rl]; exact hq⟩]
    ·rw [getD_setS,if_neg (fun e'=>e e'.1.symm)]
     exact h.tok q (hold q h1 e) h2
theorem apprSteps_is {kd:Nat→Nat} {g:Graph} (hg:LexG kd g) {state:Nat} (hs:state < g.rule.length):∀ (l:List StepT) (a:ApprT),(∀ t ∈ l,t.b < 256∧nextF kd g (state:Int) (t.b:Int) = (t.q:Int)∧t.q < g.rule.length)→ApprIs kd g a→a.found.getD state false = true→a.found.getD 0 false = true →
  ApprIs kd g (l.foldl (apprStep (weaveF kd g) state) a)∧(∀ t ∈ l,(l.foldl (apprStep (weaveF kd g) state) a).found.getD t.q false = true)∧∀ q,a.found.getD q false = true→(l.foldl (apprStep (weaveF kd g) state) a).found.getD q false = true
 | [],a,_,h,_,_=>⟨h,by simp,fun q hq=>hq⟩
 |t :: r,a,hl,h,hf,h0=>by
  obtain ⟨t1,t2,t3⟩:=hl t (by simp)
  obtain ⟨s1,s2,s3⟩:=apprStep_is hg h hs hf h0 t1 t2 t3
  obtain ⟨r1,r2,r3⟩:=apprSteps_is hg hs r _ (fun x hx=>hl x (by simp [hx])) s1 (s3 _ hf) (s3 _ h0)
  rw [List.foldl_cons]
  refine ⟨r1,fun x hx=>?_,fun q hq=>r3 q (s3 q hq)⟩
  rw [List.mem_cons] at hx
  rcases hx with rfl | hx
  ·exact r3 _ s2
  ·exact r2 x hx
theorem apprTo_is {R:RulesT} {kd:Nat→Nat} {g:Graph} (h:buildF R = some (kd,g)):∀ k,k ≤ g.rule.length→ApprIs kd g (apprTo (weaveF kd g) k)∧(apprTo (weaveF kd g) k).found.getD 0 false = true∧∀ j i b:Nat,i < k→b < 256→nextF kd g (i:Int) (b:Int) = (j:Int)→(apprTo (weaveF kd g) k).found.getD j false = true
 | 0,_=>by
  have hG:=build_lexG h
  have hpos:=hG.pos
  have htl:(weaveF kd g).token.length = g.rule.length:=by simp [weaveF,tokenF_len]
  have hrep:∀ q n,(List.replicate n noStr).getD q noStr = noStr:=fun q n=>by
   rw [List.getD_eq_getElem?_getD,List.getElem?_replicate]
   split <;> rfl
  have h0:∀ q,(appr0 g.rule.length).found.getD q false = true→q = 0:=fun q hq=>by
   unfold appr0 at hq
   rw [getD_setB'] at hq
   split at hq
   ·rename_i e; exact e.1.symm
   ·rw [List.getD_eq_getElem?_getD,List.getElem?_replicate] at hq
    split at hq <;> cases hq
  show ApprIs kd g (appr0 (weaveF kd g).token.length)∧(appr0 (weaveF kd g).token.length).found.getD 0 false = true∧_
  rw [htl]
  refine ⟨⟨by simp [appr0],by simp [appr0],by simp [appr0],fun q hq=>?_,fun q hq _=>?_⟩,?_,fun j i b hi=>by omega⟩
  ·have e:=h0 q hq
   subst e
   show AtText kd g (bytesN ((List.replicate g.rule.length noStr).getD 0 noStr)) (bytesN ((List.replicate g.rule.length noStr).getD 0 noStr)) 0
   rw [hrep]
   exact AtText.zero kd g
  ·exact hrep q _
  ·unfold appr0
   rw [getD_setB',if_pos ⟨rfl,by simp; exact hpos⟩]
 |k + 1,hk=>by
  have hG:=build_lexG h
  have hi:=hG.stepsIn
  obtain ⟨a1,a2,a3⟩:=apprTo_is h k (by omega)
  have hfk:(apprTo (weaveF kd g) k).found.getD k false = true:=by
   by_cases e:k = 0
   ·rw [e] at a2 ⊢; exact a2
   ·obtain ⟨i,b,h1,h2,h3⟩:=build_reach h (j:=k) (by omega) (by omega)
    exact a3 k i b h1 h2 h3
  have e1:(weaveF kd g).steps.getD k [] = stepsF kd g k:=by
   have:k < g.rule.length:=by omega
   simp [weaveF,stepsTo,this]
  have hl:∀ t ∈ stepsF kd g k,t.b < 256∧nextF kd g (k:Int) (t.b:Int) = (t.q:Int)∧t.q < g.rule.length:=fun t ht=>by
   obtain ⟨h1,h2⟩:=stepsF_from hi k t ht
   have:=hi (k:Int) (t.b:Int)
   exact ⟨h1,h2,by omega⟩
  obtain ⟨s1,s2,s3⟩:=apprSteps_is hG (state:=k) (by omega) (stepsF kd g k) (apprTo (weaveF kd g) k) hl a1 hfk a2
  have e2:apprTo (weaveF kd g) (k + 1) = (stepsF kd g k).foldl (apprStep (weaveF kd g) k) (apprTo (weaveF kd g) k):=by
   show apprRow (weaveF kd g) k (apprTo (weaveF kd g) k) = _
   unfold apprRow
   rw [e1]
  rw [e2]
  refine ⟨s1,s3 _ a2,fun j i b h1 h2 h3=>?_⟩
  by_cases e:i < k
  ·exact s3 _ (a3 j i b e h2 h3)
  ·have:i = k:=by omega
   subst this
   obtain ⟨t,g1,g2⟩:=stepsF_all hi i b h2 (by rw [h3]; omega)
   have:=s2 t g1
   rw [g2,h3,Int.toNat_natCast] at this
   exact this
theorem approach_is {R:RulesT} {kd:Nat→Nat} {g:Graph} (h:buildF R = some (kd,g)) {q:Nat} (hq:q < g.rule.length) :
  AtText kd g (bytesN (approachF (weaveF kd g) q).1) (bytesN (approachF (weaveF kd g) q).2) q∧(ruleOfF g (q:Int) ≠ -1∨q = 0→(approachF (weaveF kd g) q).2 = noStr):=by
 have hl:(weaveF kd g).steps.length = g.rule.length:=by simp [weaveF,stepsTo]
 obtain ⟨a1,a2,a3⟩:=apprTo_is h g.rule.length (Nat.le_refl _)
 have hf:(apprTo (weaveF kd g) g.rule.length).found.getD q false = true:=by
  by_cases e:q = 0
  ·rw [e]; exact a2
  ·obtain ⟨i,b,h1,h2,h3⟩:=build_reach h (j:=q) (by omega) hq
   exact a3 q i b (by omega) h2 h3
 unfold approachF
 rw [hl]
 exact ⟨a1.is q hf,a1.tok q hf⟩
theorem into_weave {kd:Nat→Nat} {g:Graph} (hi:StepsIn kd g) {s:Nat} (hs:s < g.rule.length) {m:List Bool} (h:leadsInto (weaveF kd g) m s = true):∃ t:StepT,intoF ((weaveF kd g).steps.getD s []) m = some t∧t.b < 256∧nextF kd g (s:Int) (t.b:Int) = (t.q:Int)∧t.q < g.rule.length∧m.getD t.q false = true:=by
 unfold leadsInto at h
 rw [Option.isSome_iff_exists] at h
 obtain ⟨t,ht⟩:=h
 have h1:=List.mem_of_find?_eq_some ht
 have h2:=List.find?_some ht
 have e:(weaveF kd g).steps.getD s [] = stepsF kd g s:=by simp [weaveF,stepsTo,hs]
 rw [e] at h1
 obtain ⟨h3,h4⟩:=stepsF_from hi s t h1
 have hin:=hi (s:Int) (t.b:Int)
 rw [h4] at hin
 exact ⟨t,ht,h3,h4,by omega,h2⟩
theorem layer_succ {kd:Nat→Nat} {g:Graph} {d s:Nat} (hs:s < g.rule.length) (h:(layerAt (weaveF kd g) (d + 1)).getD s false = true):leadsInto (weaveF kd g) (layerAt (weaveF kd g) d) s = true∧ruleOfF g (s:Int) = -1:=by
 have hlen:s < (weaveF kd g).token.length:=by simp [weaveF,tokenF_len,hs]
 have h':(layerF (weaveF kd g) (layerAt (weaveF kd g) d)).getD s false = true:=h
 have e:(layerF (weaveF kd g) (layerAt (weaveF kd g) d)).getD s false = (leadsInto (weaveF kd g) (layerAt (weaveF kd g) d) s && !((weaveF kd g).token.getD s false)):=by
  unfold layerF
  simp [hlen]
 rw [e,Bool.and_eq_true,weave_token kd g hs] at h'
 exact ⟨h'.1,by simpa using h'.2⟩
structure WalkIs (kd:Nat→Nat) (g:Graph) (d at_:Nat) (T V:List Nat):Prop where
 tl:T.length = d
 vl:V.length = d
 byte:∀ b ∈ T,b < 256
 into:∀ k,k ≤ d→(at_ :: V).getD k 0 < g.rule.length
 run:∀ k,k ≤ d→runK g (at_:Int) ((T.take k).map kd) = (((at_ :: V).getD k 0:Nat):Int)
 non:∀ k,0 < k→k < d→ruleOfF g (((at_ :: V).getD k 0:Nat):Int) = -1
 tok:0 < d→ruleOfF g (((at_ :: V).getD d 0:Nat):Int) ≠ -1
theorem walkD_is {kd:Nat→Nat} {g:Graph} (hg:LexG kd g) (LL:List (List Bool)):∀ (d at_:Nat) (vis:List Nat) (t:ByteArray),at_ < g.rule.length→(∀ d',d' < d→LL.getD d' [] = layerAt (weaveF kd g) d')→(0 < d→leadsInto (weaveF kd g) (layerAt (weaveF kd g) (d - 1)) at_ = true) →
  ∃ T V,walkD (weaveF kd g) LL d at_ vis t = (vis ++ V,t ++ bytesOf T)∧WalkIs kd g d at_ T V
 | 0,at_,vis,t,ha,hL,h=>by
  refine ⟨[],[],?_,rfl,rfl,by simp,fun k hk=>?_,fun k hk=>?_,fun k h1 h2=>by omega,fun h1=>by omega⟩
  ·show (vis,t) = (vis ++ [],t ++ bytesOf [])
   rw [List.append_nil]
   congr 1
   apply ByteArray.ext
   simp [bytesOf]
  ·have:k = 0:=by omega
   subst this; exact ha
  ·have:k = 0:=by omega
   subst this; rfl
 |d + 1,at_,vis,t,ha,hL,h=>by
  have hi:=hg.stepsIn
  have h1:=h (by omega)
  rw [Nat.add_sub_cancel] at h1
  obtain ⟨s,s1,s2,s3,s4,s5⟩:=into_weave hi ha h1
  obtain ⟨T,V,e,w⟩:=walkD_is hg LL d s.q (vis ++ [s.q]) (t ++ bytesOf [s.b]) s4 (fun d' hd'=>hL d' (by omega)) (fun hd=>by
   obtain ⟨d1,rfl⟩:∃ d1,d = d1 + 1:=⟨d - 1,by omega⟩
   exact (layer_succ s4 s5).1)
  have hrun:∀ k,k ≤ d→runK g (at_:Int) (((s.b :: T).take (k + 1)).map kd) = (((s.q :: V).getD k 0:Nat):Int):=fun k hk=>by
   rw [List.take_succ_cons,List.map_cons]
   show runK g (stepK g (at_:Int) (kd s.b)) _ = _
   rw [← nextF_step hg ha s2,s3]
   exact w.run k hk
  refine ⟨s.b :: T,s.q :: V,?_,by simp [w.tl],by simp [w.vl],fun b hb=>?_,fun k hk=>?_,fun k hk=>?_,fun k k0 k1=>?_,fun _=>?_⟩
  ·unfold walkD
   rw [hL d (by omega),s1]
   simp only
   rw [e,List.append_assoc,List.singleton_append,ByteArray.append_assoc,bytesOf_append,List.singleton_append]
  ·rw [List.mem_cons] at hb
   rcases hb with rfl | hb
   ·exact s2
   ·exact w.byte b hb
  ·cases k with
   |zero=>exact ha
   |succ k=>exact w.into k (by omega)
  ·cases k with
   |zero=>rfl
   |succ k=>exact hrun k (by omega)
  ·cases k with
   |zero=>omega
   |succ k =>
    show ruleOfF g (((s.q :: V).getD k 0:Nat):Int) = -1
    by_cases hk:k = 0
    ·subst hk
     obtain ⟨d1,rfl⟩:∃ d1,d = d1 + 1:=⟨d - 1,by omega⟩
     exact (layer_succ s4 s5).2
    ·exact w.non k (by omega) (by omega)
  ·show ruleOfF g (((s.q :: V).getD d 0:Nat):Int) ≠ -1
   by_cases hd:d = 0
   ·subst hd
    have h9:(weaveF kd g).token.getD s.q false = true:=s5
    rw [weave_token kd g s4] at h9
    show ruleOfF g (s.q:Int) ≠ -1
    exact of_decide_eq_true h9
   ·exact w.tok (by omega)
theorem bytesN_of {T:List Nat} (h:∀ b ∈ T,b < 256):bytesN (bytesOf T) = T:=by
 unfold bytesN bytesOf
 rw [List.map_map]
 conv=>rhs; rw [← List.map_id T]
 refine List.map_congr_left (fun b hb=>?_)
 have:=h b hb
 simp
 omega
structure PairIs (kd:Nat→Nat) (g:Graph) (u T:List Nat):Prop where
 byte:∀ b ∈ u ++ T,b < 256
 fr:u = []∨accK g (runK g 0 (u.map kd)) ≠ -1
 tt:accK g (runK g 0 ((u ++ T).map kd)) ≠ -1
 non:∀ k,0 < k→k < T.length→accK g (runK g 0 ((u ++ T.take k).map kd)) = -1
theorem AtText.walk {kd:Nat→Nat} {g:Graph} {u:List Nat} {s d:Nat} {T V:List Nat} (h:AtText kd g u [] s) (w:WalkIs kd g d s T V) (hd:0 < d):PairIs kd g u T:=by
 have hu:runK g 0 (u.map kd) = (s:Int):=by have:=h.run; rwa [List.append_nil] at this
 have hrun:∀ k,k ≤ d→runK g 0 ((u ++ T.take k).map kd) = (((s :: V).getD k 0:Nat):Int):=fun k hk=>by
  rw [List.map_append,runK_app,hu]
  exact w.run k hk
 refine ⟨fun b hb=>?_,h.tokn,?_,fun k k0 k1=>?_⟩
 ·rw [List.mem_append] at hb
  rcases hb with hb | hb
  ·exact h.byte b (by simp [hb])
  ·exact w.byte b hb
 ·have e:=hrun d (Nat.le_refl _)
  rw [List.take_of_length_le (by rw [w.tl]; exact Nat.le_refl _)] at e
  rw [e,← ruleOf_acc (w.into d (Nat.le_refl _))]
  exact w.tok hd
 ·rw [w.tl] at k1
  rw [hrun k (by omega),← ruleOf_acc (w.into k (by omega))]
  exact w.non k k0 k1
theorem bounded_pair {R:RulesT} {kd:Nat→Nat} {g:Graph} (h:buildF R = some (kd,g)) (hf:LexFit kd g) (hk:0 < (boundedF (weaveF kd g) (layersF (weaveF kd g) g.rule.length)).k) :
  ∃ T,T.length = (boundedF (weaveF kd g) (layersF (weaveF kd g) g.rule.length)).k∧(boundedF (weaveF kd g) (layersF (weaveF kd g) g.rule.length)).tt = (boundedF (weaveF kd g) (layersF (weaveF kd g) g.rule.length)).fr ++ bytesOf T∧PairIs kd g (bytesN (boundedF (weaveF kd g) (layersF (weaveF kd g) g.rule.length)).fr) T:=by
 have hG:=build_lexG h
 unfold boundedF at hk ⊢
 simp only [layersF_len] at hk ⊢
 rcases farD_is (weaveF kd g) (layersF (weaveF kd g) g.rule.length) g.rule.length with e | ⟨h1,h2,h3,h4⟩
 ·omega
 ·generalize farD (weaveF kd g) (layersF (weaveF kd g) g.rule.length) g.rule.length = r at *
  have hs:r.1 < g.rule.length:=by simpa [weaveF,tokenF_len] using h3
  rw [layersF_get _ _ _ (by omega)] at h4
  unfold farStop at h4
  rw [Bool.and_eq_true,weave_token kd g hs] at h4
  obtain ⟨h5,h6⟩:=h4
  have h6':ruleOfF g (r.1:Int) ≠ -1∨r.1 = 0:=by simpa using h6
  obtain ⟨a1,a2⟩:=approach_is h hs
  rw [a2 h6'] at a1
  have hl:((layersF (weaveF kd g) g.rule.length).take r.2).length = r.2:=by rw [List.length_take,layersF_len]; omega
  obtain ⟨T,V,e,w⟩:=walkD_is hG ((layersF (weaveF kd g) g.rule.length).take r.2) r.2 r.1 [r.1] ⟨#[]⟩ hs (fun d' hd'=>by
   rw [List.getD_eq_getElem?_getD,List.getElem?_take,if_pos hd',← List.getD_eq_getElem?_getD,layersF_get _ _ _ (by omega)]) (fun _=>h5)
  have ew:(walkW (weaveF kd g) ((layersF (weaveF kd g) g.rule.length).take r.2) r.1).2 = bytesOf T:=by
   unfold walkW
   rw [hl,e]
   apply ByteArray.ext
   simp
  exact ⟨T,w.tl,by rw [ew],AtText.walk a1 w hk⟩
theorem AtText.seg {kd:Nat→Nat} {g:Graph} {u rest W:List Nat} {v v':Nat} (h:AtText kd g u rest v) (hb:∀ b ∈ W,b < 256) (hr:runK g (v:Int) (W.map kd) = (v':Int)) (hn:∀ k,0 < k→k ≤ W.length→accK g (runK g (v:Int) ((W.take k).map kd)) = -1):AtText kd g u (rest ++ W) v':=by
 refine ⟨fun b hx=>?_,h.tokn,?_,fun k k0 k1=>?_⟩
 ·rw [← List.append_assoc,List.mem_append] at hx
  rcases hx with hx | hx
  ·exact h.byte b hx
  ·exact hb b hx
 ·rw [← List.append_assoc,List.map_append,runK_app,h.run]
  exact hr
 ·by_cases hk:k ≤ rest.length
  ·rw [List.take_append_of_le_length hk]
   exact h.non k k0 hk
  ·rw [List.take_append,List.take_of_length_le (by omega),← List.append_assoc,List.map_append,runK_app,h.run]
   rw [List.length_append] at k1
   exact hn (k - rest.length) (by omega) (by omega)
theorem AtText.turns {kd:Nat→Nat} {g:Graph} {u rest W:List Nat} {v:Nat} (h:AtText kd g u rest v) (hb:∀ b ∈ W,b < 256) (hr:runK g (v:Int) (W.map kd) = (v:Int)) (hn:∀ k,0 < k→k ≤ W.length→accK g (runK g (v:Int) ((W.take k).map kd)) = -1):∀ i,AtText kd g u (rest ++ (List.replicate i W).flatten) v
 | 0=>by simpa using h
 |i + 1=>by
  have ih:=AtText.turns h hb hr hn i
  have:=ih.seg hb hr hn
  rw [List.append_assoc] at this
  rw [List.replicate_succ',List.flatten_append]
  simpa using this
theorem AtText.tail {kd:Nat→Nat} {g:Graph} {u rest W:List Nat} {v:Nat} (h:AtText kd g u rest v) (hb:∀ b ∈ W,b < 256) (ht:accK g (runK g (v:Int) (W.map kd)) ≠ -1) (hn:∀ k,0 < k→k < W.length→accK g (runK g (v:Int) ((W.take k).map kd)) = -1):PairIs kd g u (rest ++ W):=by
 refine ⟨fun b hx=>?_,h.tokn,?_,fun k k0 k1=>?_⟩
 ·rw [← List.append_assoc,List.mem_append] at hx
  rcases hx with hx | hx
  ·exact h.byte b hx
  ·exact hb b hx
 ·rw [← List.append_assoc,List.map_append,runK_app,h.run]
  exact ht
 ·by_cases hk:k ≤ rest.length
  ·rw [List.take_append_of_le_length hk]
   exact h.non k k0 hk
  ·rw [List.take_append,List.take_of_length_le (by omega),← List.append_assoc,List.map_append,runK_app,h.run]
   rw [List.length_append] at k1
   exact hn (k - rest.length) (by omega) (by omega)
theorem WalkIs.piece {kd:Nat→Nat} {g:Graph} {d s:Nat} {T V:List Nat} (w:WalkIs kd g d s T V) {a k:Nat} (ha:a + k ≤ d):runK g (((s :: V).getD a 0:Nat):Int) (((T.drop a).take k).map kd) = (((s :: V).getD (a + k) 0:Nat):Int):=by
 rw [← w.run a (by omega),← runK_app,← List.map_append,← List.take_add]
 exact w.run (a + k) ha
theorem repeatF_is {vis:List Nat} {n:Nat} (h:∀ x ∈ vis,x < n) (hl:n < vis.length):(repeatF vis).1 < (repeatF vis).2∧(repeatF vis).2 < vis.length∧vis.getD (repeatF vis).1 0 = vis.getD (repeatF vis).2 0:=by
 unfold repeatF
 split
 ·rename_i hn
  exfalso
  rw [List.find?_eq_none] at hn
  have hnd:vis.Nodup:=by
   rw [List.Nodup,List.pairwise_iff_getElem]
   intro i j hi hj hij e
   have h1:=hn j (by simp [hj])
   apply h1
   unfold wasAt
   rw [List.find?_isSome]
   exact ⟨i,by simp [hij],by simp [hi,hj,e]⟩
  have:=nodup_len n vis hnd h
  omega
 ·rename_i s hs
  have h1:=List.mem_of_find?_eq_some hs
  have h2:=List.find?_some hs
  have h3:s < vis.length:=by simpa using h1
  rw [Option.isSome_iff_exists] at h2
  obtain ⟨f,hf⟩:=h2
  have h4:=wasAt_lt hf
  have h5:=List.find?_some hf
  rw [hf]
  exact ⟨h4,h3,by simpa using h5⟩
theorem bytesN_extract (x:ByteArray) (a b:Nat):bytesN (x.extract a b) = ((bytesN x).drop a).take (b - a):=by
 simp [bytesN,ByteArray.data_extract,Array.toList_extract,List.extract,List.map_take,List.map_drop]
theorem endless_pair {R:RulesT} {kd:Nat→Nat} {g:Graph} (h:buildF R = some (kd,g)) {s:Nat} (hs:s < g.rule.length) (hl:(layerAt (weaveF kd g) g.rule.length).getD s false = true) (i:Nat) :
  PairIs kd g (bytesN (endlessF (weaveF kd g) (layersF (weaveF kd g) g.rule.length) s).fr) (bytesN (endlessF (weaveF kd g) (layersF (weaveF kd g) g.rule.length) s).lead ++ (List.replicate i (bytesN (endlessF (weaveF kd g) (layersF (weaveF kd g) g.rule.length) s).lp)).flatten ++ bytesN (endlessF (weaveF kd g) (layersF (weaveF kd g) g.rule.length) s).tail) ∧
  0 < (endlessF (weaveF kd g) (layersF (weaveF kd g) g.rule.length) s).lp.size∧0 < (endlessF (weaveF kd g) (layersF (weaveF kd g) g.rule.length) s).tail.size:=by
 have hG:=build_lexG h
 have hpos:=hG.pos
 obtain ⟨n1,hn1⟩:∃ n1,g.rule.length = n1 + 1:=⟨g.rule.length - 1,by omega⟩
 have hl':=hl
 rw [hn1] at hl'
 obtain ⟨h5,h6⟩:=layer_succ hs hl'
 obtain ⟨T,V,e,w⟩:=walkD_is hG (layersF (weaveF kd g) g.rule.length) g.rule.length s [s] ⟨#[]⟩ hs (fun d' hd'=>layersF_get _ _ _ hd') (fun _=>by rw [hn1]; exact h5)
 have ew:walkW (weaveF kd g) (layersF (weaveF kd g) g.rule.length) s = (s :: V,bytesOf T):=by
  unfold walkW
  rw [layersF_len,e]
  congr 1
 unfold endlessF
 rw [ew]
 simp only
 have hvis:∀ x ∈ s :: V,x < g.rule.length:=fun x hx=>by
  obtain ⟨k,hk,e9⟩:=List.getElem_of_mem hx
  have:=w.into k (by have:=w.vl; simp at hk; omega)
  rw [List.getD_eq_getElem?_getD,List.getElem?_eq_getElem hk] at this
  rw [← e9]
  exact this
 obtain ⟨r1,r2,r3⟩:=repeatF_is hvis (by rw [List.length_cons,w.vl]; omega)
 generalize repeatF (s :: V) = r at *
 have hvl:=w.vl
 rw [List.length_cons] at r2
 have hnon:∀ k,k < g.rule.length→ruleOfF g (((s :: V).getD k 0:Nat):Int) = -1:=fun k hk=>by
  by_cases e:k = 0
  ·subst e; exact h6
  ·exact w.non k (by omega) hk
 have hb:r.2 < g.rule.length:=by
  refine Nat.lt_of_le_of_ne (by omega) fun e=>?_
  have:=w.tok hpos
  rw [← e,← r3] at this
  exact this (hnon r.1 (by omega))
 obtain ⟨a1,_⟩:=approach_is h (w.into r.1 (by omega))
 have hTb:=bytesN_of w.byte
 have htl:=w.tl
 have hsz:(bytesOf T).size = g.rule.length:=by rw [bytesOf_size,htl]
 rw [bytesN_extract,bytesN_extract,hTb,hsz]
 have hloop:∀ k,k ≤ r.2 - r.1→runK g (((s :: V).getD r.1 0:Nat):Int) ((((T.drop r.1).take (r.2 - r.1)).take k).map kd) = (((s :: V).getD (r.1 + k) 0:Nat):Int):=fun k hk=>by
  rw [List.take_take,Nat.min_eq_left hk]
  exact w.piece (by omega)
 have hll:((T.drop r.1).take (r.2 - r.1)).length = r.2 - r.1:=by simp [htl]; omega
 have htlen:((T.drop r.2).take (g.rule.length - r.2)).length = g.rule.length - r.2:=by simp [htl]
 have hbL:∀ b ∈ (T.drop r.1).take (r.2 - r.1),b < 256:=fun b hx=>w.byte b (List.mem_of_mem_drop (List.mem_of_mem_take hx))
 have hbT:∀ b ∈ (T.drop r.2).take (g.rule.length - r.2),b < 256:=fun b hx=>w.byte b (List.mem_of_mem_drop (List.mem_of_mem_take hx))
 have htail:∀ k,k ≤ g.rule.length - r.2→runK g (((s :: V).getD r.1 0:Nat):Int) ((((T.drop r.2).take (g.rule.length - r.2)).take k).map kd) = (((s :: V).getD (r.2 + k) 0:Nat):Int):=fun k hk=>by
  rw [List.take_take,Nat.min_eq_left hk,r3]
  exact w.piece (by omega)
 have t1:=AtText.turns a1 hbL (by
  have:=hloop (r.2 - r.1) (Nat.le_refl _)
  rw [List.take_of_length_le (by rw [hll]; exact Nat.le_refl _),show r.1 + (r.2 - r.1) = r.2 by omega,← r3] at this
  exact this) (fun k k0 k1=>by
  rw [hll] at k1
  rw [hloop k k1,← ruleOf_acc (w.into (r.1 + k) (by omega))]
  exact hnon _ (by omega)) i
 refine ⟨t1.tail hbT ?_ (fun k k0 k1=>?_),?_,?_⟩
 ·have:=htail (g.rule.length - r.2) (Nat.le_refl _)
  rw [List.take_of_length_le (by rw [htlen]; exact Nat.le_refl _),show r.2 + (g.rule.length - r.2) = g.rule.length by omega] at this
  rw [this,← ruleOf_acc (w.into _ (Nat.le_refl _))]
  exact w.tok hpos
 ·rw [htlen] at k1
  rw [htail k (by omega),← ruleOf_acc (w.into (r.2 + k) (by omega))]
  exact hnon _ (by omega)
 ·rw [← bytesN_len,bytesN_extract,hTb,hll]
  omega
 ·rw [← bytesN_len,bytesN_extract,hTb,htlen]
  omega
def FwdT (kd:Nat→Nat) (g:Graph) (s:Int):Nat→Int→Prop
 | 0,u=>u = s
 |k + 1,u=>∃ m,FwdT kd g s k m∧∃ b:Nat,b < 256∧nextF kd g m (b:Int) = u∧u ≠ -1∧ruleOfF g u = -1
theorem fwd_lead {kd:Nat→Nat} {g:Graph} {s:Int}:∀ (k d:Nat) (m:Int),FwdT kd g s k m→LeadT kd g d m→LeadT kd g (d + k) s
 | 0,d,m,h,hl=>by
  have e:m = s:=h
  rw [← e]
  exact hl
 |k + 1,d,m,⟨m',h1,b,h2,h3,h4,h5⟩,hl=>by
  have hl':LeadT kd g (d + 1) m':=⟨b,h2,by rw [h3]; exact h4,by rw [h3]; exact ⟨h5,hl⟩⟩
  have:=fwd_lead k (d + 1) m' h1 hl'
  rw [show d + (k + 1) = d + 1 + k by omega]
  exact this
theorem fwd_cons {kd:Nat→Nat} {g:Graph} {s s1:Int} {b:Nat} (hb:b < 256) (hn:nextF kd g s (b:Int) = s1) (h1:s1 ≠ -1) (hr:ruleOfF g s1 = -1):∀ (k:Nat) (m:Int),FwdT kd g s1 k m→FwdT kd g s (k + 1) m
 | 0,m,h=>by
  have e:m = s1:=h
  subst e
  exact ⟨s,rfl,b,hb,hn,h1,hr⟩
 |k + 1,m,⟨m',g1,g2⟩=>⟨m',fwd_cons hb hn h1 hr k m' g1,g2⟩
theorem lead_fwd {kd:Nat→Nat} {g:Graph}:∀ (d:Nat) (s:Int),LeadT kd g d s→∃ m,FwdT kd g s d m∧∃ b:Nat,b < 256∧nextF kd g m (b:Int) ≠ -1∧ruleOfF g (nextF kd g m (b:Int)) ≠ -1
 | 0,s,⟨b,h1,h2,h3⟩=>⟨s,rfl,b,h1,h2,h3⟩
 |d + 1,s,⟨b,h1,h2,h3⟩=>by
  obtain ⟨h4,h5⟩:ruleOfF g (nextF kd g s (b:Int)) = -1∧LeadT kd g d (nextF kd g s (b:Int)):=h3
  obtain ⟨m,g1,g2⟩:=lead_fwd d _ h5
  exact ⟨m,fwd_cons h1 rfl h2 h4 d m g1,g2⟩
theorem next_far {R:RulesT} {kd:Nat→Nat} {g:Graph} (h:buildF R = some (kd,g)) {s:Int} {b:Nat} (hb:b < 256) (hn:nextF kd g s (b:Int) ≠ -1):∃ d,FarT kd g d (nextF kd g s (b:Int)):=by
 have hG:=build_lexG h
 have hs:¬ (s < 0∨(g.next.length:Int) ≤ s∨(b:Int) < 0∨256 ≤ (b:Int)):=fun e=>hn (by unfold nextF; rw [if_pos e])
 have hlen:=hG.len
 obtain ⟨j,rfl⟩:∃ j:Nat,s = (j:Int):=⟨s.toNat,by omega⟩
 have hj:j < g.rule.length:=by omega
 have hkd:kd = kindOf R.allow:=by obtain ⟨_,_,e,_⟩:=buildF_some h; exact e
 have hk:=(kindOf_get R.allow b 256 hb).1
 rw [nextF_step hG hj hb] at hn ⊢
 rcases hG.step j b hj hb with e | ⟨j',e,hj'⟩
 ·exact absurd e hn
 ·rw [e]
  rw [hkd] at e
  obtain ⟨ks,g1,g2⟩:=build_lives h hj hk e
  exact lives_far h ks j' g1 hj' g2
theorem fwd_far {R:RulesT} {kd:Nat→Nat} {g:Graph} (h:buildF R = some (kd,g)) {s u:Int} {k:Nat} (hf:FwdT kd g s (k + 1) u):∃ d,k + 1 ≤ d∧LeadT kd g d s:=by
 have hf':=hf
 obtain ⟨m,h1,b,h2,h3,h4,h5⟩:=hf
 obtain ⟨d,hd⟩:=next_far h h2 (by rw [h3]; exact h4)
 rw [h3] at hd
 cases d with
 |zero=>exact absurd h5 hd
 |succ d =>
  obtain ⟨_,hl⟩:ruleOfF g u = -1∧LeadT kd g d u:=hd
  exact ⟨d + (k + 1),by omega,fwd_lead (k + 1) d u hf' hl⟩
theorem fwd_near {R:RulesT} {kd:Nat→Nat} {g:Graph} (h:buildF R = some (kd,g)) (hf:LexFit kd g) (hb:(gapOf kd g).bounded = true) {s:Nat} (hs:s < g.rule.length) (ht:ruleOfF g (s:Int) ≠ -1∨s = 0) {u:Int} {k:Nat} (hw:FwdT kd g (s:Int) (k + 1) u):k + 1 < (gapOf kd g).k:=by
 obtain ⟨d,h1,h2⟩:=fwd_far h hw
 have:=lead_near hf hb hs ht h2
 omega
theorem runK_neg (g:Graph) (ks:List Nat):runK g (-1) ks = -1:=by
 rw [runK_dead g ks (-1) (by omega)]
 split <;> rfl
theorem run_in {kd:Nat→Nat} {g:Graph} (hG:LexG kd g):∀ (L:List Nat) (s:Nat),(∀ b ∈ L,b < 256)→s < g.rule.length→runK g (s:Int) (L.map kd) = -1∨∃ j:Nat,j < g.rule.length∧runK g (s:Int) (L.map kd) = (j:Int)
 | [],s,_,hs=>.inr ⟨s,hs,rfl⟩
 |b :: L,s,hb,hs=>by
  have e:runK g (s:Int) ((b :: L).map kd) = runK g (stepK g (s:Int) (kd b)) (L.map kd):=rfl
  rw [e]
  rcases hG.step s b hs (hb b (by simp)) with e1 | ⟨j,e1,hj⟩
  ·rw [e1]; exact .inl (runK_neg g _)
  ·rw [e1]; exact run_in hG L j (fun x hx=>hb x (by simp [hx])) hj
theorem pair_fwd {kd:Nat→Nat} {g:Graph} (hG:LexG kd g) {u W:List Nat} (h:PairIs kd g u W) {s:Nat} (hs:s < g.rule.length) (hu:runK g 0 (u.map kd) = (s:Int)):∀ k,k < W.length→FwdT kd g (s:Int) k (runK g (s:Int) ((W.take k).map kd))∧∃ j:Nat,j < g.rule.length∧runK g (s:Int) ((W.take k).map kd) = (j:Int)
 | 0,_=>⟨rfl,s,hs,rfl⟩
 |k + 1,hk=>by
  obtain ⟨ih,j,hj,ej⟩:=pair_fwd hG h hs hu k (by omega)
  have hbW:∀ b ∈ W,b < 256:=fun b hb=>h.byte b (by simp [hb])
  have hb:W[k] < 256:=hbW _ (List.getElem_mem _)
  have e1:W.take (k + 1) = W.take k ++ [W[k]]:=(List.take_append_getElem (by omega)).symm
  have e2:runK g (s:Int) ((W.take (k + 1)).map kd) = nextF kd g (j:Int) (W[k]:Int):=by
   rw [e1,List.map_append,runK_app,ej,nextF_step hG hj hb]
   rfl
  have hall:accK g (runK g (s:Int) (W.map kd)) ≠ -1:=by
   have:=h.tt
   rw [List.map_append,runK_app,hu] at this
   exact this
  rcases run_in hG (W.take (k + 1)) s (fun b hx=>hbW b (List.mem_of_mem_take hx)) hs with e3 | ⟨j',hj',e3⟩
  ·exfalso
   apply hall
   have e4:W.map kd = (W.take (k + 1)).map kd ++ (W.drop (k + 1)).map kd:=by rw [← List.map_append,List.take_append_drop]
   rw [e4,runK_app,e3,runK_neg]
   rfl
  ·refine ⟨⟨_,ih,W[k],hb,by rw [ej,e2],by rw [e3]; omega,?_⟩,j',hj',e3⟩
   have:=h.non (k + 1) (by omega) hk
   rw [List.map_append,runK_app,hu,e3,← ruleOf_acc hj'] at this
   rw [e3]
   exact this
theorem endless_fwd {R:RulesT} {kd:Nat→Nat} {g:Graph} (h:buildF R = some (kd,g)) (hb:(gapOf kd g).bounded = false):∃ s:Nat,s < g.rule.length∧(ruleOfF g (s:Int) ≠ -1∨s = 0)∧∀ k,∃ u:Nat,u < g.rule.length∧FwdT kd g (s:Int) k (u:Int):=by
 have hG:=build_lexG h
 unfold gapOf at hb
 split at hb
 ·rename_i s0 hs0
  have h1:=List.mem_of_find?_eq_some hs0
  have h2:s0 < g.rule.length:=by simpa using h1
  have h3:=List.find?_some hs0
  have hp:=fun i=>endless_pair h h2 h3 i
  generalize endlessF (weaveF kd g) (layersF (weaveF kd g) g.rule.length) s0 = E at hp
  have hp0:=(hp 0).1
  have hbu:∀ b ∈ bytesN E.fr,b < 256:=fun b hx=>hp0.byte b (by simp [hx])
  obtain ⟨s,hs,es⟩:∃ s:Nat,s < g.rule.length∧runK g 0 ((bytesN E.fr).map kd) = (s:Int):=by
   rcases run_in hG (bytesN E.fr) 0 hbu hG.pos with e | e
   ·exfalso
    have:=hp0.tt
    rw [List.map_append,runK_app] at this
    have e':runK g 0 ((bytesN E.fr).map kd) = -1:=e
    rw [e',runK_neg] at this
    exact this rfl
   ·obtain ⟨s,h5,h6⟩:=e
    exact ⟨s,h5,h6⟩
  refine ⟨s,hs,?_,fun k=>?_⟩
  ·rcases hp0.fr with e | e
   ·right
    rw [e] at es
    have:(0:Int) = (s:Int):=es
    omega
   ·left
    rw [es,← ruleOf_acc hs] at e
    exact e
  ·obtain ⟨p,q1,q2⟩:=hp (k + 1)
   have hl:k < (bytesN E.lead ++ (List.replicate (k + 1) (bytesN E.lp)).flatten ++ bytesN E.tail).length:=by
    have:(List.replicate (k + 1) (bytesN E.lp)).flatten.length = (k + 1) * E.lp.size:=by simp [bytesN_len]
    rw [List.length_append,List.length_append,this]
    have:(k + 1) * 1 ≤ (k + 1) * E.lp.size:=Nat.mul_le_mul_left _ q1
    omega
   obtain ⟨f1,j,f2,f3⟩:=pair_fwd hG p hs es k hl
   rw [f3] at f1
   exact ⟨j,f2,f1⟩
 ·simp [boundedF] at hb
end Go.Proofs.YtcckhngbdoiikaaGreat
