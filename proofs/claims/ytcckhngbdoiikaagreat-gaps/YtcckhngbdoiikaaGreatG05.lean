import Derived.Test.YtcckhngbdoiikaaGreatG04
import Derived.Test.YtcckhngbdoiikaaGreatG02
import Derived.Test.YtcckhngbdoiikaaGreatG03

namespace Go.Proofs.YtcckhngbdoiikaaGreat
set_option linter.unusedVariables false
inductive PT where
 |nil
 |bar (r:PT)
 |leaf (i e:Nat) (A:Nat→Bool) (m:Nat) (r:PT)
 |group (t:PT) (m:Nat) (r:PT)
def deadBT:BT:=.leaf 0 (fun _=>false)
def markBT (m:Nat) (t:BT):BT:=if m = 42 then .maybe (.plus t) else if m = 43 then .plus t else if m = 63 then .maybe t else t
def chainO:Option BT→BT→BT
 |none,x=>x
 |some c,x=>.row c x
def joinO:Option BT→BT→BT
 |none,x=>x
 |some c,x=>.or c x
def PT.bt:PT→Option BT→Option BT→BT
 | .nil,acc,cur=>joinO acc (cur.getD deadBT)
 | .bar r,acc,cur=>r.bt (some (joinO acc (cur.getD deadBT))) none
 | .leaf i e A m r,acc,cur=>r.bt acc (some (chainO cur (markBT m (.leaf i A))))
 | .group t m r,acc,cur=>r.bt acc (some (chainO cur (markBT m (t.bt none none))))
def MarkOk (s:ByteArray) (e m:Nat):Prop:=(m = 0∧peekI s e ≠ 42∧peekI s e ≠ 43∧peekI s e ≠ 63)∨((m = 42∨m = 43∨m = 63)∧peekI s e = (m:Int))
def stepM (m:Nat):Nat:=if m = 0 then 0 else 1
def PT.Sp (s:ByteArray):PT→Nat→Nat→Prop
 | .nil,i,j=>i = j
 | .bar r,i,j=>peekI s i = 124∧r.Sp s (i + 1) j
 | .leaf a e A m r,i,j=>a = i∧placeF s i = (A,true,e)∧peekI s i ≠ 40∧MarkOk s e m∧r.Sp s (e + stepM m) j
 | .group t m r,i,j=>peekI s i = 40∧∃ e,t.Sp s (i + 1) e∧peekI s e = 41∧MarkOk s (e + 1) m∧r.Sp s (e + 1 + stepM m) j
def PT.Ne:PT→Bool→Prop
 | .nil,c=>c = true
 | .bar r,c=>c = true∧r.Ne false
 | .leaf i e A m r,c=>r.Ne true
 | .group t m r,c=>t.Ne false∧r.Ne true
def ExSp (s:ByteArray) (ex:PFn):Prop:=∀ p R,(ex p R).ok = true→∃ t:PT,t.Sp s p (ex p R).at'∧t.Ne false∧(t.bt none none).glush R = ((ex p R).part,(ex p R).rules)
theorem mark_sp {s:ByteArray} {a:PRes} (hok:(markF s a).ok = true) (x:BT) {R:RulesT} (hx:x.glush R = (a.part,a.rules)) :
  a.ok = true∧∃ m,MarkOk s a.at' m∧(markF s a).at' = a.at' + stepM m∧(markBT m x).glush R = ((markF s a).part,(markF s a).rules):=by
 unfold markF at hok ⊢
 split at hok
 ·cases hok
 ·rename_i h0
  have h0':a.ok = true:=by cases e:a.ok <;> simp_all
  refine ⟨h0',?_⟩
  rw [if_neg h0]
  by_cases h1:peekI s a.at' = 42
  ·rw [if_pos h1]
   refine ⟨42,.inr ⟨.inl rfl,h1⟩,rfl,?_⟩
   simp [markBT,BT.glush,hx]
  ·rw [if_neg h1]
   by_cases h2:peekI s a.at' = 43
   ·rw [if_pos h2]
    refine ⟨43,.inr ⟨.inr (.inl rfl),h2⟩,rfl,?_⟩
    simp [markBT,BT.glush,hx]
   ·rw [if_neg h2]
    by_cases h3:peekI s a.at' = 63
    ·rw [if_pos h3]
     refine ⟨63,.inr ⟨.inr (.inr rfl),h3⟩,rfl,?_⟩
     simp [markBT,BT.glush,hx]
    ·rw [if_neg h3]
     exact ⟨0,.inl ⟨rfl,h1,h2,h3⟩,rfl,by simp [markBT,hx]⟩
structure PieceSp (s:ByteArray) (p q:Nat) (x:BT) (f:PT→PT):Prop where
 sp:∀ r j,r.Sp s q j→(f r).Sp s p j
 bt:∀ r acc cur,(f r).bt acc cur = r.bt acc (some (chainO cur x))
 ne:∀ r c,r.Ne true→(f r).Ne c
theorem piece_sp {s:ByteArray} {ex:PFn} (h:ExSp s ex) {p:Nat} {R:RulesT} (hok:(pieceF s ex p R).ok = true) :
  ∃ f x,PieceSp s p (pieceF s ex p R).at' x f∧x.glush R = ((pieceF s ex p R).part,(pieceF s ex p R).rules):=by
 unfold pieceF at hok ⊢
 have hok0:(atomF s ex p R).ok = true:=by
  unfold markF at hok
  split at hok
  ·cases hok
  ·rename_i h0; cases e:(atomF s ex p R).ok <;> simp_all
 by_cases h40:peekI s p = 40
 ·have ha:atomF s ex p R = groupF s ex p R:=by unfold atomF; rw [if_pos h40]
  rw [ha] at hok hok0 ⊢
  unfold groupF at hok0
  split at hok0
  ·rename_i hc
   have hg:groupF s ex p R = ⟨(ex (p + 1) R).part,true,(ex (p + 1) R).at' + 1,(ex (p + 1) R).rules⟩:=by unfold groupF; rw [if_pos hc]
   obtain ⟨t,t1,t2,t3⟩:=h (p + 1) R hc.1
   rw [hg] at hok ⊢
   obtain ⟨_,m,m1,m2,m3⟩:=mark_sp hok (t.bt none none) (R:=R) t3
   refine ⟨fun r=>.group t m r,markBT m (t.bt none none),⟨fun r j hr=>?_,fun r acc cur=>rfl,fun r c hr=>⟨t2,hr⟩⟩,m3⟩
   rw [m2] at hr
   exact ⟨h40,_,t1,hc.2,m1,hr⟩
  ·cases hok0
 ·unfold atomF at hok hok0 ⊢
  rw [if_neg h40] at hok hok0 ⊢
  by_cases hp:(placeF s p).2.1 = true
  ·rw [if_pos hp] at hok ⊢
   obtain ⟨_,m,m1,m2,m3⟩:=mark_sp hok (.leaf p (placeF s p).1) (R:=R) rfl
   refine ⟨fun r=>.leaf p (placeF s p).2.2 (placeF s p).1 m r,markBT m (.leaf p (placeF s p).1),⟨fun r j hr=>?_,fun r acc cur=>rfl,fun r c hr=>hr⟩,m3⟩
   rw [m2] at hr
   refine ⟨rfl,?_,h40,m1,hr⟩
   rw [← hp]
  ·rw [if_neg hp] at hok0
   cases hok0
structure PcsSp (s:ByteArray) (p q:Nat) (tc tc':BT) (f:PT→PT):Prop where
 sp:∀ r j,r.Sp s q j→(f r).Sp s p j
 bt:∀ r acc,(f r).bt acc (some tc) = r.bt acc (some tc')
 ne:∀ r,r.Ne true→(f r).Ne true
theorem altLoop_ok {s:ByteArray} {ex:PFn}:∀ (n:Nat) (r:PRes),(altLoopF s ex n r).ok = true→r.ok = true
 | 0,r,h=>h
 |n + 1,r,h=>by
  unfold altLoopF at h
  split at h
  ·rename_i hc; exact hc.1
  ·exact h
theorem altLoop_sp {s:ByteArray} {ex:PFn} (h:ExSp s ex) {Rc:RulesT}:∀ (n:Nat) (r:PRes) (tc:BT),tc.glush Rc = (r.part,r.rules)→(altLoopF s ex n r).ok = true →
  ∃ f tc',PcsSp s r.at' (altLoopF s ex n r).at' tc tc' f∧tc'.glush Rc = ((altLoopF s ex n r).part,(altLoopF s ex n r).rules)
 | 0,r,tc,hg,hok=>⟨id,tc,⟨fun _ _ h=>h,fun _ _=>rfl,fun _ h=>h⟩,hg⟩
 |n + 1,r,tc,hg,hok=>by
  unfold altLoopF at hok ⊢
  by_cases hc:r.ok = true∧endsB (peekI s r.at') = false
  ·rw [if_pos hc] at hok ⊢
   have hp:=altLoop_ok n _ hok
   obtain ⟨f,x,f1,f2⟩:=piece_sp h (p:=r.at') (R:=r.rules) hp
   have hrow:(BT.row tc x).glush Rc = (chainPart r.part (pieceF s ex r.at' r.rules).part,(pieceF s ex r.at' r.rules).rules.chain r.part (pieceF s ex r.at' r.rules).part):=by
    simp only [BT.glush,hg,f2]
   obtain ⟨f',tc',g1,g2⟩:=altLoop_sp h n _ (.row tc x) hrow hok
   exact ⟨fun r=>f (f' r),tc',⟨fun r j hr=>f1.sp _ j (g1.sp r j hr),fun r acc=>by rw [f1.bt]; exact g1.bt r acc,fun r hr=>f1.ne _ _ (g1.ne r hr)⟩,g2⟩
  ·rw [if_neg hc] at hok ⊢
   exact ⟨id,tc,⟨fun _ _ h=>h,fun _ _=>rfl,fun _ h=>h⟩,hg⟩
structure AltSp (s:ByteArray) (p q:Nat) (tc:BT) (f:PT→PT):Prop where
 sp:∀ r j,r.Sp s q j→(f r).Sp s p j
 bt:∀ r acc,(f r).bt acc none = r.bt acc (some tc)
 ne:∀ r,r.Ne true→(f r).Ne false
theorem alt_sp {s:ByteArray} {ex:PFn} (h:ExSp s ex) {p:Nat} {R:RulesT} (hok:(alternativeF s ex p R).ok = true) :
  ∃ f tc,AltSp s p (alternativeF s ex p R).at' tc f∧tc.glush R = ((alternativeF s ex p R).part,(alternativeF s ex p R).rules):=by
 unfold alternativeF at hok ⊢
 have hp:=altLoop_ok _ _ hok
 obtain ⟨f,x,f1,f2⟩:=piece_sp h hp
 obtain ⟨f',tc',g1,g2⟩:=altLoop_sp h (Rc:=R) _ _ x f2 hok
 exact ⟨fun r=>f (f' r),tc',⟨fun r j hr=>f1.sp _ j (g1.sp r j hr),fun r acc=>by rw [f1.bt]; exact g1.bt r acc,fun r hr=>f1.ne _ _ (g1.ne r hr)⟩,g2⟩
structure EitSp (s:ByteArray) (p q:Nat) (acc:Option BT) (cur:BT) (acc':Option BT) (cur':BT) (f:PT→PT):Prop where
 sp:∀ r j,r.Sp s q j→(f r).Sp s p j
 bt:∀ r,(f r).bt acc (some cur) = r.bt acc' (some cur')
 ne:∀ r,r.Ne true→(f r).Ne true
theorem exprLoop_ok {s:ByteArray} {ex:PFn}:∀ (n:Nat) (r:PRes),(exprLoopF s ex n r).ok = true→r.ok = true
 | 0,r,h=>h
 |n + 1,r,h=>by
  unfold exprLoopF at h
  split at h
  ·rename_i hc; exact hc.1
  ·exact h
theorem exprLoop_sp {s:ByteArray} {ex:PFn} (h:ExSp s ex) {R0:RulesT}:∀ (n:Nat) (r:PRes) (acc:Option BT) (cur:BT),(joinO acc cur).glush R0 = (r.part,r.rules)→(exprLoopF s ex n r).ok = true →
  ∃ f acc' cur',EitSp s r.at' (exprLoopF s ex n r).at' acc cur acc' cur' f∧(joinO acc' cur').glush R0 = ((exprLoopF s ex n r).part,(exprLoopF s ex n r).rules)
 | 0,r,acc,cur,hg,hok=>⟨id,acc,cur,⟨fun _ _ h=>h,fun _=>rfl,fun _ h=>h⟩,hg⟩
 |n + 1,r,acc,cur,hg,hok=>by
  unfold exprLoopF at hok ⊢
  by_cases hc:r.ok = true∧peekI s r.at' = 124
  ·rw [if_pos hc] at hok ⊢
   have hp:=exprLoop_ok n _ hok
   obtain ⟨f,x,f1,f2⟩:=alt_sp h (p:=r.at' + 1) (R:=r.rules) hp
   have hrow:(joinO (some (joinO acc cur)) x).glush R0 = (eitherPart r.part (alternativeF s ex (r.at' + 1) r.rules).part,(alternativeF s ex (r.at' + 1) r.rules).rules):=by
    show (BT.or (joinO acc cur) x).glush R0 = _
    simp only [BT.glush]
    rw [hg]
    simp only [f2]
   obtain ⟨f',acc',cur',g1,g2⟩:=exprLoop_sp h n _ (some (joinO acc cur)) x hrow hok
   exact ⟨fun r=>.bar (f (f' r)),acc',cur',⟨fun r j hr=>⟨hc.2,f1.sp _ j (g1.sp r j hr)⟩,fun r=>by show (f (f' r)).bt (some (joinO acc cur)) none = _; rw [f1.bt]; exact g1.bt r,fun r hr=>⟨rfl,f1.ne _ (g1.ne r hr)⟩⟩,g2⟩
  ·rw [if_neg hc] at hok ⊢
   exact ⟨id,acc,cur,⟨fun _ _ h=>h,fun _=>rfl,fun _ h=>h⟩,hg⟩
theorem expression_sp {s:ByteArray} {ex:PFn} (h:ExSp s ex):ExSp s (expressionF s ex):=by
 intro p R hok
 unfold expressionF at hok ⊢
 have hp:=exprLoop_ok _ _ hok
 obtain ⟨f,x,f1,f2⟩:=alt_sp h hp
 obtain ⟨f',acc',cur',g1,g2⟩:=exprLoop_sp h (R0:=R) _ _ none x f2 hok
 refine ⟨f (f' .nil),f1.sp _ _ (g1.sp .nil _ rfl),f1.ne _ (g1.ne .nil rfl),?_⟩
 rw [f1.bt,g1.bt]
 exact g2
theorem exprF_sp (s:ByteArray):∀ f,ExSp s (exprF s f)
 | 0=>fun p R h=>by simp [exprF] at h
 |f + 1=>expression_sp (exprF_sp s f)
def RSp (s:ByteArray):List PT→Nat→Prop
 | [],p=>False
 | [t],p=>t.Sp s p s.size∧t.Ne false
 |t :: u :: l,p=>∃ q,t.Sp s p q∧t.Ne false∧peekI s q = 10∧RSp s (u :: l) (q + 1)
theorem ruleF_sp {s:ByteArray} {p:Nat} {R:RulesT} (h:(ruleF s p R).1 = true):∃ t:PT,t.Sp s p (ruleF s p R).2.1∧t.Ne false∧(ruleF s p R).2.2 = ((t.bt none none).glush R).2.endRule ((t.bt none none).glush R).1:=by
 unfold ruleF at h ⊢
 by_cases hc:(exprF s (s.size + 1) p R).ok = true
 ·rw [if_pos hc]
  obtain ⟨t,t1,t2,t3⟩:=exprF_sp s (s.size + 1) p R hc
  exact ⟨t,t1,t2,by rw [t3]⟩
 ·rw [if_neg hc] at h; cases h
theorem allLoop_ok {s:ByteArray}:∀ (n:Nat) (r:Bool × Nat × RulesT),(allLoopF s n r).1 = true→r.1 = true
 | 0,r,h=>h
 |n + 1,r,h=>by
  unfold allLoopF at h
  split at h
  ·rename_i hc; exact hc.1
  ·exact h
theorem allLoop_sp {s:ByteArray}:∀ (n:Nat) (p:Nat) (R:RulesT),(allLoopF s n (ruleF s p R)).1 = true→peekI s (allLoopF s n (ruleF s p R)).2.1 = -1→(allLoopF s n (ruleF s p R)).2.1 ≤ s.size →
  ∃ ts:List PT,RSp s ts p∧(allLoopF s n (ruleF s p R)).2.2 = bglushAll (ts.map (fun t=>t.bt none none)) R
 | 0,p,R,hok,he,hle=>by
  obtain ⟨t,t1,t2,t3⟩:=ruleF_sp (s:=s) (p:=p) (R:=R) hok
  have e:(allLoopF s 0 (ruleF s p R)) = ruleF s p R:=rfl
  rw [e] at he hle ⊢
  have:(ruleF s p R).2.1 = s.size:=by
   refine Nat.le_antisymm hle (Nat.le_of_not_lt fun hlt=>?_)
   unfold peekI at he; rw [dif_pos hlt] at he; omega
  exact ⟨[t],⟨by rw [← this]; exact t1,t2⟩,by rw [t3]; rfl⟩
 |n + 1,p,R,hok,he,hle=>by
  have hok1:=allLoop_ok (s:=s) _ _ hok
  obtain ⟨t,t1,t2,t3⟩:=ruleF_sp (s:=s) (p:=p) (R:=R) hok1
  unfold allLoopF at hok he hle ⊢
  by_cases hc:(ruleF s p R).1 = true∧peekI s (ruleF s p R).2.1 = 10
  ·rw [if_pos hc] at hok he hle ⊢
   obtain ⟨ts,h1,h2⟩:=allLoop_sp n _ _ hok he hle
   cases ts with
   |nil=>exact h1.elim
   |cons u l =>
    refine ⟨t :: u :: l,⟨_,t1,t2,hc.2,h1⟩,?_⟩
    rw [h2,t3]; rfl
  ·rw [if_neg hc] at hok he hle ⊢
   have:(ruleF s p R).2.1 = s.size:=by
    refine Nat.le_antisymm hle (Nat.le_of_not_lt fun hlt=>?_)
    unfold peekI at he; rw [dif_pos hlt] at he; omega
   exact ⟨[t],⟨by rw [← this]; exact t1,t2⟩,by rw [t3]; rfl⟩
def Cls (s:ByteArray):List Int→Nat→Nat→Prop
 | [],q,z=>q = z∧peekI s z = 93
 |v :: l,q,z=>(peekI s q = 45∧v = -1∧Cls s l (q + 1) z)∨(peekI s q = 92∧peekI s (q + 1) ≠ -1∧peekI s (q + 1) ≠ 10∧v = meantF (peekI s (q + 1))∧Cls s l (q + 2) z)∨(peekI s q ≠ -1∧peekI s q ≠ 10∧peekI s q ≠ 45∧peekI s q ≠ 92∧peekI s q ≠ 93∧v = peekI s q∧Cls s l (q + 1) z)
theorem Cls.le {s:ByteArray}:∀ {l:List Int} {q z:Nat},Cls s l q z→q + l.length ≤ z∧z < s.size∧peekI s z = 93
 | [],q,z,h=>⟨by rw [h.1]; simp,peekI_in (by rw [h.2]; decide),h.2⟩
 |v :: l,q,z,h=>by
  rcases h with ⟨_,_,h⟩ | ⟨_,_,_,_,h⟩ | ⟨_,_,_,_,_,_,h⟩
  ·have:=Cls.le h; simp; omega
  ·have:=Cls.le h; simp; omega
  ·have:=Cls.le h; simp; omega
theorem Cls.nl {s:ByteArray}:∀ {l:List Int} {q z:Nat},Cls s l q z→∀ k,q ≤ k→k ≤ z→peekI s k ≠ 10
 | [],q,z,h,k,h1,h2=>by rw [show k = z by have:=h.1; omega,h.2]; decide
 |v :: l,q,z,h,k,h1,h2=>by
  rcases h with ⟨a,_,h⟩ | ⟨a,b,c,_,h⟩ | ⟨_,a,_,_,_,_,h⟩
  ·rcases Nat.lt_or_ge q k with e | e
   ·exact Cls.nl h k (by omega) h2
   ·rw [show k = q by omega,a]; decide
  ·rcases Nat.lt_or_ge (q + 1) k with e | e
   ·exact Cls.nl h k (by omega) h2
   ·rcases Nat.lt_or_ge q k with e2 | e2
    ·rw [show k = q + 1 by omega]; exact c
    ·rw [show k = q by omega,a]; decide
  ·rcases Nat.lt_or_ge q k with e | e
   ·exact Cls.nl h k (by omega) h2
   ·rw [show k = q by omega]; exact a
theorem item_tok {s:ByteArray} {p q:Nat} {v:Int} (h:itemF s p = (v,true,q)):0 ≤ v∧p < q∧q ≤ s.size∧∀ l z,Cls s l q z→Cls s (v :: l) p z:=by
 unfold itemF at h
 split at h
 ·cases h
 ·rename_i hb
  have n1:peekI s p ≠ -1:=fun e=>hb (Or.inl e)
  have n2:peekI s p ≠ 10:=fun e=>hb (Or.inr (Or.inl e))
  have n3:peekI s p ≠ 93:=fun e=>hb (Or.inr (Or.inr (Or.inl e)))
  have n4:peekI s p ≠ 45:=fun e=>hb (Or.inr (Or.inr (Or.inr e)))
  have hlt:=peekI_in n1
  have hlo:=peekI_lo s p
  unfold singleF at h
  split at h
  ·rename_i h92
   injection h with e1 e2; injection e2 with e2 e3
   subst e1 e3
   exact ⟨by omega,by omega,by omega,fun l z hc=>.inr (.inr ⟨n1,n2,n4,h92,n3,rfl,hc⟩)⟩
  ·rename_i h92
   have h92':peekI s p = 92:=Decidable.not_not.1 h92
   split at h
   ·injection h with e1 e2; injection e2 with e2 e3; cases e2
   ·rename_i h2
    have k1:peekI s (p + 1) ≠ -1:=fun e=>h2 (Or.inl e)
    have k2:peekI s (p + 1) ≠ 10:=fun e=>h2 (Or.inr e)
    have hlt2:=peekI_in k1
    have hlo2:=peekI_lo s (p + 1)
    split at h
    ·rename_i h3
     injection h with e1 e2; injection e2 with e2 e3
     subst e1 e3
     exact ⟨by omega,by omega,by omega,fun l z hc=>.inr (.inl ⟨h92',k1,k2,by rw [h3]; rfl,hc⟩)⟩
    ·rename_i h3
     injection h with e1 e2; injection e2 with e2 e3
     subst e1 e3
     exact ⟨by omega,by omega,by omega,fun l z hc=>.inr (.inl ⟨h92',k1,k2,by unfold meantF; rw [if_neg h3],hc⟩)⟩
def toks1 (m:Int × Int × Bool):List Int:=if m.2.2 = true then [m.1,-1,m.2.1] else [m.1]
def toksM:List (Int × Int × Bool)→List Int
 | []=>[]
 |m :: r=>toks1 m ++ toksM r
def MemOk (m:Int × Int × Bool):Prop:=0 ≤ m.1∧0 ≤ m.2.1∧(m.2.2 = false→m.1 = m.2.1)
theorem member_tok {s:ByteArray} {p q:Nat} {lo hi:Int} (h:memberF s p = (lo,hi,true,q)):∃ pr,MemOk (lo,hi,pr)∧p < q∧∀ l z,Cls s l q z→Cls s (toks1 (lo,hi,pr) ++ l) p z:=by
 unfold memberF at h
 generalize hi1:itemF s p = r1 at h
 obtain ⟨v1,o1,q1⟩:=r1
 simp only at h
 split at h
 ·rename_i hc
  injection h with e1 e2; injection e2 with e2 e3; injection e3 with e3 e4
  subst e1 e2 e4
  rw [e3] at hi1
  obtain ⟨t1,t2,t3,t4⟩:=item_tok hi1
  exact ⟨false,⟨t1,t1,fun _=>rfl⟩,t2,fun l z hc=>t4 l z hc⟩
 ·rename_i hc
  have ho:o1 = true:=by cases o1 <;> simp_all
  have h45:peekI s q1 = 45:=Decidable.not_not.1 fun e=>hc (Or.inr e)
  subst ho
  obtain ⟨t1,t2,t3,t4⟩:=item_tok hi1
  generalize hi2:itemF s (q1 + 1) = r2 at h
  obtain ⟨v2,o2,q2⟩:=r2
  simp only at h
  split at h
  ·cases h
  ·injection h with e1 e2; injection e2 with e2 e3; injection e3 with e3 e4
   subst e1 e2 e4
   rw [e3] at hi2
   obtain ⟨u1,u2,u3,u4⟩:=item_tok hi2
   exact ⟨true,⟨t1,u1,fun e=>by cases e⟩,by omega,fun l z hc=>t4 _ z (.inl ⟨h45,rfl,u4 l z hc⟩)⟩
def inM (c:Int) (m:Int × Int × Bool):Bool:=decide (m.1 ≤ c) && decide (c ≤ m.2.1)
theorem members_tok {s:ByteArray}:∀ (n:Nat) (A A':Nat→Bool) (ok:Bool) (p z:Nat),ok = true→p ≤ s.size→s.size < n + p→membersF s n A ok p = (A',true,z) →
  ∃ ms:List (Int × Int × Bool),(∀ m ∈ ms,MemOk m)∧Cls s (toksM ms) p z∧∀ c:Nat,A' c = (A c || ms.any (inM (c:Int)))
 | 0,A,A',ok,p,z,hok,hp,hn,h=>by omega
 |n + 1,A,A',ok,p,z,hok,hp,hn,h=>by
  unfold membersF at h
  split at h
  ·rename_i hc
   have hm:=memberF_pos s p hp
   generalize hmm:memberF s p = r at h hm
   obtain ⟨lo,hi,o,q⟩:=r
   simp only at h hm
   cases o with
   |false =>
    rw [membersF_stop _ _ _ _ _ (by simp)] at h
    injection h with e1 e2; injection e2 with e2 e3; cases e2
   |true =>
    obtain ⟨pr,k1,k2,k3⟩:=member_tok hmm
    obtain ⟨ms,h1,h2,h3⟩:=members_tok n _ A' true q z rfl hm.2.1 (by omega) h
    refine ⟨(lo,hi,pr) :: ms,fun m hm=>?_,k3 _ _ h2,fun c=>?_⟩
    ·rw [List.mem_cons] at hm
     rcases hm with rfl | hm
     ·exact k1
     ·exact h1 m hm
    ·rw [h3 c]
     simp only [rangeF,List.any_cons,inM]
     rw [Bool.or_assoc]
  ·rename_i hc
   injection h with e1 e2; injection e2 with e2 e3
   subst e1 e3
   refine ⟨[],by simp,⟨rfl,?_⟩,fun c=>by simp⟩
   exact Decidable.not_not.1 fun e=>hc ⟨hok,e⟩
def memF:List Int→Int→Bool
 | [],_=>false
 | [a],c=>decide (c = a)
 | [a,d],c=>decide (c = a) || memF [d] c
 |a :: d :: b :: r,c=>if d = -1 then (decide (a ≤ c) && decide (c ≤ b)) || memF r c else decide (c = a) || memF (d :: b :: r) c
termination_by l=>l.length
theorem memF_nil (c:Int):memF [] c = false:=by rw [memF]
theorem memF_pair (a b:Int) (r:List Int) (c:Int):memF (a :: -1 :: b :: r) c = ((decide (a ≤ c) && decide (c ≤ b)) || memF r c):=by
 rw [memF]; simp
theorem memF_one (a:Int) (r:List Int) (c:Int) (h:∀ d b r',r = d :: b :: r'→d ≠ -1):memF (a :: r) c = (decide (c = a) || memF r c):=by
 match r,h with
 | [],h=>rw [memF,memF]; simp
 | [d],h=>simp only [memF]
 |d :: b :: r',h=>rw [memF,if_neg (h d b r' rfl)]
theorem toksM_head:∀ (ms:List (Int × Int × Bool)),(∀ m ∈ ms,MemOk m)→∀ d r,toksM ms = d :: r→d ≠ -1
 | [],_,d,r,h=>by cases h
 |m :: ms,hm,d,r,h=>by
  have:=(hm m (by simp)).1
  unfold toksM toks1 at h
  split at h
  ·injection h with e1 e2; omega
  ·injection h with e1 e2; omega
theorem memF_toks (c:Int):∀ (ms:List (Int × Int × Bool)),(∀ m ∈ ms,MemOk m)→memF (toksM ms) c = ms.any (inM c)
 | [],_=>by simp [toksM,memF_nil]
 |m :: ms,hm=>by
  have ih:=memF_toks c ms (fun x hx=>hm x (by simp [hx]))
  have hk:=hm m (by simp)
  obtain ⟨a,b,pr⟩:=m
  simp only [List.any_cons]
  cases pr with
  |true =>
   show memF (a :: -1 :: b :: toksM ms) c = _
   rw [memF_pair,ih]; rfl
  |false =>
   show memF (a :: toksM ms) c = _
   rw [memF_one _ _ _ (fun d b' r' e=>toksM_head ms (fun x hx=>hm x (by simp [hx])) d _ e),ih]
   congr 1
   have:=hk.2.2 rfl
   simp only at this
   subst this
   unfold inM
   simp only
   rw [Bool.eq_iff_iff]; simp; omega
inductive PlaceIs (s:ByteArray) (i e:Nat) (A:Nat→Bool):Prop where
 |any:peekI s i = 46→e = i + 1→(∀ c:Nat,A c = true)→PlaceIs s i e A
 |esc:peekI s i = 92→e = i + 2→peekI s (i + 1) ≠ -1→peekI s (i + 1) ≠ 10→(∀ c:Nat,A c = decide (meantF (peekI s (i + 1)) = (c:Int)))→PlaceIs s i e A
 |cls (l:List Int) (neg:Bool) (z:Nat):peekI s i = 91→e = z + 1→neg = decide (peekI s (i + 1) = 94)→Cls s l (i + 1 + neg.toNat) z→(∀ c:Nat,A c = (memF l (c:Int) != neg))→PlaceIs s i e A
 |one:¬ placeBar (peekI s i)→peekI s i ≠ 46→peekI s i ≠ 91→peekI s i ≠ 92→e = i + 1→(∀ c:Nat,A c = decide (peekI s i = (c:Int)))→PlaceIs s i e A
theorem place_is {s:ByteArray} {i e:Nat} {A:Nat→Bool} (h:placeF s i = (A,true,e)):PlaceIs s i e A:=by
 unfold placeF at h
 split at h
 ·injection h with e1 e2; injection e2 with e2 e3; cases e2
 ·rename_i hb
  have hi:i < s.size:=peekI_in (fun e=>hb (Or.inl e))
  split at h
  ·rename_i h46
   injection h with e1 e2; injection e2 with e2 e3
   subst e1 e3
   exact .any h46 rfl (fun c=>rfl)
  ·rename_i h46
   split at h
   ·rename_i h91
    generalize hneg:decide (peekI s (i + 1) = 94) = neg
    have hq:(if neg = true then i + 2 else i + 1) = i + 1 + neg.toNat:=by cases neg <;> rfl
    generalize hmm:memberF s (i + 1 + neg.toNat) = r
    obtain ⟨lo,hi',o,q⟩:=r
    generalize hmr:membersF s (s.size + 1) (rangeF noneF lo hi') o q = R
    obtain ⟨A',o',z⟩:=R
    rw [bracketsF_eq hneg hq hmm hmr] at h
    simp only at h
    split at h
    ·rename_i hok
     injection h with e1 e2; injection e2 with e2 e3
     have hqs:i + 1 + neg.toNat ≤ s.size:=by
      cases neg with
      |false=>show i + 1 ≤ s.size; omega
      |true =>
       simp at hneg
       have:=peekI_in (s:=s) (p:=i + 1) (by rw [hneg]; decide)
       simp; omega
     have hmp:=memberF_pos s _ hqs
     rw [hmm] at hmp
     simp only at hmp
     cases o with
     |false =>
      rw [membersF_stop _ _ _ _ _ (by simp)] at hmr
      injection hmr with u1 u2; injection u2 with u2 u3; rw [← u2] at hok; cases hok
     |true =>
      obtain ⟨pr,k1,k2,k3⟩:=member_tok hmm
      subst hok
      obtain ⟨ms,h1,h2,h3⟩:=members_tok (s.size + 1) _ A' true q z rfl hmp.2.1 (by omega) hmr
      have hall:∀ m ∈ (lo,hi',pr) :: ms,MemOk m:=fun m hm=>by
       rw [List.mem_cons] at hm
       rcases hm with rfl | hm
       ·exact k1
       ·exact h1 m hm
      refine .cls (toksM ((lo,hi',pr) :: ms)) neg z h91 e3.symm hneg.symm (k3 _ _ h2) (fun c=>?_)
      rw [memF_toks _ _ hall]
      have hA':A' c = ((lo,hi',pr) :: ms).any (inM (c:Int)):=by
       rw [h3 c]; simp [rangeF,noneF,inM]
      rw [← e1]
      cases neg with
      |true=>simp [butF,hA']
      |false=>simp [hA']
    ·injection h with e1 e2; injection e2 with e2 e3; cases e2
   ·rename_i h91
    injection h with e1 e2; injection e2 with e2 e3
    unfold singleF at e1 e2 e3
    by_cases h92:peekI s i = 92
    ·rw [if_neg (by simp [h92])] at e1 e2 e3
     by_cases h3:peekI s (i + 1) = -1∨peekI s (i + 1) = 10
     ·rw [if_pos h3] at e2; cases e2
     ·rw [if_neg h3] at e1 e2 e3
      by_cases h4:peekI s (i + 1) = 110
      ·rw [if_pos h4] at e1 e2 e3
       refine .esc h92 e3.symm (fun e=>h3 (.inl e)) (fun e=>h3 (.inr e)) (fun c=>?_)
       rw [← e1,h4]
       simp only [rangeF,noneF,meantF]
       rw [Bool.eq_iff_iff]; simp; omega
      ·rw [if_neg h4] at e1 e2 e3
       refine .esc h92 e3.symm (fun e=>h3 (.inl e)) (fun e=>h3 (.inr e)) (fun c=>?_)
       rw [← e1]
       simp only [rangeF,noneF,meantF,if_neg h4]
       rw [Bool.eq_iff_iff]; simp; omega
    ·rw [if_pos h92] at e1 e2 e3
     refine .one hb h46 h91 h92 e3.symm (fun c=>?_)
     rw [← e1]
     simp only [rangeF,noneF]
     rw [Bool.eq_iff_iff]; simp; omega
theorem PlaceIs.lt {s:ByteArray} {i e:Nat} {A:Nat→Bool} (h:PlaceIs s i e A):i < e∧e ≤ s.size:=by
 cases h with
 |any h1 h2 _=>have:=peekI_in (s:=s) (p:=i) (by rw [h1]; decide); omega
 |esc h1 h2 h3 _ _=>have:=peekI_in h3; omega
 |cls l neg z h1 h2 h3 h4 _=>have:=h4.le; omega
 |one h1 _ _ _ h2 _=>have:=peekI_in (s:=s) (p:=i) (fun e=>h1 (.inl e)); omega
theorem PlaceIs.nl {s:ByteArray} {i e:Nat} {A:Nat→Bool} (h:PlaceIs s i e A) (k:Nat) (h1:i ≤ k) (h2:k < e):peekI s k ≠ 10:=by
 cases h with
 |any a b _=>rw [show k = i by omega,a]; decide
 |esc a b c d _ =>
  rcases Nat.lt_or_ge i k with e' | e'
  ·rw [show k = i + 1 by omega]; exact d
  ·rw [show k = i by omega,a]; decide
 |cls l neg z a b c d _ =>
  rcases Nat.lt_or_ge i k with e' | e'
  ·cases neg with
   |false=>exact d.nl k (by simp; omega) (by omega)
   |true =>
    rcases Nat.lt_or_ge (i + 1) k with e2 | e2
    ·exact d.nl k (by simp; omega) (by omega)
    ·rw [show k = i + 1 by omega]
     have:peekI s (i + 1) = 94:=by simpa using c.symm
     rw [this]; decide
  ·rw [show k = i by omega,a]; decide
 |one a _ _ _ b _=>rw [show k = i by omega]; exact fun e=>a (.inr (.inl e))
theorem PlaceIs.first {s:ByteArray} {i e:Nat} {A:Nat→Bool} (h:PlaceIs s i e A):¬ placeBar (peekI s i):=by
 cases h with
 |any a _ _=>rw [a]; decide
 |esc a _ _ _ _=>rw [a]; decide
 |cls l neg z a _ _ _ _=>rw [a]; decide
 |one a _ _ _ _ _=>exact a
theorem PT.sp_le {s:ByteArray}:∀ {t:PT} {i j:Nat},t.Sp s i j→i ≤ j
 | .nil,i,j,h=>Nat.le_of_eq h
 | .bar r,i,j,h=>by have:=sp_le h.2; omega
 | .leaf a e A m r,i,j,h=>by
  obtain ⟨_,h2,_,_,h5⟩:=h
  have:=(place_is h2).lt
  have:=sp_le h5
  omega
 | .group t m r,i,j,h=>by
  obtain ⟨_,e,h2,_,_,h5⟩:=h
  have:=sp_le h2
  have:=sp_le h5
  omega
theorem mark_in {s:ByteArray} {e m:Nat} (h:MarkOk s e m) (he:e ≤ s.size):e + stepM m ≤ s.size:=by
 rcases h with ⟨rfl,_⟩ | ⟨h1,h2⟩
 ·exact he
 ·have:=peekI_in (s:=s) (p:=e) (by rw [h2]; omega)
  unfold stepM; split <;> omega
theorem PT.sp_top {s:ByteArray}:∀ {t:PT} {i j:Nat},i ≤ s.size→t.Sp s i j→j ≤ s.size
 | .nil,i,j,hi,h=>by rw [← (show i = j from h)]; exact hi
 | .bar r,i,j,hi,h=>sp_top (by have:=peekI_in (s:=s) (p:=i) (by rw [h.1]; decide); omega) h.2
 | .leaf a e A m r,i,j,hi,h=>by
  obtain ⟨_,h2,_,h4,h5⟩:=h
  have:=(place_is h2).lt
  exact sp_top (mark_in h4 this.2) h5
 | .group t m r,i,j,hi,h=>by
  obtain ⟨h1,e,h2,h3,h4,h5⟩:=h
  have:=peekI_in (s:=s) (p:=e) (by rw [h3]; decide)
  exact sp_top (mark_in h4 (by omega)) h5
theorem PT.sp_nl {s:ByteArray}:∀ {t:PT} {i j:Nat},t.Sp s i j→∀ k,i ≤ k→k < j→peekI s k ≠ 10
 | .nil,i,j,h,k,h1,h2=>by have:i = j:=h; omega
 | .bar r,i,j,h,k,h1,h2=>by
  rcases Nat.lt_or_ge i k with e | e
  ·exact sp_nl h.2 k (by omega) h2
  ·rw [show k = i by omega,h.1]; decide
 | .leaf a e A m r,i,j,h,k,h1,h2=>by
  obtain ⟨_,b,_,c,d⟩:=h
  rcases Nat.lt_or_ge k e with e1 | e1
  ·exact (place_is b).nl k h1 e1
  ·rcases Nat.lt_or_ge k (e + stepM m) with e2 | e2
   ·rcases c with ⟨rfl,_⟩ | ⟨c1,c2⟩
    ·simp [stepM] at e2; omega
    ·have:stepM m ≤ 1:=by unfold stepM; split <;> omega
     rw [show k = e by omega,c2]; omega
   ·exact sp_nl d k e2 h2
 | .group t m r,i,j,h,k,h1,h2=>by
  obtain ⟨a,e,b,c,d,f⟩:=h
  rcases Nat.lt_or_ge i k with e0 | e0
  ·rcases Nat.lt_or_ge k e with e1 | e1
   ·exact sp_nl b k (by omega) e1
   ·rcases Nat.lt_or_ge k (e + 1) with e3 | e3
    ·rw [show k = e by omega,c]; decide
    ·rcases Nat.lt_or_ge k (e + 1 + stepM m) with e2 | e2
     ·rcases d with ⟨rfl,_⟩ | ⟨c1,c2⟩
      ·simp [stepM] at e2; omega
      ·have:stepM m ≤ 1:=by unfold stepM; split <;> omega
       rw [show k = e + 1 by omega,c2]; omega
     ·exact sp_nl f k e2 h2
  ·rw [show k = i by omega,a]; decide
inductive NT where
 |place (i e:Nat) (A:Nat→Bool)
 |node (k:Nat) (l:List NT)
mutual
def NT.Word:NT→List Nat→Prop
 | .place i e A,w=>∃ x,w = [x]∧A x = true
 | .node k l,w=>(k = 1∧rowWord l w)∨(k = 2∧anyWord l w)∨(k = 3∧∃ u v,w = u ++ v∧Star (anyWord l) u∧anyWord l v)∨(k = 4∧(w = []∨anyWord l w))
def rowWord:List NT→List Nat→Prop
 | [],w=>w = []
 |x :: l,w=>∃ u v,w = u ++ v∧x.Word u∧rowWord l v
def anyWord:List NT→List Nat→Prop
 | [],w=>False
 |x :: l,w=>x.Word w∨anyWord l w
end
mutual
def NT.PLast:NT→List Nat→Nat→Prop
 | .place i e A,w,a=>∃ x,w = [x]∧A x = true∧a = i
 | .node k l,w,a=>(k = 1∧rowLast l w a)∨((k = 2∨k = 4)∧anyLast l w a)∨(k = 3∧∃ u v,w = u ++ v∧Star (anyWord l) u∧anyLast l v a)
def rowLast:List NT→List Nat→Nat→Prop
 | [],w,a=>False
 |x :: l,w,a=>x.PLast w a∨∃ u v,w = u ++ v∧x.Word u∧rowLast l v a
def anyLast:List NT→List Nat→Nat→Prop
 | [],w,a=>False
 |x :: l,w,a=>x.PLast w a∨anyLast l w a
end
mutual
def NT.parts:NT→Nat
 | .place _ _ _=>1
 | .node k l=>1 + partsL l
def partsL:List NT→Nat
 | []=>0
 |x :: l=>x.parts + partsL l
end
theorem anyWord_iff:∀ (l:List NT) (w:List Nat),anyWord l w↔∃ x ∈ l,x.Word w
 | [],w=>by simp [anyWord]
 |x :: l,w=>by simp [anyWord,anyWord_iff l w]
theorem anyLast_iff:∀ (l:List NT) (w:List Nat) (a:Nat),anyLast l w a↔∃ x ∈ l,x.PLast w a
 | [],w,a=>by simp [anyLast]
 |x :: l,w,a=>by simp [anyLast,anyLast_iff l w a]
theorem rowWord_append:∀ (l m:List NT) (w:List Nat),rowWord (l ++ m) w↔∃ u v,w = u ++ v∧rowWord l u∧rowWord m v
 | [],m,w=>by
  simp only [List.nil_append,rowWord]
  constructor
  ·intro h; exact ⟨[],w,rfl,rfl,h⟩
  ·rintro ⟨u,v,rfl,rfl,h⟩; exact h
 |x :: l,m,w=>by
  simp only [List.cons_append,rowWord]
  constructor
  ·rintro ⟨u,v,rfl,h1,h2⟩
   obtain ⟨a,b,rfl,h3,h4⟩:=(rowWord_append l m v).1 h2
   exact ⟨u ++ a,b,by simp,⟨u,a,rfl,h1,h3⟩,h4⟩
  ·rintro ⟨_,b,rfl,⟨u,a,rfl,h1,h3⟩,h4⟩
   exact ⟨u,a ++ b,by simp,h1,(rowWord_append l m _).2 ⟨a,b,rfl,h3,h4⟩⟩
theorem rowWord_one (x:NT) (w:List Nat):rowWord [x] w↔x.Word w:=by
 simp only [rowWord]
 constructor
 ·rintro ⟨u,v,rfl,h,rfl⟩; simpa using h
 ·intro h; exact ⟨w,[],by simp,h,rfl⟩
theorem rowWord_snoc (l:List NT) (x:NT) (w:List Nat):rowWord (l ++ [x]) w↔∃ u v,w = u ++ v∧rowWord l u∧x.Word v:=by
 rw [rowWord_append]; simp only [rowWord_one]
theorem rowLast_append:∀ (l m:List NT) (w:List Nat) (a:Nat),rowLast (l ++ m) w a↔(rowLast l w a∨∃ u v,w = u ++ v∧rowWord l u∧rowLast m v a)
 | [],m,w,a=>by
  simp only [List.nil_append,rowLast,rowWord,false_or]
  constructor
  ·intro h; exact ⟨[],w,rfl,rfl,h⟩
  ·rintro ⟨u,v,rfl,rfl,h⟩; exact h
 |x :: l,m,w,a=>by
  simp only [List.cons_append,rowLast,rowWord]
  constructor
  ·rintro (h | ⟨u,v,rfl,h1,h2⟩)
   ·exact .inl (.inl h)
   ·rcases (rowLast_append l m v a).1 h2 with h3 | ⟨b,c,rfl,h3,h4⟩
    ·exact .inl (.inr ⟨u,v,rfl,h1,h3⟩)
    ·exact .inr ⟨u ++ b,c,by simp,⟨u,b,rfl,h1,h3⟩,h4⟩
  ·rintro ((h | ⟨u,v,rfl,h1,h2⟩) | ⟨_,c,rfl,⟨u,b,rfl,h1,h3⟩,h4⟩)
   ·exact .inl h
   ·exact .inr ⟨u,v,rfl,h1,(rowLast_append l m v a).2 (.inl h2)⟩
   ·exact .inr ⟨u,b ++ c,by simp,h1,(rowLast_append l m _ a).2 (.inr ⟨b,c,rfl,h3,h4⟩)⟩
theorem rowLast_snoc (l:List NT) (x:NT) (w:List Nat) (a:Nat):rowLast (l ++ [x]) w a↔(rowLast l w a∨∃ u v,w = u ++ v∧rowWord l u∧x.PLast v a):=by
 rw [rowLast_append]
 have:∀ v,rowLast [x] v a↔x.PLast v a:=by
  intro v
  simp [rowLast]
 simp only [this]
theorem anyWord_snoc (l:List NT) (x:NT) (w:List Nat):anyWord (l ++ [x]) w↔(anyWord l w∨x.Word w):=by
 simp only [anyWord_iff,List.mem_append,List.mem_singleton]
 constructor
 ·rintro ⟨y,h | rfl,h2⟩
  ·exact .inl ⟨y,h,h2⟩
  ·exact .inr h2
 ·rintro (⟨y,h,h2⟩ | h)
  ·exact ⟨y,.inl h,h2⟩
  ·exact ⟨x,.inr rfl,h⟩
theorem anyLast_snoc (l:List NT) (x:NT) (w:List Nat) (a:Nat):anyLast (l ++ [x]) w a↔(anyLast l w a∨x.PLast w a):=by
 simp only [anyLast_iff,List.mem_append,List.mem_singleton]
 constructor
 ·rintro ⟨y,h | rfl,h2⟩
  ·exact .inl ⟨y,h,h2⟩
  ·exact .inr h2
 ·rintro (⟨y,h,h2⟩ | h)
  ·exact ⟨y,.inl h,h2⟩
  ·exact ⟨x,.inr rfl,h⟩
theorem partsL_append:∀ l m:List NT,partsL (l ++ m) = partsL l + partsL m
 | [],m=>by simp [partsL]
 |x :: l,m=>by simp [partsL,partsL_append l m]; omega
theorem NT.parts_pos (x:NT):0 < x.parts:=by cases x <;> simp [NT.parts]; omega
theorem word_place (i e:Nat) (A:Nat→Bool) (w:List Nat):(NT.place i e A).Word w↔∃ x,w = [x]∧A x = true:=by rw [NT.Word]
theorem ntw_row (l:List NT) (w:List Nat):(NT.node 1 l).Word w↔rowWord l w:=by rw [NT.Word]; simp
theorem word_ether (l:List NT) (w:List Nat):(NT.node 2 l).Word w↔anyWord l w:=by rw [NT.Word]; simp
theorem word_many (x:NT) (w:List Nat):(NT.node 3 [x]).Word w↔∃ u v,w = u ++ v∧Star x.Word u∧x.Word v:=by
 have e:∀ w,anyWord [x] w↔x.Word w:=fun w=>by simp [anyWord]
 rw [NT.Word]
 simp only [e,star_congr e]
 simp
theorem word_maybe (l:List NT) (w:List Nat):(NT.node 4 l).Word w↔(w = []∨anyWord l w):=by rw [NT.Word]; simp
theorem last_place (i e:Nat) (A:Nat→Bool) (w:List Nat) (a:Nat):(NT.place i e A).PLast w a↔∃ x,w = [x]∧A x = true∧a = i:=by rw [NT.PLast]
theorem last_row (l:List NT) (w:List Nat) (a:Nat):(NT.node 1 l).PLast w a↔rowLast l w a:=by rw [NT.PLast]; simp
theorem last_ether (l:List NT) (w:List Nat) (a:Nat):(NT.node 2 l).PLast w a↔anyLast l w a:=by rw [NT.PLast]; simp
theorem last_maybe (l:List NT) (w:List Nat) (a:Nat):(NT.node 4 l).PLast w a↔anyLast l w a:=by rw [NT.PLast]; simp
theorem last_many (x:NT) (w:List Nat) (a:Nat):(NT.node 3 [x]).PLast w a↔∃ u v,w = u ++ v∧Star x.Word u∧x.PLast v a:=by
 have e:∀ w,anyWord [x] w↔x.Word w:=fun w=>by simp [anyWord]
 have e2:∀ w,anyLast [x] w a↔x.PLast w a:=fun w=>by simp [anyLast]
 rw [NT.PLast]
 simp only [e2,star_congr e]
 simp
def markNT (m:Nat) (x:NT):NT:=if m = 42 then .node 4 [.node 3 [x]] else if m = 43 then .node 3 [x] else if m = 63 then .node 4 [x] else x
def PT.nt:PT→List NT→List NT→NT
 | .nil,rows,cur=>.node 2 (rows ++ [.node 1 cur])
 | .bar r,rows,cur=>r.nt (rows ++ [.node 1 cur]) []
 | .leaf i e A m r,rows,cur=>r.nt rows (cur ++ [markNT m (.place i e A)])
 | .group t m r,rows,cur=>r.nt rows (cur ++ [markNT m (t.nt [] [])])
structure SameT (t:BT) (P:List Nat→Prop) (Q:List Nat→Nat→Prop):Prop where
 word:∀ w,t.Word w↔P w
 last:∀ w a,t.PLast w a↔Q w a
theorem mark_same {t:BT} {x:NT} (h:SameT t x.Word x.PLast) (m:Nat):SameT (markBT m t) (markNT m x).Word (markNT m x).PLast:=by
 have hplus:SameT (.plus t) (NT.node 3 [x]).Word (NT.node 3 [x]).PLast:=by
  refine ⟨fun w=>?_,fun w a=>?_⟩
  ·rw [word_many]; simp only [BT.Word,h.word,star_congr h.word]
  ·rw [last_many]; simp only [BT.PLast,h.last,star_congr h.word]
 have hmaybe:∀ {t:BT} {x:NT},SameT t x.Word x.PLast→SameT (.maybe t) (NT.node 4 [x]).Word (NT.node 4 [x]).PLast:=by
  intro t x h
  refine ⟨fun w=>?_,fun w a=>?_⟩
  ·rw [word_maybe]; simp only [BT.Word,h.word,anyWord,or_false]
  ·rw [last_maybe]; simp only [BT.PLast,h.last,anyLast,or_false]
 unfold markBT markNT
 split
 ·exact hmaybe hplus
 ·split
  ·exact hplus
  ·split
   ·exact hmaybe h
   ·exact h
theorem chain_same {cur:Option BT} {curL:List NT} (hc:(cur = none∧curL = [])∨∃ c,cur = some c∧SameT c (rowWord curL) (rowLast curL)) {t:BT} {x:NT} (h:SameT t x.Word x.PLast) :
  SameT (chainO cur t) (rowWord (curL ++ [x])) (rowLast (curL ++ [x])):=by
 rcases hc with ⟨rfl,rfl⟩ | ⟨c,rfl,hc⟩
 ·refine ⟨fun w=>?_,fun w a=>?_⟩
  ·rw [List.nil_append,rowWord_one]; exact h.word w
  ·show t.PLast w a↔rowLast [x] w a
   simp only [rowLast,h.last]
   simp
 ·refine ⟨fun w=>?_,fun w a=>?_⟩
  ·rw [rowWord_snoc]; simp only [chainO,BT.Word,hc.word,h.word]
  ·rw [rowLast_snoc]; simp only [chainO,BT.PLast,hc.word,hc.last,h.last]
theorem join_same {acc:Option BT} {rows:List NT} (ha:(acc = none∧rows = [])∨∃ c,acc = some c∧SameT c (anyWord rows) (anyLast rows)) {c:BT} {curL:List NT} (h:SameT c (rowWord curL) (rowLast curL)) :
  SameT (joinO acc c) (anyWord (rows ++ [.node 1 curL])) (anyLast (rows ++ [.node 1 curL])):=by
 rcases ha with ⟨rfl,rfl⟩ | ⟨d,rfl,hd⟩
 ·refine ⟨fun w=>?_,fun w a=>?_⟩
  ·show c.Word w↔_; simp only [List.nil_append,anyWord,ntw_row,h.word]; simp
  ·show c.PLast w a↔_; simp only [List.nil_append,anyLast,last_row,h.last]; simp
 ·refine ⟨fun w=>?_,fun w a=>?_⟩
  ·rw [anyWord_snoc,ntw_row]; simp only [joinO,BT.Word,hd.word,h.word]
  ·rw [anyLast_snoc,last_row]; simp only [joinO,BT.PLast,hd.last,h.last]
theorem PT.same:∀ (t:PT) (acc cur:Option BT) (rows curL:List NT) (c:Bool),t.Ne c→c = cur.isSome →
  ((acc = none∧rows = [])∨∃ c,acc = some c∧SameT c (anyWord rows) (anyLast rows))→((cur = none∧curL = [])∨∃ c,cur = some c∧SameT c (rowWord curL) (rowLast curL)) →
  SameT (t.bt acc cur) (t.nt rows curL).Word (t.nt rows curL).PLast
 | .nil,acc,cur,rows,curL,c,hn,hc,ha,hu=>by
  have hn':c = true:=hn
  rcases hu with ⟨rfl,_⟩ | ⟨d,rfl,hd⟩
  ·rw [hn'] at hc; cases hc
  ·have:=join_same ha hd
   refine ⟨fun w=>?_,fun w a=>?_⟩
   ·show (joinO acc d).Word w↔(NT.node 2 _).Word w; rw [word_ether]; exact this.word w
   ·show (joinO acc d).PLast w a↔(NT.node 2 _).PLast w a; rw [last_ether]; exact this.last w a
 | .bar r,acc,cur,rows,curL,c,hn,hc,ha,hu=>by
  have hn':c = true:=hn.1
  rcases hu with ⟨rfl,_⟩ | ⟨d,rfl,hd⟩
  ·rw [hn'] at hc; cases hc
  ·exact PT.same r _ none _ [] false hn.2 rfl (.inr ⟨_,rfl,join_same ha hd⟩) (.inl ⟨rfl,rfl⟩)
 | .leaf i e A m r,acc,cur,rows,curL,c,hn,hc,ha,hu=>by
  have hl:SameT (.leaf i A) (NT.place i e A).Word (NT.place i e A).PLast:=⟨fun w=>by rw [word_place]; rfl,fun w a=>by rw [last_place]; rfl⟩
  exact PT.same r acc _ rows _ true hn rfl ha (.inr ⟨_,rfl,chain_same hu (mark_same hl m)⟩)
 | .group t m r,acc,cur,rows,curL,c,hn,hc,ha,hu=>by
  have ht:=PT.same t none none [] [] false hn.1 rfl (.inl ⟨rfl,rfl⟩) (.inl ⟨rfl,rfl⟩)
  exact PT.same r acc _ rows _ true hn.2 rfl ha (.inr ⟨_,rfl,chain_same hu (mark_same ht m)⟩)
theorem PT.same0 (t:PT) (hn:t.Ne false):SameT (t.bt none none) (t.nt [] []).Word (t.nt [] []).PLast :=
 PT.same t none none [] [] false hn rfl (.inl ⟨rfl,rfl⟩) (.inl ⟨rfl,rfl⟩)
def PT.ps:PT→List Nat
 | .nil=>[]
 | .bar r=>r.ps
 | .leaf i e A m r=>i :: r.ps
 | .group t m r=>t.ps ++ r.ps
def posO (o:Option BT):List Nat:=match o with
 |none=>[]
 |some t=>t.pos
theorem mark_pos (m:Nat) (t:BT):(markBT m t).pos = t.pos:=by
 unfold markBT; split
 ·rfl
 ·split
  ·rfl
  ·split <;> rfl
theorem chain_pos (c:Option BT) (t:BT):(chainO c t).pos = posO c ++ t.pos:=by cases c <;> simp [chainO,posO,BT.pos]
theorem join_pos (c:Option BT) (t:BT):(joinO c t).pos = posO c ++ t.pos:=by cases c <;> simp [joinO,posO,BT.pos]
theorem PT.bt_pos:∀ (t:PT) (acc cur:Option BT) (c:Bool),t.Ne c→c = cur.isSome→(t.bt acc cur).pos = posO acc ++ posO cur ++ t.ps
 | .nil,acc,cur,c,hn,hc=>by
  have hn':c = true:=hn
  cases cur with
  |none=>rw [hn'] at hc; cases hc
  |some d=>show (joinO acc d).pos = _; rw [join_pos]; simp [posO,PT.ps]
 | .bar r,acc,cur,c,hn,hc=>by
  have hn':c = true:=hn.1
  cases cur with
  |none=>rw [hn'] at hc; cases hc
  |some d =>
   show (r.bt (some (joinO acc d)) none).pos = _
   rw [PT.bt_pos r _ none false hn.2 rfl]
   show (joinO acc d).pos ++ [] ++ r.ps = _
   rw [join_pos]; simp [posO,PT.ps]
 | .leaf i e A m r,acc,cur,c,hn,hc=>by
  show (r.bt acc (some _)).pos = _
  rw [PT.bt_pos r _ _ true hn rfl]
  show posO acc ++ (chainO cur (markBT m (.leaf i A))).pos ++ r.ps = _
  rw [chain_pos,mark_pos]; simp [BT.pos,PT.ps]
 | .group t m r,acc,cur,c,hn,hc=>by
  show (r.bt acc (some _)).pos = _
  rw [PT.bt_pos r _ _ true hn.2 rfl]
  show posO acc ++ (chainO cur (markBT m (t.bt none none))).pos ++ r.ps = _
  rw [chain_pos,mark_pos,PT.bt_pos t none none false hn.1 rfl]; simp [posO,PT.ps]
def Rises:List Nat→Nat→Nat→Prop
 | [],i,j=>i ≤ j
 |x :: l,i,j=>i ≤ x∧Rises l (x + 1) j
theorem Rises.mono:∀ {l:List Nat} {i i' j:Nat},Rises l i j→i' ≤ i→Rises l i' j
 | [],i,i',j,h,hi=>by have:i ≤ j:=h; show i' ≤ j; omega
 |x :: l,i,i',j,h,hi=>⟨by have:=h.1; omega,h.2⟩
theorem Rises.append:∀ {l m:List Nat} {i j k:Nat},Rises l i j→Rises m j k→Rises (l ++ m) i k
 | [],m,i,j,k,h,g=>g.mono h
 |x :: l,m,i,j,k,h,g=>⟨h.1,h.2.append g⟩
theorem Rises.le:∀ {l:List Nat} {i j:Nat},Rises l i j→∀ x ∈ l,i ≤ x∧x < j
 | [],i,j,h,x,hx=>by simp at hx
 |y :: l,i,j,h,x,hx=>by
  have hj:∀ {l:List Nat} {i j:Nat},Rises l i j→i ≤ j:=by
   intro l
   induction l with
   |nil=>intro i j h; exact h
   |cons z l ih=>intro i j h; have:=ih h.2; have:=h.1; omega
  rw [List.mem_cons] at hx
  rcases hx with rfl | hx
  ·have:=hj h.2; exact ⟨h.1,by omega⟩
  ·have:=h.2.le x hx; have:=h.1; omega
theorem Rises.nodup:∀ {l:List Nat} {i j:Nat},Rises l i j→l.Nodup
 | [],i,j,h=>List.nodup_nil
 |x :: l,i,j,h=>List.nodup_cons.2 ⟨fun e=>by have:=h.2.le x e; omega,h.2.nodup⟩
theorem PT.rises {s:ByteArray}:∀ {t:PT} {i j:Nat},t.Sp s i j→Rises t.ps i j
 | .nil,i,j,h=>Nat.le_of_eq h
 | .bar r,i,j,h=>(PT.rises h.2).mono (by omega)
 | .leaf a e A m r,i,j,h=>by
  obtain ⟨rfl,h2,_,_,h5⟩:=h
  have:=(place_is h2).lt
  exact ⟨Nat.le_refl _,(PT.rises h5).mono (by omega)⟩
 | .group t m r,i,j,h=>by
  obtain ⟨_,e,h2,_,_,h5⟩:=h
  exact ((PT.rises h2).mono (Nat.le_succ i)).append ((PT.rises h5).mono (by omega))
theorem RSp.rises {s:ByteArray}:∀ {ts:List PT} {p:Nat},RSp s ts p→p ≤ s.size→Rises (posAll (ts.map (fun t=>t.bt none none))) p s.size∧∀ t ∈ ts,t.Ne false
 | [],p,h,hp=>h.elim
 | [t],p,h,hp=>by
  refine ⟨?_,fun x hx=>by rw [List.mem_singleton] at hx; rw [hx]; exact h.2⟩
  show Rises ((t.bt none none).pos ++ []) p s.size
  rw [PT.bt_pos t none none false h.2 rfl]
  simpa [posO] using PT.rises h.1
 |t :: u :: l,p,h,hp=>by
  obtain ⟨q,h1,h2,h3,h4⟩:=h
  have hq:=peekI_in (s:=s) (p:=q) (by rw [h3]; decide)
  obtain ⟨r1,r2⟩:=RSp.rises h4 (by omega)
  refine ⟨?_,fun x hx=>?_⟩
  ·show Rises ((t.bt none none).pos ++ _) p s.size
   rw [PT.bt_pos t none none false h2 rfl]
   refine Rises.append (j:=q) ?_ (r1.mono (by omega))
   simpa [posO] using PT.rises h1
  ·rw [List.mem_cons] at hx
   rcases hx with rfl | hx
   ·exact h2
   ·exact r2 x hx
theorem nodup_len:∀ (n:Nat) (l:List Nat),l.Nodup→(∀ x ∈ l,x < n)→l.length ≤ n
 | 0,l,_,h=>by
  cases l with
  |nil=>simp
  |cons x l=>have:=h x (by simp); omega
 |n + 1,l,hd,h=>by
  have h1:=nodup_len n (l.erase n) (hd.erase n) (fun x hx=>by
   have h2:=(hd.mem_erase_iff).1 hx
   have:=h x h2.2
   have:=h2.1
   omega)
  have:=List.length_erase (a:=n) (l:=l)
  split at this <;> omega
end Go.Proofs.YtcckhngbdoiikaaGreat
