import Derived.Test.YtcckhngbdoiikaaGreatG03

namespace Go.Proofs.YtcckhngbdoiikaaGreat
set_option linter.unusedVariables false
inductive BT where
 |leaf (i:Nat) (A:Nat→Bool)
 |row (l r:BT)
 |or (l r:BT)
 |plus (l:BT)
 |maybe (l:BT)
namespace BT
def places:BT→Nat
 |leaf _ _=>1
 |row l r=>l.places + r.places
 |or l r=>l.places + r.places
 |plus l=>l.places
 |maybe l=>l.places
def glush:BT→RulesT→PartT × RulesT
 |leaf i A,R=>(R.addPart,R.add A)
 |row l r,R=>(chainPart (l.glush R).1 (r.glush (l.glush R).2).1,(r.glush (l.glush R).2).2.chain (l.glush R).1 (r.glush (l.glush R).2).1)
 |or l r,R=>(eitherPart (l.glush R).1 (r.glush (l.glush R).2).1,(r.glush (l.glush R).2).2)
 |plus l,R=>((l.glush R).1,(l.glush R).2.link (l.glush R).1.last (l.glush R).1.first)
 |maybe l,R=>({ (l.glush R).1 with empty:=true },(l.glush R).2)
def Word:BT→List Nat→Prop
 |leaf i A,w=>∃ x,w = [x]∧A x = true
 |row l r,w=>∃ u v,w = u ++ v∧l.Word u∧r.Word v
 |or l r,w=>l.Word w∨r.Word w
 |plus l,w=>∃ u v,w = u ++ v∧Star l.Word u∧l.Word v
 |maybe l,w=>w = []∨l.Word w
def Last:BT→Nat→List Nat→Nat→Prop
 |leaf i A,n,w,q=>∃ x,w = [x]∧A x = true∧q = n
 |row l r,n,w,q=>l.Last n w q∨∃ u v,w = u ++ v∧l.Word u∧r.Last (n + l.places) v q
 |or l r,n,w,q=>l.Last n w q∨r.Last (n + l.places) w q
 |plus l,n,w,q=>∃ u v,w = u ++ v∧Star l.Word u∧l.Last n v q
 |maybe l,n,w,q=>l.Last n w q
def PLast:BT→List Nat→Nat→Prop
 |leaf i A,w,q=>∃ x,w = [x]∧A x = true∧q = i
 |row l r,w,q=>l.PLast w q∨∃ u v,w = u ++ v∧l.Word u∧r.PLast v q
 |or l r,w,q=>l.PLast w q∨r.PLast w q
 |plus l,w,q=>∃ u v,w = u ++ v∧Star l.Word u∧l.PLast v q
 |maybe l,w,q=>l.PLast w q
def pos:BT→List Nat
 |leaf i _=>[i]
 |row l r=>l.pos ++ r.pos
 |or l r=>l.pos ++ r.pos
 |plus l=>l.pos
 |maybe l=>l.pos
theorem pos_len:∀ t:BT,t.pos.length = t.places
 |leaf _ _=>rfl
 |row l r=>by simp [pos,places,pos_len l,pos_len r]
 |or l r=>by simp [pos,places,pos_len l,pos_len r]
 |plus l=>pos_len l
 |maybe l=>pos_len l
end BT
theorem bglush_len:∀ (t:BT) (R:RulesT),(t.glush R).2.follow.length = R.follow.length + t.places
 | .leaf i A,R=>by simp [BT.glush,BT.places,RulesT.add]
 | .row l r,R=>by simp [BT.glush,BT.places,RulesT.chain,link_follow_length,bglush_len l,bglush_len r]; omega
 | .or l r,R=>by simp [BT.glush,BT.places,bglush_len l,bglush_len r]; omega
 | .plus l,R=>by simp [BT.glush,BT.places,link_follow_length,bglush_len l]
 | .maybe l,R=>by simp [BT.glush,BT.places,bglush_len l]
theorem bglush_fits:∀ (t:BT) (R:RulesT),R.follow.length + t.places ≤ 128→Fits R (t.glush R).2 (t.glush R).1
 | .leaf i A,R,hn=>by
  simp only [BT.places] at hn
  have hF:∀ p q,(R.add A).F p q↔R.F p q:=by
   intro p q
   unfold RulesT.F RulesT.add
   simp only
   by_cases hp:p < R.follow.length
   ·rw [List.getD_eq_getElem?_getD,List.getElem?_append_left hp,← List.getD_eq_getElem?_getD]
   ·constructor
    ·intro h
     have h2:=has_of_mem h
     simp at h2
     have:p = R.follow.length:=by omega
     subst this
     simp [has_none] at h
    ·intro h; exact absurd (has_of_mem h) hp
  have hA:∀ p x,p ≠ R.follow.length→((R.add A).A p x↔R.A p x):=by
   intro p x hp
   unfold RulesT.A RulesT.add addAllow
   simp only
   split
   ·rw [has_or,has_only _ _ (by omega)]
    simp [Ne.symm hp]
   ·rfl
  have ho:∀ p,(PSet.only R.follow.length).has p = true→R.follow.length ≤ p∧p < (R.add A).follow.length:=by
   intro p hp
   rw [has_only _ _ (by omega)] at hp
   simp at hp
   subst hp
   simp [RulesT.add]
  refine ⟨by simp [BT.glush,RulesT.add],fun p q hp=>hF p q,fun p q hp hq=>?_,fun p x hp=>hA p x (by omega),fun p x hp=>hA p x (by simp [BT.glush,RulesT.add] at hp; omega),ho,ho,rfl,rfl⟩
  have:=F_lt ((hF p q).1 hq)
  omega
 | .row l r,R,hn=>by
  simp only [BT.places] at hn
  have g1:=bglush_fits l R (by omega)
  have e1:=bglush_len l R
  have g2:=bglush_fits r (l.glush R).2 (by omega)
  have e2:=bglush_len r (l.glush R).2
  have l1:=g1.le
  have l2:=g2.le
  have hf:∀ p,(chainPart (l.glush R).1 (r.glush (l.glush R).2).1).first.has p = true→R.follow.length ≤ p∧p < (r.glush (l.glush R).2).2.follow.length:=by
   intro p hp
   unfold chainPart at hp
   simp only at hp
   split at hp
   ·rw [has_or,Bool.or_eq_true] at hp
    rcases hp with e | e
    ·have:=g1.first p e; omega
    ·have:=g2.first p e; omega
   ·have:=g1.first p hp; omega
  have hl:∀ p,(chainPart (l.glush R).1 (r.glush (l.glush R).2).1).last.has p = true→R.follow.length ≤ p∧p < (r.glush (l.glush R).2).2.follow.length:=by
   intro p hp
   unfold chainPart at hp
   simp only at hp
   split at hp
   ·rw [has_or,Bool.or_eq_true] at hp
    rcases hp with e | e
    ·have:=g2.last p e; omega
    ·have:=g1.last p e; omega
   ·have:=g2.last p hp; omega
  exact link_fits (g1.trans g2 hf hl) (fun p hp=>(g1.last p hp).1) (fun p hp=>by have:=g2.first p hp; omega) hf hl
 | .or l r,R,hn=>by
  simp only [BT.places] at hn
  have g1:=bglush_fits l R (by omega)
  have e1:=bglush_len l R
  have g2:=bglush_fits r (l.glush R).2 (by omega)
  have l1:=g1.le
  have l2:=g2.le
  have l3:(BT.glush (.or l r) R).2.follow.length = (r.glush (l.glush R).2).2.follow.length:=rfl
  refine g1.trans g2 (fun p hp=>?_) (fun p hp=>?_)
  ·rw [show (BT.glush (.or l r) R).1.first = (l.glush R).1.first.or (r.glush (l.glush R).2).1.first from rfl,has_or,Bool.or_eq_true] at hp
   rcases hp with e | e
   ·have:=g1.first p e; omega
   ·have:=g2.first p e; omega
  ·rw [show (BT.glush (.or l r) R).1.last = (l.glush R).1.last.or (r.glush (l.glush R).2).1.last from rfl,has_or,Bool.or_eq_true] at hp
   rcases hp with e | e
   ·have:=g1.last p e; omega
   ·have:=g2.last p e; omega
 | .plus l,R,hn=>by
  have g1:=bglush_fits l R hn
  exact link_fits g1 (fun p hp=>(g1.last p hp).1) (fun p hp=>g1.first p hp) g1.first g1.last
 | .maybe l,R,hn=>by
  have g1:=bglush_fits l R hn
  exact ⟨g1.le,g1.oldF,g1.newF,g1.oldA,g1.farA,g1.first,g1.last,g1.firstR,g1.lastR⟩
theorem bglush_word:∀ (t:BT) (R:RulesT),R.follow.length + t.places ≤ 128→Closed R→∀ w,PWord (t.glush R).2 (t.glush R).1 w↔t.Word w
 | .leaf i A,R,hn,hc,w=>by
  simp only [BT.places] at hn
  have hA:∀ x,(R.add A).A R.follow.length x↔A x = true:=by
   intro x
   unfold RulesT.A RulesT.add addAllow
   simp only
   have hno:(R.allow x).has R.follow.length = false:=by
    cases e:(R.allow x).has R.follow.length
    ·rfl
    ·have:=hc.2 _ x e; omega
   split
   ·rename_i h
    rw [has_or,has_only _ _ (by omega)]
    simp [h]
   ·rename_i h
    rw [hno]
    simp at h
    simp [h]
  have hfits:=bglush_fits (.leaf i A) R hn
  constructor
  ·rintro (⟨_,h⟩ | ⟨p,q,h1,h2,h3⟩)
   ·cases h
   ·have h1':(PSet.only R.follow.length).has p = true:=h1
    rw [has_only _ _ (by omega)] at h1'
    simp at h1'
    subst h1'
    cases w with
    |nil=>exact h3.elim
    |cons x w =>
     cases w with
     |nil=>exact ⟨x,rfl,(hA x).1 h3.1⟩
     |cons y w =>
      obtain ⟨_,p',h4,_⟩:=h3
      exfalso
      have h5:(R.add A).F R.follow.length p':=h4
      unfold RulesT.F RulesT.add at h5
      simp [has_none] at h5
  ·rintro ⟨x,rfl,h⟩
   have ho:(PSet.only R.follow.length).has R.follow.length = true:=by rw [has_only _ _ (by omega)]; simp
   exact .inr ⟨R.follow.length,R.follow.length,ho,ho,(hA x).2 h,rfl⟩
 | .row l r,R,hn,hc,w=>by
  simp only [BT.places] at hn
  have g1:=bglush_fits l R (by omega)
  have e1:=bglush_len l R
  have c1:=fits_closed g1 hc
  have g2:=bglush_fits r (l.glush R).2 (by omega)
  have c2:=fits_closed g2 c1
  have w1:=bglush_word l R (by omega) hc
  have w2:=bglush_word r (l.glush R).2 (by omega) c1
  have l1:=g1.le
  have l2:=g2.le
  simp only [BT.Word,BT.glush,RulesT.chain]
  generalize hP:(l.glush R).1 = P at *
  generalize hR1:(l.glush R).2 = R1 at *
  generalize hQ:(r.glush R1).1 = Q at *
  generalize hR2:(r.glush R1).2 = R2 at *
  -- within the first part: as ahead of the second
  have inP:∀ {p q:Nat} {w:List Nat},p < R1.follow.length→(Reads R2.F R2.A p w q↔Reads R1.F R1.A p w q):=fun hp=>reads_old g2 c1.1 hp
  have hG:∀ p p',(R2.link P.last Q.first).F p p'→R2.F p p'∨(P.last.has p = true∧Q.first.has p' = true):=by
   intro p p' h
   rcases (link_F _ _ _ _ _).1 h with e | ⟨_,e1,e2⟩
   ·exact .inl e
   ·exact .inr ⟨e1,e2⟩
  have hsub:∀ {p q:Nat} {w:List Nat},Reads R2.F R2.A p w q→Reads (R2.link P.last Q.first).F (R2.link P.last Q.first).A p w q:=fun h =>
   Reads.mono (I:=fun _=>True) (fun p x _ h=>h) (fun p p' _ h=>⟨(link_F _ _ _ _ _).2 (.inl h),trivial⟩) trivial h
  -- within the second part: no link
  have inQ:∀ {p q:Nat} {w:List Nat},R1.follow.length ≤ p→Reads (R2.link P.last Q.first).F (R2.link P.last Q.first).A p w q→Reads R2.F R2.A p w q:=fun hp h=>by
   refine Reads.mono (I:=fun p=>R1.follow.length ≤ p) (fun p x _ h=>h) (fun p p' hi h=>?_) hp h
   rcases hG _ _ h with e | ⟨e1,_⟩
   ·exact ⟨e,(g2.newF p p' hi e).1⟩
   ·have:=g1.last p e1; omega
  have hf:∀ p,(chainPart P Q).first.has p = true↔(P.first.has p = true∨(P.empty = true∧Q.first.has p = true)):=by
   intro p
   unfold chainPart
   simp only
   cases P.empty <;> simp [has_or]
  have hl:∀ p,(chainPart P Q).last.has p = true↔(Q.last.has p = true∨(Q.empty = true∧P.last.has p = true)):=by
   intro p
   unfold chainPart
   simp only
   cases Q.empty <;> simp [has_or]
  constructor
  ·rintro (⟨rfl,h⟩ | ⟨p,q,h1,h2,h3⟩)
   ·have h':(P.empty && Q.empty) = true:=h
    rw [Bool.and_eq_true] at h'
    exact ⟨[],[],rfl,(w1 []).1 (.inl ⟨rfl,h'.1⟩),(w2 []).1 (.inl ⟨rfl,h'.2⟩)⟩
   ·rcases (hf p).1 h1 with h4 | ⟨h4,h5⟩
    ·have hp:=g1.first p h4
     rcases Reads.part (F:=R2.F) hG h3 with h6 | ⟨u,v,p',p'',rfl,h6,h7,h8,h9⟩
     ·have h6':=(inP hp.2).1 h6
      have hq:=Reads.inv (I:=fun p=>p < R1.follow.length) (fun p p' hi h=>c1.1 _ _ h) hp.2 h6'
      rcases (hl q).1 h2 with h7 | ⟨h7,h8⟩
      ·have:=g2.last q h7; omega
      ·exact ⟨w,[],by simp,(w1 w).1 (.inr ⟨p,q,h4,h8,h6'⟩),(w2 []).1 (.inl ⟨rfl,h7⟩)⟩
     ·have hp'':=g2.first p'' h8
      have h9':=inQ hp''.1 h9
      have hq:=Reads.inv (I:=fun p=>R1.follow.length ≤ p) (fun p p' hi h=>(g2.newF p p' hi h).1) hp''.1 h9'
      rcases (hl q).1 h2 with h10 | ⟨_,h10⟩
      ·exact ⟨u,v,rfl,(w1 u).1 (.inr ⟨p,p',h4,h7,(inP hp.2).1 h6⟩),(w2 v).1 (.inr ⟨p'',q,h8,h10,h9'⟩)⟩
      ·have:=g1.last q h10; omega
    ·have hp:=g2.first p h5
     have h3':=inQ hp.1 h3
     have hq:=Reads.inv (I:=fun p=>R1.follow.length ≤ p) (fun p p' hi h=>(g2.newF p p' hi h).1) hp.1 h3'
     rcases (hl q).1 h2 with h10 | ⟨_,h10⟩
     ·exact ⟨[],w,rfl,(w1 []).1 (.inl ⟨rfl,h4⟩),(w2 w).1 (.inr ⟨p,q,h5,h10,h3'⟩)⟩
     ·have:=g1.last q h10; omega
  ·rintro ⟨u,v,rfl,hu,hv⟩
   rcases (w1 u).2 hu with ⟨rfl,h1⟩ | ⟨p,q,h1,h2,h3⟩
   ·rcases (w2 v).2 hv with ⟨rfl,h4⟩ | ⟨p',q',h4,h5,h6⟩
    ·exact .inl ⟨rfl,by show (P.empty && Q.empty) = true; rw [h1,h4]; rfl⟩
    ·exact .inr ⟨p',q',(hf p').2 (.inr ⟨h1,h4⟩),(hl q').2 (.inl h5),by simpa using hsub h6⟩
   ·have h3':=(inP (g1.first p h1).2).2 h3
    rcases (w2 v).2 hv with ⟨rfl,h4⟩ | ⟨p',q',h4,h5,h6⟩
    ·exact .inr ⟨p,q,(hf p).2 (.inl h1),(hl q).2 (.inr ⟨h4,h2⟩),by simpa using hsub h3'⟩
    ·refine .inr ⟨p,q',(hf p).2 (.inl h1),(hl q').2 (.inl h5),Reads.join (hsub h3') ((link_F _ _ _ _ _).2 (.inr ⟨?_,h2,h4⟩)) (hsub h6)⟩
     have:=g1.last q h2
     omega
 | .or l r,R,hn,hc,w=>by
  simp only [BT.places] at hn
  have g1:=bglush_fits l R (by omega)
  have e1:=bglush_len l R
  have c1:=fits_closed g1 hc
  have g2:=bglush_fits r (l.glush R).2 (by omega)
  have w1:=bglush_word l R (by omega) hc
  have w2:=bglush_word r (l.glush R).2 (by omega) c1
  simp only [BT.Word,BT.glush]
  generalize hP:(l.glush R).1 = P at *
  generalize hR1:(l.glush R).2 = R1 at *
  generalize hQ:(r.glush R1).1 = Q at *
  generalize hR2:(r.glush R1).2 = R2 at *
  have inP:∀ {p q:Nat} {w:List Nat},p < R1.follow.length→(Reads R2.F R2.A p w q↔Reads R1.F R1.A p w q):=fun hp=>reads_old g2 c1.1 hp
  have hf:∀ p,(eitherPart P Q).first.has p = true↔(P.first.has p = true∨Q.first.has p = true):=by
   intro p; unfold eitherPart; simp [has_or]
  have hl:∀ p,(eitherPart P Q).last.has p = true↔(P.last.has p = true∨Q.last.has p = true):=by
   intro p; unfold eitherPart; simp [has_or]
  constructor
  ·rintro (⟨rfl,h⟩ | ⟨p,q,h1,h2,h3⟩)
   ·have h':(P.empty || Q.empty) = true:=h
    rw [Bool.or_eq_true] at h'
    rcases h' with e | e
    ·exact .inl ((w1 []).1 (.inl ⟨rfl,e⟩))
    ·exact .inr ((w2 []).1 (.inl ⟨rfl,e⟩))
   ·rcases (hf p).1 h1 with h4 | h4
    ·have hp:=g1.first p h4
     have h3':=(inP hp.2).1 h3
     have hq:=Reads.inv (I:=fun p=>p < R1.follow.length) (fun p p' hi h=>c1.1 _ _ h) hp.2 h3'
     rcases (hl q).1 h2 with h7 | h7
     ·exact .inl ((w1 w).1 (.inr ⟨p,q,h4,h7,h3'⟩))
     ·have:=g2.last q h7; omega
    ·have hp:=g2.first p h4
     have hq:=Reads.inv (I:=fun p=>R1.follow.length ≤ p) (fun p p' hi h=>(g2.newF p p' hi h).1) hp.1 h3
     rcases (hl q).1 h2 with h7 | h7
     ·have:=g1.last q h7; omega
     ·exact .inr ((w2 w).1 (.inr ⟨p,q,h4,h7,h3⟩))
  ·rintro (h | h)
   ·rcases (w1 w).2 h with ⟨rfl,h1⟩ | ⟨p,q,h1,h2,h3⟩
    ·exact .inl ⟨rfl,by show (P.empty || Q.empty) = true; rw [h1]; rfl⟩
    ·exact .inr ⟨p,q,(hf p).2 (.inl h1),(hl q).2 (.inl h2),(inP (g1.first p h1).2).2 h3⟩
   ·rcases (w2 w).2 h with ⟨rfl,h1⟩ | ⟨p,q,h1,h2,h3⟩
    ·exact .inl ⟨rfl,by show (P.empty || Q.empty) = true; rw [h1]; simp⟩
    ·exact .inr ⟨p,q,(hf p).2 (.inr h1),(hl q).2 (.inr h2),h3⟩
 | .plus l,R,hn,hc,w=>by
  have g1:=bglush_fits l R hn
  have w1:=bglush_word l R hn hc
  simp only [BT.Word,BT.glush]
  have hw:=loop_words (R:=(l.glush R).2) (P:=(l.glush R).1) (fun p hp=>(g1.last p hp).2) w
  rw [star_congr w1] at hw
  have hplus:(∃ u v,w = u ++ v∧Star l.Word u∧l.Word v)↔((w = []∧l.Word [])∨(w ≠ []∧Star l.Word w)):=by
   constructor
   ·rintro ⟨u,v,rfl,h1,h2⟩
    by_cases he:u ++ v = []
    ·left
     rw [List.append_eq_nil_iff] at he
     rw [he.2] at h2
     exact ⟨by rw [he.1,he.2]; rfl,h2⟩
    ·exact .inr ⟨he,star_append h1 (star_one h2)⟩
   ·rintro (⟨rfl,h⟩ | ⟨hne,h⟩)
    ·exact ⟨[],[],rfl,.nil,h⟩
    ·clear hw
     induction h with
     |nil=>exact absurd rfl hne
     | @cons u v h1 h2 ih =>
      by_cases hv:v = []
      ·exact ⟨[],u,by rw [hv]; simp,.nil,h1⟩
      ·obtain ⟨u',v',rfl,h3,h4⟩:=ih hv
       exact ⟨u ++ u',v',by simp,.cons h1 h3,h4⟩
  rw [hplus]
  constructor
  ·rintro (⟨rfl,h⟩ | h)
   ·exact .inl ⟨rfl,(w1 []).1 (.inl ⟨rfl,h⟩)⟩
   ·exact .inr (hw.1 h)
  ·rintro (⟨rfl,h⟩ | h)
   ·rcases (w1 []).2 h with ⟨_,h1⟩ | ⟨p,q,h1,h2,h3⟩
    ·exact .inl ⟨rfl,h1⟩
    ·exact h3.elim
   ·exact .inr (hw.2 h)
 | .maybe l,R,hn,hc,w=>by
  have w1:=bglush_word l R hn hc w
  simp only [BT.Word,BT.glush]
  constructor
  ·rintro (⟨rfl,h⟩ | h)
   ·exact .inl rfl
   ·exact .inr (w1.1 (.inr h))
  ·rintro (rfl | h)
   ·exact .inl ⟨rfl,rfl⟩
   ·rcases w1.2 h with ⟨h1,h2⟩ | h2
    ·exact .inl ⟨h1,rfl⟩
    ·exact .inr h2
theorem bglush_last:∀ (t:BT) (R:RulesT),R.follow.length + t.places ≤ 128→Closed R→∀ w q,(∃ p,(t.glush R).1.first.has p = true∧Reads (t.glush R).2.F (t.glush R).2.A p w q)↔t.Last R.follow.length w q
 | .leaf i A,R,hn,hc,w,q=>by
  simp only [BT.places] at hn
  have hA:∀ x,(R.add A).A R.follow.length x↔A x = true:=by
   intro x
   unfold RulesT.A RulesT.add addAllow
   simp only
   have hno:(R.allow x).has R.follow.length = false:=by
    cases e:(R.allow x).has R.follow.length
    ·rfl
    ·have:=hc.2 _ x e; omega
   split
   ·rename_i h
    rw [has_or,has_only _ _ (by omega)]
    simp [h]
   ·rename_i h
    rw [hno]
    simp at h
    simp [h]
  constructor
  ·rintro ⟨p,h1,h3⟩
   have h1':(PSet.only R.follow.length).has p = true:=h1
   rw [has_only _ _ (by omega)] at h1'
   simp at h1'
   subst h1'
   cases w with
   |nil=>exact h3.elim
   |cons x w =>
    cases w with
    |nil=>exact ⟨x,rfl,(hA x).1 h3.1,h3.2.symm⟩
    |cons y w =>
     obtain ⟨_,p',h4,_⟩:=h3
     exfalso
     have h5:(R.add A).F R.follow.length p':=h4
     unfold RulesT.F RulesT.add at h5
     simp [has_none] at h5
  ·rintro ⟨x,rfl,h,rfl⟩
   have ho:(PSet.only R.follow.length).has R.follow.length = true:=by rw [has_only _ _ (by omega)]; simp
   exact ⟨R.follow.length,ho,(hA x).2 h,rfl⟩
 | .row l r,R,hn,hc,w,q=>by
  simp only [BT.places] at hn
  have g1:=bglush_fits l R (by omega)
  have e1:=bglush_len l R
  have c1:=fits_closed g1 hc
  have g2:=bglush_fits r (l.glush R).2 (by omega)
  have w1:=bglush_word l R (by omega) hc
  have k1:=bglush_last l R (by omega) hc
  have k2:=bglush_last r (l.glush R).2 (by omega) c1
  rw [e1] at k2
  have l1:=g1.le
  have l2:=g2.le
  simp only [BT.Last,BT.glush,RulesT.chain]
  generalize hP:(l.glush R).1 = P at *
  generalize hR1:(l.glush R).2 = R1 at *
  generalize hQ:(r.glush R1).1 = Q at *
  generalize hR2:(r.glush R1).2 = R2 at *
  have inP:∀ {p q:Nat} {w:List Nat},p < R1.follow.length→(Reads R2.F R2.A p w q↔Reads R1.F R1.A p w q):=fun hp=>reads_old g2 c1.1 hp
  have hG:∀ p p',(R2.link P.last Q.first).F p p'→R2.F p p'∨(P.last.has p = true∧Q.first.has p' = true):=by
   intro p p' h
   rcases (link_F _ _ _ _ _).1 h with e | ⟨_,e1,e2⟩
   ·exact .inl e
   ·exact .inr ⟨e1,e2⟩
  have hsub:∀ {p q:Nat} {w:List Nat},Reads R2.F R2.A p w q→Reads (R2.link P.last Q.first).F (R2.link P.last Q.first).A p w q:=fun h =>
   Reads.mono (I:=fun _=>True) (fun p x _ h=>h) (fun p p' _ h=>⟨(link_F _ _ _ _ _).2 (.inl h),trivial⟩) trivial h
  have inQ:∀ {p q:Nat} {w:List Nat},R1.follow.length ≤ p→Reads (R2.link P.last Q.first).F (R2.link P.last Q.first).A p w q→Reads R2.F R2.A p w q:=fun hp h=>by
   refine Reads.mono (I:=fun p=>R1.follow.length ≤ p) (fun p x _ h=>h) (fun p p' hi h=>?_) hp h
   rcases hG _ _ h with e | ⟨e1,_⟩
   ·exact ⟨e,(g2.newF p p' hi e).1⟩
   ·have:=g1.last p e1; omega
  have hf:∀ p,(chainPart P Q).first.has p = true↔(P.first.has p = true∨(P.empty = true∧Q.first.has p = true)):=by
   intro p
   unfold chainPart
   simp only
   cases P.empty <;> simp [has_or]
  constructor
  ·rintro ⟨p,h1,h3⟩
   rcases (hf p).1 h1 with h4 | ⟨h4,h5⟩
   ·have hp:=g1.first p h4
    rcases Reads.part (F:=R2.F) hG h3 with h6 | ⟨u,v,p',p'',rfl,h6,h7,h8,h9⟩
    ·exact .inl ((k1 w q).1 ⟨p,h4,(inP hp.2).1 h6⟩)
    ·exact .inr ⟨u,v,rfl,(w1 u).1 (.inr ⟨p,p',h4,h7,(inP hp.2).1 h6⟩),(k2 v q).1 ⟨p'',h8,inQ (g2.first p'' h8).1 h9⟩⟩
   ·exact .inr ⟨[],w,rfl,(w1 []).1 (.inl ⟨rfl,h4⟩),(k2 w q).1 ⟨p,h5,inQ (g2.first p h5).1 h3⟩⟩
  ·rintro (h | ⟨u,v,rfl,hu,hv⟩)
   ·obtain ⟨p,h1,h2⟩:=(k1 w q).2 h
    exact ⟨p,(hf p).2 (.inl h1),hsub ((inP (g1.first p h1).2).2 h2)⟩
   ·obtain ⟨p',h4,h6⟩:=(k2 v q).2 hv
    rcases (w1 u).2 hu with ⟨rfl,h1⟩ | ⟨p,q',h1,h2,h3⟩
    ·exact ⟨p',(hf p').2 (.inr ⟨h1,h4⟩),by simpa using hsub h6⟩
    ·refine ⟨p,(hf p).2 (.inl h1),Reads.join (hsub ((inP (g1.first p h1).2).2 h3)) ((link_F _ _ _ _ _).2 (.inr ⟨?_,h2,h4⟩)) (hsub h6)⟩
     have:=g1.last q' h2
     omega
 | .or l r,R,hn,hc,w,q=>by
  simp only [BT.places] at hn
  have g1:=bglush_fits l R (by omega)
  have e1:=bglush_len l R
  have c1:=fits_closed g1 hc
  have g2:=bglush_fits r (l.glush R).2 (by omega)
  have k1:=bglush_last l R (by omega) hc
  have k2:=bglush_last r (l.glush R).2 (by omega) c1
  rw [e1] at k2
  simp only [BT.Last,BT.glush]
  generalize hP:(l.glush R).1 = P at *
  generalize hR1:(l.glush R).2 = R1 at *
  generalize hQ:(r.glush R1).1 = Q at *
  generalize hR2:(r.glush R1).2 = R2 at *
  have inP:∀ {p q:Nat} {w:List Nat},p < R1.follow.length→(Reads R2.F R2.A p w q↔Reads R1.F R1.A p w q):=fun hp=>reads_old g2 c1.1 hp
  have hf:∀ p,(eitherPart P Q).first.has p = true↔(P.first.has p = true∨Q.first.has p = true):=by
   intro p; unfold eitherPart; simp [has_or]
  constructor
  ·rintro ⟨p,h1,h3⟩
   rcases (hf p).1 h1 with h4 | h4
   ·exact .inl ((k1 w q).1 ⟨p,h4,(inP (g1.first p h4).2).1 h3⟩)
   ·exact .inr ((k2 w q).1 ⟨p,h4,h3⟩)
  ·rintro (h | h)
   ·obtain ⟨p,h1,h2⟩:=(k1 w q).2 h
    exact ⟨p,(hf p).2 (.inl h1),(inP (g1.first p h1).2).2 h2⟩
   ·obtain ⟨p,h1,h2⟩:=(k2 w q).2 h
    exact ⟨p,(hf p).2 (.inr h1),h2⟩
 | .plus l,R,hn,hc,w,q=>by
  have g1:=bglush_fits l R hn
  have w1:=bglush_word l R hn hc
  have k1:=bglush_last l R hn hc
  simp only [BT.Last,BT.glush]
  generalize hP:(l.glush R).1 = P at *
  generalize hR1:(l.glush R).2 = R1 at *
  have hsub:∀ {p q:Nat} {w:List Nat},Reads R1.F R1.A p w q→Reads (R1.link P.last P.first).F (R1.link P.last P.first).A p w q:=fun h =>
   Reads.mono (I:=fun _=>True) (fun p x _ h=>h) (fun p p' _ h=>⟨(link_F _ _ _ _ _).2 (.inl h),trivial⟩) trivial h
  have hG:∀ p p',(R1.link P.last P.first).F p p'→R1.F p p'∨(P.last.has p = true∧P.first.has p' = true):=by
   intro p p' h
   rcases (link_F _ _ _ _ _).1 h with e | ⟨_,e1,e2⟩
   ·exact .inl e
   ·exact .inr ⟨e1,e2⟩
  constructor
  ·rintro ⟨p,h1,h3⟩
   generalize hnn:w.length = n
   induction n using Nat.strongRecOn generalizing w p with
   |ind n ih =>
    rcases Reads.part (F:=R1.F) hG h3 with h4 | ⟨u,v,p',p'',rfl,h5,h6,h7,h8⟩
    ·exact ⟨[],w,rfl,.nil,(k1 w q).1 ⟨p,h1,h4⟩⟩
    ·have hu:=h5.ne
     have:0 < u.length:=List.length_pos_iff.2 hu
     simp at hnn
     obtain ⟨u',v',rfl,h9,h10⟩:=ih v.length (by omega) v p'' h7 h8 rfl
     exact ⟨u ++ u',v',by simp,.cons ((w1 u).1 (.inr ⟨p,p',h1,h6,h5⟩)) h9,h10⟩
  ·rintro ⟨u,v,rfl,hu,hv⟩
   induction hu with
   |nil =>
    obtain ⟨p,h1,h2⟩:=(k1 v q).2 hv
    exact ⟨p,h1,by simpa using hsub h2⟩
   | @cons a b h1 h2 ih =>
    obtain ⟨p',h6,h8⟩:=ih
    rcases (w1 a).2 h1 with ⟨rfl,_⟩ | ⟨p,q',h3,h4,h5⟩
    ·exact ⟨p',h6,by simpa using h8⟩
    ·rw [List.append_assoc]
     exact ⟨p,h3,Reads.join (hsub h5) ((link_F _ _ _ _ _).2 (.inr ⟨(g1.last q' h4).2,h4,h6⟩)) h8⟩
 | .maybe l,R,hn,hc,w,q=>bglush_last l R hn hc w q
theorem BT.last_in:∀ (t:BT) (n:Nat) (w:List Nat) (q:Nat),t.Last n w q→n ≤ q∧q < n + t.places
 | .leaf i A,n,w,q,h=>by obtain ⟨x,_,_,rfl⟩:=h; simp [places]
 | .row l r,n,w,q,h=>by
  simp only [places]
  rcases h with h | ⟨u,v,_,_,h⟩
  ·have:=last_in l n w q h; omega
  ·have:=last_in r _ v q h; omega
 | .or l r,n,w,q,h=>by
  simp only [places]
  rcases h with h | h
  ·have:=last_in l n w q h; omega
  ·have:=last_in r _ w q h; omega
 | .plus l,n,w,q,h=>by obtain ⟨u,v,_,_,h⟩:=h; exact last_in l n v q h
 | .maybe l,n,w,q,h=>last_in l n w q h
theorem getD_app_left {l m:List Nat} {k:Nat} (h:k < l.length):(l ++ m).getD k 0 = l.getD k 0:=by
 rw [List.getD_eq_getElem?_getD,List.getElem?_append_left h,← List.getD_eq_getElem?_getD]
theorem getD_app_right {l m:List Nat} {k n:Nat} (h:l.length = n) (hk:n ≤ k):(l ++ m).getD k 0 = m.getD (k - n) 0:=by
 rw [List.getD_eq_getElem?_getD,List.getElem?_append_right (by omega),← List.getD_eq_getElem?_getD,h]
theorem BT.plast_iff:∀ (t:BT) (n:Nat) (w:List Nat) (a:Nat),t.PLast w a↔∃ q,t.Last n w q∧t.pos.getD (q - n) 0 = a
 | .leaf i A,n,w,a=>by
  constructor
  ·rintro ⟨x,h1,h2,rfl⟩; exact ⟨n,⟨x,h1,h2,rfl⟩,by simp [pos]⟩
  ·rintro ⟨q,⟨x,h1,h2,rfl⟩,h3⟩; exact ⟨x,h1,h2,by simpa [pos] using h3.symm⟩
 | .row l r,n,w,a=>by
  have k1:=plast_iff l n
  have k2:=plast_iff r (n + l.places)
  have e:=pos_len l
  constructor
  ·rintro (h | ⟨u,v,h1,h2,h3⟩)
   ·obtain ⟨q,h4,h5⟩:=(k1 w a).1 h
    have:=last_in l n w q h4
    exact ⟨q,.inl h4,by rw [pos,getD_app_left (by omega)]; exact h5⟩
   ·obtain ⟨q,h4,h5⟩:=(k2 v a).1 h3
    have:=last_in r _ v q h4
    exact ⟨q,.inr ⟨u,v,h1,h2,h4⟩,by rw [pos,getD_app_right e (by omega),show q - n - l.places = q - (n + l.places) by omega]; exact h5⟩
  ·rintro ⟨q,h | ⟨u,v,h1,h2,h3⟩,h5⟩
   ·have:=last_in l n w q h
    rw [pos,getD_app_left (by omega)] at h5
    exact .inl ((k1 w a).2 ⟨q,h,h5⟩)
   ·have:=last_in r _ v q h3
    rw [pos,getD_app_right e (by omega),show q - n - l.places = q - (n + l.places) by omega] at h5
    exact .inr ⟨u,v,h1,h2,(k2 v a).2 ⟨q,h3,h5⟩⟩
 | .or l r,n,w,a=>by
  have k1:=plast_iff l n
  have k2:=plast_iff r (n + l.places)
  have e:=pos_len l
  constructor
  ·rintro (h | h3)
   ·obtain ⟨q,h4,h5⟩:=(k1 w a).1 h
    have:=last_in l n w q h4
    exact ⟨q,.inl h4,by rw [pos,getD_app_left (by omega)]; exact h5⟩
   ·obtain ⟨q,h4,h5⟩:=(k2 w a).1 h3
    have:=last_in r _ w q h4
    exact ⟨q,.inr h4,by rw [pos,getD_app_right e (by omega),show q - n - l.places = q - (n + l.places) by omega]; exact h5⟩
  ·rintro ⟨q,h | h3,h5⟩
   ·have:=last_in l n w q h
    rw [pos,getD_app_left (by omega)] at h5
    exact .inl ((k1 w a).2 ⟨q,h,h5⟩)
   ·have:=last_in r _ w q h3
    rw [pos,getD_app_right e (by omega),show q - n - l.places = q - (n + l.places) by omega] at h5
    exact .inr ((k2 w a).2 ⟨q,h3,h5⟩)
 | .plus l,n,w,a=>by
  constructor
  ·rintro ⟨u,v,h1,h2,h3⟩
   obtain ⟨q,h4,h5⟩:=(plast_iff l n v a).1 h3
   exact ⟨q,⟨u,v,h1,h2,h4⟩,h5⟩
  ·rintro ⟨q,⟨u,v,h1,h2,h4⟩,h5⟩
   exact ⟨u,v,h1,h2,(plast_iff l n v a).2 ⟨q,h4,h5⟩⟩
 | .maybe l,n,w,a=>plast_iff l n w a
def bplaces:List BT→Nat
 | []=>0
 |t :: ts=>t.places + bplaces ts
def bglushAll:List BT→RulesT→RulesT
 | [],R=>R
 |t :: ts,R=>bglushAll ts ((t.glush R).2.endRule (t.glush R).1)
def LastAll:List BT→Nat→List Nat→Nat→Prop
 | [],n,w,q=>False
 |t :: ts,n,w,q=>t.Last n w q∨LastAll ts (n + t.places) w q
def posAll:List BT→List Nat
 | []=>[]
 |t :: ts=>t.pos ++ posAll ts
theorem bplaces_snoc (t:BT):∀ ts:List BT,bplaces (ts ++ [t]) = bplaces ts + t.places
 | []=>by simp [bplaces]
 |x :: ts=>by simp [bplaces,bplaces_snoc t ts]; omega
theorem lastAll_snoc (t:BT):∀ (ts:List BT) (n:Nat) (w:List Nat) (q:Nat),LastAll (ts ++ [t]) n w q↔(LastAll ts n w q∨t.Last (n + bplaces ts) w q)
 | [],n,w,q=>by simp [LastAll,bplaces]
 |x :: ts,n,w,q=>by
  simp only [List.cons_append,LastAll,bplaces]
  rw [lastAll_snoc t ts,show n + x.places + bplaces ts = n + (x.places + bplaces ts) by omega,or_assoc]
theorem posAll_len:∀ ts:List BT,(posAll ts).length = bplaces ts
 | []=>rfl
 |t :: ts=>by simp [posAll,bplaces,t.pos_len,posAll_len ts]
theorem lastAll_in:∀ (ts:List BT) (n:Nat) (w:List Nat) (q:Nat),LastAll ts n w q→n ≤ q∧q < n + bplaces ts
 | [],n,w,q,h=>h.elim
 |t :: ts,n,w,q,h=>by
  simp only [bplaces]
  rcases h with h | h
  ·have:=t.last_in n w q h; omega
  ·have:=lastAll_in ts _ w q h; omega
theorem plastAll_iff:∀ (ts:List BT) (n:Nat) (w:List Nat) (a:Nat),(∃ t ∈ ts,t.PLast w a)↔∃ q,LastAll ts n w q∧(posAll ts).getD (q - n) 0 = a
 | [],n,w,a=>by simp [LastAll]
 |t :: ts,n,w,a=>by
  have k1:=t.plast_iff n w a
  have k2:=plastAll_iff ts (n + t.places) w a
  have e:=t.pos_len
  constructor
  ·rintro ⟨x,hx,h⟩
   rw [List.mem_cons] at hx
   rcases hx with rfl | hx
   ·obtain ⟨q,h4,h5⟩:=k1.1 h
    have:=x.last_in n w q h4
    exact ⟨q,.inl h4,by rw [posAll,getD_app_left (by omega)]; exact h5⟩
   ·obtain ⟨q,h4,h5⟩:=k2.1 ⟨x,hx,h⟩
    have:=lastAll_in ts _ w q h4
    exact ⟨q,.inr h4,by rw [posAll,getD_app_right e (by omega),show q - n - t.places = q - (n + t.places) by omega]; exact h5⟩
  ·rintro ⟨q,h | h,h5⟩
   ·have:=t.last_in n w q h
    rw [posAll,getD_app_left (by omega)] at h5
    exact ⟨t,by simp,k1.2 ⟨q,h,h5⟩⟩
   ·have:=lastAll_in ts _ w q h
    rw [posAll,getD_app_right e (by omega),show q - n - t.places = q - (n + t.places) by omega] at h5
    obtain ⟨x,hx,hh⟩:=k2.2 ⟨q,h,h5⟩
    exact ⟨x,by simp [hx],hh⟩
structure BTInv (R:RulesT) (ts:List BT):Prop where
 closed:Closed R
 first:∀ p,R.first.has p = true→p < R.follow.length
 len:R.last.length = ts.length
 fol:R.follow.length = bplaces ts
 last:∀ i p,(R.last.getD i PSet.none).has p = true→p < R.follow.length
 word:∀ i,(h:i < ts.length)→∀ w,w ≠ []→((∃ p q,R.first.has p = true∧(R.last.getD i PSet.none).has q = true∧Reads R.F R.A p w q)↔ts[i].Word w)
 ends:∀ w q,(∃ p,R.first.has p = true∧Reads R.F R.A p w q)↔LastAll ts 0 w q
theorem BTInv.new:BTInv RulesT.new [] where
 closed:=⟨fun p q h=>by simp [RulesT.F,RulesT.new,has_none] at h,fun p x h=>by simp [RulesT.A,RulesT.new,has_none] at h⟩
 first:=fun p h=>by simp [RulesT.new,has_none] at h
 len:=rfl
 fol:=rfl
 last:=fun i p h=>by simp [RulesT.new,has_none] at h
 word:=fun i h=>by simp at h
 ends:=fun w q=>by simp [RulesT.new,has_none,LastAll]
theorem BTInv.step {R:RulesT} {ts:List BT} (h:BTInv R ts) (t:BT) (hn:R.follow.length + t.places ≤ 128):BTInv ((t.glush R).2.endRule (t.glush R).1) (ts ++ [t]):=by
 have g:=bglush_fits t R hn
 have c:=fits_closed g h.closed
 have gw:=bglush_word t R hn h.closed
 have gl:=bglush_last t R hn h.closed
 have gn:=bglush_len t R
 generalize (t.glush R).1 = P at *
 generalize (t.glush R).2 = R1 at *
 have l1:=g.le
 have eF:(R1.endRule P).F = R1.F:=rfl
 have eA:(R1.endRule P).A = R1.A:=rfl
 have ef:∀ p,(R1.endRule P).first.has p = true↔(R.first.has p = true∨P.first.has p = true):=by
  intro p
  show ((R1.first.or P.first).has p = true)↔_
  rw [has_or,Bool.or_eq_true,g.firstR]
 have el:(R1.endRule P).last = R.last ++ [P.last]:=by show R1.last ++ [P.last] = _; rw [g.lastR]
 have elo:∀ i,i < ts.length→(R1.endRule P).last.getD i PSet.none = R.last.getD i PSet.none:=fun i hi=>by
  rw [el,List.getD_eq_getElem?_getD,List.getElem?_append_left (by rw [h.len]; exact hi),← List.getD_eq_getElem?_getD]
 have eln:(R1.endRule P).last.getD ts.length PSet.none = P.last:=by rw [el,← h.len]; simp
 have hold:∀ {p q:Nat} {w:List Nat},p < R.follow.length→(Reads R1.F R1.A p w q↔Reads R.F R.A p w q):=fun hp=>reads_old g h.closed.1 hp
 have hnew:∀ {p q:Nat} {w:List Nat},R.follow.length ≤ p→Reads R1.F R1.A p w q→R.follow.length ≤ q:=fun hp hr =>
  Reads.inv (I:=fun p=>R.follow.length ≤ p) (fun p p' hi h=>(g.newF p p' hi h).1) hp hr
 refine ⟨c,fun p hp=>?_,by rw [el]; simp [h.len],?_,fun i p hp=>?_,fun i hi w hw=>?_,fun w q=>?_⟩
 ·show p < R1.follow.length
  rcases (ef p).1 hp with e | e
  ·have:=h.first p e; omega
  ·exact (g.first p e).2
 ·show R1.follow.length = _
  rw [gn,bplaces_snoc,h.fol]
 ·show p < R1.follow.length
  by_cases hi:i < ts.length
  ·rw [elo i hi] at hp; have:=h.last i p hp; omega
  ·by_cases hi2:i = ts.length
   ·rw [hi2,eln] at hp; exact (g.last p hp).2
   ·have:=has_of_mem hp; rw [el] at this; simp [h.len] at this; omega
 ·rw [eF,eA]
  by_cases hi2:i < ts.length
  ·rw [elo i hi2,List.getElem_append_left hi2,← h.word i hi2 w hw]
   constructor
   ·rintro ⟨p,q,h1,h2,h3⟩
    rcases (ef p).1 h1 with e | e
    ·exact ⟨p,q,e,h2,(hold (h.first p e)).1 h3⟩
    ·have:=hnew (g.first p e).1 h3
     have:=h.last i q h2
     omega
   ·rintro ⟨p,q,h1,h2,h3⟩
    exact ⟨p,q,(ef p).2 (.inl h1),h2,(hold (h.first p h1)).2 h3⟩
  ·have hi3:i = ts.length:=by simp at hi; omega
   subst hi3
   rw [eln]
   simp only [List.getElem_append_right (Nat.le_refl _),Nat.sub_self,List.getElem_cons_zero]
   rw [← gw w]
   constructor
   ·rintro ⟨p,q,h1,h2,h3⟩
    rcases (ef p).1 h1 with e | e
    ·have h3':=(hold (h.first p e)).1 h3
     have:=Reads.inv (I:=fun p=>p < R.follow.length) (fun p p' hi h'=>h.closed.1 _ _ h') (h.first p e) h3'
     have:=g.last q h2
     omega
    ·exact .inr ⟨p,q,e,h2,h3⟩
   ·rintro (⟨e,_⟩ | ⟨p,q,h1,h2,h3⟩)
    ·exact absurd e hw
    ·exact ⟨p,q,(ef p).2 (.inr h1),h2,h3⟩
 ·rw [eF,eA,lastAll_snoc,← h.ends w q,Nat.zero_add,← h.fol,← gl w q]
  constructor
  ·rintro ⟨p,h1,h2⟩
   rcases (ef p).1 h1 with e | e
   ·exact .inl ⟨p,e,(hold (h.first p e)).1 h2⟩
   ·exact .inr ⟨p,e,h2⟩
  ·rintro (⟨p,h1,h2⟩ | ⟨p,h1,h2⟩)
   ·exact ⟨p,(ef p).2 (.inl h1),(hold (h.first p h1)).2 h2⟩
   ·exact ⟨p,(ef p).2 (.inr h1),h2⟩
theorem bglushAll_inv:∀ (ts us:List BT) (R:RulesT),BTInv R us→R.follow.length + bplaces ts ≤ 128→BTInv (bglushAll ts R) (us ++ ts)
 | [],us,R,h,_=>by rw [List.append_nil]; exact h
 |t :: ts,us,R,h,hn=>by
  unfold bplaces at hn
  unfold bglushAll
  have:=bglushAll_inv ts (us ++ [t]) _ (h.step t (by omega)) (by show (t.glush R).2.follow.length + _ ≤ 128; rw [bglush_len]; omega)
  simpa using this
theorem brules_inv (ts:List BT) (hn:bplaces ts ≤ 128):BTInv (bglushAll ts RulesT.new) ts:=by
 have:=bglushAll_inv ts [] RulesT.new BTInv.new (by simp [RulesT.new]; exact hn)
 simpa using this
theorem BTInv.set {R:RulesT} {ts:List BT} (h:BTInv R ts) {w:List Nat} (hw:w ≠ []) (q:Nat):(setW R w).has q = true↔LastAll ts 0 w q:=by
 rw [setW_has R q w hw,h.ends]
def PosApart (ts:List BT):Prop:=(posAll ts).Nodup
theorem posAll_inj {ts:List BT} (h:PosApart ts) {i j:Nat} (hi:i < bplaces ts) (hj:j < bplaces ts) (e:(posAll ts).getD i 0 = (posAll ts).getD j 0):i = j:=by
 rw [← posAll_len] at hi hj
 simp only [List.getD_eq_getElem?_getD,List.getElem?_eq_getElem hi,List.getElem?_eq_getElem hj,Option.getD_some] at e
 exact (List.getElem_inj h).1 e
theorem set_same {R:RulesT} {ts:List BT} (h:BTInv R ts) (hp:PosApart ts) {v w:List Nat} (hv:v ≠ []) (hw:w ≠ []):(∀ a,(∃ t ∈ ts,t.PLast v a)↔∃ t ∈ ts,t.PLast w a)↔setW R v = setW R w:=by
 constructor
 ·intro e
  refine pset_ext fun q=>?_
  rw [Bool.eq_iff_iff,h.set hv,h.set hw]
  have key:∀ v w:List Nat,(∀ a,(∃ t ∈ ts,t.PLast v a)→∃ t ∈ ts,t.PLast w a)→LastAll ts 0 v q→LastAll ts 0 w q:=by
   intro v w e h1
   have h2:=e _ ((plastAll_iff ts 0 v _).2 ⟨q,h1,rfl⟩)
   obtain ⟨q',h3,h4⟩:=(plastAll_iff ts 0 w _).1 h2
   have i1:=lastAll_in ts 0 v q h1
   have i2:=lastAll_in ts 0 w q' h3
   simp only [Nat.sub_zero,Nat.zero_add] at h4 i1 i2
   rw [← posAll_inj hp i2.2 i1.2 h4]
   exact h3
  exact ⟨key v w (fun a=>(e a).1),key w v (fun a=>(e a).2)⟩
 ·intro e a
  rw [plastAll_iff ts 0,plastAll_iff ts 0]
  have:∀ q,LastAll ts 0 v q↔LastAll ts 0 w q:=fun q=>by rw [← h.set hv,← h.set hw,e]
  simp only [this]
theorem set_empty {R:RulesT} {ts:List BT} (h:BTInv R ts) {w:List Nat} (hw:w ≠ []):(∀ a,¬ ∃ t ∈ ts,t.PLast w a)↔(setW R w).isEmpty = true:=by
 rw [isEmpty_iff]
 constructor
 ·intro e q
  cases hh:(setW R w).has q with
  |false=>rfl
  |true=>exact absurd ((plastAll_iff ts 0 w _).2 ⟨q,(h.set hw q).1 hh,rfl⟩) (e _)
 ·intro e a h1
  obtain ⟨q,h2,_⟩:=(plastAll_iff ts 0 w a).1 h1
  have:=(h.set hw q).2 h2
  rw [e q] at this
  cases this
def BTokIs (ts:List BT) (w:List Nat) (r:Int):Prop:=(r = -1∧∀ i,(h:i < ts.length)→¬ ts[i].Word w)∨∃ i,∃ h:i < ts.length,r = (i:Int)∧ts[i].Word w∧∀ j,(hj:j < i)→¬ (ts[j]'(by omega)).Word w
theorem BTokIs.one {ts:List BT} {w:List Nat} {r s:Int} (h:BTokIs ts w r) (g:BTokIs ts w s):r = s:=by
 rcases h with ⟨h1,h2⟩ | ⟨i,hi,h1,h2,h3⟩ <;> rcases g with ⟨g1,g2⟩ | ⟨j,hj,g1,g2,g3⟩
 ·rw [h1,g1]
 ·exact absurd g2 (h2 j hj)
 ·exact absurd h2 (g2 i hi)
 ·rcases Nat.lt_trichotomy i j with e | e | e
  ·exact absurd h2 (g3 i e)
  ·rw [h1,g1,e]
  ·exact absurd g2 (h3 j e)
theorem rule_btok {R:RulesT} {ts:List BT} (h:BTInv R ts) (w:List Nat) (hw:w ≠ []):BTokIs ts w (R.rule (setW R w)):=by
 have hm:∀ i,(hi:i < ts.length)→((setW R w).meets (R.last.getD i PSet.none) = true↔ts[i].Word w):=by
  intro i hi
  rw [meets_iff,← h.word i hi w hw]
  constructor
  ·rintro ⟨q,h1,h2⟩
   obtain ⟨p,h3,h4⟩:=(setW_has R q w hw).1 h1
   exact ⟨p,q,h3,h2,h4⟩
  ·rintro ⟨p,q,h1,h2,h3⟩
   exact ⟨q,(setW_has R q w hw).2 ⟨p,h1,h3⟩,h2⟩
 unfold RulesT.rule
 rcases ruleFrom_spec (setW R w) R.last 0 with ⟨h1,h2⟩ | ⟨i,h1,h2,h3,h4⟩
 ·refine .inl ⟨h1,fun i hi hW=>?_⟩
  have:=(hm i hi).2 hW
  rw [h2 i (by rw [h.len]; exact hi)] at this
  cases this
 ·rw [h.len] at h1
  refine .inr ⟨i,h1,by rw [h2]; simp,(hm i h1).1 h3,fun j hj hW=>?_⟩
  have:=(hm j (by omega)).2 hW
  rw [h4 j hj] at this
  cases this
end Go.Proofs.YtcckhngbdoiikaaGreat
