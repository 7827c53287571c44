import Derived.Test.YtcckhngbdoiikaaGreatG10
import Derived.Test.YtcckhngbdoiikaaGreatG02
import Derived.Deep.RegionHeld3
import Derived.Deep.AppendLies
import Derived.Test.YtcckhngbdoiikaaGreatG08
import Derived.Test.YtcckhngbdoiikaaGreatG03

namespace Go.Proofs.YtcckhngbdoiikaaGreat
open Go.RowKit Go.Deep
set_option linter.unusedVariables false
def setsC:List PSet→List Value
 | []=>[]
 |s :: r=>.int .u64 (s.lo.toNat:Int) :: .int .u64 (s.hi.toNat:Int) :: setsC r
theorem setsC_length:∀ l:List PSet,(setsC l).length = l.length * 2
 | []=>rfl
 |s :: r=>by simp [setsC,setsC_length r]; omega
theorem setsC_append:∀ l m:List PSet,setsC (l ++ m) = setsC l ++ setsC m
 | [],m=>rfl
 |s :: r,m=>by simp [setsC,setsC_append r m]
theorem setsC_get0:∀ (l:List PSet) (k:Nat) (h:k < l.length),(setsC l)[k * 2]? = some (.int .u64 (l[k].lo.toNat:Int))
 |s :: r,0,_=>rfl
 |s :: r,k + 1,h=>by
  rw [show (k + 1) * 2 = k * 2 + 1 + 1 by omega]
  simp only [setsC,List.getElem?_cons_succ,List.getElem_cons_succ]
  exact setsC_get0 r k (by simpa using h)
theorem setsC_get1:∀ (l:List PSet) (k:Nat) (h:k < l.length),(setsC l)[k * 2 + 1]? = some (.int .u64 (l[k].hi.toNat:Int))
 |s :: r,0,_=>rfl
 |s :: r,k + 1,h=>by
  rw [show (k + 1) * 2 + 1 = k * 2 + 1 + 1 + 1 by omega]
  simp only [setsC,List.getElem?_cons_succ,List.getElem_cons_succ]
  exact setsC_get1 r k (by simpa using h)
theorem setsC_set:∀ (l:List PSet) (k:Nat) (s:PSet),((setsC l).set (k * 2) (.int .u64 (s.lo.toNat:Int))).set (k * 2 + 1) (.int .u64 (s.hi.toNat:Int)) = setsC (l.set k s)
 | [],k,s=>by simp [setsC]
 |t :: r,0,s=>by simp [setsC]
 |t :: r,k + 1,s=>by
  rw [show (k + 1) * 2 = k * 2 + 1 + 1 by omega]
  simp only [setsC,List.set_cons_succ]
  rw [setsC_set r k s]
def rulesC (al:Nat→PSet) (f:PSet) (fv lv:Value):Array Value :=
 (setsC ((List.range 256).map al) ++ [.int .u64 (f.lo.toNat:Int),.int .u64 (f.hi.toNat:Int),fv,lv]).toArray
theorem allows_length (al:Nat→PSet):(setsC ((List.range 256).map al)).length = 512:=by simp [setsC_length]
theorem zeroRules:Tryz.zeroCells113 = rulesC (fun _=>PSet.none) PSet.none (.slice none 0 0) (.slice none 0 0):=by kernel_rfl
section
variable (al:Nat→PSet) (f:PSet) (fv lv:Value)
theorem rulesC_get0 (b:Nat) (h:b < 256):(rulesC al f fv lv)[b * 2]? = some (.int .u64 ((al b).lo.toNat:Int)):=by
 rw [rulesC,List.getElem?_toArray,List.getElem?_append_left (by rw [allows_length]; omega),setsC_get0 _ b (by simpa using h)]; simp
theorem rulesC_get1 (b:Nat) (h:b < 256):(rulesC al f fv lv)[b * 2 + 1]? = some (.int .u64 ((al b).hi.toNat:Int)):=by
 rw [rulesC,List.getElem?_toArray,List.getElem?_append_left (by rw [allows_length]; omega),setsC_get1 _ b (by simpa using h)]; simp
theorem rulesC_512:(rulesC al f fv lv)[512]? = some (.int .u64 (f.lo.toNat:Int)):=by
 rw [rulesC,List.getElem?_toArray,List.getElem?_append_right (by rw [allows_length]; omega),allows_length]; rfl
theorem rulesC_513:(rulesC al f fv lv)[513]? = some (.int .u64 (f.hi.toNat:Int)):=by
 rw [rulesC,List.getElem?_toArray,List.getElem?_append_right (by rw [allows_length]; omega),allows_length]; rfl
theorem rulesC_514:(rulesC al f fv lv)[514]? = some fv:=by
 rw [rulesC,List.getElem?_toArray,List.getElem?_append_right (by rw [allows_length]; omega),allows_length]; rfl
theorem rulesC_515:(rulesC al f fv lv)[515]? = some lv:=by
 rw [rulesC,List.getElem?_toArray,List.getElem?_append_right (by rw [allows_length]; omega),allows_length]; rfl
theorem rulesC_setAllow (b:Nat) (h:b < 256) (s:PSet) :
  ((rulesC al f fv lv).setIfInBounds (b * 2) (.int .u64 (s.lo.toNat:Int))).setIfInBounds (b * 2 + 1) (.int .u64 (s.hi.toNat:Int)) = rulesC (fun j=>if j = b then s else al j) f fv lv:=by
 simp only [rulesC,List.setIfInBounds_toArray]
 rw [List.set_append_left _ _ (by rw [allows_length]; omega),List.set_append_left _ _ (by rw [List.length_set,allows_length]; omega),setsC_set]
 congr 3
 apply List.ext_getElem?
 intro j
 rw [List.getElem?_set]
 by_cases e:b = j
 ·subst e; simp [h]
 ·simp [e]
  by_cases hj:j < 256
  ·simp [hj,show ¬ j = b from fun x=>e x.symm]
  ·simp [hj]
theorem rulesC_setFirst (s:PSet) :
  ((rulesC al f fv lv).setIfInBounds 512 (.int .u64 (s.lo.toNat:Int))).setIfInBounds 513 (.int .u64 (s.hi.toNat:Int)) = rulesC al s fv lv:=by
 simp only [rulesC,List.setIfInBounds_toArray]
 rw [List.set_append_right _ _ (by rw [allows_length]; omega),List.set_append_right _ _ (by rw [allows_length]; omega),allows_length]; rfl
theorem rulesC_setFollow (v:Value):(rulesC al f fv lv).setIfInBounds 514 v = rulesC al f v lv:=by
 simp only [rulesC,List.setIfInBounds_toArray]
 rw [List.set_append_right _ _ (by rw [allows_length]; omega),allows_length]; rfl
theorem rulesC_setLast (v:Value):(rulesC al f fv lv).setIfInBounds 515 v = rulesC al f fv v:=by
 simp only [rulesC,List.setIfInBounds_toArray]
 rw [List.set_append_right _ _ (by rw [allows_length]; omega),allows_length]; rfl
end
def SetRow (w:World) (v:Value) (l:List PSet):Prop:=w.ownsRow 0 109 2 v l.length (setsC l)
structure RulesAt (w:World) (gb:Nat) (O:Nat→Prop) (R:RulesT) (fv lv:Value):Prop where
 blk:Blk w gb (rulesC R.allow R.first fv lv) 113
 fol:SetRow w fv R.follow
 las:SetRow w lv R.last
 og:O gb
 ofo:∀ k,fv.ownBlock = some k→O k∧k ≠ gb
 ola:∀ k,lv.ownBlock = some k→O k∧k ≠ gb
 ne:∀ k,fv.ownBlock = some k→lv.ownBlock ≠ some k
 olt:∀ k,O k→k < w.heap.size
theorem ownsRow_kept {w w':World} {ex:Nat→Prop} {base:Nat} {e:TypeId} {size:Nat} {v:Value} {n:Nat} {xs:List Value} (h:w.ownsRow base e size v n xs) (k:Kept ex w w') (he:∀ b,v.ownBlock = some b→¬ ex b):w'.ownsRow base e size v n xs:=by
 obtain ⟨h0,h | ⟨g,cap,cur,rfl,h2,h3,h4⟩⟩:=h
 ·exact ⟨h0,.inl h⟩
 ·have hlt:g < w.heap.size:=by
   by_cases hb:g < w.heap.size
   ·exact hb
   ·rw [Array.getElem?_eq_none (by omega)] at h3; cases h3
  exact ⟨h0,.inr ⟨g,cap,cur,rfl,h2,by rw [k.block g hlt (he g rfl)]; exact h3,h4⟩⟩
theorem RulesAt.kept {w w':World} {gb:Nat} {O ex:Nat→Prop} {R:RulesT} {fv lv:Value} (h:RulesAt w gb O R fv lv) (k:Kept ex w w') (he:∀ b,O b→¬ ex b):RulesAt w' gb O R fv lv :=
 ⟨h.blk.kept k (he _ h.og),ownsRow_kept h.fol k (fun b hb=>he b (h.ofo b hb).1),ownsRow_kept h.las k (fun b hb=>he b (h.ola b hb).1),h.og,h.ofo,h.ola,h.ne,fun b hb=>Nat.lt_of_lt_of_le (h.olt b hb) k.size⟩
theorem RulesAt.below {w w':World} {gb:Nat} {O:Nat→Prop} {R:RulesT} {fv lv:Value} (h:RulesAt w gb O R fv lv) (k:Below w.heap.size w w'):RulesAt w' gb O R fv lv :=
 h.kept (ex:=fun _=>False) (Kept.ofBelow k) (fun _ _ e=>e)
theorem ownsRow_form {w:World} {e:TypeId} {size:Nat} {v:Value} {n:Nat} {xs:List Value} (h:w.ownsRow 0 e size v n xs) :
  xs.length = n * size∧∃ (ad:Option Addr) (cap:Nat),v = .slice ad n cap∧((ad = none∧n = 0)∨∃ g cur,ad = some ⟨g,0,none⟩∧Blk w g cur e∧n ≤ cap∧cap ≤ maxLen∧cur.size = cap * size∧cur.toList.take (n * size) = xs):=by
 obtain ⟨h0,⟨rfl,rfl⟩ | ⟨g,cap,cur,rfl,_,h3,h4,h5,h6,h7⟩⟩:=h
 ·exact ⟨h0,none,0,rfl,.inl ⟨rfl,rfl⟩⟩
 ·exact ⟨h0,some ⟨g,0,none⟩,cap,rfl,.inr ⟨g,cur,rfl,h3,h4,h5,h6,h7⟩⟩
theorem ownsRow_mk {w:World} {e:TypeId} {size n cap g:Nat} {cur:Array Value} {xs:List Value} (h0:xs.length = n * size) (hb:Blk w g cur e) (h1:n ≤ cap) (h2:cap ≤ maxLen) (h3:cur.size = cap * size) (h4:cur.toList.take (n * size) = xs) :
  w.ownsRow 0 e size (.slice (some ⟨g,0,none⟩) n cap) n xs:=⟨h0,.inr ⟨g,cap,cur,rfl,Nat.zero_le _,hb,h1,h2,h3,h4⟩⟩
theorem ownsRow_cell {w:World} {e:TypeId} {size n cap g:Nat} {xs:List Value} (h:w.ownsRow 0 e size (.slice (some ⟨g,0,none⟩) n cap) n xs) (j:Nat) (hj:j < n * size):w.cell? ⟨g,j,none⟩ = xs[j]?:=by
 obtain ⟨h0,⟨h,_⟩ | ⟨g',cap',cur,e1,_,h3,h4,h5,h6,h7⟩⟩:=h
 ·cases h
 ·cases e1
  have:w.cell? ⟨g,j,none⟩ = cur[j]?:=Blk.cell h3 j
  rw [this,← h7,List.getElem?_take,if_pos hj]; simp
theorem ownsRow_frozen {w:World} {e:TypeId} {size n cap g:Nat} {xs:List Value} (h:w.ownsRow 0 e size (.slice (some ⟨g,0,none⟩) n cap) n xs) (j:Nat):w.frozen? ⟨g,j,none⟩ = false:=by
 obtain ⟨h0,⟨h,_⟩ | ⟨g',cap',cur,e1,_,h3,h4,h5,h6,h7⟩⟩:=h
 ·cases h
 ·cases e1; exact Blk.frozen h3 j
theorem ownsRow_set {w:World} {e:TypeId} {size n cap g:Nat} {xs:List Value} (h:w.ownsRow 0 e size (.slice (some ⟨g,0,none⟩) n cap) n xs) (j:Nat) (v:Value) (hj:j < n * size) :
  (w.setCell ⟨g,j,none⟩ v).ownsRow 0 e size (.slice (some ⟨g,0,none⟩) n cap) n (xs.set j v):=by
 obtain ⟨h0,⟨h,_⟩ | ⟨g',cap',cur,e1,_,h3,h4,h5,h6,h7⟩⟩:=h
 ·cases h
 ·cases e1
  refine ownsRow_mk (by simpa using h0) (Blk.set h3 j v) h4 h5 (by simpa using h6) ?_
  rw [Array.toList_setIfInBounds,List.take_set,h7]
theorem ownsRow_setOther {w:World} {e:TypeId} {size:Nat} {v:Value} {n:Nat} {xs:List Value} (h:w.ownsRow 0 e size v n xs) {p:Addr} (hp:v.ownBlock ≠ some p.block) (u:Value):(w.setCell p u).ownsRow 0 e size v n xs:=by
 have hk:Kept (fun k=>k = p.block) w (w.setCell p u):=Kept.setCell (ex:=fun k=>k = p.block) (p:=p) (Kept.refl _ w) (fun _=>rfl) u
 exact ownsRow_kept h hk (fun b hb e=>hp (e ▸ hb))
theorem RulesAt.drew {w:World} {gb:Nat} {O:Nat→Prop} {R:RulesT} {fv lv:Value} (h:RulesAt w gb O R fv lv):RulesAt w.drew gb O R fv lv :=
 h.kept (ex:=fun _=>False) (Kept.refl _ _).drew (fun _ _ e=>e)
theorem RulesAt.alloc {w:World} {gb:Nat} {O:Nat→Prop} {R:RulesT} {fv lv:Value} (h:RulesAt w gb O R fv lv) (o:Obj):RulesAt (w.alloc o) gb O R fv lv :=
 h.kept (ex:=fun _=>False) ((Kept.refl _ _).alloc o) (fun _ _ e=>e)
theorem RulesAt.setFollow {w:World} {gb fb cap:Nat} {O:Nat→Prop} {R:RulesT} {lv:Value} (h:RulesAt w gb O R (.slice (some ⟨fb,0,none⟩) R.follow.length cap) lv) (k:Nat) (hk:k < R.follow.length) (s:PSet) :
  RulesAt ((w.setCell ⟨fb,k * 2,none⟩ (.int .u64 (s.lo.toNat:Int))).setCell ⟨fb,k * 2 + 1,none⟩ (.int .u64 (s.hi.toNat:Int))) gb O { R with follow:=R.follow.set k s } (.slice (some ⟨fb,0,none⟩) R.follow.length cap) lv:=by
 have n1:=(h.ofo fb rfl).2
 refine ⟨(h.blk.setOther (Ne.symm n1) _).setOther (Ne.symm n1) _,?_,?_,h.og,h.ofo,h.ola,h.ne,fun b hb=>by simpa using h.olt b hb⟩
 ·have h1:=ownsRow_set (ownsRow_set h.fol (k * 2) (.int .u64 (s.lo.toNat:Int)) (by omega)) (k * 2 + 1) (.int .u64 (s.hi.toNat:Int)) (by omega)
  rw [setsC_set] at h1
  show World.ownsRow _ 0 109 2 _ (R.follow.set k s).length _
  rw [List.length_set]
  exact h1
 ·exact ownsRow_setOther (ownsRow_setOther h.las (h.ne fb rfl) _) (h.ne fb rfl) _
theorem RulesAt.setAllow {w:World} {gb:Nat} {O:Nat→Prop} {R:RulesT} {fv lv:Value} (h:RulesAt w gb O R fv lv) (b:Nat) (hb:b < 256) (s:PSet) :
  RulesAt ((w.setCell ⟨gb,b * 2,none⟩ (.int .u64 (s.lo.toNat:Int))).setCell ⟨gb,b * 2 + 1,none⟩ (.int .u64 (s.hi.toNat:Int))) gb O { R with allow:=fun j=>if j = b then s else R.allow j } fv lv:=by
 refine ⟨?_,?_,?_,h.og,h.ofo,h.ola,h.ne,fun b hb=>by simpa using h.olt b hb⟩
 ·have:=(h.blk.set (b * 2) (.int .u64 (s.lo.toNat:Int))).set (b * 2 + 1) (.int .u64 (s.hi.toNat:Int))
  rw [rulesC_setAllow _ _ _ _ b hb s] at this
  exact this
 ·exact ownsRow_setOther (ownsRow_setOther h.fol (fun e=>(h.ofo _ e).2 rfl) _) (fun e=>(h.ofo _ e).2 rfl) _
 ·exact ownsRow_setOther (ownsRow_setOther h.las (fun e=>(h.ola _ e).2 rfl) _) (fun e=>(h.ola _ e).2 rfl) _
theorem RulesAt.setFirst {w:World} {gb:Nat} {O:Nat→Prop} {R:RulesT} {fv lv:Value} (h:RulesAt w gb O R fv lv) (s:PSet) :
  RulesAt ((w.setCell ⟨gb,512,none⟩ (.int .u64 (s.lo.toNat:Int))).setCell ⟨gb,513,none⟩ (.int .u64 (s.hi.toNat:Int))) gb O { R with first:=s } fv lv:=by
 refine ⟨?_,?_,?_,h.og,h.ofo,h.ola,h.ne,fun b hb=>by simpa using h.olt b hb⟩
 ·have:=(h.blk.set 512 (.int .u64 (s.lo.toNat:Int))).set 513 (.int .u64 (s.hi.toNat:Int))
  rw [rulesC_setFirst] at this
  exact this
 ·exact ownsRow_setOther (ownsRow_setOther h.fol (fun e=>(h.ofo _ e).2 rfl) _) (fun e=>(h.ofo _ e).2 rfl) _
 ·exact ownsRow_setOther (ownsRow_setOther h.las (fun e=>(h.ola _ e).2 rfl) _) (fun e=>(h.ola _ e).2 rfl) _
def linkAt (a b:PSet) (l:List PSet) (k:Nat):List PSet:=linkFrom a b 0 (l.take k) ++ l.drop k
theorem linkAt_length (a b:PSet) (l:List PSet) (k:Nat):(linkAt a b l k).length = l.length:=by
 simp [linkAt,linkFrom_length]; omega
theorem linkAt_get (a b:PSet) (l:List PSet) (k:Nat) (h:k < l.length):(linkAt a b l k)[k]? = some l[k]:=by
 unfold linkAt
 have hlen:(linkFrom a b 0 (l.take k)).length = k:=by rw [linkFrom_length,List.length_take]; omega
 rw [List.getElem?_append_right (by omega),hlen]; simp [h]
theorem linkAt_step (a b:PSet) (l:List PSet) (k:Nat) (h:k < l.length) :
  linkAt a b l (k + 1) = (linkAt a b l k).set k (if a.has k then l[k].or b else l[k]):=by
 unfold linkAt
 have hlen:(linkFrom a b 0 (l.take k)).length = k:=by rw [linkFrom_length,List.length_take]; omega
 have hd:l.drop k = l[k] :: l.drop (k + 1):=List.drop_eq_getElem_cons h
 rw [List.take_succ_eq_append_getElem h,linkFrom_append,List.set_append_right _ _ (by omega),hlen,hd,Nat.sub_self,List.set_cons_zero,List.append_assoc]
 have hk:(l.take k).length = k:=by rw [List.length_take]; omega
 rw [hk,Nat.zero_add]
 rfl
theorem linkAt_skip (a b:PSet) (l:List PSet) (k:Nat) (h:k < l.length) (hf:a.has k = false):linkAt a b l (k + 1) = linkAt a b l k:=by
 rw [linkAt_step a b l k h]
 apply List.ext_getElem?
 intro j
 rw [List.getElem?_set]
 by_cases e:k = j
 ·subst e; rw [if_pos rfl,if_pos (by rw [linkAt_length]; exact h),linkAt_get a b l k h,if_neg (by simp [hf])]
 ·simp [e]
theorem linkAt_all (a b:PSet) (l:List PSet) (k:Nat) (h:l.length ≤ k):linkAt a b l k = linkFrom a b 0 l:=by
 unfold linkAt; rw [List.take_of_length_le h,List.drop_of_length_le h,List.append_nil]
set_option maxHeartbeats 1600000 in
theorem link_any (R:RulesT) (gb:Nat) (O:Nat→Prop) (fv lv:Value) (a b:PSet) (w:World) (h:RulesAt w gb O R fv lv) (hl:R.follow.length ≤ 1000) :
  Calls Tryz.prog 145 #[.pointer (some ⟨gb,0,none⟩),setV a,setV b] w fun e w' =>
   e = .returned (.tuple #[])∧RulesAt w' gb O (R.link a b) fv lv∧Kept O w w':=by
 obtain ⟨_,ad,cap,rfl,hrow⟩:=ownsRow_form h.fol
 have cg:w.cell? ⟨gb,514,none⟩ = some (.slice ad R.follow.length cap):=by rw [h.blk.cell]; exact rulesC_514 _ _ _ _
 have hgb:=h.blk.lt
 go_enter Tryz.func145,Tryz.ntmps145
 go_wp2_with fail
 have hK:Kept O w w:=Kept.refl _ _
 go_loopg [12] R.follow.length (fun g i wr=>∃ k:Nat,k ≤ R.follow.length∧g = R.follow.length - k∧i = .int .i64 (k:Int) ∧
  RulesAt wr gb O { R with follow:=linkAt a b R.follow k } (.slice ad R.follow.length cap) lv∧Kept O w wr∧Blk wr w.heap.size (setC a) 109∧Blk wr (w.heap.size + 1) (setC b) 109)
 case atStart =>
  refine ⟨0,by omega,rfl,rfl,?_,(hK.alloc _).alloc _,(Blk.new w _ _).alloc _,?_⟩
  ·have e0:linkAt a b R.follow 0 = R.follow:=by simp [linkAt,linkFrom]
   rw [e0]
   exact h.below (Below2 _ _ _)
  ·have:=Blk.new (w.alloc (.cells (setC a) 109)) (setC b) 109
   simpa using this
 case round =>
  obtain ⟨k,hk,rfl,rfl,hR,hk1,hA,hB⟩:=hrel
  by_cases hlt:k < R.follow.length
  ·have a0:wr.cell? ⟨w.heap.size,0,none⟩ = some (.int .u64 (a.lo.toNat:Int)):=hA.cell 0
   have a1:wr.cell? ⟨w.heap.size,1,none⟩ = some (.int .u64 (a.hi.toNat:Int)):=hA.cell 1
   have e0:decide ((k:Int) < (R.follow.length:Int)) = true:=by simp; omega
   rcases hrow with ⟨rfl,h0⟩ | ⟨fb,cur,rfl,_⟩
   ·omega
   have HH:Hid (RulesAt wr gb O { R with follow:=linkAt a b R.follow k } (.slice (some ⟨fb,0,none⟩) R.follow.length cap) lv∧Kept O w wr∧Blk wr w.heap.size (setC a) 109∧Blk wr (w.heap.size + 1) (setC b) 109):=⟨hR,hk1,hA,hB⟩
   clear hR hk1 hA hB
   go_wp2_with fail
   refine (has_any a k (by omega) _).mono ?_
   rintro e w1 ⟨rfl,hb1⟩
   obtain ⟨hR,hk1,hA,hB⟩:=HH.out
   have hR1:=hR.below hb1
   have hk2:=hk1.below hb1
   have hA1:=hA.below hb1
   have hB1:=hB.below hb1
   clear hR hk1 hA hB HH
   cases hh:a.has k with
   |false =>
    have HH:Hid (RulesAt w1 gb O { R with follow:=linkAt a b R.follow k } (.slice (some ⟨fb,0,none⟩) R.follow.length cap) lv∧Kept O w w1∧Blk w1 w.heap.size (setC a) 109∧Blk w1 (w.heap.size + 1) (setC b) 109):=⟨hR1,hk2,hA1,hB1⟩
    have HF:=hide hh
    clear hR1 hk2 hA1 hB1 hb1 hh
    go_wp2_with fail
    go_roundg (R.follow.length - (k + 1))
    case measure=>omega
    case rel =>
     obtain ⟨hR1,hk2,hA1,hB1⟩:=HH.out
     exact ⟨k + 1,by omega,rfl,by go_num,by rw [linkAt_skip a b _ k hlt HF.out]; exact hR1,hk2,hA1,hB1⟩
   |true =>
    have g0:w1.cell? ⟨gb,514,none⟩ = some (.slice (some ⟨fb,0,none⟩) R.follow.length cap):=by rw [hR1.blk.cell]; exact rulesC_514 _ _ _ _
    have b0:w1.cell? ⟨w.heap.size + 1,0,none⟩ = some (.int .u64 (b.lo.toNat:Int)):=hB1.cell 0
    have b1:w1.cell? ⟨w.heap.size + 1,1,none⟩ = some (.int .u64 (b.hi.toNat:Int)):=hB1.cell 1
    have hL:(linkAt a b R.follow k)[k]? = some R.follow[k]:=linkAt_get a b R.follow k hlt
    have hlen:(linkAt a b R.follow k).length = R.follow.length:=linkAt_length a b R.follow k
    have hrow1:w1.ownsRow 0 109 2 (.slice (some ⟨fb,0,none⟩) R.follow.length cap) R.follow.length (setsC (linkAt a b R.follow k)):=by have:=hR1.fol; unfold SetRow at this; simp only [hlen] at this; exact this
    have hg':(linkAt a b R.follow k)[k]'(by rw [hlen]; exact hlt) = R.follow[k]:=Option.some.inj ((List.getElem?_eq_getElem _).symm.trans hL)
    have r0:w1.cell? ⟨fb,k * 2,none⟩ = some (.int .u64 (R.follow[k].lo.toNat:Int)):=by rw [ownsRow_cell hrow1 _ (by omega),setsC_get0 _ k (by rw [hlen]; exact hlt),hg']
    have r1:w1.cell? ⟨fb,k * 2 + 1,none⟩ = some (.int .u64 (R.follow[k].hi.toNat:Int)):=by rw [ownsRow_cell hrow1 _ (by omega),setsC_get1 _ k (by rw [hlen]; exact hlt),hg']
    have fr0:=ownsRow_frozen hrow1 (k * 2)
    have fr1:=ownsRow_frozen hrow1 (k * 2 + 1)
    have i0:(0:Int) ≤ (k:Int):=by omega
    have i1:(k:Int) < (R.follow.length:Int):=by omega
    have n1:fb ≠ gb:=(hR1.ofo fb rfl).2
    have hfbw:fb < w.heap.size:=h.olt _ (hR1.ofo fb rfl).1
    have n2:fb ≠ w.heap.size + 1:=by omega
    have z1:gb < w1.heap.size:=hR1.blk.lt
    have z2:w.heap.size + 1 < w1.heap.size:=hB1.lt
    have z3:fb < w1.heap.size:=hR1.olt _ (hR1.ofo fb rfl).1
    have HH:Hid (RulesAt w1 gb O { R with follow:=linkAt a b R.follow k } (.slice (some ⟨fb,0,none⟩) R.follow.length cap) lv∧Kept O w w1∧Blk w1 w.heap.size (setC a) 109∧Blk w1 (w.heap.size + 1) (setC b) 109):=⟨hR1,hk2,hA1,hB1⟩
    have HL:=hide hL
    have HROW:=hide hrow1
    have HFol:=hide hh
    have HLen:=hide hlen
    clear hR1 hk2 hA1 hB1 hb1 hL hg' hrow1 hh hlen h cg a0 a1
    go_wp2_with fail
    go_region_with (go_at_call 120; refine (or_any R.follow[k] b _).mono ?_; rintro e w2 ⟨rfl,hb2⟩; have q0:=(hb2.cell (p:=⟨fb,k * 2,none⟩) z3).trans r0; have q1:=(hb2.cell (p:=⟨fb,k * 2 + 1,none⟩) z3).trans r1; have p0:=(hb2.frozen (p:=⟨fb,k * 2,none⟩) z3).trans fr0; have p1:=(hb2.frozen (p:=⟨fb,k * 2 + 1,none⟩) z3).trans fr1; have q2:=hb2.cell (p:=⟨gb,514,none⟩) z1)
    all_goals
     go_wp2_with fail
     go_roundg (R.follow.length - (k + 1))
     case measure=>omega
     case rel =>
      obtain ⟨hR1,hk2,hA1,hB1⟩:=HH.out
      have hR2:=(hR1.drew.below hb2)
      have hst:=RulesAt.setFollow (R:={ R with follow:=linkAt a b R.follow k }) (by simpa [HLen.out] using hR2) k (by simpa [HLen.out] using hlt) (R.follow[k].or b)
      have e3:linkAt a b R.follow (k + 1) = (linkAt a b R.follow k).set k (R.follow[k].or b):=by rw [linkAt_step a b _ k hlt,if_pos HFol.out]
      refine ⟨k + 1,by omega,rfl,by go_num,?_,?_,?_,?_⟩
      ·rw [e3]; simpa [HLen.out] using hst
      ·exact (((hk2.drew).below hb2).setCell (fun _=>(hR1.ofo fb rfl).1) _).setCell (fun _=>(hR1.ofo fb rfl).1) _
      ·exact ((hA1.drew.below hb2).setOther (by simp; omega) _).setOther (by simp; omega) _
      ·exact ((hB1.drew.below hb2).setOther (by simp; omega) _).setOther (by simp; omega) _
  ·have e0:decide ((k:Int) < (R.follow.length:Int)) = false:=by simp; omega
   go_wp2_with fail
   go_end0
   have e3:=linkAt_all a b R.follow k (by omega)
   rw [e3] at hR
   exact ⟨rfl,hR,hk1⟩
abbrev partC (p:PartT):Array Value:=#[.int .u64 (p.first.lo.toNat:Int),.int .u64 (p.first.hi.toNat:Int),.int .u64 (p.last.lo.toNat:Int),.int .u64 (p.last.hi.toNat:Int),.bool p.empty]
abbrev partV (p:PartT):Value:=.agg (partC p)
theorem Tryz.infoP:(Tryz.prog.info? 206).map (·.size) = some 5:=by kernel_rfl
theorem resultsPart {fn:Func} {p:Tmp} (h:fn.results = #[.cell p 206]) {q:PartT} (tmps:Array Value) {w:World} {g:Nat}
  (hp:tmps.getD p undef = .pointer (some ⟨g,0,none⟩)) (hg:Blk w g (partC q) 206):(results fn tmps).run Tryz.prog w = .ok (partV q) w :=
 results_cell_row h tmps w g 206 _ (0,0) _ hp hg Tryz.underlying206 rfl Tryz.infoP
abbrev part0:Array Value:=#[.int .u64 0,.int .u64 0,.int .u64 0,.int .u64 0,.bool false]
set_option maxHeartbeats 1600000 in
theorem either_any (a b:PartT) (w:World):Calls Tryz.prog 138 #[partV a,partV b] w fun e w' =>
  e = .returned (partV (eitherPart a b))∧Below w.heap.size w w':=by
 obtain ⟨af,al,ae⟩:=a
 obtain ⟨bf,bl,be⟩:=b
 have hB0:∀ o1 o2 o3,Below w.heap.size w (((w.alloc o1).alloc o2).alloc o3):=Below3 w
 cases ae <;> cases be <;>
 ·go_enter Tryz.func138,Tryz.ntmps138
  go_wp2_with fail
  refine (or_any af bf _).mono ?_
  rintro e w1 ⟨rfl,hb1⟩
  obtain ⟨hc1,hf1⟩:=bcell hb1
  have hz1:w.heap.size + 2 < w1.heap.size:=by have:=hb1.size; simp at this; omega
  have y0:w.heap.size < w1.heap.size:=by omega
  have y1:w.heap.size + 1 < w1.heap.size:=by omega
  have y2:w.heap.size + 1 + 1 < w1.heap.size:=by omega
  go_wp2_with fail
  refine (or_any al bl _).mono ?_
  rintro e w2 ⟨rfl,hb2⟩
  obtain ⟨hc2,hf2⟩:=bcell hb2
  have hz2:w1.heap.size < w2.heap.size:=by have:=hb2.size; simp at this; omega
  have x0:w.heap.size < w2.heap.size:=by omega
  have x1:w.heap.size + 1 < w2.heap.size:=by omega
  have x2:w.heap.size + 1 + 1 < w2.heap.size:=by omega
  go_wp2_with fail
  have hZ1:Blk w1 (w.heap.size + 1 + 1) part0 206:=by
   have:=(Blk.new ((w.alloc (.cells (partC ⟨af,al,_⟩) 206)).alloc (.cells (partC ⟨bf,bl,_⟩) 206)) part0 206).below hb1
   simpa using this
  have hZ2:=(hZ1.alloc _).below hb2
  have hBW:=((hB0 _ _ _).trans (hb1.mono (by simp; omega))).alloc (by omega) (.cells (setC (af.or bf)) 109)
  have hBX:=hBW.trans (hb2.mono (by simp; omega))
  exact bodyPost_ret (resultsPart (q:=eitherPart ⟨af,al,_⟩ ⟨bf,bl,_⟩) Tryz.results138 _ rfl ((((((hZ2.set 0 _).set 1 _).set 2 _).set 3 _).set 4 _).alloc _)) rfl
   ⟨rfl,(((((hBX.setCell (by simp; omega) _).setCell (by simp; omega) _).setCell (by simp; omega) _).setCell (by simp; omega) _).setCell (by simp; omega) _).alloc (by simp; omega) _⟩
theorem Tryz.infoS3:(Tryz.prog.info? 109).map (fun i=>(i.zero,i.size,i.bytes)) = some (some (.agg #[.int .u64 0,.int .u64 0]),2,16):=by kernel_rfl
theorem index256 (A:Nat→Bool) (k:Nat) (hk:k < 256) (w:World):(Instr.index 228 (.agg (boolsC A)) (.int .i64 (k:Int))).run Tryz.prog w = .ok (.bool (A k)) w:=by
 have h2:k < (boolsC A).size:=by rw [boolsC_size]; exact hk
 have h3:(boolsC A)[k] = .bool (A k):=Option.some.inj ((Array.getElem?_eq_getElem h2).symm.trans (boolsC_get A k hk))
 have h4:(boolsC A)[k]? = some (.bool (A k)):=boolsC_get A k hk
 have h5:0 ≤ (k:Int)∧(k:Int) < (256:Nat):=by omega
 simp [Instr.index,asIntOf,run_underlying Tryz.underlying228,part,Tryz.isAgg4,Tryz.sizeOf4,hk,h3,h2]
theorem Kept_grown {O:Nat→Prop} {w w':World} {row:Option Nat} (hg:w.grownBy w' row) (hr:∀ k,row = some k→O k):Kept O w w' :=
 ⟨hg.os,hg.tape,hg.output,hg.size,fun k hk he=>hg.block k hk (fun e=>he (hr k e.symm))⟩
theorem RulesAt.growFollow {w w':World} {gb g cap:Nat} {O:Nat→Prop} {R:RulesT} {fv lv:Value} {s:PSet} (h:RulesAt w gb O R fv lv)
  (hown:w'.ownsRow 0 109 2 (.slice (some ⟨g,0,none⟩) (R.follow.length + 1) cap) (R.follow.length + 1) (setsC R.follow ++ setsC [s]))
  (hg:w.grownBy w' fv.ownBlock) (hat:fv.ownBlock = some g∨g = w.heap.size) (hlt:g < w'.heap.size) :
  RulesAt (w'.setCell ⟨gb,514,none⟩ (.slice (some ⟨g,0,none⟩) (R.follow.length + 1) cap)) gb (fun k=>O k∨k = g) { R with follow:=R.follow ++ [s] } (.slice (some ⟨g,0,none⟩) (R.follow.length + 1) cap) lv∧Kept O w w'∧Blk w' gb (rulesC R.allow R.first fv lv) 113:=by
 have hk:Kept O w w':=Kept_grown hg (fun k e=>(h.ofo k e).1)
 have hgb:=h.blk.lt
 have hne:g ≠ gb:=by
  rcases hat with e | e
  ·exact (h.ofo g e).2
  ·omega
 have hgl:∀ k,lv.ownBlock = some k→k ≠ g:=by
  intro k e he
  subst he
  rcases hat with e' | e'
  ·exact h.ne _ e' e
  ·have:=h.olt _ (h.ola _ e).1; omega
 have hb:Blk w' gb (rulesC R.allow R.first fv lv) 113:=by
  have:=hg.block gb hgb (fun e=>(h.ofo gb e.symm).2 rfl)
  unfold Blk
  rw [this]; exact h.blk
 have hl:w'.ownsRow 0 109 2 lv R.last.length (setsC R.last):=h.las.kept hg (by
  cases e:lv.ownBlock with
  |none=>exact .inl rfl
  |some k=>exact .inr (fun e'=>h.ne k e'.symm e))
 refine ⟨⟨?_,?_,?_,.inl h.og,?_,?_,?_,?_⟩,hk,hb⟩
 ·have:=hb.set 514 (.slice (some ⟨g,0,none⟩) (R.follow.length + 1) cap)
  rw [rulesC_setFollow] at this
  exact this
 ·have:=ownsRow_setOther hown (p:=⟨gb,514,none⟩) (fun e=>hne (Option.some.inj e)) (.slice (some ⟨g,0,none⟩) (R.follow.length + 1) cap)
  rw [← setsC_append] at this
  show World.ownsRow _ 0 109 2 _ (R.follow ++ [s]).length _
  rw [List.length_append]
  exact this
 ·exact ownsRow_setOther hl (fun e=>(h.ola _ e).2 rfl) _
 ·intro k e
  cases (Option.some.inj e:g = k)
  exact ⟨.inr rfl,hne⟩
 ·exact fun k e=>⟨.inl (h.ola k e).1,(h.ola k e).2⟩
 ·intro k e e'
  cases (Option.some.inj e:g = k)
  exact hgl _ e' rfl
 ·intro k e
  simp
  rcases e with e | e
  ·exact Nat.lt_of_lt_of_le (h.olt k e) hk.size
  ·omega
def addAt (al:Nat→PSet) (A:Nat→Bool) (p:PSet) (k:Nat):Nat→PSet:=fun b=>if b < k then addAllow al A p b else al b
theorem addAt_skip (al:Nat→PSet) (A:Nat→Bool) (p:PSet) (k:Nat) (h:A k = false):addAt al A p (k + 1) = addAt al A p k:=by
 funext b
 unfold addAt
 by_cases e:b = k
 ·subst e; simp [addAllow,h]
 ·by_cases h1:b < k
  ·rw [if_pos h1,if_pos (by omega)]
  ·rw [if_neg h1,if_neg (by omega)]
theorem addAt_step (al:Nat→PSet) (A:Nat→Bool) (p:PSet) (k:Nat) (h:A k = true):addAt al A p (k + 1) = fun j=>if j = k then (al k).or p else addAt al A p k j:=by
 funext b
 unfold addAt
 by_cases e:b = k
 ·subst e; simp [addAllow,h]
 ·by_cases h1:b < k
  ·rw [if_pos h1,if_pos (by omega),if_neg e]
  ·rw [if_neg h1,if_neg (by omega),if_neg e]
theorem addAt_at (al:Nat→PSet) (A:Nat→Bool) (p:PSet) (k:Nat):addAt al A p k k = al k:=by simp [addAt]
theorem rulesC_congr {al al':Nat→PSet} (h:∀ b,b < 256→al b = al' b) (f:PSet) (fv lv:Value):rulesC al f fv lv = rulesC al' f fv lv:=by
 have e:(List.range 256).map al = (List.range 256).map al':=List.map_congr_left (fun b hb=>h b (by simpa using hb))
 unfold rulesC
 rw [e]
theorem RulesAt.allow_congr {w:World} {gb:Nat} {O:Nat→Prop} {R:RulesT} {fv lv:Value} (h:RulesAt w gb O R fv lv) {al:Nat→PSet} (e:∀ b,b < 256→R.allow b = al b) :
  RulesAt w gb O { R with allow:=al } fv lv :=
 ⟨by have:=h.blk; rw [rulesC_congr e] at this; exact this,h.fol,h.las,h.og,h.ofo,h.ola,h.ne,h.olt⟩
set_option maxHeartbeats 3200000 in
theorem add_any (R:RulesT) (gb:Nat) (O:Nat→Prop) (fv lv:Value) (A:Nat→Bool) (w:World) (h:RulesAt w gb O R fv lv) (hl:R.follow.length ≤ 1000) :
  Calls Tryz.prog 148 #[.pointer (some ⟨gb,0,none⟩),.agg (boolsC A)] w fun e w' =>
   e = .returned (partV R.addPart)∧∃ O' fv',RulesAt w' gb O' (R.add A) fv' lv∧Kept O w w'∧∀ k,O' k→O k∨w.heap.size ≤ k:=by
 obtain ⟨_,ad,cap,hfv,hrow⟩:=ownsRow_form h.fol
 have cg:w.cell? ⟨gb,514,none⟩ = some fv:=by rw [h.blk.cell]; exact rulesC_514 _ _ _ _
 rw [hfv] at cg
 have hgb:=h.blk.lt
 have hgb1:gb < w.heap.size + 1:=by omega
 have hgb2:gb < w.heap.size + 1 + 1:=by omega
 go_enter Tryz.func148,Tryz.ntmps148
 go_wp2_with fail
 refine (only_any R.follow.length (by omega) _).mono ?_
 rintro e w1 ⟨rfl,hb1⟩
 have hR1:=((h.alloc _).alloc _).below hb1
 have c1:w1.cell? ⟨gb,514,none⟩ = some (.slice ad R.follow.length cap):=by rw [hR1.blk.cell,rulesC_514,hfv]
 have z1:gb < w1.heap.size:=hR1.blk.lt
 obtain ⟨i,hi,hz0,hz1,hz2⟩:=info_parts Tryz.infoS3
 have hol:=(hR1.fol.alloc (.cells (setC (PSet.only R.follow.length)) 109)).alloc (.cells #[.int .u64 0,.int .u64 0] 109)
 rw [hfv] at hol
 go_wp2_with (at_builtin; (refine wpList_append_lies _ (by rfl) _ _ _ (by rfl) 0 109 i _ 2 16 Tryz.underlying111 hi hz0 hz1 hz2 rfl (by omega) (.slice ad R.follow.length cap) R.follow.length (setsC R.follow) (by rfl) hol ⟨w1.heap.size + 1,0,none⟩ 1 1 [.int .u64 0,.int .u64 0] (by rfl) (by rfl) (World.news_of_block (cs:=#[.int .u64 0,.int .u64 0]) (t:=109) (fr:=(0,0)) (heap_alloc2_new w1 _ _)) (by simp [Value.oneCell']) (by omega) (by unfold maxLen; omega) (by omega) (by simp) (w1.heap.size + 1 + 1) (by simp) ?_))
 intro g cap2 w2 hown2 hgrow2 hat2 hlt2
 rw [← hfv] at hgrow2 hat2
 have hR2:=(hR1.alloc (.cells (setC (PSet.only R.follow.length)) 109)).alloc (.cells #[.int .u64 0,.int .u64 0] 109)
 obtain ⟨hR3,hk3,hG3⟩:=hR2.growFollow (s:=PSet.none) hown2 hgrow2 (by simpa using hat2) hlt2
 have hkW:Kept O w w2:=((((((Kept.refl O w).alloc _).alloc _).below hb1).alloc _).alloc _).trans' hk3
 have nO:∀ k,O k→k < w.heap.size:=h.olt
 have hP2:Blk w2 w1.heap.size (setC (PSet.only R.follow.length)) 109:=((Blk.new w1 _ _).alloc _).kept hk3 (fun e=>by have:=nO _ e; have:=hb1.size; simp at this; omega)
 have hA2:Blk w2 w.heap.size (boolsC A) 228:=(((((Blk.new w (boolsC A) 228).alloc _).below hb1).alloc _).alloc _).kept hk3 (fun e=>by have:=nO _ e; omega)
 have hZ2:Blk w2 (w.heap.size + 1) part0 206:=((((Blk.at1 w _ part0 206).below hb1).alloc _).alloc _).kept hk3 (fun e=>by have:=nO _ e; omega)
 have cgb:w2.cell? ⟨gb,514,none⟩ = some fv:=by rw [hG3.cell]; exact rulesC_514 _ _ _ _
 have fgb:=hG3.frozen 514
 have hn1:w.heap.size + 1 < w1.heap.size:=by have:=hb1.size; simp at this; omega
 have HH2:Hid (RulesAt (w2.setCell ⟨gb,514,none⟩ (.slice (some ⟨g,0,none⟩) (R.follow.length + 1) cap2)) gb (fun k=>O k∨k = g) { R with follow:=R.follow ++ [PSet.none] } (.slice (some ⟨g,0,none⟩) (R.follow.length + 1) cap2) lv ∧
   Kept O w w2∧Blk w2 w1.heap.size (setC (PSet.only R.follow.length)) 109∧Blk w2 (w.heap.size + 1) part0 206):=⟨hR3,hkW,hP2,hZ2⟩
 have hA3:=hA2.setOther (p:=⟨gb,514,none⟩) (by simp; omega) (.slice (some ⟨g,0,none⟩) (R.follow.length + 1) cap2)
 have hgO:∀ k,k = g→O k∨w.heap.size ≤ k:=by
  intro k e
  subst e
  rcases hat2 with e | e
  ·exact .inl (h.ofo _ e).1
  ·exact .inr (by omega)
 have hgn:g ≠ w.heap.size + 1:=by
  intro e
  subst e
  rcases hat2 with e | e
  ·have:=nO _ (h.ofo _ e).1; omega
  ·omega
 have HGN:=hide hgn
 have HG:=hide hgO
 have HNO:=hide nO
 have hOg:O gb:=h.og
 clear hR3 hkW hP2 hZ2 hA2 hG3 hk3 hR2 hown2 hgrow2 hat2 hgO hgn nO hol c1 hR1 hb1 cg h hrow hfv
 go_wp2_with (refine load256 rfl (.tmp 3) rfl w.heap.size rfl hA3 ?_)
 go_loopg [25] 256 (fun G i wr=>∃ k:Nat,k ≤ 256∧G = 256 - k∧i = .int .i64 (k:Int) ∧
  RulesAt wr gb (fun k=>O k∨k = g) { R with follow:=R.follow ++ [PSet.none],allow:=addAt R.allow A (PSet.only R.follow.length) k } (.slice (some ⟨g,0,none⟩) (R.follow.length + 1) cap2) lv ∧
  Kept O w wr∧Blk wr w1.heap.size (setC (PSet.only R.follow.length)) 109∧Blk wr (w.heap.size + 1) part0 206)
 case atStart =>
  obtain ⟨q1,q2,q3,q4⟩:=HH2.out
  refine ⟨0,by omega,rfl,rfl,?_,q2.setCell (fun _=>hOg) _,q3.setOther (by simp; omega) _,q4.setOther (by simp; omega) _⟩
  have e0:addAt R.allow A (PSet.only R.follow.length) 0 = R.allow:=by funext b; simp [addAt]
  rw [e0]; exact q1
 case round =>
  obtain ⟨k,hk,rfl,rfl,hR4,hk4,hP4,hZ4⟩:=hrel
  clear HH2 hA3 cgb fgb
  by_cases hlt:k < 256
  ·have e0:decide ((k:Int) < 256) = true:=by simp; omega
   have hix:=index256 A k hlt
   cases hAk:A k with
   |false =>
    rw [hAk] at hix
    have HH4:Hid (RulesAt wr gb (fun k=>O k∨k = g) { R with follow:=R.follow ++ [PSet.none],allow:=addAt R.allow A (PSet.only R.follow.length) k } (.slice (some ⟨g,0,none⟩) (R.follow.length + 1) cap2) lv ∧
     Kept O w wr∧Blk wr w1.heap.size (setC (PSet.only R.follow.length)) 109∧Blk wr (w.heap.size + 1) part0 206):=⟨hR4,hk4,hP4,hZ4⟩
    have HA:=hide hAk
    clear hR4 hk4 hP4 hZ4 hAk
    go_wp2_with fail
    go_roundg (256 - (k + 1))
    case measure=>omega
    case rel =>
     obtain ⟨q1,q2,q3,q4⟩:=HH4.out
     exact ⟨k + 1,by omega,rfl,by go_num,by rw [addAt_skip _ _ _ k HA.out]; exact q1,q2,q3,q4⟩
   |true =>
    rw [hAk] at hix
    have g0:wr.cell? ⟨gb,k * 2,none⟩ = some (.int .u64 ((R.allow k).lo.toNat:Int)):=by rw [hR4.blk.cell,rulesC_get0 _ _ _ _ k hlt]; simp only [addAt_at]
    have g1:wr.cell? ⟨gb,k * 2 + 1,none⟩ = some (.int .u64 ((R.allow k).hi.toNat:Int)):=by rw [hR4.blk.cell,rulesC_get1 _ _ _ _ k hlt]; simp only [addAt_at]
    have gf0:=hR4.blk.frozen (k * 2)
    have gf1:=hR4.blk.frozen (k * 2 + 1)
    have p0:wr.cell? ⟨w1.heap.size,0,none⟩ = some (.int .u64 ((PSet.only R.follow.length).lo.toNat:Int)):=hP4.cell 0
    have p1:wr.cell? ⟨w1.heap.size,1,none⟩ = some (.int .u64 ((PSet.only R.follow.length).hi.toNat:Int)):=hP4.cell 1
    have i0:(0:Int) ≤ (k:Int):=by omega
    have i1:(k:Int) < 256:=by omega
    have z3:gb < wr.heap.size:=hR4.blk.lt
    have HH4:Hid (RulesAt wr gb (fun k=>O k∨k = g) { R with follow:=R.follow ++ [PSet.none],allow:=addAt R.allow A (PSet.only R.follow.length) k } (.slice (some ⟨g,0,none⟩) (R.follow.length + 1) cap2) lv ∧
     Kept O w wr∧Blk wr w1.heap.size (setC (PSet.only R.follow.length)) 109∧Blk wr (w.heap.size + 1) part0 206):=⟨hR4,hk4,hP4,hZ4⟩
    have HA:=hide hAk
    clear hR4 hk4 hP4 hZ4 hAk
    go_wp2_with fail
    go_region_with (go_at_call 120; refine (or_any (R.allow k) (PSet.only R.follow.length) _).mono ?_; rintro e w5 ⟨rfl,hb5⟩; have q0:=(hb5.cell (p:=⟨gb,k * 2,none⟩) z3).trans g0; have q1:=(hb5.cell (p:=⟨gb,k * 2 + 1,none⟩) z3).trans g1; have p0:=(hb5.frozen (p:=⟨gb,k * 2,none⟩) z3).trans gf0; have p1:=(hb5.frozen (p:=⟨gb,k * 2 + 1,none⟩) z3).trans gf1)
    all_goals
     go_wp2_with fail
     go_roundg (256 - (k + 1))
     case measure=>omega
     case rel =>
      obtain ⟨q1,q2,q3,q4⟩:=HH4.out
      have hst:=(q1.drew.below hb5).setAllow k hlt ((R.allow k).or (PSet.only R.follow.length))
      refine ⟨k + 1,by omega,rfl,by go_num,?_,?_,?_,?_⟩
      ·rw [addAt_step _ _ _ k HA.out]; exact hst
      ·exact (((q2.drew).below hb5).setCell (fun _=>hOg) _).setCell (fun _=>hOg) _
      ·exact ((q3.drew.below hb5).setOther (by simp; omega) _).setOther (by simp; omega) _
      ·exact ((q4.drew.below hb5).setOther (by simp; omega) _).setOther (by simp; omega) _
  ·have e0:decide ((k:Int) < 256) = false:=by simp; omega
   have p0:wr.cell? ⟨w1.heap.size,0,none⟩ = some (.int .u64 ((PSet.only R.follow.length).lo.toNat:Int)):=hP4.cell 0
   have p1:wr.cell? ⟨w1.heap.size,1,none⟩ = some (.int .u64 ((PSet.only R.follow.length).hi.toNat:Int)):=hP4.cell 1
   have z0:wr.cell? ⟨w.heap.size + 1,0,none⟩ = some (.int .u64 0):=hZ4.cell 0
   have z1':wr.cell? ⟨w.heap.size + 1,1,none⟩ = some (.int .u64 0):=hZ4.cell 1
   have z2:wr.cell? ⟨w.heap.size + 1,2,none⟩ = some (.int .u64 0):=hZ4.cell 2
   have z3:wr.cell? ⟨w.heap.size + 1,3,none⟩ = some (.int .u64 0):=hZ4.cell 3
   have z4:wr.cell? ⟨w.heap.size + 1,4,none⟩ = some (.bool false):=hZ4.cell 4
   have f0:=hZ4.frozen 0
   have f1:=hZ4.frozen 1
   have f2:=hZ4.frozen 2
   have f3:=hZ4.frozen 3
   have f4:=hZ4.frozen 4
   have HH4:Hid (RulesAt wr gb (fun k=>O k∨k = g) { R with follow:=R.follow ++ [PSet.none],allow:=addAt R.allow A (PSet.only R.follow.length) k } (.slice (some ⟨g,0,none⟩) (R.follow.length + 1) cap2) lv ∧
     Kept O w wr∧Blk wr (w.heap.size + 1) part0 206):=⟨hR4,hk4,hZ4⟩
   clear hR4 hk4 hP4 hZ4
   go_wp2_with fail
   obtain ⟨q1,q2,q4⟩:=HH4.out
   have hgn:=HGN.out
   have hq:∀ {X:World} {v:Value} {j:Nat} {R':RulesT} {fv' lv':Value},RulesAt X gb (fun k=>O k∨k = g) R' fv' lv'→RulesAt (X.setCell ⟨w.heap.size + 1,j,none⟩ v) gb (fun k=>O k∨k = g) R' fv' lv':=fun {X v j R' fv' lv'} hX =>
    hX.kept (ex:=fun k=>k = w.heap.size + 1) (Kept.setCell (ex:=fun k=>k = w.heap.size + 1) (Kept.refl _ _) (fun _=>rfl) _) (fun b hb e=>by
     rcases hb with hb | hb
     ·have:=HNO.out b hb; omega
     ·omega)
   have q5:=q1.allow_congr (al:=addAllow R.allow A (PSet.only R.follow.length)) (fun b hb=>by simp [addAt,show b < k by omega])
   exact bodyPost_ret (resultsPart (q:=R.addPart) Tryz.results148 _ rfl (((((q4.set 0 _).set 1 _).set 2 _).set 3 _).set 4 _)) rfl
    ⟨rfl,_,_,hq (hq (hq (hq (hq q5)))),((((q2.setCell (by simp; omega) _).setCell (by simp; omega) _).setCell (by simp; omega) _).setCell (by simp; omega) _).setCell (by simp; omega) _,fun k hk=>hk.elim .inl (fun e=>HG.out k e)⟩
def IRow (w:World) (v:Value) (l:List Int):Prop:=w.ownsRow 0 3 1 v l.length (l.map (Value.int .i64))
def BRow (w:World) (v:Value) (l:List Bool):Prop:=w.ownsRow 0 4 1 v l.length (l.map Value.bool)
def NRow (w:World) (v:Value) (l:List Value):Prop:=w.ownsRow 0 60 1 v l.length l
structure GraphAt (w:World) (rv nv:Value) (g:Graph):Prop where
 rule:IRow w rv g.rule
 next:∃ vs:List Value,NRow w nv vs∧vs.length = g.next.length∧∀ i v,vs[i]? = some v→IRow w v (g.next.getD i [])
section
variable {w w':World} {v:Value}
theorem IRow.kept {l:List Int} {ex:Nat→Prop} (h:IRow w v l) (k:Kept ex w w') (he:∀ b,v.ownBlock = some b→¬ ex b):IRow w' v l:=ownsRow_kept h k he
theorem BRow.kept {l:List Bool} {ex:Nat→Prop} (h:BRow w v l) (k:Kept ex w w') (he:∀ b,v.ownBlock = some b→¬ ex b):BRow w' v l:=ownsRow_kept h k he
theorem NRow.kept {l:List Value} {ex:Nat→Prop} (h:NRow w v l) (k:Kept ex w w') (he:∀ b,v.ownBlock = some b→¬ ex b):NRow w' v l:=ownsRow_kept h k he
theorem IRow.below {l:List Int} (h:IRow w v l) (k:Below w.heap.size w w'):IRow w' v l:=h.kept (ex:=fun _=>False) (Kept.ofBelow k) (fun _ _ e=>e)
theorem BRow.below {l:List Bool} (h:BRow w v l) (k:Below w.heap.size w w'):BRow w' v l:=h.kept (ex:=fun _=>False) (Kept.ofBelow k) (fun _ _ e=>e)
theorem NRow.below {l:List Value} (h:NRow w v l) (k:Below w.heap.size w w'):NRow w' v l:=h.kept (ex:=fun _=>False) (Kept.ofBelow k) (fun _ _ e=>e)
theorem ownsRow_lt {e:TypeId} {size n:Nat} {xs:List Value} (h:w.ownsRow 0 e size v n xs):∀ b,v.ownBlock = some b→b < w.heap.size:=by
 intro b hb
 obtain ⟨_,⟨rfl,_⟩ | ⟨g,cap,cur,rfl,_,h3,_⟩⟩:=h
 ·simp [Value.ownBlock] at hb
 ·cases (Option.some.inj hb:g = b)
  exact Blk.lt (h3:Blk w _ cur e)
theorem GraphAt.below {rv nv:Value} {g:Graph} (h:GraphAt w rv nv g) (k:Below w.heap.size w w'):GraphAt w' rv nv g:=by
 obtain ⟨vs,h1,h2,h3⟩:=h.next
 exact ⟨h.rule.below k,vs,h1.below k,h2,fun i v hv=>(h3 i v hv).below k⟩
theorem IRow.form {l:List Int} (h:IRow w v l):∃ (ad:Option Addr) (cap:Nat),v = .slice ad l.length cap∧(l.length = 0∨∃ g,ad = some ⟨g,0,none⟩):=by
 obtain ⟨_,ad,cap,rfl,hr⟩:=ownsRow_form h
 refine ⟨ad,cap,rfl,?_⟩
 rcases hr with ⟨_,e⟩ | ⟨g,_,e,_⟩
 ·exact .inl e
 ·exact .inr ⟨g,e⟩
theorem IRow.cell {l:List Int} {g cap:Nat} (h:IRow w (.slice (some ⟨g,0,none⟩) l.length cap) l) (j:Nat) (hj:j < l.length):w.cell? ⟨g,j,none⟩ = some (.int .i64 l[j]):=by
 rw [ownsRow_cell h j (by omega)]; simp [hj]
theorem BRow.form {l:List Bool} (h:BRow w v l):∃ (ad:Option Addr) (cap:Nat),v = .slice ad l.length cap∧(l.length = 0∨∃ g,ad = some ⟨g,0,none⟩):=by
 obtain ⟨_,ad,cap,rfl,hr⟩:=ownsRow_form h
 refine ⟨ad,cap,rfl,?_⟩
 rcases hr with ⟨_,e⟩ | ⟨g,_,e,_⟩
 ·exact .inl e
 ·exact .inr ⟨g,e⟩
theorem BRow.cell {l:List Bool} {g cap:Nat} (h:BRow w (.slice (some ⟨g,0,none⟩) l.length cap) l) (j:Nat) (hj:j < l.length):w.cell? ⟨g,j,none⟩ = some (.bool l[j]):=by
 rw [ownsRow_cell h j (by omega)]; simp [hj]
theorem NRow.form {l:List Value} (h:NRow w v l):∃ (ad:Option Addr) (cap:Nat),v = .slice ad l.length cap∧(l.length = 0∨∃ g,ad = some ⟨g,0,none⟩):=by
 obtain ⟨_,ad,cap,rfl,hr⟩:=ownsRow_form h
 refine ⟨ad,cap,rfl,?_⟩
 rcases hr with ⟨_,e⟩ | ⟨g,_,e,_⟩
 ·exact .inl e
 ·exact .inr ⟨g,e⟩
theorem NRow.cell {l:List Value} {g cap:Nat} (h:NRow w (.slice (some ⟨g,0,none⟩) l.length cap) l) (j:Nat) (hj:j < l.length):w.cell? ⟨g,j,none⟩ = some l[j]:=by
 rw [ownsRow_cell h j (by omega)]; simp [hj]
end
end Go.Proofs.YtcckhngbdoiikaaGreat
