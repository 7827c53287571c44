import Derived.Test.YtcckhngbdoiikaaGreatG02
import Derived.WalkKit
import Derived.Deep.OwnRows
import Derived.Deep.Quiet

namespace Go.Proofs.YtcckhngbdoiikaaGreat
open Go.RowKit
theorem hide {p:Prop} (h:p):Hid p:=h
theorem unhide {p:Prop} (h:Hid p):p:=h
structure Kept (ex:Nat→Prop) (w w':World):Prop where
 os:w'.os = w.os
 tape:w'.tape = w.tape
 output:w'.output = w.output
 size:w.heap.size ≤ w'.heap.size
 block:∀ k,k < w.heap.size→¬ ex k→w'.heap[k]? = w.heap[k]?
namespace Kept
theorem refl (ex:Nat→Prop) (w:World):Kept ex w w:=⟨rfl,rfl,rfl,Nat.le_refl _,fun _ _ _=>rfl⟩
theorem trans {ex ex':Nat→Prop} {a b c:World} (h:Kept ex a b) (k:Kept ex' b c) (hx:∀ i,i < a.heap.size→ex' i→ex i):Kept ex a c :=
 ⟨k.os.trans h.os,k.tape.trans h.tape,k.output.trans h.output,Nat.le_trans h.size k.size,fun i hi he =>
  (k.block i (Nat.lt_of_lt_of_le hi h.size) (fun e=>he (hx i hi e))).trans (h.block i hi he)⟩
theorem trans' {ex:Nat→Prop} {a b c:World} (h:Kept ex a b) (k:Kept ex b c):Kept ex a c:=h.trans k (fun _ _ e=>e)
theorem weaken {ex ex':Nat→Prop} {a b:World} (h:Kept ex a b) (hx:∀ i,i < a.heap.size→ex i→ex' i):Kept ex' a b :=
 ⟨h.os,h.tape,h.output,h.size,fun i hi he=>h.block i hi (fun e=>he (hx i hi e))⟩
theorem below {ex:Nat→Prop} {a b c:World} (h:Kept ex a b) (k:Below b.heap.size b c):Kept ex a c :=
 ⟨k.os.trans h.os,k.tape.trans h.tape,k.output.trans h.output,Nat.le_trans h.size k.size,fun i hi he =>
  (k.block i (Nat.lt_of_lt_of_le hi h.size)).trans (h.block i hi he)⟩
theorem ofBelow {ex:Nat→Prop} {a b:World} (k:Below a.heap.size a b):Kept ex a b:=(refl ex a).below k
theorem drew {ex:Nat→Prop} {a b:World} (h:Kept ex a b):Kept ex a b.drew:=⟨h.os,h.tape,h.output,h.size,h.block⟩
theorem drewN {ex:Nat→Prop} {a b:World} (h:Kept ex a b) (n:Nat):Kept ex a (b.drewN n):=⟨h.os,h.tape,h.output,h.size,h.block⟩
theorem alloc {ex:Nat→Prop} {a b:World} (h:Kept ex a b) (o:Obj):Kept ex a (b.alloc o) :=
 ⟨h.os,h.tape,h.output,by simp; have:=h.size; omega,fun i hi he=>by
  rw [Below.heap_alloc b o i (Nat.lt_of_lt_of_le hi h.size)]; exact h.block i hi he⟩
theorem setCell {ex:Nat→Prop} {a b:World} (h:Kept ex a b) {p:Addr} (hp:p.block < a.heap.size→ex p.block) (v:Value):Kept ex a (b.setCell p v) :=
 ⟨h.os,h.tape,h.output,by simp; exact h.size,fun i hi he=>by
  rw [Below.heap_setCell b p v i (fun e=>he (e ▸ hp (e ▸ hi)))]; exact h.block i hi he⟩
theorem cell {ex:Nat→Prop} {a b:World} (h:Kept ex a b) {p:Addr} (hp:p.block < a.heap.size) (he:¬ ex p.block):b.cell? p = a.cell? p :=
 World.cell?_of_block (h.block _ hp he)
theorem frozen {ex:Nat→Prop} {a b:World} (h:Kept ex a b) {p:Addr} (hp:p.block < a.heap.size) (he:¬ ex p.block):b.frozen? p = a.frozen? p :=
 World.frozen?_of_block (h.block _ hp he)
end Kept
def Blk (w:World) (b:Nat) (c:Array Value) (t:TypeId):Prop:=w.heap[b]? = some (.cells c t (0,0))
namespace Blk
theorem lt {w:World} {b:Nat} {c:Array Value} {t:TypeId} (h:Blk w b c t):b < w.heap.size:=by
 unfold Blk at h
 by_cases hb:b < w.heap.size
 ·exact hb
 ·rw [Array.getElem?_eq_none (by omega)] at h; cases h
theorem cell {w:World} {b:Nat} {c:Array Value} {t:TypeId} (h:Blk w b c t) (i:Nat):w.cell? ⟨b,i,none⟩ = c[i]?:=by
 unfold Blk at h; simp [World.cell?,h]
theorem frozen {w:World} {b:Nat} {c:Array Value} {t:TypeId} (h:Blk w b c t) (i:Nat):w.frozen? ⟨b,i,none⟩ = false:=by
 unfold Blk at h; simp [World.frozen?,h]
theorem set {w:World} {b:Nat} {c:Array Value} {t:TypeId} (h:Blk w b c t) (i:Nat) (v:Value):Blk (w.setCell ⟨b,i,none⟩ v) b (c.setIfInBounds i v) t:=by
 unfold Blk at h ⊢
 simp [World.setCell,Array.getElem?_modify,h]
theorem setOther {w:World} {b:Nat} {c:Array Value} {t:TypeId} (h:Blk w b c t) {p:Addr} (hp:b ≠ p.block) (v:Value):Blk (w.setCell p v) b c t:=by
 unfold Blk at h ⊢
 rw [Below.heap_setCell _ _ _ _ hp]; exact h
theorem alloc {w:World} {b:Nat} {c:Array Value} {t:TypeId} (h:Blk w b c t) (o:Obj):Blk (w.alloc o) b c t:=by
 have:=h.lt
 unfold Blk at h ⊢
 rw [Below.heap_alloc _ _ _ this]; exact h
theorem drew {w:World} {b:Nat} {c:Array Value} {t:TypeId} (h:Blk w b c t):Blk w.drew b c t:=h
theorem drewN {w:World} {b:Nat} {c:Array Value} {t:TypeId} (h:Blk w b c t) (n:Nat):Blk (w.drewN n) b c t:=h
theorem kept {w w':World} {ex:Nat→Prop} {b:Nat} {c:Array Value} {t:TypeId} (h:Blk w b c t) (k:Kept ex w w') (he:¬ ex b):Blk w' b c t:=by
 have:=h.lt
 unfold Blk at h ⊢
 rw [k.block _ this he]; exact h
theorem below {w w':World} {b:Nat} {c:Array Value} {t:TypeId} (h:Blk w b c t) (k:Below w.heap.size w w'):Blk w' b c t :=
 h.kept (Kept.ofBelow (ex:=fun _=>False) k) (fun e=>e)
theorem new (w:World) (c:Array Value) (t:TypeId):Blk (w.alloc (.cells c t)) w.heap.size c t:=by
 unfold Blk; show (w.heap.push _)[w.heap.size]? = _; simp
end Blk
theorem heap_setRow_other (w:World) (g k:Nat) (c:Array Value) (h:k ≠ g):(w.setRow g c).heap[k]? = w.heap[k]?:=by
 simp only [World.setRow,Array.getElem?_modify]
 rw [if_neg (fun e=>h e.symm)]
theorem Blk.setRow {w:World} {b:Nat} {c:Array Value} {t:TypeId} (h:Blk w b c t) (c':Array Value):Blk (w.setRow b c') b c' t:=by
 unfold Blk at h ⊢
 simp [World.setRow,Array.getElem?_modify,h]
theorem Blk.setRowOther {w:World} {b:Nat} {c:Array Value} {t:TypeId} (h:Blk w b c t) {g:Nat} (hg:b ≠ g) (c':Array Value):Blk (w.setRow g c') b c t:=by
 unfold Blk at h ⊢
 rw [heap_setRow_other _ _ _ _ hg]; exact h
theorem Kept.setRow {ex:Nat→Prop} {a b:World} (h:Kept ex a b) {g:Nat} (hp:g < a.heap.size→ex g) (c:Array Value):Kept ex a (b.setRow g c) :=
 ⟨h.os,h.tape,h.output,by simp; exact h.size,fun i hi he=>by
  rw [heap_setRow_other b g i c (fun e=>he (e ▸ hp (e ▸ hi)))]; exact h.block i hi he⟩
theorem Below_setRow {B:Nat} {a w:World} (h:Below B a w) {g:Nat} (hp:B ≤ g) (c:Array Value):Below B a (w.setRow g c) :=
 ⟨h.os,h.tape,h.output,by simp; exact h.size,fun k hk=>by rw [heap_setRow_other w g k c (by omega)]; exact h.block k hk⟩
theorem Blk.at1 (w:World) (o:Obj) (c:Array Value) (t:TypeId):Blk ((w.alloc o).alloc (.cells c t)) (w.heap.size + 1) c t:=by
 have:=Blk.new (w.alloc o) c t
 simpa using this
theorem Blk.at2 (w:World) (o o':Obj) (c:Array Value) (t:TypeId):Blk (((w.alloc o).alloc o').alloc (.cells c t)) (w.heap.size + 1 + 1) c t:=by
 have:=Blk.new ((w.alloc o).alloc o') c t
 simpa using this
end Go.Proofs.YtcckhngbdoiikaaGreat
