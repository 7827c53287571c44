import Derived.Test.YtcckhngbdoiikabGreatA02
import Derived.Deep.OwnRows
import Derived.Deep.Quiet
set_option maxRecDepth 20000
set_option maxHeartbeats 12800000
set_option linter.unusedVariables false
namespace Go.Proofs.YtcckhngbdoiikabGreat
open Go.RowKit
theorem Hd{p:Prop}(h:p):Hid p:=h
theorem Hd2{p q:Prop}(a:p)(b:q):Hid (p/\q):=⟨a,b⟩
theorem Hd3{p q r:Prop}(a:p)(b:q)(c:r):Hid (p/\q/\r):=⟨a,b,c⟩
theorem Hd4{p q r s:Prop}(a:p)(b:q)(c:r)(d:s):Hid (p/\q/\r/\s):=⟨a,b,c,d⟩
theorem Hd5{p q r s t:Prop}(a:p)(b:q)(c:r)(d:s)(e:t):Hid (p/\q/\r/\s/\t):=⟨a,b,c,d,e⟩
theorem Hd6{p q r s t u:Prop}(a:p)(b:q)(c:r)(d:s)(e:t)(f:u):Hid (p/\q/\r/\s/\t/\u):=⟨a,b,c,d,e,f⟩
theorem Hd7{p q r s t u v:Prop}(a:p)(b:q)(c:r)(d:s)(e:t)(f:u)(g:v):Hid (p/\q/\r/\s/\t/\u/\v):=⟨a,b,c,d,e,f,g⟩
theorem Hd8{p q r s t u v w:Prop}(a:p)(b:q)(c:r)(d:s)(e:t)(f:u)(g:v)(h:w):Hid (p/\q/\r/\s/\t/\u/\v/\w):=⟨a,b,c,d,e,f,g,h⟩
theorem Hd9{p q r s t u v w x:Prop}(a:p)(b:q)(c:r)(d:s)(e:t)(f:u)(g:v)(h:w)(i:x):Hid (p/\q/\r/\s/\t/\u/\v/\w/\x):=⟨a,b,c,d,e,f,g,h,i⟩
theorem Hd10{p q r s t u v w x y:Prop}(a:p)(b:q)(c:r)(d:s)(e:t)(f:u)(g:v)(h:w)(i:x)(j:y):Hid (p/\q/\r/\s/\t/\u/\v/\w/\x/\y):=⟨a,b,c,d,e,f,g,h,i,j⟩
theorem Hd11{p q r s t u v w x y z:Prop}(a:p)(b:q)(c:r)(d:s)(e:t)(f:u)(g:v)(h:w)(i:x)(j:y)(k:z):Hid (p/\q/\r/\s/\t/\u/\v/\w/\x/\y/\z):=⟨a,b,c,d,e,f,g,h,i,j,k⟩
theorem V7{p:Prop}(h:Hid p):p:=h
structure C0(ex:Nat->Prop)(w w':World):Prop where
 os:w'.os=w.os
 tape:w'.tape=w.tape
 output:w'.output=w.output
 size:w.heap.size<=w'.heap.size
 block:∀k,k<w.heap.size->¬ex k->w'.heap[k]?=w.heap[k]?
namespace C0
theorem refl(ex:Nat->Prop)(w:World):C0 ex w w:=⟨rfl,rfl,rfl,zD _,fun _ _ _=>rfl⟩
theorem trans{ex ex':Nat->Prop}{a b c:World}(h:C0 ex a b)(k:C0 ex' b c)(D:∀i,i<a.heap.size->ex' i->ex i):C0 ex a c:=
 ⟨k.os.trans h.os,k.tape.trans h.tape,k.output.trans h.output,yI h.size k.size,fun i f B=>
  (k.block i (yG f h.size) (fun e=>B (D i f e))).trans (h.block i f B)⟩
theorem trans'{ex:Nat->Prop}{a b c:World}(h:C0 ex a b)(k:C0 ex b c):C0 ex a c:=h.trans k (fun _ _ e=>e)
theorem bK{ex ex':Nat->Prop}{a b:World}(h:C0 ex a b)(D:∀i,i<a.heap.size->ex i->ex' i):C0 ex' a b:=
 ⟨h.os,h.tape,h.output,h.size,fun i f B=>h.block i f (fun e=>B (D i f e))⟩
theorem aA{ex:Nat->Prop}{a b c:World}(h:C0 ex a b)(k:Bw b c):C0 ex a c:=
 ⟨k.os.trans h.os,k.tape.trans h.tape,k.output.trans h.output,yI h.size k.size,fun i f B=>
  (k.block i (yG f h.size)).trans (h.block i f B)⟩
theorem aM{ex:Nat->Prop}{a b:World}(k:Bw a b):C0 ex a b:=(refl ex a).aA k
theorem drew{ex:Nat->Prop}{a b:World}(h:C0 ex a b):C0 ex a b.drew:=⟨h.os,h.tape,h.output,h.size,h.block⟩
theorem drewN{ex:Nat->Prop}{a b:World}(h:C0 ex a b)(n:Nat):C0 ex a (b.drewN n):=⟨h.os,h.tape,h.output,h.size,h.block⟩
theorem alloc{ex:Nat->Prop}{a b:World}(h:C0 ex a b)(o:Obj):C0 ex a (b.alloc o):=
 ⟨h.os,h.tape,h.output,by simp;have:=h.size;omega,fun i f B=>by
  rw[Below.heap_alloc b o i (yG f h.size)];exact h.block i f B⟩
theorem setCell{ex:Nat->Prop}{a b:World}(h:C0 ex a b){p:Addr}(D:p.block<a.heap.size->ex p.block)(v:Value):C0 ex a (b.setCell p v):=
 ⟨h.os,h.tape,h.output,by simp;exact h.size,fun i B f=>by
  rw[Below.heap_setCell b p v i (fun e=>f (e ▸ D (e ▸ B)))];exact h.block i B f⟩
theorem cell{ex:Nat->Prop}{a b:World}(h:C0 ex a b){p:Addr}(B:p.block<a.heap.size)(f:¬ex p.block):b.cell? p=a.cell? p:=
 World.cell?_of_block (h.block _ B f)
theorem frozen{ex:Nat->Prop}{a b:World}(h:C0 ex a b){p:Addr}(B:p.block<a.heap.size)(f:¬ex p.block):b.frozen? p=a.frozen? p:=
 World.frozen?_of_block (h.block _ B f)
end C0
def Blk(w:World)(b:Nat)(c:Array Value)(t:TypeId):Prop:=w.heap[b]?=some (.cells c t (0,0))
namespace Blk
theorem lt{w:World}{b:Nat}{c:Array Value}{t:TypeId}(h:Blk w b c t):b<w.heap.size:=by
 unfold Blk at h
 by_cases f:b<w.heap.size
 ·exact f
 ·rw[Array.getElem?_eq_none (by omega)]at h;cases h
theorem cell{w:World}{b:Nat}{c:Array Value}{t:TypeId}(h:Blk w b c t)(i:Nat):w.cell? ⟨b,i,none⟩=c[i]?:=by
 unfold Blk at h;simp[World.cell?,h]
theorem frozen{w:World}{b:Nat}{c:Array Value}{t:TypeId}(h:Blk w b c t)(i:Nat):w.frozen? ⟨b,i,none⟩=false:=by
 unfold Blk at h;simp[World.frozen?,h]
theorem set{w:World}{b:Nat}{c:Array Value}{t:TypeId}(h:Blk w b c t)(i:Nat)(v:Value):Blk (w.setCell ⟨b,i,none⟩ v) b (c.setIfInBounds i v) t:=by
 unfold Blk at h⊢;simp[World.setCell,Array.getElem?_modify,h]
theorem aG{w:World}{b:Nat}{c:Array Value}{t:TypeId}(h:Blk w b c t){p:Addr}(f:b≠p.block)(v:Value):Blk (w.setCell p v) b c t:=by
 unfold Blk at h⊢;rw[Below.heap_setCell _ _ _ _ f];exact h
theorem alloc{w:World}{b:Nat}{c:Array Value}{t:TypeId}(h:Blk w b c t)(o:Obj):Blk (w.alloc o) b c t:=by
 have:=h.lt;unfold Blk at h⊢;rw[Below.heap_alloc _ _ _ this];exact h
theorem drew{w:World}{b:Nat}{c:Array Value}{t:TypeId}(h:Blk w b c t):Blk w.drew b c t:=h
theorem drewN{w:World}{b:Nat}{c:Array Value}{t:TypeId}(h:Blk w b c t)(n:Nat):Blk (w.drewN n) b c t:=h
theorem kept{w w':World}{ex:Nat->Prop}{b:Nat}{c:Array Value}{t:TypeId}(h:Blk w b c t)(k:C0 ex w w')(f:¬ex b):Blk w' b c t:=by
 have:=h.lt;unfold Blk at h⊢;rw[k.block _ this f];exact h
theorem aA{w w':World}{b:Nat}{c:Array Value}{t:TypeId}(h:Blk w b c t)(k:Bw w w'):Blk w' b c t:=
 h.kept (C0.aM (ex:=fun _=>False) k) (fun e=>e)
theorem aR(w:World)(c:Array Value)(t:TypeId):Blk (w.alloc (.cells c t)) w.heap.size c t:=by
 unfold Blk;show(w.heap.push _)[w.heap.size]?=_;simp
end Blk
theorem Ge(w:World)(g k:Nat)(c:Array Value)(h:k≠g):(w.setRow g c).heap[k]?=w.heap[k]?:=by
 simp only[World.setRow,Array.getElem?_modify];rw[if_neg (fun e=>h e.symm)]
theorem Blk.setRow{w:World}{b:Nat}{c:Array Value}{t:TypeId}(h:Blk w b c t)(f:Array Value):Blk (w.setRow b f) b f t:=by
 unfold Blk at h⊢;simp[World.setRow,Array.getElem?_modify,h]
theorem Blk.aP{w:World}{b:Nat}{c:Array Value}{t:TypeId}(h:Blk w b c t){g:Nat}(B:b≠g)(f:Array Value):Blk (w.setRow g f) b c t:=by
 unfold Blk at h⊢;rw[Ge _ _ _ _ B];exact h
theorem C0.setRow{ex:Nat->Prop}{a b:World}(h:C0 ex a b){g:Nat}(D:g<a.heap.size->ex g)(c:Array Value):C0 ex a (b.setRow g c):=
 ⟨h.os,h.tape,h.output,by simp;exact h.size,fun i B f=>by
  rw[Ge b g i c (fun e=>f (e ▸ D (e ▸ B)))];exact h.block i B f⟩
theorem I2{B:Nat}{a w:World}(h:Below B a w){g:Nat}(D:B<=g)(c:Array Value):Below B a (w.setRow g c):=
 ⟨h.os,h.tape,h.output,by simp;exact h.size,fun k f=>by rw[Ge w g k c (by omega)];exact h.block k f⟩
theorem Blk.dX(w:World)(o:Obj)(c:Array Value)(t:TypeId):Blk ((w.alloc o).alloc (.cells c t)) (w.heap.size+1) c t:=by
 have:=Blk.aR (w.alloc o) c t;simpa using this
theorem Blk.lU(w:World)(o f:Obj)(c:Array Value)(t:TypeId):Blk (((w.alloc o).alloc f).alloc (.cells c t)) (w.heap.size+1+1) c t:=by
 have:=Blk.aR ((w.alloc o).alloc f) c t;simpa using this
end Go.Proofs.YtcckhngbdoiikabGreat
