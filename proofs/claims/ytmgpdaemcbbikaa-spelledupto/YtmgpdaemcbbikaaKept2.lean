import Derived.Test.YtmgpdaemcbbikaaKept
namespace Go.Proofs.Ytmgpdaemcbbikaa
open Go.RowKit
theorem Blk.at1 (w : World) (o : Obj) (c : Array Value) (t : TypeId) : Blk ((w.alloc o).alloc (.cells c t)) (w.heap.size + 1) c t := by
  have := Blk.new (w.alloc o) c t
  simpa using this
theorem Blk.at2 (w : World) (o o' : Obj) (c : Array Value) (t : TypeId) : Blk (((w.alloc o).alloc o').alloc (.cells c t)) (w.heap.size + 1 + 1) c t := by
  have := Blk.new ((w.alloc o).alloc o') c t
  simpa using this
theorem Blk.at3 (w : World) (o o' o'' : Obj) (c : Array Value) (t : TypeId) : Blk ((((w.alloc o).alloc o').alloc o'').alloc (.cells c t)) (w.heap.size + 1 + 1 + 1) c t := by
  have := Blk.new (((w.alloc o).alloc o').alloc o'') c t
  simpa using this
end Go.Proofs.Ytmgpdaemcbbikaa
