/- The contract of the law package's all: a slice of the places that are on. -/
import Derived.Test.YtldlolgdglmocaaDoorBmIter
namespace Go.Proofs.YtldlolgdglmocaaDoor
open Go.RowKit Go.Shelf
attribute [local go_sem] Oper.semAt_some

theorem kq_t {n Bn : Nat} {p0 : Option Addr} {A B C : World} (h : Kq n Bn p0 A B) (k : Kq n Bn p0 B C) : Kq n Bn p0 A C := ⟨h.1.trans k.1, fun x => k.2 (h.2 x)⟩
theorem kq_b {n Bn : Nat} {p0 : Option Addr} {w : World} (hn : n ≤ w.heap.size) (hB : Bn < w.heap.size) (W : World) (l : Nat) (o o' : Obj) (hl : w.heap.size ≤ l) (h : W.heap[l]? = some o) (h1 : o.isCells = false) (h2 : o.isWalk = false) : Kq n Bn p0 W (W.putObj l o') :=
  ⟨belowK_b hn W l o o' hl h h1 h2, fun x => x.kept (grownBy_putObj' W l o') (by intro e; cases e; omega)⟩

end Go.Proofs.YtldlolgdglmocaaDoor
