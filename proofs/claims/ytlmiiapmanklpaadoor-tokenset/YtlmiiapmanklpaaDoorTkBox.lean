/- The laws' own boxes through calls. -/
import Derived.Test.YtlmiiapmanklpaaDoorTkAlive
import Derived.Test.YtlmiiapmanklpaaDoorTkRef
namespace Go.Proofs.YtlmiiapmanklpaaDoor
open Go.RowKit

structure TBox (w : World) (g : Nat) (a b : Int) (W : World) : Prop where
  box : Whole W g 23 #[.int .i64 a, .int .i64 b]
  bel : Below w.heap.size w W
theorem TBox.step {w : World} {g : Nat} {a b : Int} {W W' : World} (h : TBox w g a b W) (hb : Below W.heap.size W W') : TBox w g a b W' :=
  ⟨h.box.below hb h.box.lt, h.bel.trans (hb.mono h.bel.size)⟩
theorem TBox.alloc {w : World} {g : Nat} {a b : Int} {W : World} (h : TBox w g a b W) (o : Obj) : TBox w g a b (W.alloc o) :=
  ⟨h.box.alloc o, h.bel.alloc h.bel.size o⟩
theorem TBox.first (w : World) (a b : Int) : TBox w w.heap.size a b (w.alloc (.cells #[.int .i64 a, .int .i64 b] 23)) :=
  ⟨Whole.fresh _ _ _, (Below.refl _ _).alloc (Nat.le_refl _) _⟩
theorem TBox.next {w W : World} (h : Below w.heap.size w W) (a b : Int) : TBox w W.heap.size a b (W.alloc (.cells #[.int .i64 a, .int .i64 b] 23)) :=
  ⟨Whole.fresh _ _ _, h.alloc h.size _⟩
theorem TBox.lt {w : World} {g : Nat} {a b : Int} {W : World} (h : TBox w g a b W) : g < W.heap.size := h.box.lt
theorem TBox.cells {w : World} {g : Nat} {a b : Int} {W : World} (h : TBox w g a b W) : W.cell? ⟨g, 0, none⟩ = some (.int .i64 a) ∧ W.cell? ⟨g, 1, none⟩ = some (.int .i64 b) := h.box.cells2
end Go.Proofs.YtlmiiapmanklpaaDoor
