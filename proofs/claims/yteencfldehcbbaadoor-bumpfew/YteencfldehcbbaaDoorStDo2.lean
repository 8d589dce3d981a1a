/- The contract of the law package's do: one call of both, the same answer; the other kinds. -/
import Derived.Test.YteencfldehcbbaaDoorStDo
import Derived.Deep.RegionHeld3
import Derived.BigQuiet
namespace Go.Proofs.YteencfldehcbbaaDoor
open Go.RowKit

section
variable {w0 w w' : World} {B : SB} {R : RB} {C K : Nat} {own wd : Nat → Nat}
theorem Pair.rfar (h : Pair w0 w B R C K own wd) : w.heap.size ∉ [R.p, R.q] := by
  obtain ⟨⟨a1, a2⟩, ⟨b1, b2⟩, c1, c2⟩ := h.rwin
  simp
  omega
end
end Go.Proofs.YteencfldehcbbaaDoor
