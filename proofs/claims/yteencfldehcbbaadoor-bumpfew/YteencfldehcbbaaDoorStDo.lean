/- The contract of the law package's do: one call of both, the same answer. -/
import Derived.Test.YteencfldehcbbaaDoorStAll
import Derived.Deep.RegionHeld3
namespace Go.Proofs.YteencfldehcbbaaDoor
open Go.RowKit

/-- What do leaves. -/
def DoPost (w0 : World) (B : SB) (R : RB) (C K : Nat) (e : Ending) (w' : World) : Prop :=
  e = .returned (.bool true) ∧ ∃ own' wd', Pair w0 w' B R C K own' wd'

section
variable {w0 w w' : World} {B : SB} {R : RB} {C K : Nat} {own wd : Nat → Nat}
theorem Pair.still (h : Pair w0 w B R C K own wd) (e1 : w'.os = w.os) (e2 : w'.tape = w.tape) (e3 : w'.output = w.output) (e4 : w'.heap = w.heap) : Pair w0 w' B R C K own wd := by
  have e5 : w'.heap.size = w.heap.size := by rw [e4]
  exact ⟨⟨h.held.st.heap e4, ⟨e1.trans h.held.bel.os, e2.trans h.held.bel.tape, e3.trans h.held.bel.output, by rw [e5]; exact h.held.bel.size, fun k hk => by rw [e4]; exact h.held.bel.block k hk⟩, by rw [e5]; exact h.held.win, fun k hk => (World.cell?_of_block (by rw [e4])).trans (h.held.tab k hk)⟩, h.rf.heap e4, by rw [e5]; exact h.rwin, h.ap⟩
/-- The act's own box is none of the store's blocks. -/
theorem Pair.far (h : Pair w0 w B R C K own wd) : w.heap.size ∉ [B.o, B.c, B.v] := by
  obtain ⟨⟨a1, a2⟩, ⟨b1, b2⟩, ⟨c1, c2⟩, ⟨d1, d2⟩, e1, e2⟩ := h.held.win
  simp
  omega

end
end Go.Proofs.YteencfldehcbbaaDoor
