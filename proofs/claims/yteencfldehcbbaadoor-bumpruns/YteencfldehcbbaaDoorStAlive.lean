/- The contract of the law package's alive: the document's example holds. -/
import Derived.Test.YteencfldehcbbaaDoorStCopy
import Derived.Test.YteencfldehcbbaaDoorStNew
namespace Go.Proofs.YteencfldehcbbaaDoor
open Go.RowKit

theorem Tab.pos {w : World} (h : Tab w) : 0 < w.heap.size := by
  have := h 0 (by decide)
  rcases Nat.lt_or_ge 0 w.heap.size with hl | hg
  · exact hl
  · simp [World.cell?, Array.getElem?_eq_none hg] at this

/-- A store that was made since w0. -/
structure Held (w0 w : World) (B : SB) (C K : Nat) (own wd : Nat → Nat) : Prop where
  st : StAt w B C K own wd
  bel : Below w0.heap.size w0 w
  win : B.within w0.heap.size w.heap.size
  tab : Tab w
section
variable {w0 w w' : World} {B : SB} {C K : Nat} {own wd own' wd' : Nat → Nat}
theorem SB.within.only {lo hi : Nat} (h : B.within lo hi) {w w' : World} (ho : OnlyIn [B.o, B.c, B.v] w w') : Below lo w w' :=
  ho.below fun c hc => by
    obtain ⟨h1, h2, h3, h4, h5⟩ := h
    simp at hc
    rcases hc with rfl | rfl | rfl <;> omega
theorem SB.within.more {lo hi hi' : Nat} (h : B.within lo hi) (hh : hi ≤ hi') : B.within lo hi' := by
  obtain ⟨⟨a1, a2⟩, ⟨b1, b2⟩, ⟨c1, c2⟩, ⟨d1, d2⟩, e1, e2⟩ := h
  refine ⟨⟨a1, ?_⟩, ⟨b1, ?_⟩, ⟨c1, ?_⟩, ⟨d1, ?_⟩, e1, ?_⟩ <;> omega
/-- Behind a call of the store. -/
theorem Held.step (h : Held w0 w B C K own wd) (hT : Tab w0) (ho : OnlyIn [B.o, B.c, B.v] w w') (hs : StAt w' B C K own' wd') : Held w0 w' B C K own' wd' := by
  have hb := h.bel.trans (h.win.only ho)
  exact ⟨hs, hb, by rw [ho.size]; exact h.win, hT.below hb hT.pos⟩
/-- Behind a call that leaves all that was there. -/
theorem Held.later (h : Held w0 w B C K own wd) (hT : Tab w0) (hb : Below w.heap.size w w') : Held w0 w' B C K own wd := by
  have hb' := h.bel.trans (hb.mono h.bel.size)
  exact ⟨h.st.below hb h.win, hb', h.win.more hb.size, hT.below hb' hT.pos⟩
theorem Held.heap (h : Held w0 w B C K own wd) (e : ∃ m, w' = w.drewN m) : Held w0 w' B C K own wd := by
  obtain ⟨m, rfl⟩ := e
  exact ⟨h.st.heap rfl, below_drewN h.bel _, h.win, h.tab⟩
theorem held_new (hT : Tab w) {hs : StAt w' B C K own wd} (hb : Below w.heap.size w w') (hw : B.within w.heap.size w'.heap.size) : Held w w' B C K own wd := ⟨hs, hb, hw, hT.below hb hT.pos⟩
end

end Go.Proofs.YteencfldehcbbaaDoor
