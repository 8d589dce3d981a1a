/- Contract of Copy of the document's store, where the words are there. -/
import Derived.Test.YteencfldehcbbaaDoorStRef2
namespace Go.Proofs.YteencfldehcbbaaDoor
open Go.RowKit

/-- Words as values. -/
def wvals (wd : Nat → Nat) (f k : Nat) : List Value := (List.range k).map fun i => Value.int .u64 (wd (f + i) : Nat)
theorem wvals_len (wd : Nat → Nat) (f k : Nat) : (wvals wd f k).length = k := by simp [wvals]
theorem wvals_snoc (wd : Nat → Nat) (f k : Nat) : wvals wd f (k + 1) = wvals wd f k ++ [Value.int .u64 (wd (f + k) : Nat)] := by
  simp [wvals, List.range_succ]
theorem wvals_at (wd : Nat → Nat) (f k j : Nat) (h : j < k) : (wvals wd f k)[j]? = some (Value.int .u64 (wd (f + j) : Nat)) := by
  simp [wvals, h]
/-- A row of the call's own, cell by cell. -/
theorem owns_cells {w : World} {base n : Nat} {e : TypeId} {u : Value} {vs : List Value} (h : w.ownsRow base e 1 u n vs) (hl : vs.length = n) (hn : 0 < n) :
    ∃ g cap, u = .slice (some ⟨g, 0, none⟩) n cap ∧ base ≤ g ∧ g < w.heap.size ∧ ∀ j v, vs[j]? = some v → w.cell? ⟨g, j, none⟩ = some v := by
  have hlt := h.lt
  obtain ⟨h1, h2⟩ := h
  rcases h2 with ⟨rfl, h0⟩ | ⟨g, cap, cur, rfl, hg, hh, hn', hm, hs, ht⟩
  · omega
  · refine ⟨g, cap, rfl, (hlt _ rfl).1, (hlt _ rfl).2, fun j v hv => ?_⟩
    have hj : j < vs.length := (List.getElem?_eq_some_iff.1 hv).1
    rw [← ht, List.getElem?_take, if_pos (by omega)] at hv
    simpa [World.cell?, hh] using hv

section
variable {w w' : World} {R : RB} {C K : Nat} {own wd : Nat → Nat}
def RCopyPost (w : World) (R : RB) (C K : Nat) (own wd : Nat → Nat) (t f m : Nat) (e : Ending) (w' : World) : Prop :=
  (e = .returned (.int .i64 17) ∧ Below w.heap.size w w' ∧ (anyFree own K t m = true ∨ anyFree own K f m = true)) ∨
  (e = .returned (.int .i64 0) ∧ (anyFree own K t m = false ∧ anyFree own K f m = false) ∧ ∃ w1, Below w.heap.size w w1 ∧ OnlyAt R.p w1 w' ∧ RfAt w' R C K own (cpWd wd t f m))
def RCopyAt (w : World) (K : Nat) (own wd : Nat → Nat) (t f m : Nat) (u x : Value) (wr : World) : Prop :=
  ∃ k : Nat, k ≤ m ∧ x = .int .i64 k ∧ wr.ownsRow w.heap.size 57 1 u k (wvals wd f k) ∧ Below w.heap.size w wr ∧ ∀ j, j < k → own ((t + j) / K) ≠ 0 ∧ own ((f + j) / K) ≠ 0
def RCopyIn (w1 : World) (R : RB) (C K : Nat) (own wd : Nat → Nat) (t f m : Nat) (x : Value) (wr : World) : Prop :=
  ∃ k : Nat, k ≤ m ∧ x = .int .i64 k ∧ OnlyAt R.p w1 wr ∧ RfAt wr R C K own (cpWd wd t f k)
end
end Go.Proofs.YteencfldehcbbaaDoor
