/- Contracts of All and Same of the document's answers; slices of places. -/
import Derived.Test.YtldlolgdglmocaaDoorBmRef
import Derived.Maps.AppendAt
import Derived.Deep.QuietTactic
import Derived.BigQuiet
import Derived.WalkSmall
namespace Go.Proofs.YtldlolgdglmocaaDoor
open Go.RowKit

theorem infoInt : (Tryd.prog.info? 3).map (fun i => (i.zero, i.size, i.bytes)) = some (some (.int .i64 0), 1, 8) := by kernel_rfl

/-- Places as values. -/
def vals (xs : List Nat) : List Value := xs.map fun x => Value.int .i64 (x : Nat)
theorem vals_snoc (xs : List Nat) (a : Nat) : vals (xs ++ [a]) = vals xs ++ [.int .i64 (a : Nat)] := by simp [vals]
theorem vals_len (xs : List Nat) : (vals xs).length = xs.length := by simp [vals]

/-- A slice that reads as these places. -/
def IS (w : World) (v : Value) (xs : List Nat) : Prop :=
  ∃ A c, v = .slice A xs.length c ∧ ∀ i x, xs[i]? = some x → ∃ g off, A = some ⟨g, off, none⟩ ∧ w.cell? ⟨g, off + i, none⟩ = some (.int .i64 (x : Nat))
theorem IS.of_owns {w : World} {base : Nat} {e : TypeId} {v : Value} {xs : List Nat} (h : w.ownsRow base e 1 v xs.length (vals xs)) : IS w v xs := by
  obtain ⟨h1, h2⟩ := h
  rcases h2 with ⟨rfl, h0⟩ | ⟨g, cap, cur, rfl, hg, hh, hn, hm, hs, ht⟩
  · have : xs = [] := List.length_eq_zero_iff.1 h0
    subst this
    exact ⟨none, 0, rfl, fun i x h => by simp at h⟩
  · refine ⟨_, cap, rfl, fun i x hx => ⟨g, 0, rfl, ?_⟩⟩
    have hi : i < xs.length := (List.getElem?_eq_some_iff.1 hx).1
    have hv : (vals xs)[i]? = some (.int .i64 (x : Nat)) := by simp [vals, hx]
    rw [← ht, List.getElem?_take, if_pos (by omega)] at hv
    rw [Nat.zero_add]
    simpa [World.cell?, hh] using hv
theorem IS.below {B : Nat} {w w' : World} {v : Value} {xs : List Nat} (h : IS w v xs) (hb : Below B w w') (hlt : ∀ g off n c, v = .slice (some ⟨g, off, none⟩) n c → g < B) : IS w' v xs := by
  obtain ⟨A, c, rfl, hc⟩ := h
  refine ⟨A, c, rfl, fun i x hx => ?_⟩
  obtain ⟨g, off, rfl, h1⟩ := hc i x hx
  exact ⟨g, off, rfl, (hb.cell (p := ⟨g, off + i, none⟩) (hlt g off _ _ rfl)).trans h1⟩

/-- What is left by a call that makes a slice of these places. -/
def RowPost (xs : List Nat) (w : World) (e : Ending) (w' : World) : Prop :=
  ∃ v, e = .returned v ∧ w'.ownsRow w.heap.size 3 1 v xs.length (vals xs) ∧ Below w.heap.size w w'

end Go.Proofs.YtldlolgdglmocaaDoor
