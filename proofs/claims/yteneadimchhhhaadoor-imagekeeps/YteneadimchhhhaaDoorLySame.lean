/- Contracts of Same and list of the document's answers, where both have the same; the document's example. -/
import Derived.Test.YteneadimchhhhaaDoorLyTold
namespace Go.Proofs.YteneadimchhhhaaDoor
open Go.RowKit

theorem ns_one {w : World} {g t : Nat} {x : Int} (h : Whole w g t #[.int .i64 x]) (hx : (Lit.int .i64 x).wf = true) : NS .i64 w w.heap.size (some ⟨g, 0, none⟩) 1 [x] := by
  refine ⟨rfl, by simpa using hx, fun _ => ⟨g, 0, rfl, h.lt, fun i y hi => ?_⟩⟩
  rw [Nat.zero_add, h.cell]
  match i, hi with
  | 0, hi => simp at hi; subst hi; rfl
theorem ns_list {w : World} {g t : Nat} {xs : List Int} (h : Whole w g t (ivals xs).toArray) (hx : ∀ x ∈ xs, (Lit.int .i64 x).wf = true) : NS .i64 w w.heap.size (some ⟨g, 0, none⟩) xs.length xs := by
  refine ⟨rfl, hx, fun _ => ⟨g, 0, rfl, h.lt, fun i y hi => ?_⟩⟩
  rw [Nat.zero_add, h.cell]
  simp [ivals, hi]
theorem ns_owns {w : World} {base : Nat} {e : TypeId} {v : Value} {xs : List Int} (h : w.ownsRow base e 1 v xs.length (ivals xs)) (hx : ∀ x ∈ xs, (Lit.int .i64 x).wf = true) : ∃ A c, v = .slice A xs.length c ∧ NS .i64 w w.heap.size A xs.length xs := by
  obtain ⟨A, c, rfl, hn⟩ := own_form h hx
  exact ⟨A, c, rfl, hn.ns⟩
theorem wf_small {x : Int} (h0 : 0 ≤ x) (h1 : x ≤ 100000) : (Lit.int .i64 x).wf = true := by
  have e1 : IntKind.i64.min = -9223372036854775808 := by decide
  have e2 : IntKind.i64.max = 9223372036854775807 := by decide
  simp [Lit.wf, e1, e2]
  omega
theorem told_wf (F R : Int) (xs ys : List Int) (C : Int) : ∀ x ∈ LM.told F R xs ys C, (Lit.int .i64 x).wf = true := fun x hx => by
  have := LM.told_bd F R xs ys C x hx
  exact wf_small this.1 (by omega)
end Go.Proofs.YteneadimchhhhaaDoor
