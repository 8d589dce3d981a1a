/- Contracts of slots for every layout and count, of the document's Slots, and of Same, list, of the document's answers, where both are the same. -/
import Derived.Test.YteneadimchhhhaaDoorLyRange
namespace Go.Proofs.YteneadimchhhhaaDoor
open Go.RowKit Go.Shelf

namespace LM
/-- All references that are told. -/
def told (F R : Int) (xs ys : List Int) (C : Int) : List Int := if code F R xs ys C = 0 then slots F R xs ys C.toNat else []
theorem told_no {F R : Int} {xs ys : List Int} {C : Int} (h : code F R xs ys C ≠ 0) : told F R xs ys C = [] := by simp [told, h]
theorem told_ok {F R : Int} {xs ys : List Int} {C : Int} (h : code F R xs ys C = 0) : told F R xs ys C = slots F R xs ys C.toNat := by simp [told, h]
theorem size_bd (F R : Int) (xs ys : List Int) (C : Int) : 0 ≤ size F R xs ys C ∧ size F R xs ys C ≤ 8191 := by
  by_cases h : code F R xs ys C = 0
  · obtain ⟨hr, ⟨k1, k2, k3⟩, k4⟩ := code_zero h
    obtain ⟨⟨g1, g2, g3, g4, g5⟩, -, -⟩ := right_parts hr
    rw [size_ok h]
    have := Int.mul_nonneg k1 g3
    omega
  · rw [size_no h]; omega
theorem told_picks (F R : Int) (xs ys : List Int) (C : Int) : told F R xs ys C = picks (isRef F R xs ys) (size F R xs ys C).toNat := by
  by_cases h : code F R xs ys C = 0
  · obtain ⟨hr, ⟨k1, k2, k3⟩, k4⟩ := code_zero h
    obtain ⟨⟨g1, g2, g3, g4, g5⟩, -, -⟩ := right_parts hr
    have hp := Int.mul_nonneg k1 g3
    rw [told_ok h, size_ok h]
    exact slots_picks F R xs ys _ _ hr (fun e => by have := k3 e; omega) (by rw [Int.toNat_of_nonneg (by omega), Int.toNat_of_nonneg k1])
  · rw [told_no h, size_no h]; rfl
theorem told_len (F R : Int) (xs ys : List Int) (C : Int) : (told F R xs ys C).length ≤ 8191 := by
  rw [told_picks]
  have := picks_len (isRef F R xs ys) (size F R xs ys C).toNat
  have := size_bd F R xs ys C
  omega
theorem told_bd (F R : Int) (xs ys : List Int) (C x : Int) (h : x ∈ told F R xs ys C) : 0 ≤ x ∧ x ≤ 8191 := by
  rw [told_picks, mem_picks] at h
  have := size_bd F R xs ys C
  omega
end LM

theorem ownsRow_below {w w' : World} {base : Nat} {e : TypeId} {size n : Nat} {v : Value} {xs : List Value} (h : w.ownsRow base e size v n xs) (hb : Below w.heap.size w w') : w'.ownsRow base e size v n xs := by
  refine ⟨h.1, ?_⟩
  rcases h.2 with h0 | ⟨g, cap, cur, rfl, hg, hh, hr⟩
  · exact .inl h0
  · exact .inr ⟨g, cap, cur, rfl, hg, (hb.block g (Array.getElem?_eq_some_iff.1 hh).1).trans hh, hr⟩

end Go.Proofs.YteneadimchhhhaaDoor
