/- Small words for the laws of bump. -/
import Derived.Test.YteencfldehcbbaaDoorBpAlive
import Derived.Test.YteencfldehcbbaaDoorSl
namespace Go.Proofs.YteencfldehcbbaaDoor
open Go.RowKit Go.Sort BP
set_option linter.unusedVariables false

section
variable {w0 w : World} {B : SB} {C K o o' p p' : Nat} {v v' : Value} {D : Dt}
theorem Co.free (h : Co w0 w B C K o o' p p' v v' D) : Calls Tryd.prog 23 #[.pointer (some ⟨B.s, 0, none⟩)] w fun e w' => e = .returned (.int .i64 (frees D.own C : Nat)) ∧ Below w.heap.size w w' :=
  (free_any h.held.st).mono fun _ _ ⟨he, m, hw⟩ => ⟨he, by subst hw; exact below_drewN (Below.refl _ _) _⟩
theorem RowPost.sl {xs : List Nat} {w w' : World} {e : Ending} (h : RowPost xs w e w') : ∃ A c, e = .returned (.slice A xs.length c) ∧ Below w.heap.size w w' := by
  obtain ⟨v, he, hown, hb⟩ := h
  rcases hown.2 with ⟨rfl, h0⟩ | ⟨g, cap, cur, rfl, _⟩
  · exact ⟨none, 0, by rw [he, h0], hb⟩
  · exact ⟨_, cap, he, hb⟩
end
end Go.Proofs.YteencfldehcbbaaDoor
