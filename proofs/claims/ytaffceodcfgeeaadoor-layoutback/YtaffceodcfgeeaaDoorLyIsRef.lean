/- Contracts of IsRef, of package layout and of the document's answers. -/
import Derived.Test.YtaffceodcfgeeaaDoorLySize
import Derived.Test.YtaffceodcfgeeaaDoorPack
import Derived.IntWalk
namespace Go.Proofs.YtaffceodcfgeeaaDoor
open Go.RowKit

theorem quiet_left {P : Program} {f : FuncId} {args : Array Value} {w : World} {n : Nat} {v : Value}
    (h : Calls P f args (w.drewN n) fun e w' => e = .returned v ∧ w.drewN n = w') : Calls P f args (w.drewN n) fun e w'' => e = .returned v ∧ ∃ m, w'' = w.drewN m :=
  h.mono fun _ _ ⟨he, hm⟩ => ⟨he, n, hm.symm⟩
theorem ret_bi {a b : Bool} {k : IntKind} {z : Int} (h : a = b) : Ending.returned (.tuple #[.bool a, .int k z]) = .returned (.tuple #[.bool b, .int k z]) := by rw [h]
theorem emod_bounds {a b : Int} (h0 : 0 ≤ a) (hb : 0 < b) : 0 ≤ a % b ∧ a % b < b ∧ a.tmod b = a % b := ⟨Int.emod_nonneg _ (by omega), Int.emod_lt_of_pos _ hb, Int.tmod_eq_emod_of_nonneg h0⟩

end Go.Proofs.YtaffceodcfgeeaaDoor
