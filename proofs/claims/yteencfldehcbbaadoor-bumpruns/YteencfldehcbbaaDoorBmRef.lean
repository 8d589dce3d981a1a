/- Contracts of First, Run, All, Same of the document's answers. -/
import Derived.Test.YteencfldehcbbaaDoorBmMeth3
namespace Go.Proofs.YteencfldehcbbaaDoor
open Go.RowKit

theorem firstVal_yes {f : Nat → Bool} {n : Nat} {i : Int} {k : Nat} (hk : k < n) (h1 : i ≤ k) (hf : f k = false) (h2 : ∀ q : Nat, i ≤ q → q < k → f q = true) : firstVal f n i = .tuple #[.int .i64 (k : Nat), .bool true] := by
  unfold firstVal
  have e : BM.nx f n false i.toNat = k := BM.nx_eq _ _ _ _ _ (by omega) (fun q a b => by rw [h2 q (by omega) b]; rfl) (fun _ => ⟨by omega, hf⟩)
  rw [e, if_pos hk]
theorem firstVal_no {f : Nat → Bool} {n : Nat} {i : Int} (h2 : ∀ q : Nat, i ≤ q → q < n → f q = true) : firstVal f n i = .tuple #[.int .i64 0, .bool false] := by
  unfold firstVal
  have e : BM.nx f n false i.toNat = n := BM.nx_eq _ _ _ _ _ (by omega) (fun q a b => by rw [h2 q (by omega) b]; rfl) (fun h => absurd h (by omega))
  rw [e, if_neg (by omega)]

end Go.Proofs.YteencfldehcbbaaDoor
