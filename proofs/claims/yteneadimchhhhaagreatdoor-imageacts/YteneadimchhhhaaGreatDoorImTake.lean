/- Plain data: the first chunks of a store, taken one by one. -/
import Derived.Test.YteneadimchhhhaaGreatDoorMgLyMath
namespace Go.Proofs.YteneadimchhhhaaGreatDoor
open Go.RowKit

/-- The first j chunks are the owner 1's. -/
def own5 (j k : Nat) : Nat := if k < j then 1 else 0
def wd0 (_ : Nat) : Nat := 0
theorem rn5 (j : Nat) (h : j < 6) : BM.rn (busy (own5 j)) 6 1 = j := by
  match j, h with
  | 0, _ => decide
  | 1, _ => decide
  | 2, _ => decide
  | 3, _ => decide
  | 4, _ => decide
  | 5, _ => decide
theorem tk5 (j : Nat) (h : j < 5) : tkE (own5 j) 6 1 1 = 0 ∧ tkOwnA (own5 j) 6 1 1 = own5 (j + 1) ∧ tkWdA (own5 j) wd0 6 8 1 1 = wd0 := by
  have hr := rn5 j (by omega)
  have hE : tkE (own5 j) 6 1 1 = 0 := by
    unfold tkE
    rw [if_neg (by omega)]
    have : (1 : Int).toNat = 1 := rfl
    rw [this, hr, if_pos (by omega)]
  refine ⟨hE, ?_, ?_⟩
  · unfold tkOwnA
    rw [if_pos hE]
    have : (1 : Int).toNat = 1 := rfl
    rw [this, hr]
    funext k
    unfold tkOwn own5
    by_cases h1 : j ≤ k ∧ k < j + 1
    · rw [if_pos h1, if_pos (by omega)]
    · rw [if_neg h1]
      by_cases h2 : k < j
      · rw [if_pos h2, if_pos (by omega)]
      · rw [if_neg h2, if_neg (by omega)]
  · unfold tkWdA
    rw [if_pos hE]
    funext k
    unfold tkWd wd0
    split <;> rfl
/-- What images in the laws keep. -/
def cf5 (D : List LD) : Cf := ⟨own5 5, 6, 8, D⟩
end Go.Proofs.YteneadimchhhhaaGreatDoor
