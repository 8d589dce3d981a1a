/- Contracts of the small functions of package bitmap: what each call returns, in what world. -/
import Derived.Test.YteencfldehcbbaaDoorRows
import Derived.Test.YteencfldehcbbaaDoorBase
import Derived.Test.YteencfldehcbbaaDoorBmMath
import Derived.WalkKit
import Derived.WalkSpells
import Derived.WalkLawsBesides
import Derived.RowKit3
import Derived.Below
import Derived.Lib.Hide
namespace Go.Proofs.YteencfldehcbbaaDoor
open Go.RowKit


/-- The map's box and its words. -/
structure MapAt (w : World) (b c n : Nat) (ws : Nat → Nat) : Prop where
  n1 : 1 ≤ n
  n2 : n ≤ 1048576
  len : w.cell? ⟨b, 0, none⟩ = some (.int .i64 n)
  row : w.cell? ⟨b, 1, none⟩ = some (.slice (some ⟨c, 0, none⟩) ((n + 63) / 64) ((n + 63) / 64))
  word : ∀ k, k < (n + 63) / 64 → w.cell? ⟨c, k, none⟩ = some (.int .u64 (ws k))
  thaw : ∀ k, k < (n + 63) / 64 → w.frozen? ⟨c, k, none⟩ = false
  lt : ∀ k, ws k < 18446744073709551616
  past : ∀ i, n ≤ i → BM.on ws i = false
  ne : b ≠ c

set_option maxHeartbeats 400000 in
theorem len_any (b n : Nat) (w : World) (h : w.cell? ⟨b, 0, none⟩ = some (.int .i64 n)) :
    Calls Tryd.prog 78 #[.pointer (some ⟨b, 0, none⟩)] w fun e w' => e = .returned (.int .i64 n) ∧ w = w' := by
  go_enter Tryd.func78, Tryd.ntmps78
  go_wp2
  go_ret
  exact ⟨rfl, rfl⟩
theorem len_nil (w : World) :
    Calls Tryd.prog 78 #[.pointer none] w fun e w' => e = .returned (.int .i64 0) ∧ w = w' := by
  go_enter Tryd.func78, Tryd.ntmps78
  go_wp2
  go_ret
  exact ⟨rfl, rfl⟩

end Go.Proofs.YteencfldehcbbaaDoor
