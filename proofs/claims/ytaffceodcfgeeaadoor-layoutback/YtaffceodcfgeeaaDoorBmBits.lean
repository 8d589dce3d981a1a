/- Contracts of math/bits.TrailingZeros64 (the table as it is laid) and OnesCount64. -/
import Derived.Test.YtaffceodcfgeeaaDoorBmLeaf
import Derived.Test.YtaffceodcfgeeaaDoorBmOnes
import Derived.Laws.Bits128
namespace Go.Proofs.YtaffceodcfgeeaaDoor
open Go.RowKit

/-- The table of math/bits, as it is laid. -/
def Tab (w : World) : Prop := ∀ j, j < 64 → w.cell? ⟨0, j, none⟩ = some (.int .u8 (Lib.deBruijn64tab.getD j 0))
theorem Tab.below {B : Nat} {w w' : World} (h : Tab w) (hb : Below B w w') (hB : 0 < B) : Tab w' := fun j hj => (hb.cell (p := ⟨0, j, none⟩) hB).trans (h j hj)

/-- Where the table tells the lowest bit of x. -/
def lowAt (x : Nat) : Nat := 2 ^ Lib.ctz 64 x * 285870213051353865 % 18446744073709551616 / 288230376151711744
theorem low_at (x : Nat) (h0 : x ≠ 0) (h : x < 18446744073709551616) : lowAt x < 64 ∧ Lib.ctz 64 x < 64 ∧ Lib.deBruijn64tab.getD (lowAt x) 0 = Lib.ctz 64 x ∧
    IntKind.u64.wrap (bits .and .u64 (x : Int) (IntKind.u64.wrap (-(x : Int))) * 285870213051353865) / 288230376151711744 = (lowAt x : Int) := by
  have hb := Lib.lowest_bit 64 x h0 h
  have ht := Lib.deBruijn64_at (Lib.ctz 64 x) hb.2
  refine ⟨ht.1, hb.2, ht.2, ?_⟩
  have hneg : IntKind.u64.wrap (-(x : Int)) = ((2 ^ 64 - x : Nat) : Int) := by
    rw [IntKind.wrap_u64, BM.pow64]
    omega
  rw [hneg, u64_and_nat x (2 ^ 64 - x) h (by rw [BM.pow64]; omega), hb.1, IntKind.wrap_u64]
  unfold lowAt
  generalize 2 ^ Lib.ctz 64 x = A
  omega
set_option maxHeartbeats 1000000 in
theorem tz64_told (w : World) (x z p : Nat) (hp : p < 64) (hc : w.cell? ⟨0, p, none⟩ = some (.int .u8 z)) (hz : z < 64) (hn : ((x : Int) == 0) = false)
    (he : IntKind.u64.wrap (bits .and .u64 (x : Int) (IntKind.u64.wrap (-(x : Int))) * 285870213051353865) / 288230376151711744 = (p : Int)) :
    Calls Tryd.prog 32 #[.int .u64 x] w fun e w' => e = .returned (.int .i64 z) ∧ w = w' := by
  go_enter Tryd.func32, Tryd.ntmps32
  go_wp2_with (simp only [he])
  go_ret
  exact ⟨rfl, rfl⟩
theorem tz64_any (x : Nat) (hx : x < 18446744073709551616) (hx0 : x ≠ 0) (w : World) (hT : Tab w) :
    Calls Tryd.prog 32 #[.int .u64 x] w fun e w' => e = .returned (.int .i64 (Lib.ctz 64 x)) ∧ w = w' := by
  obtain ⟨h1, h2, h3, h4⟩ := low_at x hx0 hx
  have hc := hT (lowAt x) h1
  rw [h3] at hc
  exact tz64_told w x _ _ h1 hc h2 (by simp; omega) h4

end Go.Proofs.YtaffceodcfgeeaaDoor
