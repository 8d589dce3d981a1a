/- Contracts of math/bits.TrailingZeros64 (the table as it is laid) and OnesCount64. -/
import Derived.Test.YteencfldehcbbaaDoorBmLeaf
import Derived.Test.YteencfldehcbbaaDoorBmOnes
import Derived.Laws.Bits128
namespace Go.Proofs.YteencfldehcbbaaDoor
open Go.RowKit

/-- The table of math/bits, as it is laid. -/
def Tab (w : World) : Prop := ∀ j, j < 64 → w.cell? ⟨0, j, none⟩ = some (.int .u8 (Lib.deBruijn64tab.getD j 0))
theorem Tab.below {B : Nat} {w w' : World} (h : Tab w) (hb : Below B w w') (hB : 0 < B) : Tab w' := fun j hj => (hb.cell (p := ⟨0, j, none⟩) hB).trans (h j hj)

/-- Where the table tells the lowest bit of x. -/
def lowAt (x : Nat) : Nat := 2 ^ Lib.ctz 64 x * 285870213051353865 % 18446744073709551616 / 288230376151711744
theorem low_at (x : Nat) (h0 : x ≠ 0) (h : x < 18446744073709551616) : lowAt x < 64 ∧ Lib.ctz 64 x < 64 ∧ Lib.deBruijn64tab.getD (lowAt x) 0 = Lib.ctz 64 x ∧
    IntKind.u64.wrap (bits .and .u64 (x : Int) (IntKind.u64.wrap (-(x : Int))) * 285870213051353865) / 288230376151711744 = (lowAt x : Int) := by
  have hb := Lib.lowest_bit 64 x h0 h
  have ht := Lib.deBruijn64_at (Lib.ctz 64 x) hb.2
  refine ⟨ht.1, hb.2, ht.2, ?_⟩
  have hneg : IntKind.u64.wrap (-(x : Int)) = ((2 ^ 64 - x : Nat) : Int) := by
    rw [IntKind.wrap_u64, BM.pow64]
    omega
  rw [hneg, u64_and_nat x (2 ^ 64 - x) h (by rw [BM.pow64]; omega), hb.1, IntKind.wrap_u64]
  unfold lowAt
  generalize 2 ^ Lib.ctz 64 x = A
  omega
set_option maxHeartbeats 1000000 in
theorem tz64_told (w : World) (x z p : Nat) (hp : p < 64) (hc : w.cell? ⟨0, p, none⟩ = some (.int .u8 z)) (hz : z < 64) (hn : ((x : Int) == 0) = false)
    (he : IntKind.u64.wrap (bits .and .u64 (x : Int) (IntKind.u64.wrap (-(x : Int))) * 285870213051353865) / 288230376151711744 = (p : Int)) :
    Calls Tryd.prog 79 #[.int .u64 x] w fun e w' => e = .returned (.int .i64 z) ∧ w = w' := by
  go_enter Tryd.func79, Tryd.ntmps79
  go_wp2_with (simp only [he])
  go_ret
  exact ⟨rfl, rfl⟩
theorem tz64_any (x : Nat) (hx : x < 18446744073709551616) (hx0 : x ≠ 0) (w : World) (hT : Tab w) :
    Calls Tryd.prog 79 #[.int .u64 x] w fun e w' => e = .returned (.int .i64 (Lib.ctz 64 x)) ∧ w = w' := by
  obtain ⟨h1, h2, h3, h4⟩ := low_at x hx0 hx
  have hc := hT (lowAt x) h1
  rw [h3] at hc
  exact tz64_told w x _ _ h1 hc h2 (by simp; omega) h4

set_option maxHeartbeats 1000000 in
theorem ones_core (x a1 a0 y b1 b0 z c t u v r q : Nat) (w : World)
    (e1 : bits .and .u64 ((x : Int) / 2) 6148914691236517205 = (a1 : Int)) (e2 : bits .and .u64 (x : Int) 6148914691236517205 = (a0 : Int))
    (e3 : IntKind.u64.wrap ((a1 : Int) + (a0 : Int)) = (y : Int))
    (e4 : bits .and .u64 ((y : Int) / 4) 3689348814741910323 = (b1 : Int)) (e5 : bits .and .u64 (y : Int) 3689348814741910323 = (b0 : Int))
    (e6 : IntKind.u64.wrap ((b1 : Int) + (b0 : Int)) = (z : Int))
    (e7 : IntKind.u64.wrap ((z : Int) / 16 + (z : Int)) = (c : Int)) (e8 : bits .and .u64 (c : Int) 1085102592571150095 = (t : Int))
    (e9 : IntKind.u64.wrap ((t : Int) + (t : Int) / 256) = (u : Int)) (e10 : IntKind.u64.wrap ((u : Int) + (u : Int) / 65536) = (v : Int))
    (e11 : IntKind.u64.wrap ((v : Int) + (v : Int) / 4294967296) = (r : Int)) (e12 : bits .and .i64 (wrap64 (r : Int)) 127 = (q : Int)) :
    Calls Tryd.prog 62 #[.int .u64 x] w fun e w' => e = .returned (.int .i64 q) ∧ w = w' := by
  go_enter Tryd.func62, Tryd.ntmps62
  go_wp2
  go_ret
  exact ⟨rfl, rfl⟩
theorem ones_any (x : Nat) (hx : x < 18446744073709551616) (w : World) :
    Calls Tryd.prog 62 #[.int .u64 x] w fun e w' => e = .returned (.int .i64 (BM.cnt x.testBit 64 : Nat)) ∧ w = w' := by
  have t1 := BM.step1 8 x
  have t2 := BM.step2 8 x
  have t3 := BM.step3 8 x
  obtain ⟨g1, g2, g3⟩ := BM.sum_bytes x
  have g4 := BM.cnt_bytes 8 x
  rw [BM.rep85] at t1
  rw [BM.rep51] at t2
  rw [BM.rep15] at t3
  have u1 : x / 2 &&& 6148914691236517205 ≤ 6148914691236517205 := Nat.and_le_right
  have u2 : x &&& 6148914691236517205 ≤ 6148914691236517205 := Nat.and_le_right
  generalize hy : BM.bmap BM.s1 8 x = y at *
  have u3 : y / 4 &&& 3689348814741910323 ≤ 3689348814741910323 := Nat.and_le_right
  have u4 : y &&& 3689348814741910323 ≤ 3689348814741910323 := Nat.and_le_right
  generalize hz : BM.bmap BM.s2 8 x = z at *
  generalize ht : BM.bmap BM.s3 8 x = t at *
  simp only at g3
  rw [show (64 : Nat) = 8 * 8 from rfl, g4, ← g3]
  have a1 := u64_and_nat (x / 2) 6148914691236517205 (by omega) (by decide)
  have a0 := u64_and_nat x 6148914691236517205 (by omega) (by decide)
  have b1 := u64_and_nat (y / 4) 3689348814741910323 (by omega) (by decide)
  have b0 := u64_and_nat y 3689348814741910323 (by omega) (by decide)
  have c0 := u64_and_nat (z / 16 + z) 1085102592571150095 (by omega) (by decide)
  refine ones_core x (x / 2 &&& 6148914691236517205) (x &&& 6148914691236517205) y (y / 4 &&& 3689348814741910323) (y &&& 3689348814741910323) z (z / 16 + z) t (t + t / 256) (t + t / 256 + (t + t / 256) / 65536)
    (t + t / 256 + (t + t / 256) / 65536 + (t + t / 256 + (t + t / 256) / 65536) / 4294967296) _ w a1 a0 ?_ b1 b0 ?_ ?_ (by rw [← t3]; exact c0) ?_ ?_ ?_ ?_
  · rw [IntKind.wrap_u64]; omega
  · rw [IntKind.wrap_u64]; omega
  · rw [IntKind.wrap_u64]; omega
  · rw [IntKind.wrap_u64]; omega
  · rw [IntKind.wrap_u64]; omega
  · rw [IntKind.wrap_u64]; omega
  · generalize hr : t + t / 256 + (t + t / 256) / 65536 + (t + t / 256 + (t + t / 256) / 65536) / 4294967296 = r
    have hr2 : r < 9223372036854775808 := by omega
    rw [show wrap64 (r : Int) = (r : Int) by unfold wrap64; omega, i64_and127]
    omega
end Go.Proofs.YteencfldehcbbaaDoor
