/- Contracts of the small functions of package header: the fields, within, headerMayBe, tokenMayBe. -/
import Derived.Test.YteneadimchhhhaaDoorUnpack
import Derived.Test.YteneadimchhhhaaDoorMgLyMath
import Derived.Deep.DeepCutAuto
namespace Go.Proofs.YteneadimchhhhaaDoor
open Go.RowKit

/-- The fields of a header's word, and of a token's. -/
def hfs : List (Int × Int) := [(0, 16), (16, 16), (32, 8), (40, 16), (56, 8)]
def tfs : List (Int × Int) := [(0, 32), (32, 32)]
theorem hfs_apart : FM.apart hfs = true := by decide
theorem tfs_apart : FM.apart tfs = true := by decide

set_option maxHeartbeats 400000 in
theorem headerFields_any (w : World) : Calls Tryd.prog 45 #[] w fun e w' => e = .returned (.slice (some ⟨w.heap.size, 0, none⟩) 5 5) ∧ w.alloc (.cells #[.int .i64 0, .int .i64 16, .int .i64 16, .int .i64 16, .int .i64 32, .int .i64 8, .int .i64 40, .int .i64 16, .int .i64 56, .int .i64 8] 131) = w' := by
  go_enter Tryd.func45, Tryd.ntmps45
  go_wp2
  go_ret
  exact ⟨rfl, rfl⟩

set_option maxHeartbeats 400000 in
theorem tokenFields_any (w : World) : Calls Tryd.prog 67 #[] w fun e w' => e = .returned (.slice (some ⟨w.heap.size, 0, none⟩) 2 2) ∧ w.alloc (.cells #[.int .i64 0, .int .i64 32, .int .i64 32, .int .i64 32] 131) = w' := by
  go_enter Tryd.func67, Tryd.ntmps67
  go_wp2
  go_ret
  exact ⟨rfl, rfl⟩

theorem hfs_fs {W : World} {a : Nat} (h : Whole W a 131 #[.int .i64 0, .int .i64 16, .int .i64 16, .int .i64 16, .int .i64 32, .int .i64 8, .int .i64 40, .int .i64 16, .int .i64 56, .int .i64 8]) : FS W W.heap.size (some ⟨a, 0, none⟩) 5 hfs := by
  refine ⟨rfl, fun _ => ⟨a, 0, rfl, h.lt, fun i f hi => ?_⟩⟩
  rw [Nat.zero_add, h.cell, h.cell]
  match i, hi with
  | 0, hi => simp [hfs] at hi; subst hi; exact ⟨rfl, rfl⟩
  | 1, hi => simp [hfs] at hi; subst hi; exact ⟨rfl, rfl⟩
  | 2, hi => simp [hfs] at hi; subst hi; exact ⟨rfl, rfl⟩
  | 3, hi => simp [hfs] at hi; subst hi; exact ⟨rfl, rfl⟩
  | 4, hi => simp [hfs] at hi; subst hi; exact ⟨rfl, rfl⟩
theorem tfs_fs {W : World} {a : Nat} (h : Whole W a 131 #[.int .i64 0, .int .i64 32, .int .i64 32, .int .i64 32]) : FS W W.heap.size (some ⟨a, 0, none⟩) 2 tfs := by
  refine ⟨rfl, fun _ => ⟨a, 0, rfl, h.lt, fun i f hi => ?_⟩⟩
  rw [Nat.zero_add, h.cell, h.cell]
  match i, hi with
  | 0, hi => simp [tfs] at hi; subst hi; exact ⟨rfl, rfl⟩
  | 1, hi => simp [tfs] at hi; subst hi; exact ⟨rfl, rfl⟩

set_option maxHeartbeats 400000 in
theorem hwithin_any (n a b : Int) (w : World) : Calls Tryd.prog 76 #[.int .i64 n, .int .i64 a, .int .i64 b] w fun e w' => e = .returned (.bool (decide (a ≤ n ∧ n ≤ b))) ∧ w = w' := by
  go_enter Tryd.func76, Tryd.ntmps76
  go_wp2
  all_goals go_ret
  all_goals refine ⟨ret_bool ?_, rfl⟩
  all_goals (rw [Bool.eq_iff_iff]; simp [*]; try omega)

set_option maxHeartbeats 1000000 in
theorem headerMayBe_any (L C S : Int) (w : World) : Calls Tryd.prog 65 #[.agg #[.int .i64 L, .int .i64 C, .int .i64 S]] w fun e w' => e = .returned (.bool (HM.may L C S)) ∧ Below w.heap.size w w' := by
  go_enter Tryd.func65, Tryd.ntmps65
  go_wp2_with (first
    | (go_at_call 76; refine (hwithin_any _ _ _ _).mono ?_; rintro e w' ⟨rfl, rfl⟩))
  all_goals go_ret
  all_goals refine ⟨ret_bool ?_, (Below.refl _ _).alloc (Nat.le_refl _) _⟩
  all_goals (unfold HM.may; rw [Bool.eq_iff_iff]; simp [*]; try omega)

set_option maxHeartbeats 1000000 in
theorem tokenMayBe_any (I G : Int) (w : World) : Calls Tryd.prog 68 #[.agg #[.int .i64 I, .int .i64 G]] w fun e w' => e = .returned (.bool (decide (0 ≤ I ∧ I ≤ 4095 ∧ 1 ≤ G ∧ G ≤ 255))) ∧ Below w.heap.size w w' := by
  go_enter Tryd.func68, Tryd.ntmps68
  go_wp2_with (first
    | (go_at_call 76; refine (hwithin_any _ _ _ _).mono ?_; rintro e w' ⟨rfl, rfl⟩))
  all_goals go_ret
  all_goals refine ⟨ret_bool ?_, (Below.refl _ _).alloc (Nat.le_refl _) _⟩
  all_goals (rw [Bool.eq_iff_iff]; simp [*]; try omega)
end Go.Proofs.YteneadimchhhhaaDoor
