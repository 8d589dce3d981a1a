/- Contracts of the small functions of package field and of the document's answers for it: what each call returns, in what world. No conditions but those each theorem names. -/
import Derived.Test.YtbiacpickfdeaaaRows
import Derived.Test.YtbiacpickfdeaaaMath
import Derived.WalkKit
import Derived.WalkSpells
import Derived.WalkLawsBesides
import Derived.Deep.RegionHeld3
import Derived.RowKit3
import Derived.Lib.Hide
namespace Go.Proofs.Ytbiacpickfdeaaa
open Go.RowKit

theorem ret_int {k : IntKind} {a b : Int} (h : a = b) : Ending.returned (.int k a) = .returned (.int k b) := by rw [h]
theorem ret_bool {a b : Bool} (h : a = b) : Ending.returned (.bool a) = .returned (.bool b) := by rw [h]

set_option maxHeartbeats 400000 in
theorem greatest_any (a b : Int) (h1 : 1 ≤ b) (h2 : b ≤ 64) (w : World) :
    Calls Try.prog 26 #[.agg #[.int .i64 a, .int .i64 b]] w fun e w' => e = .returned (.int .u64 (FM.gr b)) ∧ w.alloc (.cells #[.int .i64 a, .int .i64 b] 24) = w' := by
  go_enter Try.func26, Try.ntmps26
  go_wp2
  go_ret
  exact ⟨ret_int (FM.gr_eq b h1 h2), rfl⟩

set_option maxHeartbeats 400000 in
theorem bit_any (x i : Int) (hx : FM.Word x) (h1 : 0 ≤ i) (h2 : i ≤ 63) (w : World) :
    Calls Try.prog 25 #[.int .u64 x, .int .i64 i] w fun e w' => e = .returned (.int .u64 (FM.bit x i)) ∧ w = w' := by
  have hn := FM.wrap_pow_ne i h2
  go_enter Try.func25, Try.ntmps25
  go_wp2
  go_ret
  exact ⟨ret_int (FM.bit_val x i hx h2), rfl⟩

set_option maxHeartbeats 400000 in
theorem refRight_any (a b : Int) (w : World) :
    Calls Try.prog 12 #[.int .i64 a, .int .i64 b] w fun e w' => e = .returned (.bool (FM.right a b)) ∧ w = w' := by
  go_enter Try.func12, Try.ntmps12
  go_wp2
  all_goals go_ret
  all_goals refine ⟨ret_bool ?_, rfl⟩
  all_goals (unfold FM.right; rw [Bool.eq_iff_iff]; simp [*]; try omega)

set_option maxHeartbeats 400000 in
theorem right_any (a b : Int) (w : World) :
    Calls Try.prog 14 #[.agg #[.int .i64 a, .int .i64 b]] w fun e w' => e = .returned (.bool (FM.right a b)) ∧ w.alloc (.cells #[.int .i64 a, .int .i64 b] 24) = w' := by
  go_enter Try.func14, Try.ntmps14
  go_wp2
  all_goals go_ret
  all_goals refine ⟨ret_bool ?_, rfl⟩
  all_goals (unfold FM.right; rw [Bool.eq_iff_iff]; simp [*]; try omega)

set_option maxHeartbeats 400000 in
theorem numberIn_any (x a b : Int) (hx : FM.Word x) (h3 : 0 ≤ a) (h4 : a ≤ 63) (h1 : 1 ≤ b) (h2 : b ≤ 64) (w : World) :
    Calls Try.prog 23 #[.int .u64 x, .agg #[.int .i64 a, .int .i64 b]] w fun e w' => e = .returned (.int .u64 (FM.num x a b)) ∧ Below w.heap.size w w' := by
  go_enter Try.func23, Try.ntmps23
  go_wp2
  go_region_held3 (fun w' => w'.cell? ⟨w.heap.size, 0, none⟩ = some (.int .i64 a) ∧ w'.cell? ⟨w.heap.size, 1, none⟩ = some (.int .i64 b)) (simp [go_sem, World.cell?_alloc_past])
    (first
      | (go_at_call 26; refine (greatest_any a b h1 h2 _).mono ?_; rintro e w' ⟨rfl, rfl⟩))
  go_wp2
  go_ret
  exact ⟨ret_int (FM.num_eq x a b hx h2), (((Below.refl _ _).alloc (Nat.le_refl _) _).alloc (by simp) _).drew⟩

set_option maxHeartbeats 400000 in
theorem bitsOf_any (a b : Int) (h : FM.right a b = true) (w : World) :
    Calls Try.prog 24 #[.agg #[.int .i64 a, .int .i64 b]] w fun e w' => e = .returned (.int .u64 (FM.bo a b)) ∧ Below w.heap.size w w' := by
  obtain ⟨h1, h2, h3, h4⟩ := (FM.right_iff a b).1 h
  have h5 : b ≤ 64 := by omega
  have H := Lib.hid h
  clear h
  go_enter Try.func24, Try.ntmps24
  go_wp2
  go_region_held3 (fun w' => w'.cell? ⟨w.heap.size, 0, none⟩ = some (.int .i64 a) ∧ w'.cell? ⟨w.heap.size, 1, none⟩ = some (.int .i64 b)) (simp [go_sem, World.cell?_alloc_past])
    (first
      | (go_at_call 26; refine (greatest_any a b h3 h5 _).mono ?_; rintro e w' ⟨rfl, rfl⟩))
  go_wp2
  go_ret
  exact ⟨ret_int (FM.shl_gr a b H.out), (((Below.refl _ _).alloc (Nat.le_refl _) _).alloc (by simp) _).drew⟩

set_option maxHeartbeats 400000 in
theorem get_ok (x a b : Int) (hx : FM.Word x) (h : FM.right a b = true) (w : World) :
    Calls Try.prog 11 #[.int .u64 x, .agg #[.int .i64 a, .int .i64 b]] w fun e w' => e = .returned (.tuple #[.int .u64 (FM.num x a b), .int .i64 0]) ∧ Below w.heap.size w w' := by
  obtain ⟨h1, h2, h3, h4⟩ := (FM.right_iff a b).1 h
  have h5 : b ≤ 64 := by omega
  go_enter Try.func11, Try.ntmps11
  go_wp2_with (first
    | (go_at_call 14; refine (right_any a b _).mono ?_; rintro e w' ⟨rfl, rfl⟩)
    | (go_at_call 23; refine (numberIn_any x a b hx h1 h2 h3 h5 _).mono ?_; rintro e w' ⟨rfl, hb⟩))
  go_ret2
  exact ⟨rfl, (((Below.refl _ _).alloc (Nat.le_refl _) _).alloc (by simp) _).trans (hb.mono (by simp; omega))⟩

set_option maxHeartbeats 400000 in
theorem get_no (x a b : Int) (h : FM.right a b = false) (w : World) :
    Calls Try.prog 11 #[.int .u64 x, .agg #[.int .i64 a, .int .i64 b]] w fun e w' => e = .returned (.tuple #[.int .u64 0, .int .i64 2]) ∧ Below w.heap.size w w' := by
  go_enter Try.func11, Try.ntmps11
  go_wp2_with (first
    | (go_at_call 14; refine (right_any a b _).mono ?_; rintro e w' ⟨rfl, rfl⟩))
  go_ret2
  exact ⟨rfl, (((Below.refl _ _).alloc (Nat.le_refl _) _).alloc (by simp) _)⟩
end Go.Proofs.Ytbiacpickfdeaaa
