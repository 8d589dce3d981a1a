/- Contracts of the small functions of package field and of the document's answers for it: what each call returns, in what world. No conditions but those each theorem names. -/
import Derived.Test.YteneadimchhhhaaDoorRows
import Derived.Test.YteneadimchhhhaaDoorMgBase
import Derived.Test.YteneadimchhhhaaDoorMgLyMath
import Derived.WalkKit
import Derived.WalkSpells
import Derived.WalkLawsBesides
import Derived.Deep.RegionHeld3
import Derived.RowKit3
import Derived.Lib.Hide
namespace Go.Proofs.YteneadimchhhhaaDoor
open Go.RowKit


set_option maxHeartbeats 400000 in
theorem greatest_any (a b : Int) (h1 : 1 ≤ b) (h2 : b ≤ 64) (w : World) :
    Calls Tryd.prog 63 #[.agg #[.int .i64 a, .int .i64 b]] w fun e w' => e = .returned (.int .u64 (FM.gr b)) ∧ w.alloc (.cells #[.int .i64 a, .int .i64 b] 131) = w' := by
  go_enter Tryd.func63, Tryd.ntmps63
  go_wp2
  go_ret
  exact ⟨ret_int (FM.gr_eq b h1 h2), rfl⟩

set_option maxHeartbeats 400000 in
theorem right_any (a b : Int) (w : World) :
    Calls Tryd.prog 73 #[.agg #[.int .i64 a, .int .i64 b]] w fun e w' => e = .returned (.bool (FM.right a b)) ∧ w.alloc (.cells #[.int .i64 a, .int .i64 b] 131) = w' := by
  go_enter Tryd.func73, Tryd.ntmps73
  go_wp2
  all_goals go_ret
  all_goals refine ⟨ret_bool ?_, rfl⟩
  all_goals (unfold FM.right; rw [Bool.eq_iff_iff]; simp [*]; try omega)

set_option maxHeartbeats 400000 in
theorem numberIn_any (x a b : Int) (hx : FM.Word x) (h3 : 0 ≤ a) (h4 : a ≤ 63) (h1 : 1 ≤ b) (h2 : b ≤ 64) (w : World) :
    Calls Tryd.prog 75 #[.int .u64 x, .agg #[.int .i64 a, .int .i64 b]] w fun e w' => e = .returned (.int .u64 (FM.num x a b)) ∧ Below w.heap.size w w' := by
  go_enter Tryd.func75, Tryd.ntmps75
  go_wp2
  go_region_held3 (fun w' => w'.cell? ⟨w.heap.size, 0, none⟩ = some (.int .i64 a) ∧ w'.cell? ⟨w.heap.size, 1, none⟩ = some (.int .i64 b)) (simp [go_sem, World.cell?_alloc_past])
    (first
      | (go_at_call 63; refine (greatest_any a b h1 h2 _).mono ?_; rintro e w' ⟨rfl, rfl⟩))
  go_wp2
  go_ret
  exact ⟨ret_int (FM.num_eq x a b hx h2), (((Below.refl _ _).alloc (Nat.le_refl _) _).alloc (by simp) _).drew⟩

set_option maxHeartbeats 400000 in
theorem bitsOf_any (a b : Int) (h : FM.right a b = true) (w : World) :
    Calls Tryd.prog 74 #[.agg #[.int .i64 a, .int .i64 b]] w fun e w' => e = .returned (.int .u64 (FM.bo a b)) ∧ Below w.heap.size w w' := by
  obtain ⟨h1, h2, h3, h4⟩ := (FM.right_iff a b).1 h
  have h5 : b ≤ 64 := by omega
  have H := Lib.hid h
  clear h
  go_enter Tryd.func74, Tryd.ntmps74
  go_wp2
  go_region_held3 (fun w' => w'.cell? ⟨w.heap.size, 0, none⟩ = some (.int .i64 a) ∧ w'.cell? ⟨w.heap.size, 1, none⟩ = some (.int .i64 b)) (simp [go_sem, World.cell?_alloc_past])
    (first
      | (go_at_call 63; refine (greatest_any a b h3 h5 _).mono ?_; rintro e w' ⟨rfl, rfl⟩))
  go_wp2
  go_ret
  exact ⟨ret_int (FM.shl_gr a b H.out), (((Below.refl _ _).alloc (Nat.le_refl _) _).alloc (by simp) _).drew⟩

end Go.Proofs.YteneadimchhhhaaDoor
