/- Contracts of table's functions for no table. -/
import Derived.Test.YtldlolgdglmocaaDoorTbAlive
import Derived.Test.YtldlolgdglmocaaDoorTbRet
namespace Go.Proofs.YtldlolgdglmocaaDoor
open Go.RowKit

set_option maxHeartbeats 1000000 in
theorem at_nil (i : Int) (w : World) : Calls Tryd.prog 13 #[.pointer none, .int .i64 i] w fun e w' => e = .returned (.tuple #[.agg #[.int .i64 0, .int .i64 0], .bool false]) ∧ Below w.heap.size w w' := by
  go_enter Tryd.func13, Tryd.ntmps13
  go_wp2
  refine bodyPost_ret (v := .tuple #[.agg #[.int .i64 0, .int .i64 0], .bool false]) (by simp [results, Tryd.results13, go_sem]) rfl ⟨rfl, ?_⟩
  exact (Below.refl _ _).alloc (Nat.le_refl _) _
set_option maxHeartbeats 1000000 in
theorem fresh_nil (i g : Int) (w : World) : Calls Tryd.prog 34 #[.pointer none, .agg #[.int .i64 i, .int .i64 g]] w fun e w' => e = .returned (.int .i64 1) ∧ Below w.heap.size w w' := by
  go_enter Tryd.func34, Tryd.ntmps34
  go_wp2
  go_ret
  exact ⟨rfl, (Below.refl _ _).alloc (Nat.le_refl _) _⟩
set_option maxHeartbeats 1000000 in
theorem set_nil' (i g ea er : Int) (eh ep : Bool) (w : World) : Calls Tryd.prog 18 #[.pointer none, .agg #[.int .i64 i, .int .i64 g], .agg #[.int .i64 ea, .int .i64 er, .bool eh, .bool ep]] w fun e w' => e = .returned (.int .i64 1) ∧ Below w.heap.size w w' := by
  have hb0 := ((Below.refl w.heap.size w).alloc (Nat.le_refl _) (.cells #[.int .i64 i, .int .i64 g] 33)).alloc (by simp) (.cells #[.int .i64 ea, .int .i64 er, .bool eh, .bool ep] 35)
  have HB := Lib.hid hb0
  clear hb0
  go_enter Tryd.func18, Tryd.ntmps18
  go_wp2_with fail
  refine (fresh_nil _ _ _).mono ?_
  rintro e w2 ⟨rfl, hb2⟩
  have HB2 := Lib.hid (HB.out.trans (hb2.mono (by simp; omega)))
  clear hb2
  go_wp2
  go_ret
  exact ⟨rfl, HB2.out⟩
set_option maxHeartbeats 1000000 in
theorem drop_nil (i g : Int) (w : World) : Calls Tryd.prog 19 #[.pointer none, .agg #[.int .i64 i, .int .i64 g]] w fun e w' => e = .returned (.int .i64 1) ∧ Below w.heap.size w w' := by
  have hb0 := (Below.refl w.heap.size w).alloc (Nat.le_refl _) (.cells #[.int .i64 i, .int .i64 g] 33)
  have HB := Lib.hid hb0
  clear hb0
  go_enter Tryd.func19, Tryd.ntmps19
  go_wp2_with fail
  refine (fresh_nil _ _ _).mono ?_
  rintro e w2 ⟨rfl, hb2⟩
  have HB2 := Lib.hid (HB.out.trans (hb2.mono (by simp)))
  clear hb2
  go_wp2
  go_ret
  exact ⟨rfl, HB2.out⟩
set_option maxHeartbeats 1000000 in
theorem add_nil (ea er : Int) (eh ep : Bool) (w : World) : Calls Tryd.prog 15 #[.pointer none, .agg #[.int .i64 ea, .int .i64 er, .bool eh, .bool ep]] w fun e w' => e = .returned (.tuple #[.agg #[.int .i64 0, .int .i64 0], .int .i64 1]) ∧ Below w.heap.size w w' := by
  go_enter Tryd.func15, Tryd.ntmps15
  go_wp2
  refine bodyPost_ret (v := .tuple #[.agg #[.int .i64 0, .int .i64 0], .int .i64 1]) (by simp [results, Tryd.results15, go_sem]) rfl ⟨rfl, ?_⟩
  exact ((Below.refl _ _).alloc (Nat.le_refl _) _).alloc (by simp) _
set_option maxHeartbeats 1000000 in
theorem get_nil (i g : Int) (w : World) : Calls Tryd.prog 16 #[.pointer none, .agg #[.int .i64 i, .int .i64 g]] w fun e w' => e = .returned (.tuple #[.agg #[.int .i64 0, .int .i64 0, .bool false, .bool false], .int .i64 1]) ∧ Below w.heap.size w w' := by
  have hb0 := ((Below.refl w.heap.size w).alloc (Nat.le_refl _) (.cells #[.int .i64 i, .int .i64 g] 33)).alloc (by simp) (.cells #[.int .i64 0, .int .i64 0, .bool false, .bool false] 35)
  have HB := Lib.hid hb0
  have W1 := Whole.fresh (w.alloc (.cells #[.int .i64 i, .int .i64 g] 33)) 35 #[.int .i64 0, .int .i64 0, .bool false, .bool false]
  rw [World.size_alloc] at W1
  have HW1 := Lib.hid W1
  clear W1 hb0
  go_enter Tryd.func16, Tryd.ntmps16
  go_wp2_with fail
  refine (fresh_nil _ _ _).mono ?_
  rintro e w2 ⟨rfl, hb2⟩
  have R2 := HW1.out.below hb2 (by simp)
  obtain ⟨c0, c1, c2, c3⟩ := R2.four
  have f0 := R2.free 0
  have f1 := R2.free 1
  have f2 := R2.free 2
  have f3 := R2.free 3
  have HB2 := Lib.hid hb2
  clear hb2 R2
  go_wp2
  refine bodyPost_ret (v := .tuple #[.agg #[.int .i64 0, .int .i64 0, .bool false, .bool false], .int .i64 1]) (by simp [results, Tryd.results16, go_sem, c0, c1, c2, c3]) rfl ⟨rfl, ?_⟩
  exact Below.set2 (Below.set2 (HB.out.trans (HB2.out.mono (by simp; omega))) (by omega) _ _ _ _) (by omega) _ _ _ _
end Go.Proofs.YtldlolgdglmocaaDoor
