/- Calls of no images: each answers ErrNil. -/
import Derived.Test.YteneadimchhhhaaDoorImAlive
namespace Go.Proofs.YteneadimchhhhaaDoor
open Go.RowKit

set_option maxHeartbeats 1000000 in
theorem objectAt_nil (a : Int) (w : World) : Calls Tryd.prog 27 #[.pointer none, .int .i64 a] w (ObjIs [] 0 0 0 0 1 w) := by
  obtain ⟨w1, hw1⟩ : ∃ w1, w1 = w.alloc (.cells #[.int .i64 0, .int .i64 0, .int .i64 0, .int .i64 0, .slice none 0 0, .int .i64 0, .slice none 0 0, .int .i64 0] 79) := ⟨_, rfl⟩
  have hb1 : Below w.heap.size w w1 := by rw [hw1]; exact (Below.refl _ _).alloc (Nat.le_refl _) _
  have Y : Whole w1 w.heap.size 79 #[.int .i64 0, .int .i64 0, .int .i64 0, .int .i64 0, .slice none 0 0, .int .i64 0, .slice none 0 0, .int .i64 0] := by rw [hw1]; exact Whole.fresh _ _ _
  have y0 : w1.cell? ⟨w.heap.size, 0, none⟩ = some (.int .i64 0) := Y.cell 0
  have y1 : w1.cell? ⟨w.heap.size, 1, none⟩ = some (.int .i64 0) := Y.cell 1
  have y2 : w1.cell? ⟨w.heap.size, 2, none⟩ = some (.int .i64 0) := Y.cell 2
  have y3 : w1.cell? ⟨w.heap.size, 3, none⟩ = some (.int .i64 0) := Y.cell 3
  have y4 : w1.cell? ⟨w.heap.size, 4, none⟩ = some (.slice none 0 0) := Y.cell 4
  have y5 : w1.cell? ⟨w.heap.size, 5, none⟩ = some (.int .i64 0) := Y.cell 5
  have y6 : w1.cell? ⟨w.heap.size, 6, none⟩ = some (.slice none 0 0) := Y.cell 6
  have y7 : w1.cell? ⟨w.heap.size, 7, none⟩ = some (.int .i64 0) := Y.cell 7
  have f0 := Y.free 0
  have f1 := Y.free 1
  have f2 := Y.free 2
  have f3 := Y.free 3
  have f4 := Y.free 4
  have f5 := Y.free 5
  have f6 := Y.free 6
  have f7 := Y.free 7
  have HB := Lib.hid hb1
  clear Y hb1
  go_enter Tryd.func27, Tryd.ntmps27
  go_upto_region 2 with fail
  rw [← hw1]
  clear hw1
  go_wp2_with fail
  refine bodyPost_ret (v := .tuple #[.agg #[.int .i64 0, .int .i64 0, .int .i64 0, .int .i64 0, .slice none 0 0, .int .i64 0, .slice none 0 0, .int .i64 0], .int .i64 1]) (by simp [results, Tryd.results27, go_sem, y0, y1, y2, y3, y4, y5, y6, y7]) rfl ?_
  exact ⟨zLV, rfl, fun e => absurd e (by decide), set8_below HB.out (Nat.le_refl _)⟩
set_option maxHeartbeats 1000000 in
theorem addressOf_nil (a p : Int) (r : Bool) (w : World) : Calls Tryd.prog 51 #[.pointer none, .int .i64 a, .int .i64 p, .bool r] w fun e w' => e = .returned (.tuple #[.int .i64 0, .int .i64 1]) ∧ Below w.heap.size w w' := by
  go_enter Tryd.func51, Tryd.ntmps51
  go_wp2_with fail
  refine (objectAt_nil a _).mono ?_
  rintro e w2 ⟨k, rfl, -, hb2⟩
  go_wp2_with fail
  go_ret2
  exact ⟨rfl, hb2.alloc hb2.size _⟩
theorem imake_nil (a : Int) (h : Value) (L C S : Int) (hh : h = .agg #[.int .i64 L, .int .i64 C, .int .i64 S]) (w : World) : Calls Tryd.prog 7 #[.pointer none, .int .i64 a, h] w fun e w' => e = .returned (.tuple #[.int .i64 0, .int .i64 1]) ∧ Below w.heap.size w w' := by
  subst hh
  go_enter Tryd.func7, Tryd.ntmps7
  go_wp2_with fail
  go_ret2
  exact ⟨rfl, (Below.refl _ _).alloc (Nat.le_refl _) _⟩
set_option maxHeartbeats 1000000 in
theorem iat_nil (a : Int) (w : World) : Calls Tryd.prog 8 #[.pointer none, .int .i64 a] w fun e w' => e = .returned (.tuple #[.agg #[.int .i64 0, .int .i64 0, .int .i64 0], .int .i64 0, .int .i64 1]) ∧ Below w.heap.size w w' := by
  obtain ⟨w1, hw1⟩ : ∃ w1, w1 = w.alloc (.cells #[.int .i64 0, .int .i64 0, .int .i64 0] 28) := ⟨_, rfl⟩
  have hb1 : Below w.heap.size w w1 := by rw [hw1]; exact (Below.refl _ _).alloc (Nat.le_refl _) _
  have Y1 : Whole w1 w.heap.size 28 #[.int .i64 0, .int .i64 0, .int .i64 0] := by rw [hw1]; exact Whole.fresh _ _ _
  have CO := objectAt_nil a w1
  rw [hw1] at CO
  have HO := Lib.hid CO
  have HB1 := Lib.hid hb1
  have HY := Lib.hid Y1
  have HW := Lib.hid hw1
  clear CO hb1 Y1 hw1
  go_enter Tryd.func8, Tryd.ntmps8
  go_wp2_with fail
  refine HO.out.mono ?_
  rw [← HW.out]
  rintro e w2 ⟨k, rfl, -, hb2⟩
  go_upto_region 2 with fail
  obtain ⟨w3, hw3⟩ : ∃ w3, w3 = w2.alloc (.cells #[.int .i64 0, .int .i64 0, .int .i64 0, .int .i64 k.F, .slice k.A k.n k.c, .int .i64 k.R, .slice k.D k.m k.d, .int .i64 0] 79) := ⟨_, rfl⟩
  have hb3 : Below w1.heap.size w1 w3 := by rw [hw3]; exact hb2.alloc hb2.size _
  have hb4 := HB1.out.trans (hb3.mono HB1.out.size)
  have O : Whole w3 w2.heap.size 79 #[.int .i64 0, .int .i64 0, .int .i64 0, .int .i64 k.F, .slice k.A k.n k.c, .int .i64 k.R, .slice k.D k.m k.d, .int .i64 0] := by rw [hw3]; exact Whole.fresh _ _ _
  have hlt := HY.out.lt
  have hle : w.heap.size < w2.heap.size := by have := hb2.size; omega
  rw [← hw3]
  obtain ⟨y0, y1, y2⟩ := (HY.out.below hb3 hlt).cells3
  have f0 := (HY.out.below hb3 hlt).free 0
  have f1 := (HY.out.below hb3 hlt).free 1
  have f2 := (HY.out.below hb3 hlt).free 2
  have o0 : w3.cell? ⟨w2.heap.size, 0, none⟩ = some (.int .i64 0) := O.cell 0
  have o1 : w3.cell? ⟨w2.heap.size, 1, none⟩ = some (.int .i64 0) := O.cell 1
  have o2 : w3.cell? ⟨w2.heap.size, 2, none⟩ = some (.int .i64 0) := O.cell 2
  have o7 : w3.cell? ⟨w2.heap.size, 7, none⟩ = some (.int .i64 0) := O.cell 7
  have HB4 := Lib.hid hb4
  clear hb2 hb3 hb4 O hw3
  go_region
  all_goals
    go_wp2_with fail
    refine bodyPost_ret (v := .tuple #[.agg #[.int .i64 0, .int .i64 0, .int .i64 0], .int .i64 0, .int .i64 1]) (by simp [results, Tryd.results8, go_sem, y0, y1, y2]) rfl ⟨rfl, ?_⟩
    exact ((HB4.out.drew.setCell (p := ⟨w.heap.size, 0, none⟩) (Nat.le_refl _) _).setCell (p := ⟨w.heap.size, 1, none⟩) (Nat.le_refl _) _).setCell (p := ⟨w.heap.size, 2, none⟩) (Nat.le_refl _) _
theorem imove_nil (t f : Int) (w : World) : Calls Tryd.prog 9 #[.pointer none, .int .i64 t, .int .i64 f] w fun e w' => e = .returned (.tuple #[.int .i64 0, .int .i64 1]) ∧ Below w.heap.size w w' := by
  go_enter Tryd.func9, Tryd.ntmps9
  go_wp2_with fail
  refine (objectAt_nil f _).mono ?_
  rintro e w2 ⟨k, rfl, -, hb2⟩
  go_wp2_with fail
  go_ret2
  exact ⟨rfl, hb2.alloc hb2.size _⟩
theorem iload_nil (a p : Int) (w : World) : Calls Tryd.prog 10 #[.pointer none, .int .i64 a, .int .i64 p] w fun e w' => e = .returned (.tuple #[.int .u64 0, .int .i64 1]) ∧ w = w' := by
  go_enter Tryd.func10, Tryd.ntmps10
  go_wp2_with fail
  go_ret2
  exact ⟨rfl, rfl⟩
theorem isave_nil (a p x : Int) (w : World) : Calls Tryd.prog 16 #[.pointer none, .int .i64 a, .int .i64 p, .int .u64 x] w fun e w' => e = .returned (.int .i64 1) ∧ w = w' := by
  go_enter Tryd.func16, Tryd.ntmps16
  go_wp2_with fail
  go_ret
  exact ⟨rfl, rfl⟩
set_option maxHeartbeats 1000000 in
theorem readAtL_nil (a p : Int) (f : Value) (w : World) : Calls Tryd.prog 29 #[.pointer none, .int .i64 a, .int .i64 p, .bool true, f] w (LinkIs 0 0 0 1 w) := by
  obtain ⟨w1, hw1⟩ : ∃ w1, w1 = w.alloc (.cells #[.int .i64 0, .int .i64 0, .int .i64 0] 38) := ⟨_, rfl⟩
  have hb1 : Below w.heap.size w w1 := by rw [hw1]; exact (Below.refl _ _).alloc (Nat.le_refl _) _
  have Y1 : Whole w1 w.heap.size 38 #[.int .i64 0, .int .i64 0, .int .i64 0] := by rw [hw1]; exact Whole.fresh _ _ _
  have HB1 := Lib.hid hb1
  have HY := Lib.hid Y1
  clear hb1 Y1
  go_enter Tryd.func29, Tryd.ntmps29
  go_upto_region 1 with fail
  rw [← hw1]
  clear hw1
  go_wp2_with fail
  refine (addressOf_nil a p true w1).mono ?_
  rintro e w2 ⟨rfl, hb⟩
  have hb3 := hb.alloc hb.size (.cells #[.int .i64 0, .int .i64 0, .int .i64 0] 38)
  have Y := HY.out.below hb3 HY.out.lt
  have HB2 := Lib.hid (HB1.out.trans (hb3.mono HB1.out.size))
  go_upto_region 4 with fail
  obtain ⟨w3, hw3⟩ : ∃ w3, w3 = w2.alloc (.cells #[.int .i64 0, .int .i64 0, .int .i64 0] 38) := ⟨_, rfl⟩
  obtain ⟨z0, z1, z2⟩ := (Whole.fresh w2 38 #[.int .i64 0, .int .i64 0, .int .i64 0]).cells3
  rw [← hw3] at Y HB2 z0 z1 z2 ⊢
  obtain ⟨y0, y1, y2⟩ := Y.cells3
  have f0 := Y.free 0
  have f1 := Y.free 1
  have f2 := Y.free 2
  clear hb hb3 Y hw3
  go_wp2_with fail
  refine bodyPost_ret (v := .tuple #[.agg #[.int .i64 0, .int .i64 0, .int .i64 0], .int .i64 1]) (by simp [results, Tryd.results29, go_sem, y0, y1, y2]) rfl ⟨rfl, ?_⟩
  exact ((HB2.out.setCell (p := ⟨w.heap.size, 0, none⟩) (Nat.le_refl _) _).setCell (p := ⟨w.heap.size, 1, none⟩) (Nat.le_refl _) _).setCell (p := ⟨w.heap.size, 2, none⟩) (Nat.le_refl _) _
set_option maxHeartbeats 1000000 in
theorem ifollow_nil (a p : Int) (w : World) : Calls Tryd.prog 11 #[.pointer none, .int .i64 a, .int .i64 p] w (LinkIs 0 0 0 1 w) := by
  obtain ⟨w1, hw1⟩ : ∃ w1, w1 = w.alloc (.cells #[.int .i64 0, .int .i64 0, .int .i64 0] 38) := ⟨_, rfl⟩
  have hb1 : Below w.heap.size w w1 := by rw [hw1]; exact (Below.refl _ _).alloc (Nat.le_refl _) _
  have Y1 : Whole w1 w.heap.size 38 #[.int .i64 0, .int .i64 0, .int .i64 0] := by rw [hw1]; exact Whole.fresh _ _ _
  have HB1 := Lib.hid hb1
  have HY := Lib.hid Y1
  clear hb1 Y1
  go_enter Tryd.func11, Tryd.ntmps11
  go_upto_region 1 with fail
  rw [← hw1]
  clear hw1
  go_wp2_with fail
  refine (readAtL_nil a p _ w1).mono ?_
  rintro e w3 ⟨rfl, hb3⟩
  have Y := HY.out.below hb3 HY.out.lt
  obtain ⟨y0, y1, y2⟩ := Y.cells3
  have f0 := Y.free 0
  have f1 := Y.free 1
  have f2 := Y.free 2
  have HB2 := Lib.hid (HB1.out.trans (hb3.mono HB1.out.size))
  clear hb3 Y
  go_wp2_with fail
  refine bodyPost_ret (v := .tuple #[.agg #[.int .i64 0, .int .i64 0, .int .i64 0], .int .i64 1]) (by simp [results, Tryd.results11, go_sem, y0, y1, y2]) rfl ⟨rfl, ?_⟩
  exact ((HB2.out.setCell (p := ⟨w.heap.size, 0, none⟩) (Nat.le_refl _) _).setCell (p := ⟨w.heap.size, 1, none⟩) (Nat.le_refl _) _).setCell (p := ⟨w.heap.size, 2, none⟩) (Nat.le_refl _) _
set_option maxHeartbeats 1000000 in
theorem writeAtL_nil (a p K J G : Int) (f : Value) (w : World) : Calls Tryd.prog 35 #[.pointer none, .int .i64 a, .int .i64 p, .bool true, f, .agg #[.int .i64 K, .int .i64 J, .int .i64 G]] w fun e w' => e = .returned (.int .i64 1) ∧ Below w.heap.size w w' := by
  go_enter Tryd.func35, Tryd.ntmps35
  go_wp2_with fail
  refine (addressOf_nil a p true _).mono ?_
  rintro e w2 ⟨rfl, hb⟩
  go_wp2_with fail
  go_ret
  exact ⟨rfl, bl_alloc hb⟩
set_option maxHeartbeats 1000000 in
theorem itie_nil (a p K J G : Int) (w : World) : Calls Tryd.prog 17 #[.pointer none, .int .i64 a, .int .i64 p, .agg #[.int .i64 K, .int .i64 J, .int .i64 G]] w fun e w' => e = .returned (.int .i64 1) ∧ Below w.heap.size w w' := by
  go_enter Tryd.func17, Tryd.ntmps17
  go_upto_region 1 with fail
  obtain ⟨w1, hw1⟩ : ∃ w1, w1 = w.alloc (.cells #[.int .i64 K, .int .i64 J, .int .i64 G] 38) := ⟨_, rfl⟩
  have hb1 : Below w.heap.size w w1 := by rw [hw1]; exact (Below.refl _ _).alloc (Nat.le_refl _) _
  obtain ⟨c0, c1, c2⟩ := (Whole.fresh w 38 #[.int .i64 K, .int .i64 J, .int .i64 G]).cells3
  rw [← hw1] at c0 c1 c2 ⊢
  clear hw1
  go_wp2_with fail
  refine (writeAtL_nil a p K J G _ w1).mono ?_
  rintro e w2 ⟨rfl, hb⟩
  have hb2 := hb1.trans (hb.mono hb1.size)
  go_wp2_with fail
  go_ret
  exact ⟨rfl, hb2⟩
theorem inew_none (b : Option Addr) (w : World) : Calls Tryd.prog 14 #[.pointer none, .pointer b] w fun e w' => e = .returned (.tuple #[.pointer none, .int .i64 1]) ∧ w = w' := by
  go_enter Tryd.func14, Tryd.ntmps14
  go_wp2
  go_ret2
  exact ⟨rfl, rfl⟩
theorem inew_none2 (s : Nat) (w : World) : Calls Tryd.prog 14 #[.pointer (some ⟨s, 0, none⟩), .pointer none] w fun e w' => e = .returned (.tuple #[.pointer none, .int .i64 1]) ∧ w = w' := by
  go_enter Tryd.func14, Tryd.ntmps14
  go_wp2
  go_ret2
  exact ⟨rfl, rfl⟩
end Go.Proofs.YteneadimchhhhaaDoor
