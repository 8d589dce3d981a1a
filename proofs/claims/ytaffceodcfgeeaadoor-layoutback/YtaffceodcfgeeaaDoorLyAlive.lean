/- The contract of the law package's alive: the document's example holds. -/
import Derived.Test.YtaffceodcfgeeaaDoorLySame
namespace Go.Proofs.YtaffceodcfgeeaaDoor
open Go.RowKit

theorem i64s {x : Int} (h0 : -100000 ≤ x) (h1 : x ≤ 100000) : I64 x := ⟨by omega, by omega⟩
/-- The example's lists. -/
theorem ex_lists (w : World) : Lists (((w.alloc (.cells #[.int .i64 1] 3)).alloc (.cells #[.int .i64 0, .int .i64 2] 3)).alloc (.cells #[.int .i64 2, .slice (some ⟨w.heap.size, 0, none⟩) 1 1, .int .i64 3, .slice (some ⟨w.heap.size + 1, 0, none⟩) 2 2] 24)) w.heap.size (w.heap.size + 3) (some ⟨w.heap.size, 0, none⟩) 1 1 [1] (some ⟨w.heap.size + 1, 0, none⟩) 2 2 [0, 2] := by
  have h1 := ns_list (xs := [1]) (((Whole.fresh w 3 #[.int .i64 1]).alloc (.cells #[.int .i64 0, .int .i64 2] 3)).alloc (.cells #[.int .i64 2, .slice (some ⟨w.heap.size, 0, none⟩) 1 1, .int .i64 3, .slice (some ⟨w.heap.size + 1, 0, none⟩) 2 2] 24)) (by simp [wf_small])
  have h2 := ns_list (xs := [0, 2]) ((Whole.fresh' (w := w.alloc (.cells #[.int .i64 1] 3)) (b := w.heap.size + 1) (t := 3) (cs := #[.int .i64 0, .int .i64 2]) (by simp)).alloc (.cells #[.int .i64 2, .slice (some ⟨w.heap.size, 0, none⟩) 1 1, .int .i64 3, .slice (some ⟨w.heap.size + 1, 0, none⟩) 2 2] 24)) (by simp [wf_small])
  rw [World.size_alloc, World.size_alloc, World.size_alloc] at h1 h2
  exact ⟨⟨h1, fun a e => by cases e; exact Nat.le_refl _, fun e => by cases e⟩, ⟨h2, fun a e => by cases e; exact Nat.le_succ _, fun e => by cases e⟩⟩

set_option maxRecDepth 100000 in
set_option maxHeartbeats 2000000 in
theorem alive_any (w : World) : Calls Tryd.prog 6 #[] w fun e w' => e = .returned (.bool true) ∧ Below w.heap.size w w' := by
  obtain ⟨A, hA⟩ : ∃ A : Option Addr, A = some ⟨w.heap.size, 0, none⟩ := ⟨_, rfl⟩
  obtain ⟨D, hD⟩ : ∃ D : Option Addr, D = some ⟨w.heap.size + 1, 0, none⟩ := ⟨_, rfl⟩
  obtain ⟨W0, hW0⟩ : ∃ W0, W0 = (((w.alloc (.cells #[.int .i64 1] 3)).alloc (.cells #[.int .i64 0, .int .i64 2] 3)).alloc (.cells #[.int .i64 2, .slice A 1 1, .int .i64 3, .slice D 2 2] 24)) := ⟨_, rfl⟩
  have L0 : Lists W0 w.heap.size (w.heap.size + 3) A 1 1 [1] D 2 2 [0, 2] := by rw [hW0, hA, hD]; exact ex_lists w
  have hs0 : W0.heap.size = w.heap.size + 3 := by rw [hW0]; simp
  have B0 : Below w.heap.size w W0 := by rw [hW0]; exact (((Below.refl _ _).alloc (Nat.le_refl _) _).alloc (by simp) _).alloc (by simp; omega) _
  have X0 : Whole W0 (w.heap.size + 2) 24 #[.int .i64 2, .slice A 1 1, .int .i64 3, .slice D 2 2] := by rw [hW0]; exact Whole.fresh' (by simp)
  have C1 := lsize_any 2 3 A 1 1 [1] D 2 2 [0, 2] 2 (w.heap.size + 3) W0 (by omega) (by omega) (by omega) (i64s (by omega) (by omega)) (i64s (by omega) (by omega)) L0.fst.ns L0.snd.ns (i64s (by omega) (by omega))
  rw [show LM.size 2 3 [1] [0, 2] 2 = 8 by decide, show LM.code 2 3 [1] [0, 2] 2 = 0 by decide, hW0, hA, hD] at C1
  have HC1 := Lib.hid C1
  have HW0 := Lib.hid hW0
  have HA := Lib.hid hA
  have HD := Lib.hid hD
  have HL0 := Lib.hid L0
  have HX0 := Lib.hid X0
  have HS0 := Lib.hid hs0
  clear C1 hW0 hA hD L0 X0 hs0
  go_enter Tryd.func6, Tryd.ntmps6
  go_wp2_with fail
  refine HC1.out.mono ?_
  rw [← HA.out, ← HD.out, ← HW0.out]
  rintro e w1 ⟨rfl, hb1⟩
  rw [HS0.out] at hb1
  have X1 := HX0.out.below hb1 (by omega)
  have L1 := HL0.out.kept (Kept.of_below hb1 (Nat.le_refl _))
  have hs1 := hb1.size
  rw [HS0.out] at hs1
  have C2 := encode_ok 2 3 A 1 1 [1] D 2 2 [0, 2] (w.heap.size + 3) w1 (by omega) (by omega) (by omega) (i64s (by omega) (by omega)) (i64s (by omega) (by omega)) L1.fst.ns L1.snd.ns (by decide)
  rw [show orAll 0 [1] = 2 by decide, show orAll 0 [0, 2] = 5 by decide] at C2
  have HC2 := Lib.hid C2
  have c0 : w1.cell? ⟨w.heap.size + 2, 0, none⟩ = some (.int .i64 2) := X1.cell 0
  have c1 : w1.cell? ⟨w.heap.size + 2, 1, none⟩ = some (.slice A 1 1) := X1.cell 1
  have c2 : w1.cell? ⟨w.heap.size + 2, 2, none⟩ = some (.int .i64 3) := X1.cell 2
  have c3 : w1.cell? ⟨w.heap.size + 2, 3, none⟩ = some (.slice D 2 2) := X1.cell 3
  have HX1 := Lib.hid X1
  have HL1 := Lib.hid L1
  have HB1 := Lib.hid hb1
  clear C2 X1 L1 hb1 HC1
  go_wp2_with fail
  refine HC2.out.mono ?_
  rintro e w2 ⟨g, rfl, hg, hG, hb2⟩
  have hs2 := hb2.size
  have X2 := HX1.out.below hb2 (by omega)
  have L2 := HL1.out.kept (Kept.of_below hb2 (by omega))
  have C3 := slots_any 2 3 A 1 1 [1] D 2 2 [0, 2] 2 w.heap.size (w.heap.size + 3) w2 (by omega) (by omega) (by omega) (i64s (by omega) (by omega)) (i64s (by omega) (by omega)) L2 (i64s (by omega) (by omega))
  rw [show LM.told 2 3 [1] [0, 2] 2 = [1, 2, 4, 5, 7] by decide] at C3
  have HC3 := Lib.hid C3
  clear c0 c1 c2 c3
  have c0 : w2.cell? ⟨w.heap.size + 2, 0, none⟩ = some (.int .i64 2) := X2.cell 0
  have c1 : w2.cell? ⟨w.heap.size + 2, 1, none⟩ = some (.slice A 1 1) := X2.cell 1
  have c2 : w2.cell? ⟨w.heap.size + 2, 2, none⟩ = some (.int .i64 3) := X2.cell 2
  have c3 : w2.cell? ⟨w.heap.size + 2, 3, none⟩ = some (.slice D 2 2) := X2.cell 3
  have g0 : w2.cell? ⟨g, 0, none⟩ = some (.int .u64 770) := hG.cell 0
  have g1 : w2.cell? ⟨g, 1, none⟩ = some (.int .u64 2) := hG.cell 1
  have g2 : w2.cell? ⟨g, 2, none⟩ = some (.int .u64 5) := hG.cell 2
  have HB2 := Lib.hid hb2
  clear C3 X2 L2 hb2 HC2 hG
  go_wp2_with fail
  refine HC3.out.mono ?_
  rintro e w3 ⟨v, rfl, ho, hb3⟩
  obtain ⟨A3, c3', rfl, N3⟩ := ns_owns ho (by simp [wf_small])
  have hs3 := hb3.size
  have C4 := sameI_any A3 5 c3' (some ⟨w3.heap.size, 0, none⟩) 5 [1, 2, 4, 5, 7] w3.heap.size (w3.alloc (.cells #[.int .i64 1, .int .i64 2, .int .i64 4, .int .i64 5, .int .i64 7] 3)).heap.size (w3.alloc (.cells #[.int .i64 1, .int .i64 2, .int .i64 4, .int .i64 5, .int .i64 7] 3)) (by omega)
    (N3.alloc (Nat.le_refl _) _) (ns_list (xs := [1, 2, 4, 5, 7]) (Whole.fresh _ _ _) (by simp [wf_small]))
  have HC4 := Lib.hid C4
  have HB3 := Lib.hid hb3
  clear C4 ho N3 hb3 HC3
  go_wp2_with fail
  refine HC4.out.mono ?_
  rintro e w4 ⟨rfl, k, rfl⟩
  go_wp2
  go_ret
  refine ⟨rfl, below_drewN (Below.alloc ?_ (by have := B0.size; omega) _) k⟩
  exact ((B0.trans (HB1.out.mono (by omega))).trans (HB2.out.mono (by have := B0.size; omega))).trans (HB3.out.mono (by have := B0.size; omega))
end Go.Proofs.YtaffceodcfgeeaaDoor
