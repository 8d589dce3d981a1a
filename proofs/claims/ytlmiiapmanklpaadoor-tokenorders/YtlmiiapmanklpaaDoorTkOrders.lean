/- The walk of TokenOrders. -/
import Derived.Test.YtlmiiapmanklpaaDoorTkBox
namespace Go.Proofs.YtlmiiapmanklpaaDoor
open Go.RowKit Go.Sort

/-- The calls of TokenOrders, and three ways of parting them. -/
theorem orders_ways (a b c d p q : Int) : ∃ X Y Z : Int, (TM.cmp (a, b) (c, d) = X ∧ TM.cmp (c, d) (p, q) = Y ∧ TM.cmp (a, b) (p, q) = Z ∧ TM.cmp (c, d) (a, b) = -X) ∧
    ((X = 1 ∧ ((a == c) = false ∨ a = c ∧ (b == d) = false)) ∨ (X = 0 ∧ a = c ∧ b = d ∧ (0 < Y ∨ ¬ 0 < Y ∧ Z ≤ 0)) ∨ (X = -1 ∧ ((a == c) = false ∨ a = c ∧ (b == d) = false) ∧ (0 < Y ∨ ¬ 0 < Y ∧ Z ≤ 0 ∧ Z < 0))) := by
  refine ⟨_, _, _, ⟨rfl, rfl, rfl, TM.cmp_neg _ _⟩, ?_⟩
  have hz : TM.Lt (a, b) (c, d) ∨ (a, b) = (c, d) → ¬ 0 < TM.cmp (c, d) (p, q) → TM.cmp (a, b) (p, q) ≤ 0 := by
    intro h1 h2
    rcases TM.cmp_cases (c, d) (p, q) with ⟨e, h⟩ | ⟨e, h⟩ | ⟨e, h⟩
    · have : TM.Lt (a, b) (p, q) := by
        rcases h1 with h1 | h1
        · exact h1.trans h
        · rw [h1]; exact h
      have := TM.cmp_lt.2 this
      omega
    · rw [← h]
      rcases h1 with h1 | h1
      · have := TM.cmp_lt.2 h1; omega
      · rw [TM.cmp_zero.2 h1]; exact Int.le_refl _
    · omega
  have hz2 : TM.Lt (a, b) (c, d) → ¬ 0 < TM.cmp (c, d) (p, q) → TM.cmp (a, b) (p, q) < 0 := by
    intro h1 h2
    rcases TM.cmp_cases (c, d) (p, q) with ⟨e, h⟩ | ⟨e, h⟩ | ⟨e, h⟩
    · exact TM.cmp_lt.2 (h1.trans h)
    · rw [← h]; exact TM.cmp_lt.2 h1
    · omega
  have hne : (a, b) ≠ (c, d) → ((a == c) = false ∨ a = c ∧ (b == d) = false) := by
    intro h
    by_cases h3 : a = c
    · right
      subst h3
      exact ⟨rfl, by rw [beq_eq_false_iff_ne]; intro e; exact h (by rw [e])⟩
    · left
      rw [beq_eq_false_iff_ne]; exact h3
  rcases TM.cmp_cases (a, b) (c, d) with ⟨e, h⟩ | ⟨e, h⟩ | ⟨e, h⟩
  · right; right
    refine ⟨e, hne (fun k => by rw [k] at h; exact h.irrefl), ?_⟩
    by_cases hy : 0 < TM.cmp (c, d) (p, q)
    · exact Or.inl hy
    · exact Or.inr ⟨hy, hz (Or.inl h) hy, hz2 h hy⟩
  · right; left
    injection h with h1 h2
    refine ⟨e, h1, h2, ?_⟩
    by_cases hy : 0 < TM.cmp (c, d) (p, q)
    · exact Or.inl hy
    · exact Or.inr ⟨hy, hz (Or.inr (by rw [h1, h2])) hy⟩
  · left
    exact ⟨e, hne (fun k => by rw [k] at h; exact h.irrefl)⟩

set_option maxRecDepth 100000 in
set_option maxHeartbeats 4000000 in
theorem orders_walk (a b c d p q : Int) (w : World) (hT : Tk w) :
    Calls Tryd.prog 5 #[.agg #[.int .i64 a, .int .i64 b], .agg #[.int .i64 c, .int .i64 d], .agg #[.int .i64 p, .int .i64 q]] w fun e w' => e = .returned (.bool true) ∧ Below w.heap.size w w' := by
  obtain ⟨X, Y, Z, ⟨e1, e2, e3, e4⟩, hway⟩ := orders_ways a b c d p q
  have k1 := fun W => tcompare_any (a, b) (c, d) W
  have k2 := fun W => tcompare_any (c, d) (p, q) W
  have k3 := fun W => tcompare_any (a, b) (p, q) W
  have k4 := fun W => tcompare_below (c, d) (a, b) W
  have k5 := fun W => rcompare_any a b c d W
  rw [e1] at k1 k5
  rw [e2] at k2
  rw [e3] at k3
  rw [e4] at k4
  simp only at k1 k2 k3 k4
  clear e1 e2 e3 e4
  have HT := Lib.hid hT
  have HWay := Lib.hid hway
  clear hT hway
  go_enter Tryd.func5, Tryd.ntmps5
  go_wp2_with fail
  obtain ⟨w1, hw1⟩ : ∃ w1, w1 = ((w.alloc (.cells #[.int .i64 a, .int .i64 b] 23)).alloc (.cells #[.int .i64 c, .int .i64 d] 23)).alloc (.cells #[.int .i64 p, .int .i64 q] 23) := ⟨_, rfl⟩
  have V1 : TBox w w.heap.size a b w1 := by rw [hw1]; exact ((TBox.first w a b).alloc _).alloc _
  have V2 : TBox w (w.heap.size + 1) c d w1 := by rw [hw1]; exact TBox.alloc ⟨Whole.fresh' (by simp), ((TBox.first w a b).alloc _).bel⟩ _
  have V3 : TBox w (w.heap.size + 2) p q w1 := by rw [hw1]; exact ⟨Whole.fresh' (by simp), (((TBox.first w a b).alloc _).alloc _).bel⟩
  rw [← hw1]
  clear hw1
  obtain ⟨c0, c1⟩ := V1.cells
  obtain ⟨c2, c3⟩ := V2.cells
  obtain ⟨c4, c5⟩ := V3.cells
  have q0 : ∀ n os, (grow (w1.drewN n) os).cell? ⟨w.heap.size, 0, none⟩ = some (.int .i64 a) := fun n os => cell_grown V1.lt c0 n os
  have q1 : ∀ n os, (grow (w1.drewN n) os).cell? ⟨w.heap.size, 1, none⟩ = some (.int .i64 b) := fun n os => cell_grown V1.lt c1 n os
  have q2 : ∀ n os, (grow (w1.drewN n) os).cell? ⟨w.heap.size + 1, 0, none⟩ = some (.int .i64 c) := fun n os => cell_grown V2.lt c2 n os
  have q3 : ∀ n os, (grow (w1.drewN n) os).cell? ⟨w.heap.size + 1, 1, none⟩ = some (.int .i64 d) := fun n os => cell_grown V2.lt c3 n os
  have q4 : ∀ n os, (grow (w1.drewN n) os).cell? ⟨w.heap.size + 2, 0, none⟩ = some (.int .i64 p) := fun n os => cell_grown V3.lt c4 n os
  have q5 : ∀ n os, (grow (w1.drewN n) os).cell? ⟨w.heap.size + 2, 1, none⟩ = some (.int .i64 q) := fun n os => cell_grown V3.lt c5 n os
  have j1 := fun n os => k1 (grow (w1.drewN n) os)
  have j2 := fun n os => k2 (grow (w1.drewN n) os)
  have j3 := fun n os => k3 (grow (w1.drewN n) os)
  have HV := Lib.hid (And.intro V1 (And.intro V2 V3))
  clear c0 c1 c2 c3 c4 c5 V1 V2 V3 k1 k2 k3
  have mixed := mixedO
  go_quiet_grown (first
    | (go_at_call 15; (with_reducible refine Calls.grown_of (j1 _ _)))
    | (go_at_call 15; (with_reducible refine Calls.grown_of (j2 _ _)))
    | (go_at_call 15; (with_reducible refine Calls.grown_of (j3 _ _))))
  have hb := below_grow w1 (Nat.le_refl _) nq osq
  have V1 := HV.out.1.step hb
  have V2 := HV.out.2.1.step hb
  have T2 := Lib.hid (HT.out.onB V1.bel HT.out.six)
  clear q0 q1 q2 q3 q4 q5 j1 j2 j3 hb HV HT
  generalize grow (w1.drewN nq) osq = w2 at *
  obtain ⟨c0, c1⟩ := V1.cells
  obtain ⟨c2, c3⟩ := V2.cells
  have HV1 := Lib.hid V1
  have HV2 := Lib.hid V2
  clear V1 V2
  go_wp2_with fail
  refine (k5 _).mono ?_
  rintro e w3 ⟨rfl, hb⟩
  have V1 := HV1.out.step hb
  have V2 := HV2.out.step hb
  have T3 := Lib.hid (T2.out.on hb)
  clear hb c0 c1 c2 c3 HV1 HV2 T2
  obtain ⟨c0, c1⟩ := V1.cells
  obtain ⟨c2, c3⟩ := V2.cells
  have HV1 := Lib.hid V1
  have HV2 := Lib.hid V2
  clear V1 V2
  go_wp2_with fail
  refine (k4 _).mono ?_
  rintro e w4 ⟨rfl, hb⟩
  have V1 := HV1.out.step hb
  have V2 := HV2.out.step hb
  have T4 := Lib.hid (T3.out.on hb)
  clear hb c0 c1 c2 c3 HV1 HV2 T3 k4 k5
  obtain ⟨c0, c1⟩ := V1.cells
  obtain ⟨c2, c3⟩ := V2.cells
  have HB := Lib.hid V1.bel
  clear V1 V2
  have hal := alive_any
  rcases HWay.out with ⟨rfl, hne | ⟨rfl, hne⟩⟩ | ⟨rfl, rfl, rfl, hy | ⟨hy, hz⟩⟩ | ⟨rfl, hne | ⟨rfl, hne⟩, hy | ⟨hy, hz, hz2⟩⟩
  all_goals
    clear HWay
    go_wp2_with fail
    refine (hal _ T4.out).mono ?_
    rintro e w5 ⟨rfl, hb⟩
    have HB5 := Lib.hid (HB.out.trans (hb.mono HB.out.size))
    clear hb
    go_wp2
    go_ret
    exact ⟨rfl, HB5.out⟩
end Go.Proofs.YtlmiiapmanklpaaDoor
