/- The walk of LayoutPlaces. -/
import Derived.Test.YtaffceodcfgeeaaLyOpen
import Derived.Deep.RegionHeld3
namespace Go.Proofs.Ytaffceodcfgeeaa
open Go.RowKit

set_option maxRecDepth 100000 in
set_option maxHeartbeats 1000000 in
theorem places_long (F R : Int) (A : Option Addr) (n c : Nat) (D : Option Addr) (m d : Nat) (C p : Int) (w : World) (h : ¬ (n ≤ 100 ∧ m ≤ 100)) :
    Calls Try.prog 3 #[.agg #[.int .i64 F, .slice A n c, .int .i64 R, .slice D m d], .int .i64 C, .int .i64 p] w fun e w' => e = .returned (.bool true) ∧ Below w.heap.size w w' := by
  have H1 := Lib.hid (short_no F R A n c D m d (w.alloc (.cells #[.int .i64 F, .slice A n c, .int .i64 R, .slice D m d] 24)) h)
  clear h
  go_enter Try.func3, Try.ntmps3
  go_wp2_with fail
  refine H1.out.mono ?_
  rintro e w1 ⟨rfl, rfl⟩
  go_wp2_with fail
  refine (alive_any _).mono ?_
  rintro e w2 ⟨rfl, hb⟩
  go_wp2
  go_ret
  exact ⟨rfl, (((Below.refl _ _).alloc (Nat.le_refl _) _).alloc (by simp) _).trans (hb.mono (by simp; omega))⟩

set_option maxRecDepth 100000 in
set_option maxHeartbeats 4000000 in
theorem places_err (F R : Int) (A : Option Addr) (n c : Nat) (xs : List Int) (D : Option Addr) (m d : Nat) (ys : List Int) (C p : Int) (w : World) (hF : I64 F) (hR : I64 R) (hL : Lists w 0 w.heap.size A n c xs D m d ys) (hC : I64 C) (h1 : n ≤ 100) (h2 : m ≤ 100) (hc : LM.code F R xs ys C ≠ 0) :
    Calls Try.prog 3 #[.agg #[.int .i64 F, .slice A n c, .int .i64 R, .slice D m d], .int .i64 C, .int .i64 p] w fun e w' => e = .returned (.bool true) ∧ Below w.heap.size w w' := by
  have k0 := LayK.first hL hF hR (by omega : n ≤ 1000000) (by omega : m ≤ 1000000)
  have HC := Lib.hid hC
  have d0 : (LM.code F R xs ys C != 0) = true := by simpa using hc
  have HT := Lib.hid (LM.told_no hc)
  have HCC := Lib.hid hc
  have K0 := Lib.hid (k0.shortK h1 h2)
  clear hL hF hR hC hc k0
  go_enter Try.func3, Try.ntmps3
  go_wp2_with fail
  refine K0.out.mono ?_
  rintro e w1 ⟨rfl, b1, k1⟩
  obtain ⟨p0, p1, p2, p3⟩ := k1.cells
  have K1 := Lib.hid k1
  clear k1 b1
  go_wp2_with fail
  refine (K1.out.sizeK C HC.out).mono ?_
  rintro e w2 ⟨rfl, b2, k2⟩
  clear p0 p1 p2 p3
  obtain ⟨p0, p1, p2, p3⟩ := k2.cells
  have K2 := Lib.hid k2
  clear k2 b2
  go_wp2_with fail
  refine (K2.out.refSizeK C HC.out).mono ?_
  rintro e w3 ⟨rfl, b3, k3⟩
  clear p0 p1 p2 p3
  obtain ⟨p0, p1, p2, p3⟩ := k3.cells
  have K3 := Lib.hid k3
  clear k3 b3
  go_wp2_with fail
  refine (K3.out.isRefErrK C p HC.out HCC.out).mono ?_
  rintro e w4 ⟨rfl, b4, k4⟩
  have K4 := Lib.hid k4
  clear k4 b4
  clear p0 p1 p2 p3
  go_wp2_with fail
  refine K4.out.aliveK.mono ?_
  rintro e w5 ⟨rfl, b5, k5⟩
  obtain ⟨p0, p1, p2, p3⟩ := k5.cells
  have K5 := Lib.hid (k5.slotsK C HC.out)
  rw [HT.out] at K5
  clear k5 b5
  go_wp2_with fail
  refine K5.out.mono ?_
  rintro e w6 ⟨A', c', rfl, _, _, k6⟩
  have hb := k6.bel
  clear k6
  go_wp2
  go_ret
  exact ⟨rfl, hb⟩

set_option maxRecDepth 100000 in
set_option maxHeartbeats 4000000 in
theorem places_out (F R : Int) (A : Option Addr) (n c : Nat) (xs : List Int) (D : Option Addr) (m d : Nat) (ys : List Int) (C p : Int) (w : World) (hF : I64 F) (hR : I64 R) (hL : Lists w 0 w.heap.size A n c xs D m d ys) (hC : I64 C) (h1 : n ≤ 100) (h2 : m ≤ 100) (hc : LM.code F R xs ys C = 0) (hp : p < 0 ∨ LM.size F R xs ys C ≤ p) :
    Calls Try.prog 3 #[.agg #[.int .i64 F, .slice A n c, .int .i64 R, .slice D m d], .int .i64 C, .int .i64 p] w fun e w' => e = .returned (.bool true) ∧ Below w.heap.size w w' := by
  have k0 := LayK.first hL hF hR (by omega : n ≤ 1000000) (by omega : m ≤ 1000000)
  have HC := Lib.hid hC
  have HCC := Lib.hid hc
  have HP := Lib.hid hp
  have K0 := Lib.hid (k0.shortK h1 h2)
  have d0 : decide (p < 0) = true ∨ decide (p < 0) = false ∧ decide (LM.size F R xs ys C ≤ p) = true := by
    by_cases h : p < 0
    · exact .inl (by simpa using h)
    · exact .inr ⟨by simpa using h, by simp; omega⟩
  clear hL hF hR hC hc k0 hp
  rcases d0 with d0 | ⟨d0, d1⟩
  all_goals
    go_enter Try.func3, Try.ntmps3
    go_wp2_with fail
    refine K0.out.mono ?_
    rintro e w1 ⟨rfl, b1, k1⟩
    obtain ⟨p0, p1, p2, p3⟩ := k1.cells
    have K1 := Lib.hid (k1.sizeK C HC.out)
    rw [HCC.out] at K1
    clear k1 b1
    go_wp2_with fail
    refine K1.out.mono ?_
    rintro e w2 ⟨rfl, b2, k2⟩
    clear p0 p1 p2 p3
    obtain ⟨p0, p1, p2, p3⟩ := k2.cells
    have K2 := Lib.hid (k2.refSizeK C HC.out)
    rw [HCC.out] at K2
    clear k2 b2
    go_wp2_with fail
    refine K2.out.mono ?_
    rintro e w3 ⟨rfl, b3, k3⟩
    clear p0 p1 p2 p3
    obtain ⟨p0, p1, p2, p3⟩ := k3.cells
    have K3 := Lib.hid k3
    clear k3 b3
    go_wp2_with fail
    refine (K3.out.isRefOutK C p HC.out HCC.out HP.out).mono ?_
    rintro e w4 ⟨rfl, b4, k4⟩
    have K4 := Lib.hid k4
    clear k4 b4
    clear p0 p1 p2 p3
    go_wp2_with fail
    refine K4.out.aliveK.mono ?_
    rintro e w5 ⟨rfl, b5, k5⟩
    have hb := k5.bel
    clear k5 b5
    go_wp2
    go_ret
    exact ⟨rfl, hb⟩

set_option maxRecDepth 100000 in
set_option maxHeartbeats 4000000 in
theorem places_in (F R : Int) (A : Option Addr) (n c : Nat) (xs : List Int) (D : Option Addr) (m d : Nat) (ys : List Int) (C p : Int) (w : World) (hF : I64 F) (hR : I64 R) (hL : Lists w 0 w.heap.size A n c xs D m d ys) (hC : I64 C) (h1 : n ≤ 100) (h2 : m ≤ 100) (hc : LM.code F R xs ys C = 0) (hp0 : 0 ≤ p) (hp1 : p < LM.size F R xs ys C) :
    Calls Try.prog 3 #[.agg #[.int .i64 F, .slice A n c, .int .i64 R, .slice D m d], .int .i64 C, .int .i64 p] w fun e w' => e = .returned (.bool true) ∧ Below w.heap.size w w' := by
  have k0 := LayK.first hL hF hR (by omega : n ≤ 1000000) (by omega : m ≤ 1000000)
  have HC := Lib.hid hC
  have HCC := Lib.hid hc
  have HP0 := Lib.hid hp0
  have HP1 := Lib.hid hp1
  have K0 := Lib.hid (k0.shortK h1 h2)
  have d0 : decide (p < 0) = false := by simpa using hp0
  have d1 : decide (LM.size F R xs ys C ≤ p) = false := by simpa using hp1
  have hlen := LM.told_len F R xs ys C
  clear hL hF hR hC hc k0 hp0 hp1
  go_enter Try.func3, Try.ntmps3
  go_wp2_with fail
  refine K0.out.mono ?_
  rintro e w1 ⟨rfl, b1, k1⟩
  obtain ⟨p0, p1, p2, p3⟩ := k1.cells
  have K1 := Lib.hid (k1.sizeK C HC.out)
  rw [HCC.out] at K1
  clear k1 b1
  go_wp2_with fail
  refine K1.out.mono ?_
  rintro e w2 ⟨rfl, b2, k2⟩
  clear p0 p1 p2 p3
  obtain ⟨p0, p1, p2, p3⟩ := k2.cells
  have K2 := Lib.hid (k2.refSizeK C HC.out)
  rw [HCC.out] at K2
  clear k2 b2
  go_wp2_with fail
  refine K2.out.mono ?_
  rintro e w3 ⟨rfl, b3, k3⟩
  clear p0 p1 p2 p3
  obtain ⟨p0, p1, p2, p3⟩ := k3.cells
  have K3 := Lib.hid k3
  clear k3 b3
  go_wp2_with fail
  refine (K3.out.isRefK C p HC.out HCC.out HP0.out HP1.out).mono ?_
  rintro e w4 ⟨rfl, b4, k4⟩
  obtain ⟨r, hr⟩ : ∃ r, r = LM.isRef F R xs ys p := ⟨_, rfl⟩
  rw [← hr]
  have HR := Lib.hid hr
  clear p0 p1 p2 p3 hr
  obtain ⟨p0, p1, p2, p3⟩ := k4.cells
  have K4 := Lib.hid k4
  clear k4 b4
  go_wp2_with fail
  go_region_held3 (fun w' => w'.cell? ⟨w.heap.size, 0, none⟩ = some (.int .i64 F) ∧ w'.cell? ⟨w.heap.size, 1, none⟩ = some (.slice A n c) ∧ w'.cell? ⟨w.heap.size, 2, none⟩ = some (.int .i64 R) ∧ w'.cell? ⟨w.heap.size, 3, none⟩ = some (.slice D m d)) (first | exact ⟨s0, s1, s2, s3⟩ | exact ⟨r0, r1, r2, r3⟩ | exact ⟨q0, q1, q2, q3⟩ | exact ⟨o0, o1, o2, o3⟩ | exact ⟨p0, p1, p2, p3⟩)
    (first
      | (go_at_call 8; refine (LayK.aliveK (by exact K4.out.still rfl rfl rfl rfl)).mono ?_; rintro e w5 ⟨rfl, b5, k5⟩; obtain ⟨o0, o1, o2, o3⟩ := k5.cells; have K5 := Lib.hid (k5.refIsRefK C p HCC.out HP0.out HP1.out); rw [← HR.out] at K5; have L5 := Lib.hid k5; clear k5 b5)
      | (go_at_call 13; refine K5.out.mono ?_; rintro e w6 ⟨rfl, b6, k6⟩; obtain ⟨q0, q1, q2, q3⟩ := k6.cells; have K6 := Lib.hid (k6.slotsK C HC.out); clear k6 b6)
      | (go_at_call 12; refine K6.out.mono ?_; rintro e w7 ⟨A7, c7, rfl, n7, b7, k7⟩; obtain ⟨r0, r1, r2, r3⟩ := k7.cells; have N7 := Lib.hid n7; have K7 := Lib.hid (k7.refSlotsK C HC.out); clear k7 b7 n7)
      | (go_at_call 15; refine K7.out.mono ?_; rintro e w8 ⟨A8, c8, rfl, n8, b8, k8⟩; obtain ⟨s0, s1, s2, s3⟩ := k8.cells; have N8 := Lib.hid n8; have M8 := Lib.hid (N7.out.below b8); have hb8 := k8.bel; clear k8 b8 n8)
      | (go_at_call 14; refine (sameI_any A7 _ c7 A8 c8 (LM.told F R xs ys C) _ _ _ (by omega) M8.out N8.out).mono ?_; rintro e w9 ⟨rfl, k, rfl⟩))
  all_goals
    go_wp2
    go_ret
    exact ⟨ret_bool (by simp), by exact below_drewN hb8 _⟩

theorem places_any (F R : Int) (A : Option Addr) (n c : Nat) (xs : List Int) (D : Option Addr) (m d : Nat) (ys : List Int) (C p : Int) (w : World) (hF : I64 F) (hR : I64 R) (hL : Lists w 0 w.heap.size A n c xs D m d ys) (hC : I64 C) (_ : I64 p) :
    Calls Try.prog 3 #[.agg #[.int .i64 F, .slice A n c, .int .i64 R, .slice D m d], .int .i64 C, .int .i64 p] w fun e w' => e = .returned (.bool true) ∧ Below w.heap.size w w' := by
  by_cases hs : n ≤ 100 ∧ m ≤ 100
  · by_cases hc : LM.code F R xs ys C = 0
    · by_cases hp : p < 0 ∨ LM.size F R xs ys C ≤ p
      · exact places_out F R A n c xs D m d ys C p w hF hR hL hC hs.1 hs.2 hc hp
      · exact places_in F R A n c xs D m d ys C p w hF hR hL hC hs.1 hs.2 hc (by omega) (by omega)
    · exact places_err F R A n c xs D m d ys C p w hF hR hL hC hs.1 hs.2 hc
  · exact places_long F R A n c D m d C p w hs
end Go.Proofs.Ytaffceodcfgeeaa
