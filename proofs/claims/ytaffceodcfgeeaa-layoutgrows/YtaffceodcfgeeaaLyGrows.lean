/- The walk of LayoutGrows. -/
import Derived.Test.YtaffceodcfgeeaaLyOpen
import Derived.Deep.RegionHeld3
namespace Go.Proofs.Ytaffceodcfgeeaa
open Go.RowKit

theorem add_one_plain (g off k : Nat) : (⟨g, off, none⟩ : Addr).add (k * 1) = ⟨g, off + k, none⟩ := by
  unfold Addr.add
  by_cases h : k = 0
  · subst h; simp
  · simp [h]
theorem size_int (W : World) : (sizeOf (Try.prog.elem 22)).run Try.prog W = .ok 1 W := by kernel_rfl
theorem elem_int : Try.prog.underlying 22 = some (.slice (Try.prog.elem 22)) := by kernel_rfl
/-- x[k:]. -/
theorem slice_from {w : World} {lo hi n c k : Nat} {A : Option Addr} {xs : List Int} (h : NI w lo hi A n c xs) (hk : k ≤ n) (hc : n ≤ c) :
    ∃ A', (∀ W, (Instr.slice 22 (.slice A n c) (some (.int .i64 (k : Nat))) none none).run Try.prog W = .ok (.slice A' (n - k) (c - k)) W) ∧ NS .i64 w hi A' (n - k) (xs.drop k) := by
  refine ⟨if c = k then A else A.map (·.add (k * 1)), fun W => ?_, ?_⟩
  · rw [run_slice_l _ _ _ _ _ elem_int _ _ (by omega) (by omega), size_int]
    simp [Result.andThen, sliced]
  · refine ⟨by rw [List.length_drop, h.ns.1], fun x hx => h.ns.2.1 x (List.mem_of_mem_drop hx), fun hn => ?_⟩
    obtain ⟨b, off, rfl, hlt, hcell⟩ := h.ns.2.2 (by omega)
    refine ⟨b, off + k, by rw [if_neg (by omega)]; exact congrArg some (add_one_plain b off k), hlt, fun i x hi => ?_⟩
    rw [List.getElem?_drop] at hi
    rw [Nat.add_assoc]
    exact hcell (k + i) x hi
/-- x[:k]. -/
theorem slice_to {w : World} {lo hi n c k : Nat} {A : Option Addr} {xs : List Int} (h : NI w lo hi A n c xs) (hk : k ≤ n) (hc : n ≤ c) :
    ∃ A', (∀ W, (Instr.slice 22 (.slice A n c) none (some (.int .i64 (k : Nat))) none).run Try.prog W = .ok (.slice A' k c) W) ∧ NS .i64 w hi A' k (xs.take k) := by
  refine ⟨if c = 0 then A else A.map (·.add (0 * 1)), fun W => ?_, ?_⟩
  · rw [run_slice_h _ _ _ _ _ elem_int _ _ (by omega) (by omega), size_int]
    simp [Result.andThen, sliced]
  · refine ⟨by rw [List.length_take, h.ns.1]; omega, fun x hx => h.ns.2.1 x (List.mem_of_mem_take hx), fun hn => ?_⟩
    obtain ⟨b, off, rfl, hlt, hcell⟩ := h.ns.2.2 (by omega)
    refine ⟨b, off, by rw [if_neg (by omega)]; exact congrArg some (add_one_plain b off 0), hlt, fun i x hi => hcell i x ?_⟩
    rw [List.getElem?_take] at hi
    split at hi
    · exact hi
    · cases hi

section
variable {w : World} {F R : Int} {A : Option Addr} {n c : Nat} {xs : List Int} {D : Option Addr} {m d : Nat} {ys : List Int} {W W' : World}
/-- The answer is a slice that reads as zs, with room. -/
def KRoom (w : World) (F R : Int) (A : Option Addr) (n c : Nat) (xs : List Int) (D : Option Addr) (m d : Nat) (ys : List Int) (W : World) (k : Nat) (zs : List Int) (e : Ending) (W' : World) : Prop := ∃ A' c', e = .returned (.slice A' k c') ∧ NI W' 0 W'.heap.size A' k c' zs ∧ k ≤ c' ∧ Below W.heap.size W W' ∧ LayK w F R A n c xs D m d ys W'
theorem LayK.slotsR (h : LayK w F R A n c xs D m d ys W) (C : Int) (hC : I64 C) (k : Nat) (hk : (LM.told F R xs ys C).length = k) : Calls Try.prog 12 #[.agg #[.int .i64 F, .slice A n c, .int .i64 R, .slice D m d], .int .i64 C] W (KRoom w F R A n c xs D m d ys W k (LM.told F R xs ys C)) :=
  (slots_any F R A n c xs D m d ys C 0 w.heap.size W (Nat.le_of_lt h.size) h.hn h.hm h.hF h.hR h.lists hC).mono fun _ _ ⟨v, a, ho, b⟩ => by
    rw [hk] at ho
    have hle : ∀ A' c', v = .slice A' k c' → k ≤ c' := by
      rintro A' c' rfl
      rcases ho.2 with ⟨e, h0⟩ | ⟨g, cap, cur, e, _, _, hcap, _⟩
      · omega
      · injection e with _ _ e; omega
    obtain ⟨A', c', rfl, hN⟩ := own_form ho (told_wf F R xs ys C)
    exact ⟨A', c', a, hN.mono (Nat.zero_le _) (Nat.le_refl _), hle _ _ rfl, b, h.later b⟩
end

theorem told_succ {F R : Int} {xs ys : List Int} {C : Int} (h1 : LM.code F R xs ys C = 0) (h2 : LM.code F R xs ys (C + 1) = 0) :
    LM.told F R xs ys (C + 1) = LM.told F R xs ys C ++ ys.map fun p => LM.size F R xs ys C + p := by
  obtain ⟨_, ⟨k1, _, _⟩, _⟩ := LM.code_zero h1
  rw [LM.told_ok h1, LM.told_ok h2, LM.size_ok h1, show (C + 1).toNat = C.toNat + 1 by omega, LM.slots_succ, Int.toNat_of_nonneg k1]

set_option maxRecDepth 100000 in
set_option maxHeartbeats 1000000 in
theorem grows_long (F R : Int) (A : Option Addr) (n c : Nat) (D : Option Addr) (m d : Nat) (C : Int) (w : World) (h : ¬ (n ≤ 100 ∧ m ≤ 100)) :
    Calls Try.prog 4 #[.agg #[.int .i64 F, .slice A n c, .int .i64 R, .slice D m d], .int .i64 C] w fun e w' => e = .returned (.bool true) ∧ Below w.heap.size w w' := by
  have H1 := Lib.hid (fun W => short_no F R A n c D m d W h)
  clear h
  go_enter Try.func4, Try.ntmps4
  go_wp2_with fail
  refine (alive_any _).mono ?_
  rintro e w1 ⟨rfl, hb⟩
  have hs := hb.size
  simp at hs
  have hw : Whole w1 w.heap.size 24 #[.int .i64 F, .slice A n c, .int .i64 R, .slice D m d] := (Whole.fresh _ _ _).below hb (by simp)
  have p0 : w1.cell? ⟨w.heap.size, 0, none⟩ = some (.int .i64 F) := hw.cell 0
  have p1 : w1.cell? ⟨w.heap.size, 1, none⟩ = some (.slice A n c) := hw.cell 1
  have p2 : w1.cell? ⟨w.heap.size, 2, none⟩ = some (.int .i64 R) := hw.cell 2
  have p3 : w1.cell? ⟨w.heap.size, 3, none⟩ = some (.slice D m d) := hw.cell 3
  have HB := Lib.hid hb
  clear hb hw
  go_wp2_with fail
  refine (H1.out _).mono ?_
  rintro e w2 ⟨rfl, rfl⟩
  go_wp2
  go_ret
  exact ⟨rfl, (((Below.refl _ _).alloc (Nat.le_refl _) _).trans (HB.out.mono (by simp))).alloc (by omega) _⟩

set_option maxRecDepth 100000 in
set_option maxHeartbeats 2000000 in
theorem grows_big (F R : Int) (A : Option Addr) (n c : Nat) (xs : List Int) (D : Option Addr) (m d : Nat) (ys : List Int) (C : Int) (w : World) (hF : I64 F) (hR : I64 R) (hL : Lists w 0 w.heap.size A n c xs D m d ys) (h1 : n ≤ 100) (h2 : m ≤ 100) (hC : 5000 < C) :
    Calls Try.prog 4 #[.agg #[.int .i64 F, .slice A n c, .int .i64 R, .slice D m d], .int .i64 C] w fun e w' => e = .returned (.bool true) ∧ Below w.heap.size w w' := by
  have k0 := LayK.first hL hF hR (by omega : n ≤ 1000000) (by omega : m ≤ 1000000)
  have K0 := Lib.hid k0.aliveK
  have d0 : decide (5000 < C) = true := by simpa using hC
  clear hL hF hR k0
  go_enter Try.func4, Try.ntmps4
  go_wp2_with fail
  refine K0.out.mono ?_
  rintro e w1 ⟨rfl, b1, k1⟩
  obtain ⟨p0, p1, p2, p3⟩ := k1.cells
  have K1 := Lib.hid (k1.shortK h1 h2)
  clear k1 b1
  go_wp2_with fail
  refine K1.out.mono ?_
  rintro e w2 ⟨rfl, b2, k2⟩
  have hb := k2.bel
  clear k2 b2
  go_wp2
  go_ret
  exact ⟨rfl, hb⟩

set_option maxRecDepth 100000 in
set_option maxHeartbeats 4000000 in
theorem grows_err (F R : Int) (A : Option Addr) (n c : Nat) (xs : List Int) (D : Option Addr) (m d : Nat) (ys : List Int) (C : Int) (w : World) (hF : I64 F) (hR : I64 R) (hL : Lists w 0 w.heap.size A n c xs D m d ys) (hC : I64 C) (h1 : n ≤ 100) (h2 : m ≤ 100) (hC5 : C ≤ 5000) (hc : ¬ (LM.code F R xs ys C = 0 ∧ LM.code F R xs ys (C + 1) = 0)) :
    Calls Try.prog 4 #[.agg #[.int .i64 F, .slice A n c, .int .i64 R, .slice D m d], .int .i64 C] w fun e w' => e = .returned (.bool true) ∧ Below w.heap.size w w' := by
  have k0 := LayK.first hL hF hR (by omega : n ≤ 1000000) (by omega : m ≤ 1000000)
  have HC := Lib.hid hC
  have HC1 := Lib.hid (show I64 (C + 1) by unfold I64 at *; omega)
  have K0 := Lib.hid k0.aliveK
  have d0 : decide (5000 < C) = false := by simpa using hC5
  obtain ⟨hCl, hCh⟩ := hC
  have hall : (LM.right F R xs ys = false) ∨ (LM.right F R xs ys = true ∧ decide (C < 0) = true) ∨ (LM.right F R xs ys = true ∧ decide (C < 0) = false ∧ (LM.code F R xs ys C != 0) = true) ∨ (LM.right F R xs ys = true ∧ decide (C < 0) = false ∧ (LM.code F R xs ys C != 0) = false ∧ (LM.code F R xs ys (C + 1) != 0) = true) := by
    cases hr : LM.right F R xs ys
    · exact .inl rfl
    · by_cases h0 : C < 0
      · exact .inr (.inl ⟨rfl, by simpa using h0⟩)
      · by_cases h1 : LM.code F R xs ys C = 0
        · exact .inr (.inr (.inr ⟨rfl, by simpa using h0, by simpa using h1, by simp; intro h2; exact hc ⟨h1, h2⟩⟩))
        · exact .inr (.inr (.inl ⟨rfl, by simpa using h0, by simpa using h1⟩))
  clear hL hF hR k0 hc
  rcases hall with r0 | ⟨r0, r1⟩ | ⟨r0, r1, r2⟩ | ⟨r0, r1, r2, r3⟩
  all_goals
    have HR0 := Lib.hid r0
    clear r0
    go_enter Try.func4, Try.ntmps4
    go_wp2_with fail
    refine K0.out.mono ?_
    rintro e w1 ⟨rfl, b1, k1⟩
    obtain ⟨p0, p1, p2, p3⟩ := k1.cells
    have K1 := Lib.hid (k1.shortK h1 h2)
    clear k1 b1
    go_wp2_with fail
    refine K1.out.mono ?_
    rintro e w2 ⟨rfl, b2, k2⟩
    clear p0 p1 p2 p3
    obtain ⟨p0, p1, p2, p3⟩ := k2.cells
    have K2 := Lib.hid (k2.sizeK C HC.out)
    clear k2 b2
    go_wp2_with fail
    refine K2.out.mono ?_
    rintro e w3 ⟨rfl, b3, k3⟩
    clear p0 p1 p2 p3
    obtain ⟨p0, p1, p2, p3⟩ := k3.cells
    have K3 := Lib.hid (k3.sizeK (C + 1) HC1.out)
    clear k3 b3
    go_wp2_with fail
    refine K3.out.mono ?_
    rintro e w4 ⟨rfl, b4, k4⟩
    clear p0 p1 p2 p3
    obtain ⟨p0, p1, p2, p3⟩ := k4.cells
    have K4 := Lib.hid k4.refRightK
    rw [HR0.out] at K4
    clear k4 b4
    go_wp2_with fail
    refine K4.out.mono ?_
    rintro e w5 ⟨rfl, b5, k5⟩
    have K5 := Lib.hid k5.aliveK
    clear k5 b5 p0 p1 p2 p3
    go_wp2_with fail
    refine K5.out.mono ?_
    rintro e w6 ⟨rfl, b6, k6⟩
    have hb := k6.bel
    clear k6 b6
    go_wp2
    go_ret
    exact ⟨rfl, hb⟩

set_option maxRecDepth 100000 in
set_option maxHeartbeats 4000000 in
theorem grows_in (F R : Int) (A : Option Addr) (n c : Nat) (xs : List Int) (D : Option Addr) (m d : Nat) (ys : List Int) (C : Int) (w : World) (hF : I64 F) (hR : I64 R) (hL : Lists w 0 w.heap.size A n c xs D m d ys) (hC : I64 C) (h1 : n ≤ 100) (h2 : m ≤ 100) (hc : LM.code F R xs ys C = 0) (hc1 : LM.code F R xs ys (C + 1) = 0) :
    Calls Try.prog 4 #[.agg #[.int .i64 F, .slice A n c, .int .i64 R, .slice D m d], .int .i64 C] w fun e w' => e = .returned (.bool true) ∧ Below w.heap.size w w' := by
  have k0 := LayK.first hL hF hR (by omega : n ≤ 1000000) (by omega : m ≤ 1000000)
  have HC := Lib.hid hC
  obtain ⟨hr, ⟨k1, k2, k3⟩, k4⟩ := LM.code_zero hc
  obtain ⟨⟨g1, g2, g3, g4, g5⟩, hr1, hr2⟩ := LM.right_parts hr
  have HC1 := Lib.hid (show I64 (C + 1) by unfold I64 at *; omega)
  have hstep := told_succ hc hc1
  have hs0 := LM.size_ok hc
  have hs1 := LM.size_ok hc1
  have hbd := LM.size_bd F R xs ys C
  have hbd1 := LM.size_bd F R xs ys (C + 1)
  have hl0 := LM.told_len F R xs ys C
  have hl1 := LM.told_len F R xs ys (C + 1)
  have hyl : ys.length = m := hL.snd.len
  have HYB := Lib.hid (fun p (hp : p ∈ ys) => (LM.rise_all ys 0 R hr2).2 p hp)
  have K0 := Lib.hid k0.aliveK
  have HCC := Lib.hid hc
  have HCC1 := Lib.hid hc1
  have HRR := Lib.hid hr
  obtain ⟨a, ha⟩ : ∃ a, a = LM.size F R xs ys C := ⟨_, rfl⟩
  obtain ⟨b, hb⟩ : ∃ b, b = LM.size F R xs ys (C + 1) := ⟨_, rfl⟩
  obtain ⟨na, hna⟩ : ∃ na, na = (LM.told F R xs ys C).length := ⟨_, rfl⟩
  obtain ⟨nb, hnb⟩ : ∃ nb, nb = (LM.told F R xs ys (C + 1)).length := ⟨_, rfl⟩
  have hab : b - a = R := by rw [ha, hb, hs0, hs1, Int.add_mul]; omega
  have hnab : nb = na + m := by rw [hna, hnb, hstep]; simp [hyl]
  have D1 := Lib.hid (show (LM.told F R xs ys (C + 1)).drop na = ys.map fun p => a + p by rw [hstep, hna, ha, List.drop_left])
  have D2 := Lib.hid (show (LM.told F R xs ys (C + 1)).take na = LM.told F R xs ys C by rw [hstep, hna, List.take_left])
  rw [← ha] at hbd
  rw [← hb] at hbd1
  rw [← hna] at hl0
  rw [← hnb] at hl1
  obtain ⟨ba0, ba1⟩ := hbd
  obtain ⟨bb0, bb1⟩ := hbd1
  have HA := Lib.hid ha
  have HB := Lib.hid hb
  have HNA := Lib.hid hna
  have HNB := Lib.hid hnb
  have d0 : decide (5000 < C) = false := by simp; omega
  have d1 : decide (C < 0) = false := by simpa using k1
  have d2 : (b - a != R) = false := by simpa using hab
  have d3 : ((nb : Int) - (na : Int) != (m : Int)) = false := by simp; omega
  have hle : na ≤ nb := by omega
  have hmn : nb - na = m := by omega
  have HMN := Lib.hid hmn
  clear hL hF hR hC hc hc1 hr hr1 hr2 k3 g5 hstep hs0 hs1 ha hb hna hnb hab hnab hyl k0 hmn k4
  go_enter Try.func4, Try.ntmps4
  go_wp2_with fail
  refine K0.out.mono ?_
  rintro e w1 ⟨rfl, b1, k1⟩
  obtain ⟨p0, p1, p2, p3⟩ := k1.cells
  have K1 := Lib.hid (k1.shortK h1 h2)
  clear k1 b1
  go_wp2_with fail
  refine K1.out.mono ?_
  rintro e w2 ⟨rfl, b2, k2⟩
  clear p0 p1 p2 p3
  obtain ⟨p0, p1, p2, p3⟩ := k2.cells
  have K2 := Lib.hid (k2.sizeK C HC.out)
  rw [HCC.out, ← HA.out] at K2
  clear k2 b2
  go_wp2_with fail
  refine K2.out.mono ?_
  rintro e w3 ⟨rfl, b3, k3⟩
  clear p0 p1 p2 p3
  obtain ⟨p0, p1, p2, p3⟩ := k3.cells
  have K3 := Lib.hid (k3.sizeK (C + 1) HC1.out)
  rw [HCC1.out, ← HB.out] at K3
  clear k3 b3
  go_wp2_with fail
  refine K3.out.mono ?_
  rintro e w4 ⟨rfl, b4, k4⟩
  clear p0 p1 p2 p3
  obtain ⟨p0, p1, p2, p3⟩ := k4.cells
  have K4 := Lib.hid k4.refRightK
  rw [HRR.out] at K4
  clear k4 b4
  go_wp2_with fail
  refine K4.out.mono ?_
  rintro e w5 ⟨rfl, b5, k5⟩
  clear p0 p1 p2 p3
  obtain ⟨p0, p1, p2, p3⟩ := k5.cells
  have K5 := Lib.hid k5
  clear k5 b5
  have ww : IntKind.i64.wrap (C + 1) = C + 1 := IntWalk.i64_in _ (by omega)
  go_wp2_with fail
  go_region_held3 (fun w' => w'.cell? ⟨w.heap.size, 0, none⟩ = some (.int .i64 F) ∧ w'.cell? ⟨w.heap.size, 1, none⟩ = some (.slice A n c) ∧ w'.cell? ⟨w.heap.size, 2, none⟩ = some (.int .i64 R) ∧ w'.cell? ⟨w.heap.size, 3, none⟩ = some (.slice D m d)) (first | exact ⟨r0, r1, r2, r3⟩ | exact ⟨q0, q1, q2, q3⟩ | exact ⟨p0, p1, p2, p3⟩)
    (first
      | (go_at_call 12; refine K7.out.mono ?_; rintro e w7 ⟨A7, c7, rfl, n7, l7, b7, k7⟩; obtain ⟨r0, r1, r2, r3⟩ := k7.cells; have M7 := Lib.hid (N6.out.ns.below b7); have N7 := Lib.hid n7; have L7 := Lib.hid k7; clear k7 b7 n7)
      | (go_at_call 12; refine (LayK.slotsR (by exact K5.out.still rfl rfl rfl rfl) C HC.out na HNA.out.symm).mono ?_; rintro e w6 ⟨A6, c6, rfl, n6, l6, b6, k6⟩; obtain ⟨q0, q1, q2, q3⟩ := k6.cells; have N6 := Lib.hid n6; have K7 := Lib.hid (k6.slotsR (C + 1) HC1.out nb HNB.out.symm); clear k6 b6 n6))
  all_goals
    clear ww
    clear p0 p1 p2 p3 q0 q1 q2 q3
    obtain ⟨At, ht, Nt⟩ := slice_to N7.out hle l7
    obtain ⟨Af, hf, Nf⟩ := slice_from N7.out hle l7
    rw [D2.out] at Nt
    rw [D1.out, HMN.out] at Nf
    rw [HMN.out] at hf
    have NF := Lib.hid Nf
    have CS := Lib.hid (sameI_any A6 na c6 At c7 _ _ _ w7 (by omega) M7.out Nt)
    clear Nt Nf
    go_wp2_with fail
    refine CS.out.mono ?_
    rintro e w8 ⟨rfl, j8, rfl⟩
    have L8 : LayK w F R A n c xs D m d ys (w7.drewN j8) := L7.out.still rfl rfl rfl rfl
    have s0 := r0
    have r2' : (w7.drewN j8).cell? ⟨w.heap.size, 2, none⟩ = some (.int .i64 R) := r2
    have r3' : (w7.drewN j8).cell? ⟨w.heap.size, 3, none⟩ = some (.slice D m d) := r3
    have HL8 := Lib.hid L8
    clear L8
    go_wp2
    go_loop [89] (fun i => ∃ k : Nat, k ≤ m ∧ i = .int .i64 k) (fun i => m - (intOf i).toNat)
    case atStart => exact ⟨0, Nat.zero_le _, rfl⟩
    case round =>
      obtain ⟨k, hk, rfl⟩ := hrel
      by_cases hlt : k < m
      · obtain ⟨bf, of, pf, rfl, bfl, bfe, bfw, bfc⟩ := NF.out.at_ hlt
        obtain ⟨by_, oy, py, rfl, byl, bye, byw, byc⟩ := HL8.out.lists.snd.ns.at_ hlt
        have hpy := HYB.out py (List.mem_of_mem_drop (by rw [bye]; exact List.mem_cons_self))
        obtain ⟨hpy0, hpy1⟩ := hpy
        obtain rfl : pf = a + py := by
          rw [← List.map_drop, bye] at bfe
          simp at bfe
          exact bfe.symm
        have bfc' : (w7.drewN j8).cell? ⟨bf, of + k, none⟩ = some (.int .i64 (a + py)) := bfc
        clear bfe bye bfw byw
        go_wp2
        go_round
        case rel => exact ⟨k + 1, by omega, by go_num⟩
        case measure => simp [intOf]; omega
      · go_wp2_with fail
        refine HL8.out.aliveK.mono ?_
        rintro e w9 ⟨rfl, b9, k9⟩
        have hb := k9.bel
        clear k9 b9
        go_wp2
        go_ret
        exact ⟨rfl, hb⟩

theorem grows_any (F R : Int) (A : Option Addr) (n c : Nat) (xs : List Int) (D : Option Addr) (m d : Nat) (ys : List Int) (C : Int) (w : World) (hF : I64 F) (hR : I64 R) (hL : Lists w 0 w.heap.size A n c xs D m d ys) (hC : I64 C) :
    Calls Try.prog 4 #[.agg #[.int .i64 F, .slice A n c, .int .i64 R, .slice D m d], .int .i64 C] w fun e w' => e = .returned (.bool true) ∧ Below w.heap.size w w' := by
  by_cases hs : n ≤ 100 ∧ m ≤ 100
  · by_cases hb : 5000 < C
    · exact grows_big F R A n c xs D m d ys C w hF hR hL hs.1 hs.2 hb
    · by_cases hc : LM.code F R xs ys C = 0 ∧ LM.code F R xs ys (C + 1) = 0
      · exact grows_in F R A n c xs D m d ys C w hF hR hL hC hs.1 hs.2 hc.1 hc.2
      · exact grows_err F R A n c xs D m d ys C w hF hR hL hC hs.1 hs.2 (by omega) hc
  · exact grows_long F R A n c D m d C w hs
end Go.Proofs.Ytaffceodcfgeeaa
