/- Contracts of IsRef, of package layout and of the document's answers. -/
import Derived.Test.YteneadimchhhhaaDoorLySize
import Derived.Test.YteneadimchhhhaaDoorPack
import Derived.IntWalk
namespace Go.Proofs.YteneadimchhhhaaDoor
open Go.RowKit

theorem quiet_left {P : Program} {f : FuncId} {args : Array Value} {w : World} {n : Nat} {v : Value}
    (h : Calls P f args (w.drewN n) fun e w' => e = .returned v ∧ w.drewN n = w') : Calls P f args (w.drewN n) fun e w'' => e = .returned v ∧ ∃ m, w'' = w.drewN m :=
  h.mono fun _ _ ⟨he, hm⟩ => ⟨he, n, hm.symm⟩
theorem ret_bi {a b : Bool} {k : IntKind} {z : Int} (h : a = b) : Ending.returned (.tuple #[.bool a, .int k z]) = .returned (.tuple #[.bool b, .int k z]) := by rw [h]
theorem emod_bounds {a b : Int} (h0 : 0 ≤ a) (hb : 0 < b) : 0 ≤ a % b ∧ a % b < b ∧ a.tmod b = a % b := ⟨Int.emod_nonneg _ (by omega), Int.emod_lt_of_pos _ hb, Int.tmod_eq_emod_of_nonneg h0⟩

set_option maxHeartbeats 1000000 in
theorem isRef_err (F R : Int) (A : Option Addr) (n c : Nat) (xs : List Int) (D : Option Addr) (m d : Nat) (ys : List Int) (C p : Int) (B : Nat) (w : World) (hB : B ≤ w.heap.size) (hn : n ≤ 1000000) (hm : m ≤ 1000000)
    (hF : I64 F) (hR : I64 R) (hx : NS .i64 w B A n xs) (hy : NS .i64 w B D m ys) (hC : I64 C) (hcode : LM.code F R xs ys C ≠ 0) :
    Calls Tryd.prog 66 #[.agg #[.int .i64 F, .slice A n c, .int .i64 R, .slice D m d], .int .i64 C, .int .i64 p] w fun e w' => e = .returned (.tuple #[.bool false, .int .i64 (LM.code F R xs ys C)]) ∧ Below w.heap.size w w' := by
  have CS := lsize_any F R A n c xs D m d ys C B (w.alloc (.cells #[.int .i64 F, .slice A n c, .int .i64 R, .slice D m d] 56)) (by simp; omega) hn hm hF hR (hx.alloc hB _) (hy.alloc hB _) hC
  have d0 : (LM.code F R xs ys C != 0) = true := by simpa using hcode
  have HC := Lib.hid CS
  clear CS hx hy hF hR hB hcode hC
  go_enter Tryd.func66, Tryd.ntmps66
  go_wp2_with fail
  refine HC.out.mono ?_
  rintro e w1 ⟨rfl, hb⟩
  go_wp2
  go_ret2
  exact ⟨rfl, ((Below.refl _ _).alloc (Nat.le_refl _) _).trans (hb.mono (by simp))⟩

set_option maxHeartbeats 1000000 in
theorem isRef_out (F R : Int) (A : Option Addr) (n c : Nat) (xs : List Int) (D : Option Addr) (m d : Nat) (ys : List Int) (C p : Int) (B : Nat) (w : World) (hB : B ≤ w.heap.size) (hn : n ≤ 1000000) (hm : m ≤ 1000000)
    (hF : I64 F) (hR : I64 R) (hx : NS .i64 w B A n xs) (hy : NS .i64 w B D m ys) (hC : I64 C) (hcode : LM.code F R xs ys C = 0) (hp : p < 0 ∨ F + C * R ≤ p) :
    Calls Tryd.prog 66 #[.agg #[.int .i64 F, .slice A n c, .int .i64 R, .slice D m d], .int .i64 C, .int .i64 p] w fun e w' => e = .returned (.tuple #[.bool false, .int .i64 3]) ∧ Below w.heap.size w w' := by
  have CS := lsize_any F R A n c xs D m d ys C B (w.alloc (.cells #[.int .i64 F, .slice A n c, .int .i64 R, .slice D m d] 56)) (by simp; omega) hn hm hF hR (hx.alloc hB _) (hy.alloc hB _) hC
  rw [hcode, LM.size_ok hcode] at CS
  have HC := Lib.hid CS
  clear CS hx hy hF hR hB hcode hC
  rcases hp with hp | hp
  · have d0 : decide (p < 0) = true := by simpa using hp
    go_enter Tryd.func66, Tryd.ntmps66
    go_wp2_with fail
    refine HC.out.mono ?_
    rintro e w1 ⟨rfl, hb⟩
    go_wp2
    go_ret2
    exact ⟨rfl, ((Below.refl _ _).alloc (Nat.le_refl _) _).trans (hb.mono (by simp))⟩
  · by_cases hp0 : p < 0
    · have d0 : decide (p < 0) = true := by simpa using hp0
      go_enter Tryd.func66, Tryd.ntmps66
      go_wp2_with fail
      refine HC.out.mono ?_
      rintro e w1 ⟨rfl, hb⟩
      go_wp2
      go_ret2
      exact ⟨rfl, ((Below.refl _ _).alloc (Nat.le_refl _) _).trans (hb.mono (by simp))⟩
    · have d0 : decide (p < 0) = false := by simpa using hp0
      have d1 : decide (F + C * R ≤ p) = true := by simpa using hp
      go_enter Tryd.func66, Tryd.ntmps66
      go_wp2_with fail
      refine HC.out.mono ?_
      rintro e w1 ⟨rfl, hb⟩
      go_wp2
      go_ret2
      exact ⟨rfl, ((Below.refl _ _).alloc (Nat.le_refl _) _).trans (hb.mono (by simp))⟩

set_option maxHeartbeats 1000000 in
theorem isRef_ok (F R : Int) (A : Option Addr) (n c : Nat) (xs : List Int) (D : Option Addr) (m d : Nat) (ys : List Int) (C p : Int) (B : Nat) (w : World) (hB : B ≤ w.heap.size) (hn : n ≤ 1000000) (hm : m ≤ 1000000)
    (hF : I64 F) (hR : I64 R) (hx : NS .i64 w B A n xs) (hy : NS .i64 w B D m ys) (hC : I64 C) (hcode : LM.code F R xs ys C = 0) (hp0 : 0 ≤ p) (hp1 : p < F + C * R) :
    Calls Tryd.prog 66 #[.agg #[.int .i64 F, .slice A n c, .int .i64 R, .slice D m d], .int .i64 C, .int .i64 p] w fun e w' => e = .returned (.tuple #[.bool (LM.isRef F R xs ys p), .int .i64 0]) ∧ Below w.heap.size w w' := by
  have CS := lsize_any F R A n c xs D m d ys C B (w.alloc (.cells #[.int .i64 F, .slice A n c, .int .i64 R, .slice D m d] 56)) (by simp; omega) hn hm hF hR (hx.alloc hB _) (hy.alloc hB _) hC
  rw [hcode, LM.size_ok hcode] at CS
  obtain ⟨hr, ⟨k1, k2, k3⟩, k4⟩ := LM.code_zero hcode
  obtain ⟨⟨g1, g2, g3, g4, g5⟩, -, -⟩ := LM.right_parts hr
  have HC := Lib.hid CS
  have HX := Lib.hid hx
  have HY := Lib.hid hy
  have K3 := Lib.hid k3
  clear CS hx hy hF hR hcode hC hr k3 g5
  have d0 : decide (p < 0) = false := by simpa using hp0
  have d1 : decide (F + C * R ≤ p) = false := by simpa using hp1
  by_cases hl : p < F
  · have d2 : decide (p < F) = true := by simpa using hl
    have HI := Lib.hid (LM.isRef_low (R := R) (xs := xs) (ys := ys) hl)
    go_enter Tryd.func66, Tryd.ntmps66
    go_wp2_with fail
    refine HC.out.mono ?_
    rintro e w1 ⟨rfl, hb⟩
    have hb0 : Below w.heap.size w w1 := ((Below.refl _ _).alloc (Nat.le_refl _) _).trans (hb.mono (by simp))
    obtain ⟨hc, hf⟩ := bcell hb
    have C1 := contains_any A n c xs p B w1 hn (HX.out.below (hb0.mono hB))
    have HC1 := Lib.hid C1
    clear C1
    go_wp2_with fail
    refine HC1.out.mono ?_
    rintro e w' ⟨rfl, rfl⟩
    go_wp2
    go_ret2
    exact ⟨ret_bi HI.out.symm, hb0⟩
  · have d2 : decide (p < F) = false := by simpa using hl
    have HI := Lib.hid (LM.isRef_high (R := R) (xs := xs) (ys := ys) hl)
    have hR0 : 0 < R := by
      rcases Int.lt_or_eq_of_le g3 with h | h
      · exact h
      · have h0 := K3.out h.symm
        rw [h0, ← h] at hp1
        omega
    have e0 : (R == 0) = false := by simp; omega
    have e1 : ¬ R = 0 := by omega
    obtain ⟨q0, q1, q2⟩ := emod_bounds (show 0 ≤ p - F by omega) hR0
    go_enter Tryd.func66, Tryd.ntmps66
    go_wp2_with fail
    refine HC.out.mono ?_
    rintro e w1 ⟨rfl, hb⟩
    have hb0 : Below w.heap.size w w1 := ((Below.refl _ _).alloc (Nat.le_refl _) _).trans (hb.mono (by simp))
    obtain ⟨hc, hf⟩ := bcell hb
    have C1 := fun N => contains_any D m d ys ((p - F) % R) B (w1.drewN N) hm (HY.out.below (below_drewN (hb0.mono hB) N))
    have HC1 := Lib.hid C1
    have HQ := Lib.hid q2
    clear C1 q2
    go_wp2
    have ww : IntKind.i64.wrap (p - F) = p - F := IntWalk.i64_in _ (by omega)
    have q2 : (p - F).tmod R = (p - F) % R := HQ.out
    have wr : IntKind.i64.wrap ((p - F) % R) = (p - F) % R := IntWalk.i64_in _ (by omega)
    go_quiet ((go_at_call 77; exact quiet_left (HC1.out _)))
    go_wp2
    go_ret2
    exact ⟨ret_bi HI.out.symm, below_drewN hb0 _⟩

set_option maxHeartbeats 1000000 in
theorem refIsRef_any (F R : Int) (A : Option Addr) (n c : Nat) (xs : List Int) (D : Option Addr) (m d : Nat) (ys : List Int) (p : Int) (B : Nat) (w : World) (hB : B ≤ w.heap.size) (hn : n ≤ 1000000) (hm : m ≤ 1000000)
    (hR : I64 R) (hx : NS .i64 w B A n xs) (hy : NS .i64 w B D m ys) (hF1 : 0 ≤ F) (hF2 : F ≤ 64) (hp0 : 0 ≤ p) (hp1 : p ≤ 100000) (hR0 : p < F ∨ 0 < R) :
    Calls Tryd.prog 20 #[.agg #[.int .i64 F, .slice A n c, .int .i64 R, .slice D m d], .int .i64 p] w fun e w' => e = .returned (.bool (LM.isRef F R xs ys p)) ∧ Below w.heap.size w w' := by
  obtain ⟨r1, r2⟩ := hR
  have HX := Lib.hid (hx.alloc hB (.cells #[.int .i64 F, .slice A n c, .int .i64 R, .slice D m d] 56))
  have HY := Lib.hid (hy.alloc hB (.cells #[.int .i64 F, .slice A n c, .int .i64 R, .slice D m d] 56))
  clear hx hy
  by_cases hl : p < F
  · have d2 : decide (p < F) = true := by simpa using hl
    have HI := Lib.hid (LM.isRef_low (R := R) (xs := xs) (ys := ys) hl)
    clear hR0
    have C1 := lhas_any A n c xs p B _ hn HX.out
    have HC1 := Lib.hid C1
    clear C1
    go_enter Tryd.func20, Tryd.ntmps20
    go_wp2_with fail
    refine HC1.out.mono ?_
    rintro e w' ⟨rfl, rfl⟩
    go_wp2
    go_ret
    exact ⟨ret_bool HI.out.symm, (Below.refl _ _).alloc (Nat.le_refl _) _⟩
  · have d2 : decide (p < F) = false := by simpa using hl
    have HI := Lib.hid (LM.isRef_high (R := R) (xs := xs) (ys := ys) hl)
    have hR0 : 0 < R := by omega
    have e0 : (R == 0) = false := by simp; omega
    have e1 : ¬ R = 0 := by omega
    obtain ⟨q0, q1, q2⟩ := emod_bounds (show 0 ≤ p - F by omega) hR0
    have C1 := fun N => lhas_any D m d ys ((p - F) % R) B ((w.alloc (.cells #[.int .i64 F, .slice A n c, .int .i64 R, .slice D m d] 56)).drewN N) hm HY.out
    have HC1 := Lib.hid C1
    have HQ := Lib.hid q2
    clear C1 q2
    go_enter Tryd.func20, Tryd.ntmps20
    go_wp2
    have ww : IntKind.i64.wrap (p - F) = p - F := IntWalk.i64_in _ (by omega)
    have q2 : (p - F).tmod R = (p - F) % R := HQ.out
    have wr : IntKind.i64.wrap ((p - F) % R) = (p - F) % R := IntWalk.i64_in _ (by omega)
    go_quiet ((go_at_call 42; exact quiet_left (HC1.out _)))
    go_wp2
    go_ret
    exact ⟨ret_bool HI.out.symm, below_drewN ((Below.refl _ _).alloc (Nat.le_refl _) _) _⟩
end Go.Proofs.YteneadimchhhhaaDoor
