/- Contracts of the document's Right; of Size, of package layout and of the document's answers. -/
import Derived.Test.YteneadimchhhhaaDoorLyRight
namespace Go.Proofs.YteneadimchhhhaaDoor
open Go.RowKit

set_option maxHeartbeats 1000000 in
theorem refRight_any (F R : Int) (A : Option Addr) (n c : Nat) (xs : List Int) (D : Option Addr) (m d : Nat) (ys : List Int) (B : Nat) (w : World) (hB : B ≤ w.heap.size) (hn : n ≤ 1000000) (hm : m ≤ 1000000)
    (hF : I64 F) (hR : I64 R) (hx : NS .i64 w B A n xs) (hy : NS .i64 w B D m ys) :
    Calls Tryd.prog 40 #[.agg #[.int .i64 F, .slice A n c, .int .i64 R, .slice D m d]] w fun e w' => e = .returned (.bool (LM.right F R xs ys)) ∧ w.alloc (.cells #[.int .i64 F, .slice A n c, .int .i64 R, .slice D m d] 56) = w' := by
  have HX := Lib.hid (fun o => hx.alloc hB o)
  have HY := Lib.hid (fun o => hy.alloc hB o)
  clear hx hy
  have HF := Lib.hid hF
  have HR := Lib.hid hR
  clear hF hR
  by_cases f0 : F < 0
  · have d0 : decide (F < 0) = true := by simpa using f0
    go_enter Tryd.func40, Tryd.ntmps40
    go_wp2
    go_ret
    exact ⟨ret_bool (by rw [LM.right_no (by omega)]), rfl⟩
  have d0 : decide (F < 0) = false := by simpa using f0
  by_cases f1 : 64 < F
  · have d1 : decide (64 < F) = true := by simpa using f1
    go_enter Tryd.func40, Tryd.ntmps40
    go_wp2
    go_ret
    exact ⟨ret_bool (by rw [LM.right_no (by omega)]), rfl⟩
  have d1 : decide (64 < F) = false := by simpa using f1
  by_cases f2 : R < 0
  · have d2 : decide (R < 0) = true := by simpa using f2
    go_enter Tryd.func40, Tryd.ntmps40
    go_wp2
    go_ret
    exact ⟨ret_bool (by rw [LM.right_no (by omega)]), rfl⟩
  have d2 : decide (R < 0) = false := by simpa using f2
  by_cases f3 : 64 < R
  · have d3 : decide (64 < R) = true := by simpa using f3
    go_enter Tryd.func40, Tryd.ntmps40
    go_wp2
    go_ret
    exact ⟨ret_bool (by rw [LM.right_no (by omega)]), rfl⟩
  have d3 : decide (64 < R) = false := by simpa using f3
  have C1 := fun o => refRise_any A n c xs F B (w.alloc o) hn (HX.out o)
  have C2 := fun o => refRise_any D m d ys R B (w.alloc o) hm (HY.out o)
  by_cases r1 : LM.rise 0 F xs = true
  · simp only [r1] at C1
    by_cases r2 : LM.rise 0 R ys = true
    · simp only [r2] at C2
      have HC1 := Lib.hid C1
      have HC2 := Lib.hid C2
      have H1 := Lib.hid (r1)
      have H2 := Lib.hid (r2)
      clear C1 C2 r1 r2
      by_cases p1 : 0 < F
      · have q1 : decide (0 < F) = true := by simpa using p1
        go_enter Tryd.func40, Tryd.ntmps40
        go_wp2_with fail
        refine (HC1.out _).mono ?_
        rintro e w' ⟨rfl, rfl⟩
        go_wp2_with fail
        refine (HC2.out _).mono ?_
        rintro e w' ⟨rfl, rfl⟩
        go_wp2
        go_ret
        exact ⟨ret_bool (by rw [LM.right_yes (by omega), H1.out, H2.out]; rfl), rfl⟩
      · have q1 : decide (0 < F) = false := by simpa using p1
        by_cases p2 : 0 < R
        · have q2 : decide (0 < R) = true := by simpa using p2
          go_enter Tryd.func40, Tryd.ntmps40
          go_wp2_with fail
          refine (HC1.out _).mono ?_
          rintro e w' ⟨rfl, rfl⟩
          go_wp2_with fail
          refine (HC2.out _).mono ?_
          rintro e w' ⟨rfl, rfl⟩
          go_wp2
          go_ret
          exact ⟨ret_bool (by rw [LM.right_yes (by omega), H1.out, H2.out]; rfl), rfl⟩
        · have q2 : decide (0 < R) = false := by simpa using p2
          go_enter Tryd.func40, Tryd.ntmps40
          go_wp2_with fail
          refine (HC1.out _).mono ?_
          rintro e w' ⟨rfl, rfl⟩
          go_wp2_with fail
          refine (HC2.out _).mono ?_
          rintro e w' ⟨rfl, rfl⟩
          go_wp2
          go_ret
          exact ⟨ret_bool (by rw [LM.right_no (by omega)]), rfl⟩
    · simp only [ne_true_false r2] at C2
      have HC1 := Lib.hid C1
      have HC2 := Lib.hid C2
      have H1 := Lib.hid (r1)
      have H2 := Lib.hid (ne_true_false r2)
      clear C1 C2 r1 r2
      go_enter Tryd.func40, Tryd.ntmps40
      go_wp2_with fail
      refine (HC1.out _).mono ?_
      rintro e w' ⟨rfl, rfl⟩
      go_wp2_with fail
      refine (HC2.out _).mono ?_
      rintro e w' ⟨rfl, rfl⟩
      go_wp2
      go_ret
      exact ⟨ret_bool (by have h2 := H2.out; simp [LM.right, h2]), rfl⟩
  · simp only [ne_true_false r1] at C1
    have r2 : True := trivial
    have HC1 := Lib.hid C1
    have HC2 := Lib.hid C2
    have H1 := Lib.hid (ne_true_false r1)
    have H2 := Lib.hid (r2)
    clear C1 C2 r1 r2
    go_enter Tryd.func40, Tryd.ntmps40
    go_wp2_with fail
    refine (HC1.out _).mono ?_
    rintro e w' ⟨rfl, rfl⟩
    go_wp2_with fail
    refine (HC2.out _).mono ?_
    rintro e w' ⟨rfl, rfl⟩
    go_wp2
    go_ret
    exact ⟨ret_bool (by have h1 := H1.out; simp [LM.right, h1]), rfl⟩

set_option maxHeartbeats 1000000 in
theorem lsize_any (F R : Int) (A : Option Addr) (n c : Nat) (xs : List Int) (D : Option Addr) (m d : Nat) (ys : List Int) (C : Int) (B : Nat) (w : World) (hB : B ≤ w.heap.size) (hn : n ≤ 1000000) (hm : m ≤ 1000000)
    (hF : I64 F) (hR : I64 R) (hx : NS .i64 w B A n xs) (hy : NS .i64 w B D m ys) (hC : I64 C) :
    Calls Tryd.prog 48 #[.agg #[.int .i64 F, .slice A n c, .int .i64 R, .slice D m d], .int .i64 C] w fun e w' => e = .returned (.tuple #[.int .i64 (LM.size F R xs ys C), .int .i64 (LM.code F R xs ys C)]) ∧ Below w.heap.size w w' := by
  have CR := lright_any F R A n c xs D m d ys B (w.alloc (.cells #[.int .i64 F, .slice A n c, .int .i64 R, .slice D m d] 56)) (by simp; omega) hn hm hF hR (hx.alloc hB _) (hy.alloc hB _)
  obtain ⟨c1, c2⟩ := hC
  clear hx hy hF hR hB
  by_cases r : LM.right F R xs ys = true
  · rw [r] at CR
    have HC := Lib.hid CR
    have HR := Lib.hid r
    obtain ⟨⟨g1, g2, g3, g4, g5⟩, -, -⟩ := LM.right_parts r
    clear CR r g5
    by_cases k : 0 ≤ C ∧ C ≤ 1024 ∧ (R = 0 → C = 0)
    · obtain ⟨k1, k2, k3⟩ := k
      have e1 : decide (C < 0) = false := by simp; omega
      have e2 : decide (1024 < C) = false := by simp; omega
      have m0 : 0 ≤ C * R := Int.mul_nonneg k1 g3
      have m1 : C * R ≤ 65536 := by
        have := Int.mul_le_mul k2 g4 g3 (by omega : (0 : Int) ≤ 1024)
        omega
      have m0' : 0 ≤ R * C := by rw [Int.mul_comm]; exact m0
      have m1' : R * C ≤ 65536 := by rw [Int.mul_comm]; exact m1
      have HM := Lib.hid (Int.mul_comm C R)
      have K3 := Lib.hid k3
      clear k3
      by_cases b : 8192 < F + C * R + 1
      · have b' : 8192 < F + R * C + 1 := by rw [Int.mul_comm R C]; exact b
        have hcode := LM.code_big HR.out ⟨k1, k2, K3.out⟩ b
        have hsize := LM.size_no (show LM.code F R xs ys C ≠ 0 by rw [hcode]; decide)
        have HS := Lib.hid hsize
        have HD := Lib.hid hcode
        clear hsize hcode
        have d0 : decide (8192 < F + C * R + 1) = true := by simp; omega
        by_cases z : C = 0
        · have e3 : (C != 0) = false := by simpa using z
          clear z
          go_enter Tryd.func48, Tryd.ntmps48
          go_wp2_with fail
          refine HC.out.mono ?_
          rintro e w' ⟨rfl, rfl⟩
          go_wp2
          go_ret2
          exact ⟨by rw [HS.out, HD.out]; rfl, by exact ((Below.refl _ _).alloc (Nat.le_refl _) _).alloc (by simp) _⟩
        · have e3 : (C != 0) = true := by simpa using z
          have e4 : (R == 0) = false := by
            have := K3.out
            simp
            omega
          clear z
          go_enter Tryd.func48, Tryd.ntmps48
          go_wp2_with fail
          refine HC.out.mono ?_
          rintro e w' ⟨rfl, rfl⟩
          go_wp2
          go_ret2
          exact ⟨by rw [HS.out, HD.out]; rfl, by exact ((Below.refl _ _).alloc (Nat.le_refl _) _).alloc (by simp) _⟩
      · have hcode := LM.code_ok HR.out ⟨k1, k2, K3.out⟩ b
        have hsize := LM.size_ok hcode
        have HS := Lib.hid hsize
        have HD := Lib.hid hcode
        clear hsize hcode
        have b' : ¬ 8192 < F + R * C + 1 := by rw [Int.mul_comm R C]; exact b
        have d0 : decide (8192 < F + C * R + 1) = false := by simp; omega
        by_cases z : C = 0
        · have e3 : (C != 0) = false := by simpa using z
          clear z
          go_enter Tryd.func48, Tryd.ntmps48
          go_wp2_with fail
          refine HC.out.mono ?_
          rintro e w' ⟨rfl, rfl⟩
          go_wp2
          go_ret2
          exact ⟨by rw [HS.out, HD.out]; first | rfl | (rw [HM.out]; rfl), by exact ((Below.refl _ _).alloc (Nat.le_refl _) _).alloc (by simp) _⟩
        · have e3 : (C != 0) = true := by simpa using z
          have e4 : (R == 0) = false := by
            have := K3.out
            simp
            omega
          clear z
          go_enter Tryd.func48, Tryd.ntmps48
          go_wp2_with fail
          refine HC.out.mono ?_
          rintro e w' ⟨rfl, rfl⟩
          go_wp2
          go_ret2
          exact ⟨by rw [HS.out, HD.out]; first | rfl | (rw [HM.out]; rfl), by exact ((Below.refl _ _).alloc (Nat.le_refl _) _).alloc (by simp) _⟩
    · have hcode := LM.code_count HR.out k
      have hsize := LM.size_no (show LM.code F R xs ys C ≠ 0 by rw [hcode]; decide)
      have HS := Lib.hid hsize
      have HD := Lib.hid hcode
      clear hsize hcode
      by_cases k1 : C < 0
      · have e1 : decide (C < 0) = true := by simpa using k1
        clear k
        go_enter Tryd.func48, Tryd.ntmps48
        go_wp2_with fail
        refine HC.out.mono ?_
        rintro e w' ⟨rfl, rfl⟩
        go_wp2
        go_ret2
        exact ⟨by rw [HS.out, HD.out]; rfl, by exact ((Below.refl _ _).alloc (Nat.le_refl _) _).alloc (by simp) _⟩
      · have e1 : decide (C < 0) = false := by simpa using k1
        by_cases k2 : 1024 < C
        · have e2 : decide (1024 < C) = true := by simpa using k2
          clear k
          go_enter Tryd.func48, Tryd.ntmps48
          go_wp2_with fail
          refine HC.out.mono ?_
          rintro e w' ⟨rfl, rfl⟩
          go_wp2
          go_ret2
          exact ⟨by rw [HS.out, HD.out]; rfl, by exact ((Below.refl _ _).alloc (Nat.le_refl _) _).alloc (by simp) _⟩
        · have e2 : decide (1024 < C) = false := by simpa using k2
          have k3 : R = 0 ∧ C ≠ 0 := by
            refine ⟨?_, ?_⟩
            · by_cases z : R = 0
              · exact z
              · exact absurd ⟨by omega, by omega, fun h => absurd h z⟩ k
            · intro z
              exact k ⟨by omega, by omega, fun _ => z⟩
          have e3 : (R == 0) = true := by simpa using k3.1
          have e4 : (C != 0) = true := by simpa using k3.2
          have e5 : decide (0 < C) = true := by simp; omega
          clear k k3
          go_enter Tryd.func48, Tryd.ntmps48
          go_wp2_with fail
          refine HC.out.mono ?_
          rintro e w' ⟨rfl, rfl⟩
          go_wp2
          go_ret2
          exact ⟨by rw [HS.out, HD.out]; rfl, by exact ((Below.refl _ _).alloc (Nat.le_refl _) _).alloc (by simp) _⟩
  · rw [ne_true_false r] at CR
    have HC := Lib.hid CR
    have hcode := LM.code_wrong (C := C) (ne_true_false r)
    have hsize := LM.size_no (show LM.code F R xs ys C ≠ 0 by rw [hcode]; decide)
    have HS := Lib.hid hsize
    have HD := Lib.hid hcode
    clear hsize hcode CR r
    go_enter Tryd.func48, Tryd.ntmps48
    go_wp2_with fail
    refine HC.out.mono ?_
    rintro e w' ⟨rfl, rfl⟩
    go_wp2
    go_ret2
    exact ⟨by rw [HS.out, HD.out]; rfl, by exact ((Below.refl _ _).alloc (Nat.le_refl _) _).alloc (by simp) _⟩

set_option maxHeartbeats 1000000 in
theorem refSize_any (F R : Int) (A : Option Addr) (n c : Nat) (xs : List Int) (D : Option Addr) (m d : Nat) (ys : List Int) (C : Int) (B : Nat) (w : World) (hB : B ≤ w.heap.size) (hn : n ≤ 1000000) (hm : m ≤ 1000000)
    (hF : I64 F) (hR : I64 R) (hx : NS .i64 w B A n xs) (hy : NS .i64 w B D m ys) (hC : I64 C) :
    Calls Tryd.prog 19 #[.agg #[.int .i64 F, .slice A n c, .int .i64 R, .slice D m d], .int .i64 C] w fun e w' => e = .returned (.tuple #[.int .i64 (LM.size F R xs ys C), .int .i64 (LM.code F R xs ys C)]) ∧ Below w.heap.size w w' := by
  have CR := refRight_any F R A n c xs D m d ys B (w.alloc (.cells #[.int .i64 F, .slice A n c, .int .i64 R, .slice D m d] 56)) (by simp; omega) hn hm hF hR (hx.alloc hB _) (hy.alloc hB _)
  obtain ⟨c1, c2⟩ := hC
  clear hx hy hF hR hB
  by_cases r : LM.right F R xs ys = true
  · rw [r] at CR
    have HC := Lib.hid CR
    have HR := Lib.hid r
    obtain ⟨⟨g1, g2, g3, g4, g5⟩, -, -⟩ := LM.right_parts r
    clear CR r g5
    by_cases k : 0 ≤ C ∧ C ≤ 1024 ∧ (R = 0 → C = 0)
    · obtain ⟨k1, k2, k3⟩ := k
      have e1 : decide (C < 0) = false := by simp; omega
      have e2 : decide (1024 < C) = false := by simp; omega
      have m0 : 0 ≤ C * R := Int.mul_nonneg k1 g3
      have m1 : C * R ≤ 65536 := by
        have := Int.mul_le_mul k2 g4 g3 (by omega : (0 : Int) ≤ 1024)
        omega
      have m0' : 0 ≤ R * C := by rw [Int.mul_comm]; exact m0
      have m1' : R * C ≤ 65536 := by rw [Int.mul_comm]; exact m1
      have HM := Lib.hid (Int.mul_comm C R)
      have K3 := Lib.hid k3
      clear k3
      by_cases b : 8192 < F + C * R + 1
      · have b' : 8192 < F + R * C + 1 := by rw [Int.mul_comm R C]; exact b
        have hcode := LM.code_big HR.out ⟨k1, k2, K3.out⟩ b
        have hsize := LM.size_no (show LM.code F R xs ys C ≠ 0 by rw [hcode]; decide)
        have HS := Lib.hid hsize
        have HD := Lib.hid hcode
        clear hsize hcode
        have d0 : decide (8192 < F + R * C + 1) = true := by simp; omega
        by_cases z : R = 0
        · have e3 : (R == 0) = true := by simpa using z
          have e4 : decide (0 < C) = false := by
            have := K3.out z
            simp
            omega
          clear z
          go_enter Tryd.func19, Tryd.ntmps19
          go_wp2_with fail
          refine HC.out.mono ?_
          rintro e w' ⟨rfl, rfl⟩
          go_wp2
          go_ret2
          exact ⟨by rw [HS.out, HD.out]; rfl, by exact ((Below.refl _ _).alloc (Nat.le_refl _) _).alloc (by simp) _⟩
        · have e3 : (R == 0) = false := by simpa using z
          clear z
          go_enter Tryd.func19, Tryd.ntmps19
          go_wp2_with fail
          refine HC.out.mono ?_
          rintro e w' ⟨rfl, rfl⟩
          go_wp2
          go_ret2
          exact ⟨by rw [HS.out, HD.out]; rfl, by exact ((Below.refl _ _).alloc (Nat.le_refl _) _).alloc (by simp) _⟩
      · have hcode := LM.code_ok HR.out ⟨k1, k2, K3.out⟩ b
        have hsize := LM.size_ok hcode
        have HS := Lib.hid hsize
        have HD := Lib.hid hcode
        clear hsize hcode
        have b' : ¬ 8192 < F + R * C + 1 := by rw [Int.mul_comm R C]; exact b
        have d0 : decide (8192 < F + R * C + 1) = false := by simp; omega
        by_cases z : R = 0
        · have e3 : (R == 0) = true := by simpa using z
          have e4 : decide (0 < C) = false := by
            have := K3.out z
            simp
            omega
          clear z
          go_enter Tryd.func19, Tryd.ntmps19
          go_wp2_with fail
          refine HC.out.mono ?_
          rintro e w' ⟨rfl, rfl⟩
          go_wp2
          go_ret2
          exact ⟨by rw [HS.out, HD.out]; first | rfl | (rw [HM.out]; rfl), by exact ((Below.refl _ _).alloc (Nat.le_refl _) _).alloc (by simp) _⟩
        · have e3 : (R == 0) = false := by simpa using z
          clear z
          go_enter Tryd.func19, Tryd.ntmps19
          go_wp2_with fail
          refine HC.out.mono ?_
          rintro e w' ⟨rfl, rfl⟩
          go_wp2
          go_ret2
          exact ⟨by rw [HS.out, HD.out]; first | rfl | (rw [HM.out]; rfl), by exact ((Below.refl _ _).alloc (Nat.le_refl _) _).alloc (by simp) _⟩
    · have hcode := LM.code_count HR.out k
      have hsize := LM.size_no (show LM.code F R xs ys C ≠ 0 by rw [hcode]; decide)
      have HS := Lib.hid hsize
      have HD := Lib.hid hcode
      clear hsize hcode
      by_cases k1 : C < 0
      · have e1 : decide (C < 0) = true := by simpa using k1
        clear k
        go_enter Tryd.func19, Tryd.ntmps19
        go_wp2_with fail
        refine HC.out.mono ?_
        rintro e w' ⟨rfl, rfl⟩
        go_wp2
        go_ret2
        exact ⟨by rw [HS.out, HD.out]; rfl, by exact ((Below.refl _ _).alloc (Nat.le_refl _) _).alloc (by simp) _⟩
      · have e1 : decide (C < 0) = false := by simpa using k1
        by_cases k2 : 1024 < C
        · have e2 : decide (1024 < C) = true := by simpa using k2
          clear k
          go_enter Tryd.func19, Tryd.ntmps19
          go_wp2_with fail
          refine HC.out.mono ?_
          rintro e w' ⟨rfl, rfl⟩
          go_wp2
          go_ret2
          exact ⟨by rw [HS.out, HD.out]; rfl, by exact ((Below.refl _ _).alloc (Nat.le_refl _) _).alloc (by simp) _⟩
        · have e2 : decide (1024 < C) = false := by simpa using k2
          have k3 : R = 0 ∧ C ≠ 0 := by
            refine ⟨?_, ?_⟩
            · by_cases z : R = 0
              · exact z
              · exact absurd ⟨by omega, by omega, fun h => absurd h z⟩ k
            · intro z
              exact k ⟨by omega, by omega, fun _ => z⟩
          have e3 : (R == 0) = true := by simpa using k3.1
          have e4 : (C != 0) = true := by simpa using k3.2
          have e5 : decide (0 < C) = true := by simp; omega
          clear k k3
          go_enter Tryd.func19, Tryd.ntmps19
          go_wp2_with fail
          refine HC.out.mono ?_
          rintro e w' ⟨rfl, rfl⟩
          go_wp2
          go_ret2
          exact ⟨by rw [HS.out, HD.out]; rfl, by exact ((Below.refl _ _).alloc (Nat.le_refl _) _).alloc (by simp) _⟩
  · rw [ne_true_false r] at CR
    have HC := Lib.hid CR
    have hcode := LM.code_wrong (C := C) (ne_true_false r)
    have hsize := LM.size_no (show LM.code F R xs ys C ≠ 0 by rw [hcode]; decide)
    have HS := Lib.hid hsize
    have HD := Lib.hid hcode
    clear hsize hcode CR r
    go_enter Tryd.func19, Tryd.ntmps19
    go_wp2_with fail
    refine HC.out.mono ?_
    rintro e w' ⟨rfl, rfl⟩
    go_wp2
    go_ret2
    exact ⟨by rw [HS.out, HD.out]; rfl, by exact ((Below.refl _ _).alloc (Nat.le_refl _) _).alloc (by simp) _⟩
end Go.Proofs.YteneadimchhhhaaDoor
