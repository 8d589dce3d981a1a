/- Contracts of Right and Size, of package layout and of the document's answers. -/
import Derived.Test.YteneadimchhhhaaDoorLyLeaf
namespace Go.Proofs.YteneadimchhhhaaDoor
open Go.RowKit

theorem ne_true_false {b : Bool} (h : ¬ b = true) : b = false := by simpa using h

set_option maxHeartbeats 1000000 in
theorem lright_any (F R : Int) (A : Option Addr) (n c : Nat) (xs : List Int) (D : Option Addr) (m d : Nat) (ys : List Int) (B : Nat) (w : World) (hB : B ≤ w.heap.size) (hn : n ≤ 1000000) (hm : m ≤ 1000000)
    (hF : I64 F) (hR : I64 R) (hx : NS .i64 w B A n xs) (hy : NS .i64 w B D m ys) :
    Calls Tryd.prog 60 #[.agg #[.int .i64 F, .slice A n c, .int .i64 R, .slice D m d]] w fun e w' => e = .returned (.bool (LM.right F R xs ys)) ∧ w.alloc (.cells #[.int .i64 F, .slice A n c, .int .i64 R, .slice D m d] 56) = w' := by
  have HX := Lib.hid (fun o => hx.alloc hB o)
  have HY := Lib.hid (fun o => hy.alloc hB o)
  clear hx hy
  have HF := Lib.hid hF
  have HR := Lib.hid hR
  clear hF hR
  by_cases f0 : F < 0
  · have d0 : decide (F < 0) = true := by simpa using f0
    go_enter Tryd.func60, Tryd.ntmps60
    go_wp2
    go_ret
    exact ⟨ret_bool (by rw [LM.right_no (by omega)]), rfl⟩
  have d0 : decide (F < 0) = false := by simpa using f0
  by_cases f1 : 64 < F
  · have d1 : decide (64 < F) = true := by simpa using f1
    go_enter Tryd.func60, Tryd.ntmps60
    go_wp2
    go_ret
    exact ⟨ret_bool (by rw [LM.right_no (by omega)]), rfl⟩
  have d1 : decide (64 < F) = false := by simpa using f1
  by_cases f2 : R < 0
  · have d2 : decide (R < 0) = true := by simpa using f2
    go_enter Tryd.func60, Tryd.ntmps60
    go_wp2
    go_ret
    exact ⟨ret_bool (by rw [LM.right_no (by omega)]), rfl⟩
  have d2 : decide (R < 0) = false := by simpa using f2
  by_cases f3 : 64 < R
  · have d3 : decide (64 < R) = true := by simpa using f3
    go_enter Tryd.func60, Tryd.ntmps60
    go_wp2
    go_ret
    exact ⟨ret_bool (by rw [LM.right_no (by omega)]), rfl⟩
  have d3 : decide (64 < R) = false := by simpa using f3
  by_cases f4 : F = 0 ∧ R = 0
  · obtain ⟨rfl, rfl⟩ := f4
    go_enter Tryd.func60, Tryd.ntmps60
    go_wp2
    go_ret
    exact ⟨ret_bool (by rw [LM.right_no (by omega)]), rfl⟩
  have he : LM.right F R xs ys = (LM.rise 0 F xs && LM.rise 0 R ys) := LM.right_yes (by omega)
  have HE := Lib.hid he
  have d4 : (F == 0 && R == 0) = false := by simpa using f4
  have H4 := Lib.hid f4
  clear he f4
  have C1 := fun o => lrise_any A n c xs F B (w.alloc o) hn HF.out (HX.out o)
  have C2 := fun o => lrise_any D m d ys R B (w.alloc o) hm HR.out (HY.out o)
  by_cases r1 : LM.rise 0 F xs = true
  · simp only [r1] at C1
    by_cases r2 : LM.rise 0 R ys = true
    · simp only [r2] at C2
      have HC1 := Lib.hid C1
      have HC2 := Lib.hid C2
      have H1 := Lib.hid r1
      have H2 := Lib.hid r2
      clear C1 C2 r1 r2
      by_cases z : F = 0
      · have z1 : (F == 0) = true := by simpa using z
        have z2 : (R == 0) = false := by have := H4.out; simp; omega
        clear z d4
        go_enter Tryd.func60, Tryd.ntmps60
        go_wp2_with fail
        refine (HC1.out _).mono ?_
        rintro e w' ⟨rfl, rfl⟩
        go_wp2_with fail
        refine (HC2.out _).mono ?_
        rintro e w' ⟨rfl, rfl⟩
        go_wp2
        go_ret
        exact ⟨ret_bool (by rw [HE.out, H1.out, H2.out]; rfl), rfl⟩
      · have z1 : (F == 0) = false := by simpa using z
        clear z d4
        go_enter Tryd.func60, Tryd.ntmps60
        go_wp2_with fail
        refine (HC1.out _).mono ?_
        rintro e w' ⟨rfl, rfl⟩
        go_wp2_with fail
        refine (HC2.out _).mono ?_
        rintro e w' ⟨rfl, rfl⟩
        go_wp2
        go_ret
        exact ⟨ret_bool (by rw [HE.out, H1.out, H2.out]; rfl), rfl⟩
    · simp only [ne_true_false r2] at C2
      have HC1 := Lib.hid C1
      have HC2 := Lib.hid C2
      have H1 := Lib.hid r1
      have H2 := Lib.hid (ne_true_false r2)
      clear C1 C2 r1 r2
      by_cases z : F = 0
      · have z1 : (F == 0) = true := by simpa using z
        have z2 : (R == 0) = false := by have := H4.out; simp; omega
        clear z d4
        go_enter Tryd.func60, Tryd.ntmps60
        go_wp2_with fail
        refine (HC1.out _).mono ?_
        rintro e w' ⟨rfl, rfl⟩
        go_wp2_with fail
        refine (HC2.out _).mono ?_
        rintro e w' ⟨rfl, rfl⟩
        go_wp2
        go_ret
        exact ⟨ret_bool (by rw [HE.out, H1.out, H2.out]; rfl), rfl⟩
      · have z1 : (F == 0) = false := by simpa using z
        clear z d4
        go_enter Tryd.func60, Tryd.ntmps60
        go_wp2_with fail
        refine (HC1.out _).mono ?_
        rintro e w' ⟨rfl, rfl⟩
        go_wp2_with fail
        refine (HC2.out _).mono ?_
        rintro e w' ⟨rfl, rfl⟩
        go_wp2
        go_ret
        exact ⟨ret_bool (by rw [HE.out, H1.out, H2.out]; rfl), rfl⟩
  · simp only [ne_true_false r1] at C1
    have HC1 := Lib.hid C1
    have H1 := Lib.hid (ne_true_false r1)
    clear C1 C2 r1
    by_cases z : F = 0
    · have z1 : (F == 0) = true := by simpa using z
      have z2 : (R == 0) = false := by have := H4.out; simp; omega
      clear z d4
      go_enter Tryd.func60, Tryd.ntmps60
      go_wp2_with fail
      refine (HC1.out _).mono ?_
      rintro e w' ⟨rfl, rfl⟩
      go_wp2
      go_ret
      exact ⟨ret_bool (by rw [HE.out, H1.out]; rfl), rfl⟩
    · have z1 : (F == 0) = false := by simpa using z
      clear z d4
      go_enter Tryd.func60, Tryd.ntmps60
      go_wp2_with fail
      refine (HC1.out _).mono ?_
      rintro e w' ⟨rfl, rfl⟩
      go_wp2
      go_ret
      exact ⟨ret_bool (by rw [HE.out, H1.out]; rfl), rfl⟩
end Go.Proofs.YteneadimchhhhaaDoor
