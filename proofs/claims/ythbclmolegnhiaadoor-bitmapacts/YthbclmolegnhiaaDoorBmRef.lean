/- Contracts of First, Run, All, Same of the document's answers. -/
import Derived.Test.YthbclmolegnhiaaDoorBmMeth3
namespace Go.Proofs.YthbclmolegnhiaaDoor
open Go.RowKit

theorem firstVal_yes {f : Nat → Bool} {n : Nat} {i : Int} {k : Nat} (hk : k < n) (h1 : i ≤ k) (hf : f k = false) (h2 : ∀ q : Nat, i ≤ q → q < k → f q = true) : firstVal f n i = .tuple #[.int .i64 (k : Nat), .bool true] := by
  unfold firstVal
  have e : BM.nx f n false i.toNat = k := BM.nx_eq _ _ _ _ _ (by omega) (fun q a b => by rw [h2 q (by omega) b]; rfl) (fun _ => ⟨by omega, hf⟩)
  rw [e, if_pos hk]
theorem firstVal_no {f : Nat → Bool} {n : Nat} {i : Int} (h2 : ∀ q : Nat, i ≤ q → q < n → f q = true) : firstVal f n i = .tuple #[.int .i64 0, .bool false] := by
  unfold firstVal
  have e : BM.nx f n false i.toNat = n := BM.nx_eq _ _ _ _ _ (by omega) (fun q a b => by rw [h2 q (by omega) b]; rfl) (fun h => absurd h (by omega))
  rw [e, if_neg (by omega)]

set_option maxHeartbeats 400000 in
theorem refFirst_any (r n : Nat) (i : Int) (f : Nat → Bool) (w : World) (h2 : n ≤ 1048576) (h : RefAt w r n f) :
    Calls Tryd.prog 20 #[.slice (some ⟨r, 0, none⟩) n n, .int .i64 i] w fun e w' => e = .returned (firstVal f n i) ∧ w = w' := by
  go_enter Tryd.func20, Tryd.ntmps20
  go_wp2
  go_loop [6] (fun x => ∃ k : Nat, k ≤ n ∧ x = .int .i64 k ∧ Hid (∀ q : Nat, i ≤ q → q < k → f q = true)) (fun x => n - (intOf x).toNat)
  case atStart => exact ⟨0, Nat.zero_le _, rfl, fun q _ h => absurd h (by omega)⟩
  case round =>
    obtain ⟨k, hk, rfl, H⟩ := hrel
    by_cases hlt : k < n
    · have c0 := h.cell k hlt
      by_cases hi : i ≤ k
      · cases hf : f k
        · rw [hf] at c0
          have HF := Lib.hid hf
          clear hf
          go_wp2
          go_ret2
          exact ⟨by rw [firstVal_yes hlt hi HF.out H.out]; rfl, rfl⟩
        · rw [hf] at c0
          have HF := Lib.hid hf
          clear hf
          go_wp2
          go_round
          case rel => 
            refine ⟨k + 1, by omega, by go_num, fun q a b => ?_⟩
            by_cases e : q = k
            · subst e; exact HF.out
            · exact H.out q a (by omega)
          case measure => simp [intOf]; omega
      · have d : decide (i ≤ (k : Int)) = false := by simp; omega
        go_wp2
        go_round
        case rel => exact ⟨k + 1, by omega, by go_num, fun q a b => absurd a (by omega)⟩
        case measure => simp [intOf]; omega
    · obtain rfl : k = n := by omega
      go_wp2
      go_ret2
      exact ⟨by rw [firstVal_no H.out]; rfl, rfl⟩

theorem refRun_small (A : Option Addr) (n c : Nat) (k : Int) (w : World) (hk : k < 1) :
    Calls Tryd.prog 21 #[.slice A n c, .int .i64 k] w fun e w' => e = .returned (.tuple #[.int .i64 0, .bool false]) ∧ w = w' := by
  go_enter Tryd.func21, Tryd.ntmps21
  go_wp2
  go_ret2
  exact ⟨rfl, rfl⟩

set_option maxHeartbeats 1000000 in
theorem refRun_big (r n k : Nat) (f : Nat → Bool) (w : World) (h2 : n ≤ 1048576) (h : RefAt w r n f) (hk : 1 ≤ k) (hk2 : k ≤ 9223372036854775807) :
    Calls Tryd.prog 21 #[.slice (some ⟨r, 0, none⟩) n n, .int .i64 k] w fun e w' => e = .returned (runVal f n k) ∧ w = w' := by
  go_enter Tryd.func21, Tryd.ntmps21
  go_wp2
  go_loop [6, 7] (fun y x => ∃ i m : Nat, i ≤ n ∧ x = .int .i64 i ∧ y = .int .i64 m ∧ BM.RowSt f k i m) (fun _ x => n - (intOf x).toNat)
  case atStart => exact ⟨0, 0, Nat.zero_le _, rfl, rfl, BM.row_start f k hk⟩
  case round =>
    obtain ⟨i, m, hi, rfl, rfl, hst⟩ := hrel
    by_cases hlt : i < n
    · have c0 := h.cell i hlt
      have hm := hst.1
      have hm2 := hst.2.1
      cases hf : f i
      · rw [hf] at c0
        by_cases hr : m + 1 = k
        · have HR := Lib.hid (BM.row_found f n k i m hst hf hr hlt)
          have d : ((m : Int) + 1 == (k : Int)) = true := by simp; omega
          clear hf hr
          go_wp2
          go_ret2
          obtain ⟨r1, r2, r3⟩ := HR.out
          refine ⟨?_, rfl⟩
          rw [runVal_yes hk r1 r2, show ((i + 1 - k : Nat) : Int) = (i : Int) - (k : Int) + 1 by omega]
          rfl
        · have HR := Lib.hid (BM.row_off f k i m hst hf (by omega))
          have d : ((m : Int) + 1 == (k : Int)) = false := by simp; omega
          clear hf
          go_wp2
          go_round
          case rel => exact ⟨i + 1, m + 1, by omega, by go_num, by go_num, HR.out⟩
          case measure => simp [intOf]; omega
      · rw [hf] at c0
        have HR := Lib.hid (BM.row_on f k i m hk hst hf)
        have d : ((0 : Int) == (k : Int)) = false := by simp; omega
        clear hf
        go_wp2
        go_round
        case rel => exact ⟨i + 1, 0, by omega, by go_num, by go_num, HR.out⟩
        case measure => simp [intOf]; omega
    · obtain rfl : i = n := by omega
      go_wp2
      go_ret2
      exact ⟨by rw [runVal_no (by rw [BM.row_end _ _ _ _ hst]; omega)]; rfl, rfl⟩
theorem refRun_any (r n : Nat) (k : Int) (f : Nat → Bool) (w : World) (h2 : n ≤ 1048576) (h : RefAt w r n f) (hk2 : k ≤ 9223372036854775807) :
    Calls Tryd.prog 21 #[.slice (some ⟨r, 0, none⟩) n n, .int .i64 k] w fun e w' => e = .returned (runVal f n k) ∧ w = w' := by
  by_cases hk : k < 1
  · unfold runVal
    rw [if_neg (by omega)]
    exact refRun_small _ _ _ k w hk
  · obtain ⟨j, rfl⟩ := Int.eq_ofNat_of_zero_le (show 0 ≤ k by omega)
    exact refRun_big r n j f w h2 h (by omega) (by omega)
end Go.Proofs.YthbclmolegnhiaaDoor
