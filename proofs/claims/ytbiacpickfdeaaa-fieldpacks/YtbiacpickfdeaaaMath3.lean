/- Plain mathematics of packed and unpacked words: no program in sight. -/
import Derived.Test.YtbiacpickfdeaaaMath2
namespace Go.Proofs.Ytbiacpickfdeaaa.FM
open Go.RowKit

/-- The bits of some fields. -/
def mask : List (Int × Int) → Nat
  | [] => 0
  | f :: r => boN f.1.toNat f.2.toNat ||| mask r

theorem num_shift (X A B : Nat) : numN X A B * 2 ^ A = X &&& boN A B := by
  apply Nat.eq_of_testBit_eq
  intro i
  rw [Nat.testBit_mul_two_pow, tb_num, Nat.testBit_and, tb_bo]
  by_cases h : A ≤ i
  · simp [h, Bool.and_comm]
  · simp [h]
theorem num_fits (x a b : Int) : fits (num x a b) b = true := by
  have h0 : 0 ≤ num x a b := by unfold num; omega
  rw [fits_iff _ _ h0]
  unfold num numN
  rw [Int.toNat_natCast]
  exact Nat.mod_lt _ (pow_pos' _)
theorem pack_unpack (x : Int) (l : List (Int × Int)) (W : Nat) : packGo W l (l.map fun f => num x f.1 f.2) = some (W ||| (x.toNat &&& mask l)) := by
  induction l generalizing W with
  | nil => simp [packGo, mask]
  | cons f r ih =>
    rw [List.map_cons, pack_next W f r _ _ (num_fits x f.1 f.2), ih]
    congr 1
    have : (num x f.1 f.2).toNat = numN x.toNat f.1.toNat f.2.toNat := by unfold num; exact Int.toNat_natCast _
    rw [this, num_shift, mask, Nat.and_or_distrib_left, Nat.or_assoc]
theorem tb_mask (l : List (Int × Int)) (f : Int × Int) (h : f ∈ l) (i : Nat) (h1 : f.1.toNat ≤ i ∧ i < f.1.toNat + f.2.toNat) : (mask l).testBit i = true := by
  induction l with
  | nil => cases h
  | cons g r ih =>
    rw [mask, Nat.testBit_or, tb_bo']
    rcases List.mem_cons.1 h with rfl | h
    · simp [h1]
    · simp [ih h]
theorem num_masked (X : Nat) (l : List (Int × Int)) (f : Int × Int) (h : f ∈ l) : numN (X &&& mask l) f.1.toNat f.2.toNat = numN X f.1.toNat f.2.toNat := by
  apply Nat.eq_of_testBit_eq
  intro i
  rw [tb_num, tb_num]
  by_cases hi : i < f.2.toNat
  · rw [Nat.testBit_and, tb_mask l f h (i + f.1.toNat) (by omega), Bool.and_true]
  · simp [hi]
theorem unpack_masked (x : Int) (l : List (Int × Int)) : (l.map fun f => num ((x.toNat &&& mask l : Nat) : Int) f.1 f.2) = l.map fun f => num x f.1 f.2 := by
  apply List.map_congr_left
  intro f hf
  unfold num
  rw [Int.toNat_natCast, num_masked _ l f hf]
theorem masked_in (x : Int) (l : List (Int × Int)) (hx : Word x) : bits .andNot .u64 ((x.toNat &&& mask l : Nat) : Int) x = 0 := by
  obtain ⟨h0, h1⟩ := hx
  have hlt : x.toNat &&& mask l < 18446744073709551616 := Nat.lt_of_le_of_lt Nat.and_le_left (by omega)
  obtain ⟨X, rfl⟩ := Int.eq_ofNat_of_zero_le h0
  rw [Int.toNat_natCast] at *
  rw [u64_andNot_nat _ _ hlt (by omega)]
  have hX : X < 2 ^ 64 := by rw [pow64]; omega
  have e : X &&& mask l &&& (18446744073709551615 - X) = 0 := by
    apply Nat.eq_of_testBit_eq
    intro i
    have h2 := Nat.testBit_two_pow_sub_succ hX i
    rw [show 2 ^ 64 - (X + 1) = 18446744073709551615 - X by rw [pow64]; omega] at h2
    rw [Nat.testBit_and, Nat.testBit_and, h2]
    cases X.testBit i <;> simp
  rw [e]
  rfl
end Go.Proofs.Ytbiacpickfdeaaa.FM
