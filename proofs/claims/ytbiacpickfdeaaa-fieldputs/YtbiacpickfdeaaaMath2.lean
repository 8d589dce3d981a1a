/- Plain mathematics of the document's answers for fields, bit by bit: no program in sight. -/
import Derived.Test.YtbiacpickfdeaaaMath
namespace Go.Proofs.Ytbiacpickfdeaaa.FM
open Go.RowKit

theorem tb_bo (A B i : Nat) : (boN A B).testBit i = (decide (A ≤ i) && decide (i - A < B)) := by
  unfold boN
  rw [Nat.testBit_mul_two_pow, Nat.testBit_two_pow_sub_one]
theorem tb_bo' (A B i : Nat) : (boN A B).testBit i = decide (A ≤ i ∧ i < A + B) := by
  rw [tb_bo, Bool.eq_iff_iff]; simp; omega
theorem tb_not (A B i : Nat) (h : A + B ≤ 64) : (18446744073709551615 - boN A B).testBit i = (decide (i < 64) && !(boN A B).testBit i) := by
  have hb := boN_lt A B h
  rw [← pow64] at hb
  have := Nat.testBit_two_pow_sub_succ hb i
  rw [← this, pow64]
  congr 1
  omega
theorem tb_put (X A B Y i : Nat) (h : A + B ≤ 64) (hY : Y < 2 ^ B) (hi : i < 64) : (putN X A B Y).testBit i = if A ≤ i ∧ i < A + B then Y.testBit (i - A) else X.testBit i := by
  unfold putN
  rw [Nat.testBit_or, Nat.testBit_and, tb_not A B i h, tb_bo', Nat.testBit_mul_two_pow]
  by_cases h1 : A ≤ i ∧ i < A + B
  · rw [if_pos h1]; simp [h1, hi]
  · rw [if_neg h1]
    by_cases h2 : A ≤ i
    · have : Y.testBit (i - A) = false := Nat.testBit_lt_two_pow (Nat.lt_of_lt_of_le hY (Nat.pow_le_pow_right (by decide) (by omega)))
      simp [this, hi]
      intro _
      omega
    · simp [h2, hi]

theorem get_step (X A k n : Nat) : numN X (A + k) (n + 1) = 2 * numN X (A + (k + 1)) n + (X.testBit (A + k)).toNat := by
  unfold numN
  rw [Nat.toNat_testBit, Nat.pow_succ, Nat.mul_comm (2 ^ n) 2, Nat.mod_mul, ← Nat.add_assoc A k 1, Nat.pow_succ, ← Nat.div_div_eq_div_mul]
  omega
theorem numN_lt (X A B : Nat) (h : B ≤ 64) : numN X A B < 18446744073709551616 := by
  unfold numN
  have := pow_le64 B h
  have := Nat.mod_lt (X / 2 ^ A) (pow_pos' B)
  omega
theorem numN_zero (X A : Nat) : numN X A 0 = 0 := by unfold numN; simp [Nat.mod_one]

/-- A round of the document's Get. -/
theorem get_round (x a b : Int) (k : Nat) (h : right a b = true) (hk : (k : Int) + 1 ≤ b) :
    IntKind.u64.wrap (IntKind.u64.wrap (2 * (numN x.toNat (a.toNat + (k + 1)) (b.toNat - (k + 1)) : Int)) + bit x (a + k)) = (numN x.toNat (a.toNat + k) (b.toNat - k) : Int) := by
  obtain ⟨h1, h2, h3, h4⟩ := (right_iff a b).1 h
  have e1 : (a + (k : Int)).toNat = a.toNat + k := by omega
  have e2 : b.toNat - k = (b.toNat - (k + 1)) + 1 := by omega
  have hs := get_step x.toNat a.toNat k (b.toNat - (k + 1))
  rw [← e2] at hs
  have hl := numN_lt x.toNat (a.toNat + k) (b.toNat - k) (by omega)
  unfold bit
  rw [e1, IntKind.wrap_u64, IntKind.wrap_u64]
  generalize (x.toNat.testBit (a.toNat + k)).toNat = t at *
  omega

theorem div_step (T k : Nat) : T / 2 ^ k = 2 * (T / 2 ^ (k + 1)) + (T.testBit k).toNat := by
  rw [Nat.toNat_testBit, Nat.pow_succ, ← Nat.div_div_eq_div_mul]
  omega
/-- A round of the document's Put. -/
theorem put_round (T k : Nat) (hT : T < 18446744073709551616) :
    IntKind.u64.wrap (IntKind.u64.wrap (2 * ((T / 2 ^ (k + 1) : Nat) : Int)) + ((T.testBit k).toNat : Int)) = ((T / 2 ^ k : Nat) : Int) := by
  have hs := div_step T k
  have hl : T / 2 ^ k ≤ T := Nat.div_le_self _ _
  rw [IntKind.wrap_u64, IntKind.wrap_u64]
  generalize (T.testBit k).toNat = t at *
  omega
theorem put_in (x a b y : Int) (k : Nat) (h : right a b = true) (hy : 0 ≤ y) (hf : fits y b = true) (h1 : a ≤ k) (h2 : (k : Int) < a + b) : bit y (k - a) = (((putN x.toNat a.toNat b.toNat y.toNat).testBit k).toNat : Int) := by
  obtain ⟨g1, g2, g3, g4⟩ := (right_iff a b).1 h
  rw [tb_put _ _ _ _ k (by omega) ((fits_iff y b hy).1 hf) (by omega), if_pos (by omega)]
  unfold bit
  rw [show ((k : Int) - a).toNat = k - a.toNat by omega]
theorem put_out (x a b y : Int) (k : Nat) (h : right a b = true) (hy : 0 ≤ y) (hf : fits y b = true) (hk : k < 64) (h1 : ¬ (a ≤ k ∧ (k : Int) < a + b)) : bit x k = (((putN x.toNat a.toNat b.toNat y.toNat).testBit k).toNat : Int) := by
  obtain ⟨g1, g2, g3, g4⟩ := (right_iff a b).1 h
  rw [tb_put _ _ _ _ k (by omega) ((fits_iff y b hy).1 hf) hk, if_neg (by omega)]
  unfold bit
  rw [Int.toNat_natCast]
theorem div64 (T : Nat) (hT : T < 18446744073709551616) : T / 2 ^ 64 = 0 := by rw [pow64]; omega

theorem fits_lt (y b : Int) (h0 : 0 ≤ y) (hb1 : b ≤ 63) : fits y b = decide (y < IntKind.u64.wrap (2 ^ b.toNat)) := by
  rw [wrap_pow b hb1, Bool.eq_iff_iff, fits_iff y b h0]
  have hp : (2 : Int) ^ b.toNat = ((2 ^ b.toNat : Nat) : Int) := by simp
  rw [hp]
  simp
  omega
theorem fits_64 (y : Int) (h : Word y) : fits y 64 = true := by
  rw [fits_iff y 64 h.1]
  have h1 := h.1
  have h2 := h.2
  have e : (2 : Nat) ^ (64 : Int).toNat = 18446744073709551616 := by decide
  rw [e]
  omega
end Go.Proofs.Ytbiacpickfdeaaa.FM
