/- Plain mathematics of the document's answers for fields, bit by bit: no program in sight. -/
import Derived.Test.YtbiacpickfdeaaaMath
namespace Go.Proofs.Ytbiacpickfdeaaa.FM
open Go.RowKit

theorem tb_bo (A B i : Nat) : (boN A B).testBit i = (decide (A ≤ i) && decide (i - A < B)) := by
  unfold boN
  rw [Nat.testBit_mul_two_pow, Nat.testBit_two_pow_sub_one]
theorem tb_bo' (A B i : Nat) : (boN A B).testBit i = decide (A ≤ i ∧ i < A + B) := by
  rw [tb_bo, Bool.eq_iff_iff]; simp; omega
theorem tb_not (A B i : Nat) (h : A + B ≤ 64) : (18446744073709551615 - boN A B).testBit i = (decide (i < 64) && !(boN A B).testBit i) := by
  have hb := boN_lt A B h
  rw [← pow64] at hb
  have := Nat.testBit_two_pow_sub_succ hb i
  rw [← this, pow64]
  congr 1
  omega
theorem tb_put (X A B Y i : Nat) (h : A + B ≤ 64) (hY : Y < 2 ^ B) (hi : i < 64) : (putN X A B Y).testBit i = if A ≤ i ∧ i < A + B then Y.testBit (i - A) else X.testBit i := by
  unfold putN
  rw [Nat.testBit_or, Nat.testBit_and, tb_not A B i h, tb_bo', Nat.testBit_mul_two_pow]
  by_cases h1 : A ≤ i ∧ i < A + B
  · rw [if_pos h1]; simp [h1, hi]
  · rw [if_neg h1]
    by_cases h2 : A ≤ i
    · have : Y.testBit (i - A) = false := Nat.testBit_lt_two_pow (Nat.lt_of_lt_of_le hY (Nat.pow_le_pow_right (by decide) (by omega)))
      simp [this, hi]
      intro _
      omega
    · simp [h2, hi]

theorem get_step (X A k n : Nat) : numN X (A + k) (n + 1) = 2 * numN X (A + (k + 1)) n + (X.testBit (A + k)).toNat := by
  unfold numN
  rw [Nat.toNat_testBit, Nat.pow_succ, Nat.mul_comm (2 ^ n) 2, Nat.mod_mul, ← Nat.add_assoc A k 1, Nat.pow_succ, ← Nat.div_div_eq_div_mul]
  omega
theorem numN_lt (X A B : Nat) (h : B ≤ 64) : numN X A B < 18446744073709551616 := by
  unfold numN
  have := pow_le64 B h
  have := Nat.mod_lt (X / 2 ^ A) (pow_pos' B)
  omega
theorem numN_zero (X A : Nat) : numN X A 0 = 0 := by unfold numN; simp [Nat.mod_one]

/-- A round of the document's Get. -/
theorem get_round (x a b : Int) (k : Nat) (h : right a b = true) (hk : (k : Int) + 1 ≤ b) :
    IntKind.u64.wrap (IntKind.u64.wrap (2 * (numN x.toNat (a.toNat + (k + 1)) (b.toNat - (k + 1)) : Int)) + bit x (a + k)) = (numN x.toNat (a.toNat + k) (b.toNat - k) : Int) := by
  obtain ⟨h1, h2, h3, h4⟩ := (right_iff a b).1 h
  have e1 : (a + (k : Int)).toNat = a.toNat + k := by omega
  have e2 : b.toNat - k = (b.toNat - (k + 1)) + 1 := by omega
  have hs := get_step x.toNat a.toNat k (b.toNat - (k + 1))
  rw [← e2] at hs
  have hl := numN_lt x.toNat (a.toNat + k) (b.toNat - k) (by omega)
  unfold bit
  rw [e1, IntKind.wrap_u64, IntKind.wrap_u64]
  generalize (x.toNat.testBit (a.toNat + k)).toNat = t at *
  omega

theorem div_step (T k : Nat) : T / 2 ^ k = 2 * (T / 2 ^ (k + 1)) + (T.testBit k).toNat := by
  rw [Nat.toNat_testBit, Nat.pow_succ, ← Nat.div_div_eq_div_mul]
  omega
/-- A round of the document's Put. -/
theorem put_round (T k : Nat) (hT : T < 18446744073709551616) :
    IntKind.u64.wrap (IntKind.u64.wrap (2 * ((T / 2 ^ (k + 1) : Nat) : Int)) + ((T.testBit k).toNat : Int)) = ((T / 2 ^ k : Nat) : Int) := by
  have hs := div_step T k
  have hl : T / 2 ^ k ≤ T := Nat.div_le_self _ _
  rw [IntKind.wrap_u64, IntKind.wrap_u64]
  generalize (T.testBit k).toNat = t at *
  omega
theorem put_in (x a b y : Int) (k : Nat) (h : right a b = true) (hy : 0 ≤ y) (hf : fits y b = true) (h1 : a ≤ k) (h2 : (k : Int) < a + b) : bit y (k - a) = (((putN x.toNat a.toNat b.toNat y.toNat).testBit k).toNat : Int) := by
  obtain ⟨g1, g2, g3, g4⟩ := (right_iff a b).1 h
  rw [tb_put _ _ _ _ k (by omega) ((fits_iff y b hy).1 hf) (by omega), if_pos (by omega)]
  unfold bit
  rw [show ((k : Int) - a).toNat = k - a.toNat by omega]
theorem put_out (x a b y : Int) (k : Nat) (h : right a b = true) (hy : 0 ≤ y) (hf : fits y b = true) (hk : k < 64) (h1 : ¬ (a ≤ k ∧ (k : Int) < a + b)) : bit x k = (((putN x.toNat a.toNat b.toNat y.toNat).testBit k).toNat : Int) := by
  obtain ⟨g1, g2, g3, g4⟩ := (right_iff a b).1 h
  rw [tb_put _ _ _ _ k (by omega) ((fits_iff y b hy).1 hf) hk, if_neg (by omega)]
  unfold bit
  rw [Int.toNat_natCast]
theorem div64 (T : Nat) (hT : T < 18446744073709551616) : T / 2 ^ 64 = 0 := by rw [pow64]; omega

theorem fits_lt (y b : Int) (h0 : 0 ≤ y) (hb1 : b ≤ 63) : fits y b = decide (y < IntKind.u64.wrap (2 ^ b.toNat)) := by
  rw [wrap_pow b hb1, Bool.eq_iff_iff, fits_iff y b h0]
  have hp : (2 : Int) ^ b.toNat = ((2 ^ b.toNat : Nat) : Int) := by simp
  rw [hp]
  simp
  omega
theorem fits_64 (y : Int) (h : Word y) : fits y 64 = true := by
  rw [fits_iff y 64 h.1]
  have h1 := h.1
  have h2 := h.2
  have e : (2 : Nat) ^ (64 : Int).toNat = 18446744073709551616 := by decide
  rw [e]
  omega

theorem tb_num (X A B i : Nat) : (numN X A B).testBit i = (decide (i < B) && X.testBit (i + A)) := by
  unfold numN
  rw [Nat.testBit_mod_two_pow, Nat.testBit_div_two_pow]
theorem num_put_same (X A B Y : Nat) (h : A + B ≤ 64) (hY : Y < 2 ^ B) : numN (putN X A B Y) A B = Y := by
  apply Nat.eq_of_testBit_eq
  intro i
  rw [tb_num]
  by_cases hi : i < B
  · rw [tb_put X A B Y (i + A) h hY (by omega), if_pos (by omega)]
    simp [hi]
  · have : Y.testBit i = false := Nat.testBit_lt_two_pow (Nat.lt_of_lt_of_le hY (Nat.pow_le_pow_right (by decide) (by omega)))
    simp [hi, this]
theorem bo_share (A B C D i : Nat) (h : boN A B &&& boN C D = 0) (h1 : A ≤ i ∧ i < A + B) (h2 : C ≤ i ∧ i < C + D) : False := by
  have := congrArg (fun n => n.testBit i) h
  simp only [Nat.testBit_and, Nat.zero_testBit, tb_bo', h1, h2] at this
  cases this
theorem num_put_other (X A B Y C D : Nat) (h : A + B ≤ 64) (hY : Y < 2 ^ B) (hC : C + D ≤ 64) (hs : boN A B &&& boN C D = 0) : numN (putN X A B Y) C D = numN X C D := by
  apply Nat.eq_of_testBit_eq
  intro i
  rw [tb_num, tb_num]
  by_cases hi : i < D
  · rw [tb_put X A B Y (i + C) h hY (by omega), if_neg ?_]
    intro hh
    exact bo_share A B C D (i + C) hs hh (by omega)
  · simp [hi]
theorem put_got (x a b z : Int) (h : right a b = true) (hz : 0 ≤ z) (hf : fits z b = true) : num (put x a b z) a b = z := by
  obtain ⟨g1, g2, g3, g4⟩ := (right_iff a b).1 h
  have := num_put_same x.toNat a.toNat b.toNat z.toNat (by omega) ((fits_iff z b hz).1 hf)
  unfold num put
  rw [Int.toNat_natCast, this]
  omega
theorem put_kept (x a b z c d : Int) (ha : apart [(a, b), (c, d)] = true) (hz : 0 ≤ z) (hf : fits z b = true) : num (put x a b z) c d = num x c d := by
  simp [apart, apartGo] at ha
  obtain ⟨h1, h2, h3⟩ := ha
  obtain ⟨g1, g2, g3, g4⟩ := (right_iff a b).1 h1
  obtain ⟨k1, k2, k3, k4⟩ := (right_iff c d).1 h2
  have := num_put_other x.toNat a.toNat b.toNat z.toNat c.toNat d.toNat (by omega) ((fits_iff z b hz).1 hf) (by omega) h3
  unfold num put
  rw [Int.toNat_natCast, this]
theorem cutw_ex (y b : Int) (h1 : 1 ≤ b) (h2 : b ≤ 64) : ∃ z, IntKind.u64.wrap (y * 2 ^ (64 - b).toNat) / 2 ^ (64 - b).toNat = z ∧ Word z ∧ fits z b = true := by
  refine ⟨_, rfl, ?_⟩
  have hw : Word (IntKind.u64.wrap (y * 2 ^ (64 - b).toNat)) := by rw [IntKind.wrap_u64]; constructor <;> omega
  generalize IntKind.u64.wrap (y * 2 ^ (64 - b).toNat) = u at *
  have hs := shr_word u (64 - b) hw
  refine ⟨hs, (fits_iff _ b hs.1).2 ?_⟩
  rw [shr_toNat u (64 - b) hw.1]
  apply Nat.div_lt_of_lt_mul
  rw [← Nat.pow_add, show (64 - b).toNat + b.toNat = 64 by omega, pow64]
  have := hw.1
  have := hw.2
  omega
end Go.Proofs.Ytbiacpickfdeaaa.FM
