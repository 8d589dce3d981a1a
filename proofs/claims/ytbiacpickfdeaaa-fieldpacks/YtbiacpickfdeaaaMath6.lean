/- Plain mathematics: putting numbers into fields that are apart is packing them. No program in sight. -/
import Derived.Test.YtbiacpickfdeaaaMath5
namespace Go.Proofs.Ytbiacpickfdeaaa.FM
open Go.RowKit

/-- T has no bits but those of t. -/
def sub (T t : Nat) : Prop := ∀ i, T.testBit i = true → t.testBit i = true
theorem sub_zero (t : Nat) : sub 0 t := by intro i h; simp at h
theorem put_or (T t A B Y : Nat) (hT : T < 18446744073709551616) (h : A + B ≤ 64) (hs : sub T t) (h0 : t &&& boN A B = 0) : putN T A B Y = T ||| Y * 2 ^ A := by
  unfold putN
  congr 1
  apply Nat.eq_of_testBit_eq
  intro i
  rw [Nat.testBit_and, tb_not A B i h]
  cases hb : T.testBit i with
  | false => rfl
  | true =>
    have ht := hs i hb
    have hi : i < 64 := by
      rcases Nat.lt_or_ge i 64 with h | h
      · exact h
      · rw [Nat.testBit_lt_two_pow (Nat.lt_of_lt_of_le (by rw [pow64]; exact hT) (Nat.pow_le_pow_right (by decide) h))] at hb
        cases hb
    have h1 := congrArg (fun n => n.testBit i) h0
    simp only [Nat.testBit_and, Nat.zero_testBit, ht, Bool.true_and] at h1
    simp [hi, h1]
theorem sub_or (T t A B Y : Nat) (hs : sub T t) (hY : Y < 2 ^ B) : sub (T ||| Y * 2 ^ A) (t ||| boN A B) := by
  intro i h
  rw [Nat.testBit_or] at h ⊢
  rw [Bool.or_eq_true] at h ⊢
  rcases h with h | h
  · exact .inl (hs i h)
  · right
    rw [Nat.testBit_mul_two_pow] at h
    simp at h
    obtain ⟨h1, h2⟩ := h
    rw [tb_bo]
    simp [h1]
    rcases Nat.lt_or_ge (i - A) B with h3 | h3
    · exact h3
    · rw [Nat.testBit_lt_two_pow (Nat.lt_of_lt_of_le hY (Nat.pow_le_pow_right (by decide) h3))] at h2
      cases h2
theorem apart_step (t : Nat) (f : Int × Int) (r : List (Int × Int)) (h : apartGo t (f :: r) = true) : right f.1 f.2 = true ∧ t &&& boN f.1.toNat f.2.toNat = 0 ∧ apartGo (t ||| boN f.1.toNat f.2.toNat) r = true := by
  simp only [apartGo, Bool.and_eq_true, beq_iff_eq] at h
  exact ⟨h.1.1, h.1.2, h.2⟩
theorem put_pack (T t : Nat) (a d x : Int) (hT : T < 18446744073709551616) (hr : right a d = true) (h0 : t &&& boN a.toNat d.toNat = 0) (hs : sub T t) (hx : 0 ≤ x) (hf : fits x d = true) :
    put T a d x = ((T ||| x.toNat * 2 ^ a.toNat : Nat) : Int) ∧ sub (T ||| x.toNat * 2 ^ a.toNat) (t ||| boN a.toNat d.toNat) ∧ T ||| x.toNat * 2 ^ a.toNat < 18446744073709551616 := by
  obtain ⟨g1, g2, g3, g4⟩ := (right_iff a d).1 hr
  refine ⟨?_, sub_or T t _ _ _ hs ((fits_iff x d hx).1 hf), (pack_or T x a d hT hx hr hf).2⟩
  unfold put
  rw [Int.toNat_natCast, put_or T t a.toNat d.toNat x.toNat hT (by omega) hs h0]
end Go.Proofs.Ytbiacpickfdeaaa.FM
