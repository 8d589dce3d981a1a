/- Plain mathematics of fields laid one behind the other: no program in sight. -/
import Derived.Test.YtbiacpickfdeaaaMath3
namespace Go.Proofs.Ytbiacpickfdeaaa.FM
open Go.RowKit

/-- Fields that lie one behind the other, from the bit p to the bit q. -/
def chain : Nat → List (Int × Int) → Nat → Prop
  | p, [], q => p = q
  | p, f :: r, q => f.1 = (p : Int) ∧ 1 ≤ f.2 ∧ (p : Int) + f.2 ≤ 64 ∧ chain (p + f.2.toNat) r q

theorem chain_snoc (p q : Nat) (l : List (Int × Int)) (b : Int) (h : chain p l q) (h1 : 1 ≤ b) (h2 : (q : Int) + b ≤ 64) : chain p (l ++ [((q : Int), b)]) (q + b.toNat) := by
  induction l generalizing p with
  | nil => obtain rfl : p = q := h; exact ⟨rfl, h1, h2, rfl⟩
  | cons f r ih => exact ⟨h.1, h.2.1, h.2.2.1, ih _ h.2.2.2⟩
theorem chain_len (p q : Nat) (l : List (Int × Int)) (h : chain p l q) : p + l.length ≤ q := by
  induction l generalizing p with
  | nil => obtain rfl : p = q := h; simp
  | cons f r ih => have := ih _ h.2.2.2; have := h.2.1; simp; omega
theorem low_and (p b : Nat) : (2 ^ p - 1) &&& boN p b = 0 := by
  apply Nat.eq_of_testBit_eq
  intro i
  rw [Nat.testBit_and, Nat.testBit_two_pow_sub_one, tb_bo', Nat.zero_testBit]
  by_cases h : i < p
  · have : ¬ (p ≤ i ∧ i < p + b) := by omega
    simp [this]
  · simp [h]
theorem low_or (p b : Nat) : (2 ^ p - 1) ||| boN p b = 2 ^ (p + b) - 1 := by
  apply Nat.eq_of_testBit_eq
  intro i
  rw [Nat.testBit_or, Nat.testBit_two_pow_sub_one, tb_bo', Nat.testBit_two_pow_sub_one, Bool.eq_iff_iff]
  simp
  omega
theorem chain_apart (p q : Nat) (l : List (Int × Int)) (h : chain p l q) : apartGo (2 ^ p - 1) l = true ∧ (2 ^ p - 1) ||| mask l = 2 ^ q - 1 := by
  induction l generalizing p with
  | nil => obtain rfl : p = q := h; simp [apartGo, mask]
  | cons f r ih =>
    obtain ⟨h1, h2, h3, h4⟩ := h
    have hr : right f.1 f.2 = true := (right_iff _ _).2 (by omega)
    have e : f.1.toNat = p := by omega
    have := ih _ h4
    rw [go_next _ f r hr (by rw [e]; exact low_and p _), e, low_or, mask, e, ← Nat.or_assoc, low_or]
    exact this
theorem chain_whole (l : List (Int × Int)) (h : chain 0 l 64) : apart l = true ∧ mask l = 18446744073709551615 := by
  have := chain_apart 0 64 l h
  simp at this
  exact this
theorem and_all (x : Int) (hx : Word x) : x.toNat &&& 18446744073709551615 = x.toNat := by
  have : (18446744073709551615 : Nat) = 2 ^ 64 - 1 := by rw [pow64]
  rw [this, Nat.and_two_pow_sub_one_eq_mod, Nat.mod_eq_of_lt]
  rw [pow64]
  have := hx.2
  have := hx.1
  omega
theorem width_ex (t : Int) : ∃ n, wrap64 (1 + wrap64 ((IntKind.u64.wrap t).tmod 20)) = n ∧ 1 ≤ n ∧ n ≤ 20 := by
  refine ⟨_, rfl, ?_⟩
  have h0 : 0 ≤ IntKind.u64.wrap t := by rw [IntKind.wrap_u64]; omega
  rw [Int.tmod_eq_emod_of_nonneg h0]
  unfold wrap64
  omega
/-- The cells of some fields. -/
def flat : List (Int × Int) → List Value
  | [] => []
  | f :: r => .int .i64 f.1 :: .int .i64 f.2 :: flat r
theorem flat_len (l : List (Int × Int)) : (flat l).length = l.length * 2 := by
  induction l with
  | nil => rfl
  | cons f r ih => simp [flat, ih]; omega
theorem flat_snoc (l : List (Int × Int)) (f : Int × Int) : flat (l ++ [f]) = flat l ++ [.int .i64 f.1, .int .i64 f.2] := by
  induction l with
  | nil => rfl
  | cons g r ih => simp [flat, ih]
theorem flat_at (l : List (Int × Int)) (i : Nat) (f : Int × Int) (h : l[i]? = some f) : (flat l)[i * 2]? = some (.int .i64 f.1) ∧ (flat l)[i * 2 + 1]? = some (.int .i64 f.2) := by
  induction l generalizing i with
  | nil => simp at h
  | cons g r ih =>
    cases i with
    | zero => simp at h; subst h; simp [flat]
    | succ j =>
      have := ih j (by simpa using h)
      rw [show (j + 1) * 2 = j * 2 + 1 + 1 by omega]
      simpa [flat] using this
end Go.Proofs.Ytbiacpickfdeaaa.FM
