/- Plain mathematics of the raw words of layouts: the bits that are on as a rising list, and back. -/
import Derived.Test.YtaffceodcfgeeaaDoorLyEnc
import Derived.Test.YtaffceodcfgeeaaDoorBmMath
import Derived.Test.YtaffceodcfgeeaaDoorMath
namespace Go.Proofs.YtaffceodcfgeeaaDoor
namespace LM

/-- The numbers of the bits that are on, rising. -/
def bl (W : Nat) : List Int := picks (fun x => W.testBit x.toNat) 64
theorem mem_bl (W : Nat) (x : Int) : x ∈ bl W ↔ 0 ≤ x ∧ x < 64 ∧ W.testBit x.toNat = true := mem_picks _ x 64
theorem bl_sorted (W : Nat) : (bl W).Pairwise (· < ·) := picks_sorted _ _
theorem bl_zero : bl 0 = [] := by
  refine sorted_eq _ _ (bl_sorted 0) .nil fun x => ?_
  rw [mem_bl]
  simp
theorem bl_len (W : Nat) : (bl W).length ≤ 64 := picks_len _ _

theorem clear_low (W t : Nat) (h1 : W.testBit t = true) (h2 : ∀ j, j < t → W.testBit j = false) (i : Nat) : (W &&& (W - 1)).testBit i = (decide (t < i) && W.testBit i) := by
  have hm : W % 2 ^ t = 0 := Nat.eq_of_testBit_eq fun j => by
    rw [Nat.testBit_mod_two_pow, Nat.zero_testBit]
    by_cases hj : j < t
    · simp [hj, h2 j hj]
    · simp [hj]
  have hW : W = 2 ^ t * (W / 2 ^ t) := by have := Nat.div_add_mod W (2 ^ t); omega
  obtain ⟨q, hq⟩ : ∃ q, q = W / 2 ^ t := ⟨_, rfl⟩
  rw [← hq] at hW
  have hodd : q % 2 = 1 := by
    have : (W / 2 ^ t).testBit 0 = true := by rw [BM.div_bit]; exact h1
    rw [← hq, Nat.testBit_zero] at this
    simpa using this
  have hp := Nat.two_pow_pos t
  have hsub : W - 1 = 2 ^ t * (q - 1) + (2 ^ t - 1) := by
    have : 2 ^ t * q = 2 ^ t * (q - 1) + 2 ^ t := by
      conv => lhs; rw [show q = (q - 1) + 1 by omega, Nat.mul_add, Nat.mul_one]
    omega
  rw [Nat.testBit_and, hsub, Nat.testBit_two_pow_mul_add _ (by omega)]
  by_cases hi : i < t
  · have : ¬ t < i := by omega
    simp [hi, h2 i hi, this]
  · rw [if_neg hi]
    by_cases he : i = t
    · subst he
      have : (q - 1) % 2 = 0 := by omega
      simp [Nat.testBit_zero, this]
    · have hlt : t < i := by omega
      obtain ⟨d, hd⟩ : ∃ d, i - t = d + 1 := ⟨i - t - 1, by omega⟩
      have e1 : (q - 1).testBit (i - t) = q.testBit (i - t) := by
        rw [hd, Nat.testBit_succ, Nat.testBit_succ, show (q - 1) / 2 = q / 2 by omega]
      have e2 : W.testBit i = q.testBit (i - t) := by
        conv => lhs; rw [hW, show 2 ^ t * q = 2 ^ t * q + 0 by omega, Nat.testBit_two_pow_mul_add _ (by omega), if_neg hi]
      simp [hlt, e1, e2]
theorem bl_low (W : Nat) (h0 : W ≠ 0) (h : W < 18446744073709551616) : bl W = ((Lib.ctz 64 W : Nat) : Int) :: bl (W &&& (W - 1)) := by
  obtain ⟨k1, k2, k3⟩ := BM.ctz_bit W h0 h
  refine sorted_eq _ _ (bl_sorted W) (List.pairwise_cons.2 ⟨fun x hx => ?_, bl_sorted _⟩) fun x => ?_
  · rw [mem_bl, clear_low W _ k2 k3] at hx
    simp at hx
    omega
  · rw [List.mem_cons, mem_bl, mem_bl, clear_low W _ k2 k3]
    constructor
    · rintro ⟨a, b, c⟩
      by_cases he : x = ((Lib.ctz 64 W : Nat) : Int)
      · exact .inl he
      · refine .inr ⟨a, b, ?_⟩
        have : Lib.ctz 64 W < x.toNat := by
          rcases Nat.lt_trichotomy (Lib.ctz 64 W) x.toNat with h | h | h
          · exact h
          · omega
          · rw [k3 _ h] at c; cases c
        simp [this, c]
    · rintro (rfl | ⟨a, b, c⟩)
      · exact ⟨by omega, by omega, by simpa using k2⟩
      · simp at c
        exact ⟨a, b, c.2⟩
theorem low_less (W : Nat) (h0 : W ≠ 0) : (W &&& (W - 1)) < W := Nat.lt_of_le_of_lt Nat.and_le_right (by omega)
end LM

theorem orAll_bit (xs : List Int) : ∀ (W i : Nat), (∀ p ∈ xs, 0 ≤ p) → (orAll W xs).testBit i = (W.testBit i || decide ((i : Int) ∈ xs)) := by
  induction xs with
  | nil => intro W i _; simp [orAll]
  | cons p t ih =>
    intro W i hp
    have hp0 := hp p List.mem_cons_self
    rw [orAll, ih _ _ fun q hq => hp q (List.mem_cons_of_mem _ hq), Nat.testBit_or, Nat.testBit_two_pow, Bool.eq_iff_iff]
    simp only [Bool.or_eq_true, decide_eq_true_eq, List.mem_cons]
    constructor
    · rintro ((h | h) | h)
      · exact .inl h
      · exact .inr (.inl (by omega))
      · exact .inr (.inr h)
    · rintro (h | h | h)
      · exact .inl (.inl h)
      · exact .inl (.inr (by omega))
      · exact .inr h
theorem bl_orAll (xs : List Int) (K : Int) (hK : K ≤ 64) (h : LM.rise 0 K xs = true) : LM.bl (orAll 0 xs) = xs := by
  obtain ⟨h1, h2⟩ := LM.rise_all xs 0 K h
  refine LM.sorted_eq _ _ (LM.bl_sorted _) h1 fun x => ?_
  rw [LM.mem_bl, orAll_bit _ _ _ fun p hp => (h2 p hp).1]
  simp
  constructor
  · rintro ⟨a, b, c⟩
    rw [show max x 0 = x by omega] at c
    exact c
  · intro hx
    have := h2 x hx
    exact ⟨by omega, by omega, by rw [show max x 0 = x by omega]; exact hx⟩
theorem orAll_bl (W : Nat) (h : W < 18446744073709551616) : orAll 0 (LM.bl W) = W := Nat.eq_of_testBit_eq fun i => by
  rw [orAll_bit _ _ _ fun p hp => ((LM.mem_bl W p).1 hp).1, Bool.eq_iff_iff]
  simp [LM.mem_bl]
  intro hi
  rcases Nat.lt_or_ge i 64 with hl | hg
  · omega
  · rw [Nat.testBit_lt_two_pow (Nat.lt_of_lt_of_le (by rw [FM.pow64]; exact h) (Nat.pow_le_pow_right (by decide) hg))] at hi
    cases hi
namespace LM
/-- The layout that three raw words tell is right. -/
def wright (a b c : Nat) : Bool := decide (a < 65536) && right (a % 256 : Nat) (a / 256 : Nat) (bl b) (bl c)
theorem wright_iff (a b c : Nat) : wright a b c = true ↔ a < 65536 ∧ right (a % 256 : Nat) (a / 256 : Nat) (bl b) (bl c) = true := by simp [wright]
end LM
end Go.Proofs.YtaffceodcfgeeaaDoor
