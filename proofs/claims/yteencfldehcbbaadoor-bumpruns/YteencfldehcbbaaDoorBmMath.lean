/- Plain mathematics of places in the bits of words: no program in sight. -/
import Derived.WalkKit
import Derived.WalkLawsBesides
import Derived.Lib.TrailingZeros
namespace Go.Proofs.YteencfldehcbbaaDoor.BM
open Go.RowKit

theorem pow64 : (2 : Nat) ^ 64 = 18446744073709551616 := by decide
/-- The place i is on. -/
def on (ws : Nat → Nat) (i : Nat) : Bool := (ws (i / 64)).testBit (i % 64)

theorem div_cast (W k : Nat) : (W : Int) / 2 ^ k = ((W / 2 ^ k : Nat) : Int) := by simp
theorem shr_lt (W k : Nat) (h : W < 18446744073709551616) : W / 2 ^ k < 18446744073709551616 := Nat.lt_of_le_of_lt (Nat.div_le_self _ _) h
theorem has_bit (W k : Nat) (h : W < 18446744073709551616) : (bits .and .u64 ((W : Int) / 2 ^ k) 1 == 1) = W.testBit k := by
  rw [div_cast]
  have e := u64_and_nat (W / 2 ^ k) 1 (shr_lt W k h) (by decide)
  rw [show ((1 : Nat) : Int) = 1 from rfl] at e
  rw [e, Nat.and_one_is_mod, Nat.testBit_eq_decide_div_mod_eq, Bool.eq_iff_iff]
  rw [beq_iff_eq, decide_eq_true_iff]
  generalize W / 2 ^ k % 2 = m
  omega

/-- The bits from a on, s of them. -/
def mask (a s : Nat) : Nat := (2 ^ s - 1) * 2 ^ a
theorem mask_lt (a s : Nat) (h : a + s ≤ 64) : mask a s < 18446744073709551616 := by
  unfold mask
  have h1 : 2 ^ (a + s) ≤ 2 ^ 64 := Nat.pow_le_pow_right (by decide) h
  have h2 := Nat.two_pow_pos a
  rw [Nat.pow_add, pow64] at h1
  rw [Nat.sub_mul]
  have : 2 ^ s * 2 ^ a = 2 ^ a * 2 ^ s := Nat.mul_comm _ _
  omega
theorem mask_bit (a s l : Nat) : (mask a s).testBit l = (decide (a ≤ l) && decide (l < a + s)) := by
  unfold mask
  rw [Nat.testBit_mul_two_pow, Nat.testBit_two_pow_sub_one, Bool.eq_iff_iff]
  simp
  omega
theorem mask_eq (a s t : Nat) (ht : s + t = 64) (h : a + s ≤ 64) : IntKind.u64.wrap ((18446744073709551615 : Int) / 2 ^ t * 2 ^ a) = ((mask a s : Nat) : Int) := by
  have hl := mask_lt a s h
  have hd : (18446744073709551615 : Nat) / 2 ^ t = 2 ^ s - 1 := by
    have hpw : 2 ^ s * 2 ^ t = 18446744073709551616 := by rw [← Nat.pow_add, ← pow64]; congr 1
    have hpos := Nat.two_pow_pos t
    have hpos2 := Nat.two_pow_pos s
    apply Nat.div_eq_of_lt_le
    · rw [Nat.sub_mul, hpw]; omega
    · rw [Nat.sub_add_cancel (by omega), hpw]; omega
  have e : (18446744073709551615 : Int) / 2 ^ t * 2 ^ a = ((mask a s : Nat) : Int) := by
    have := div_cast 18446744073709551615 t
    rw [show ((18446744073709551615 : Nat) : Int) = 18446744073709551615 from rfl] at this
    rw [this, hd]
    unfold mask
    rw [Int.natCast_mul, Int.natCast_pow]
    rfl
  rw [e, IntKind.wrap_u64]
  exact Int.emod_eq_of_lt (by omega) (by omega)
theorem or_mask (W a s : Nat) (hW : W < 18446744073709551616) (h : a + s ≤ 64) : bits .or .u64 (W : Int) ((mask a s : Nat) : Int) = ((W ||| mask a s : Nat) : Int) :=
  u64_or_nat W _ hW (mask_lt a s h)
theorem andNot_mask (W a s : Nat) (hW : W < 18446744073709551616) (h : a + s ≤ 64) : bits .andNot .u64 (W : Int) ((mask a s : Nat) : Int) = ((W &&& (18446744073709551615 - mask a s) : Nat) : Int) :=
  u64_andNot_nat W _ hW (mask_lt a s h)
theorem not_bit (W l : Nat) (hW : W < 18446744073709551616) : (18446744073709551615 - W).testBit l = (decide (l < 64) && !W.testBit l) := by
  have e : 18446744073709551615 - W = 2 ^ 64 - (W + 1) := by rw [pow64]; omega
  rw [e, Nat.testBit_two_pow_sub_succ (by rw [pow64]; exact hW)]
theorem or_lt (W a s : Nat) (hW : W < 18446744073709551616) (h : a + s ≤ 64) : W ||| mask a s < 18446744073709551616 := by
  have h2 := mask_lt a s h
  rw [← pow64] at hW h2 ⊢
  exact Nat.or_lt_two_pow hW h2
theorem and_lt (W U : Nat) (hW : W < 18446744073709551616) : W &&& U < 18446744073709551616 := Nat.lt_of_le_of_lt Nat.and_le_left hW

/-- The words with the bits from a on of the word k, s of them, turned to v. -/
def turn (ws : Nat → Nat) (k a s : Nat) (v : Bool) (j : Nat) : Nat :=
  if j = k then (if v = true then ws k ||| mask a s else ws k &&& (18446744073709551615 - mask a s)) else ws j
theorem turn_lt (ws : Nat → Nat) (k a s : Nat) (v : Bool) (h : a + s ≤ 64) (hw : ∀ j, ws j < 18446744073709551616) (j : Nat) : turn ws k a s v j < 18446744073709551616 := by
  unfold turn
  split
  · split
    · exact or_lt _ _ _ (hw _) h
    · exact and_lt _ _ (hw _)
  · exact hw j
theorem turn_on (ws : Nat → Nat) (k a s : Nat) (v : Bool) (h : a + s ≤ 64) (i : Nat) :
    on (turn ws k a s v) i = if 64 * k + a ≤ i ∧ i < 64 * k + a + s then v else on ws i := by
  unfold on turn
  by_cases e : i / 64 = k
  · rw [if_pos e]
    cases v
    · simp only [Bool.false_eq_true, if_false]
      rw [Nat.testBit_and, not_bit _ _ (mask_lt a s h), mask_bit, e]
      split
      · rename_i hc
        have h1 : a ≤ i % 64 := by omega
        have h2 : i % 64 < a + s := by omega
        simp [h1, h2]
      · rename_i hc
        have h3 : i % 64 < 64 := by omega
        by_cases h1 : a ≤ i % 64
        · have h2 : ¬ i % 64 < a + s := by omega
          simp [h2, h3]
        · simp [h1, h3]
    · simp only [if_true]
      rw [Nat.testBit_or, mask_bit, e]
      split
      · rename_i hc
        have h1 : a ≤ i % 64 := by omega
        have h2 : i % 64 < a + s := by omega
        simp [h1, h2]
      · rename_i hc
        by_cases h1 : a ≤ i % 64
        · have h2 : ¬ i % 64 < a + s := by omega
          simp [h2]
        · simp [h1]
  · rw [if_neg e, if_neg (by omega)]

/-- The search of so many numbers, from lo on. -/
def leastGo (p : Nat → Bool) (hi : Nat) : Nat → Nat → Nat
  | 0, _ => hi
  | d + 1, lo => if p lo = true then lo else leastGo p hi d (lo + 1)
/-- The least number from lo on, below hi, of which p holds; hi, if there is none. -/
def least (p : Nat → Bool) (lo hi : Nat) : Nat := leastGo p hi (hi - lo) lo
theorem least_out (p : Nat → Bool) (lo hi : Nat) (h : hi ≤ lo) : least p lo hi = hi := by
  unfold least
  rw [show hi - lo = 0 by omega]
  rfl
theorem least_here (p : Nat → Bool) (lo hi : Nat) (h : lo < hi) (hp : p lo = true) : least p lo hi = lo := by
  unfold least
  rw [show hi - lo = (hi - lo - 1) + 1 by omega, leastGo, if_pos hp]
theorem least_on (p : Nat → Bool) (lo hi : Nat) (h : lo < hi) (hp : ¬ p lo = true) : least p lo hi = least p (lo + 1) hi := by
  unfold least
  rw [show hi - lo = (hi - (lo + 1)) + 1 by omega, leastGo, if_neg hp]
theorem least_all (p : Nat → Bool) (hi d : Nat) : ∀ lo, hi - lo = d → least p lo hi ≤ hi ∧ (lo ≤ hi → lo ≤ least p lo hi) ∧ (∀ q, lo ≤ q → q < least p lo hi → q < hi → p q = false) ∧ (least p lo hi < hi → lo ≤ least p lo hi ∧ p (least p lo hi) = true) := by
  induction d with
  | zero =>
    intro lo h
    rw [least_out p lo hi (by omega)]
    exact ⟨Nat.le_refl _, fun h => h, fun q h1 h2 h3 => absurd h1 (by omega), fun h => absurd h (by omega)⟩
  | succ d ih =>
    intro lo h
    by_cases hp : p lo = true
    · rw [least_here p lo hi (by omega) hp]
      exact ⟨by omega, fun _ => Nat.le_refl _, fun q h1 h2 h3 => absurd h1 (by omega), fun _ => ⟨Nat.le_refl _, hp⟩⟩
    · rw [least_on p lo hi (by omega) hp]
      obtain ⟨h1, h2, h3, h4⟩ := ih (lo + 1) (by omega)
      refine ⟨h1, fun _ => by have := h2 (by omega); omega, fun q a b c => ?_, fun a => ⟨by have := (h4 a).1; omega, (h4 a).2⟩⟩
      by_cases e : q = lo
      · subst e; simpa using hp
      · exact h3 q (by omega) b c
theorem least_le (p : Nat → Bool) (lo hi : Nat) : least p lo hi ≤ hi := (least_all p hi _ lo rfl).1
theorem least_ge (p : Nat → Bool) (lo hi : Nat) (h : lo ≤ hi) : lo ≤ least p lo hi := (least_all p hi _ lo rfl).2.1 h
theorem least_not (p : Nat → Bool) (lo hi : Nat) : ∀ q, lo ≤ q → q < least p lo hi → q < hi → p q = false := (least_all p hi _ lo rfl).2.2.1
theorem least_is (p : Nat → Bool) (lo hi : Nat) (h : least p lo hi < hi) : lo ≤ least p lo hi ∧ p (least p lo hi) = true := (least_all p hi _ lo rfl).2.2.2 h
theorem least_eq (p : Nat → Bool) (lo hi r : Nat) (h1 : r ≤ hi) (h2 : ∀ q, lo ≤ q → q < r → p q = false) (h3 : r < hi → lo ≤ r ∧ p r = true) : least p lo hi = r := by
  have a := least_le p lo hi
  rcases Nat.lt_trichotomy (least p lo hi) r with h | h | h
  · have b := least_is p lo hi (by omega)
    have := h2 _ b.1 h
    rw [b.2] at this; cases this
  · exact h
  · obtain ⟨c, d⟩ := h3 (by omega)
    have := least_not p lo hi r c h (by omega)
    rw [d] at this; cases this

/-- The least place from i on that is v; n, if there is none. -/
def nx (f : Nat → Bool) (n : Nat) (v : Bool) (i : Nat) : Nat := least (fun q => f q == v) i n
theorem nx_le (f : Nat → Bool) (n : Nat) (v : Bool) (i : Nat) : nx f n v i ≤ n := least_le _ _ _
theorem nx_is (f : Nat → Bool) (n : Nat) (v : Bool) (i : Nat) (h : nx f n v i < n) : i ≤ nx f n v i ∧ f (nx f n v i) = v := by
  have := least_is _ _ _ h
  exact ⟨this.1, by simpa [nx] using this.2⟩
theorem nx_not (f : Nat → Bool) (n : Nat) (v : Bool) (i q : Nat) (h1 : i ≤ q) (h2 : q < nx f n v i) : f q = !v := by
  have h3 := nx_le f n v i
  have := least_not _ _ _ q h1 h2 (by omega)
  simp at this
  cases v <;> simp_all
theorem nx_ge (f : Nat → Bool) (n : Nat) (v : Bool) (i : Nat) (h : i ≤ n) : i ≤ nx f n v i := least_ge _ _ _ h
theorem nx_eq (f : Nat → Bool) (n : Nat) (v : Bool) (i r : Nat) (h1 : r ≤ n) (h2 : ∀ q, i ≤ q → q < r → f q = !v) (h3 : r < n → i ≤ r ∧ f r = v) : nx f n v i = r := by
  refine least_eq _ _ _ _ h1 (fun q a b => ?_) (fun h => ⟨(h3 h).1, by simpa using (h3 h).2⟩)
  rw [h2 q a b]
  cases v <;> rfl

/-- The word whose bits are to be looked for. -/
def look (W : Nat) (v : Bool) : Nat := if v = true then W else 18446744073709551615 - W
theorem look_lt (W : Nat) (v : Bool) (h : W < 18446744073709551616) : look W v < 18446744073709551616 := by
  unfold look
  split <;> omega
theorem xor_all (W : Nat) (h : W < 18446744073709551616) : bits .xor .u64 (if IntKind.u64.signed = true then -1 else IntKind.u64.max) (W : Int) = ((look W false : Nat) : Int) := by
  have e1 : (if IntKind.u64.signed = true then -1 else IntKind.u64.max) = ((18446744073709551615 : Nat) : Int) := by decide
  rw [e1, u64_xor_nat _ _ (by decide) h]
  congr 1
  unfold look
  simp only [Bool.false_eq_true, if_false]
  apply Nat.eq_of_testBit_eq
  intro i
  rw [Nat.testBit_xor, not_bit _ _ h]
  have := not_bit 0 i (by decide)
  rw [show 18446744073709551615 - 0 = 18446744073709551615 from rfl] at this
  rw [this]
  by_cases hi : i < 64
  · simp [hi]
  · have hf : W.testBit i = false := Nat.testBit_lt_two_pow (Nat.lt_of_lt_of_le (by rw [pow64]; exact h) (Nat.pow_le_pow_right (by decide) (by omega)))
    simp [hi, hf]
theorem look_bit (W : Nat) (v : Bool) (l : Nat) (h : W < 18446744073709551616) (hl : l < 64) : (look W v).testBit l = (W.testBit l == v) := by
  unfold look
  cases v
  · simp only [Bool.false_eq_true, if_false]
    rw [not_bit _ _ h]
    simp [hl]
  · simp
theorem ctz_bit (x : Nat) (h0 : x ≠ 0) (h : x < 18446744073709551616) : Lib.ctz 64 x < 64 ∧ x.testBit (Lib.ctz 64 x) = true ∧ ∀ j, j < Lib.ctz 64 x → x.testBit j = false := by
  obtain ⟨m, hm, hk⟩ := Lib.ctzFrom_spec 64 x (by omega) (by rw [pow64]; exact h)
  have e : Lib.ctz 64 x = Lib.ctzFrom 64 x := by simp [Lib.ctz, h0]
  rw [e]
  generalize Lib.ctzFrom 64 x = k at *
  refine ⟨hk, ?_, fun j hj => ?_⟩
  · rw [hm, Nat.mul_comm, Nat.testBit_mul_two_pow]
    simp [Nat.testBit_zero]
  · rw [hm, Nat.mul_comm, Nat.testBit_mul_two_pow]
    have : ¬ k ≤ j := by omega
    simp [this]
theorem div_bit (x a l : Nat) : (x / 2 ^ a).testBit l = x.testBit (a + l) := by
  rw [← Nat.shiftRight_eq_div_pow, Nat.testBit_shiftRight]

/-- A word in which what is looked for is found. -/
theorem found (ws : Nat → Nat) (n p : Nat) (v : Bool) (hw : ∀ j, ws j < 18446744073709551616) (hp : p < n) (past : ∀ i, n ≤ i → on ws i = false)
    (hv : look (ws (p / 64)) v / 2 ^ (p % 64) ≠ 0) :
    p + Lib.ctz 64 (look (ws (p / 64)) v / 2 ^ (p % 64)) = nx (on ws) n v p := by
  have hl := look_lt (ws (p / 64)) v (hw _)
  have hlt := shr_lt _ (p % 64) hl
  obtain ⟨h1, h2, h3⟩ := ctz_bit _ hv hlt
  generalize Lib.ctz 64 (look (ws (p / 64)) v / 2 ^ (p % 64)) = z at *
  rw [div_bit] at h2
  have hz : p % 64 + z < 64 := by
    apply Nat.lt_of_not_le
    intro hge
    have : (look (ws (p / 64)) v).testBit (p % 64 + z) = false := Nat.testBit_lt_two_pow (Nat.lt_of_lt_of_le (by rw [pow64]; exact hl) (Nat.pow_le_pow_right (by decide) hge))
    rw [this] at h2; cases h2
  have hon : on ws (p + z) = v := by
    unfold on
    have e1 : (p + z) / 64 = p / 64 := by omega
    have e2 : (p + z) % 64 = p % 64 + z := by omega
    rw [look_bit _ _ _ (hw _) hz] at h2
    rw [e1, e2]
    simpa using h2
  have hoff : ∀ q, p ≤ q → q < p + z → on ws q = !v := by
    intro q a b
    have := h3 (q - p) (by omega)
    rw [div_bit, look_bit _ _ _ (hw _) (by omega)] at this
    unfold on
    have e1 : q / 64 = p / 64 := by omega
    have e2 : q % 64 = p % 64 + (q - p) := by omega
    rw [e1, e2]
    revert this
    cases v <;> simp
  have hle : p + z ≤ n := by
    apply Nat.le_of_not_lt
    intro hgt
    have a := hoff n (by omega) hgt
    have b := past n (Nat.le_refl _)
    have c := past (p + z) (by omega)
    rw [hon] at c
    rw [b, c] at a
    cases a
  exact (nx_eq _ _ _ _ _ hle hoff (fun h => ⟨by omega, hon⟩)).symm
/-- A word in which it is not. -/
theorem missed (ws : Nat → Nat) (p : Nat) (v : Bool) (hw : ∀ j, ws j < 18446744073709551616) (hv : look (ws (p / 64)) v / 2 ^ (p % 64) = 0) :
    ∀ q, p ≤ q → q < (p / 64 + 1) * 64 → on ws q = !v := by
  intro q a b
  have : (look (ws (p / 64)) v / 2 ^ (p % 64)).testBit (q - p) = false := by rw [hv]; simp
  rw [div_bit, look_bit _ _ _ (hw _) (by omega)] at this
  unfold on
  have e1 : q / 64 = p / 64 := by omega
  have e2 : q % 64 = p % 64 + (q - p) := by omega
  rw [e1, e2]
  revert this
  cases v <;> simp
theorem nx_skip (f : Nat → Bool) (n : Nat) (v : Bool) (p p' : Nat) (h : p ≤ p') (hq : ∀ q, p ≤ q → q < p' → f q = !v) : nx f n v p = nx f n v p' := by
  refine nx_eq _ _ _ _ _ (nx_le _ _ _ _) (fun q a b => ?_) (fun hlt => ?_)
  · by_cases c : q < p'
    · exact hq q a c
    · exact nx_not f n v p' q (by omega) b
  · have := nx_is f n v p' hlt
    exact ⟨by omega, this.2⟩
theorem nx_out (f : Nat → Bool) (n : Nat) (v : Bool) (p : Nat) (h : n ≤ p) : nx f n v p = n := least_out _ _ _ h
end Go.Proofs.YteencfldehcbbaaDoor.BM
