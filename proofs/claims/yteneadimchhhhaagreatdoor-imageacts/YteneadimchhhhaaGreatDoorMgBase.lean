/- Texts of this claim, laid into one file. -/
import Derived.Test.YteneadimchhhhaaGreatDoorRows
import Derived.WalkKit
import Derived.ProofKit
import Derived.WalkLawsBesides
import Derived.Lib.TrailingZeros
import Derived.WalkSpells
import Derived.RowKit3
import Derived.Below
import Derived.Lib.Hide
import Derived.Laws.Bits128
import Derived.Deep.OwnRows
import Derived.Deep.Draws
import Derived.Maps.AppendAt
import Derived.Deep.QuietTactic
import Derived.BigQuiet
import Derived.WalkSmall
/- Small words that several of the texts share. -/
namespace Go.Proofs.YteneadimchhhhaaGreatDoor
open Go.RowKit

theorem ret_int {k : IntKind} {a b : Int} (h : a = b) : Ending.returned (.int k a) = .returned (.int k b) := by rw [h]
theorem ret_bool {a b : Bool} (h : a = b) : Ending.returned (.bool a) = .returned (.bool b) := by rw [h]
theorem own : ownKnob Tryz.prog.godebug = none := by kernel_rfl
theorem laidOut : laidOutB Tryz.prog = true := by kernel_rfl
/-- An int. -/
def I64 (x : Int) : Prop := -9223372036854775808 ≤ x ∧ x ≤ 9223372036854775807
end Go.Proofs.YteneadimchhhhaaGreatDoor
/- Plain mathematics of places in the bits of words: no program in sight. -/
namespace Go.Proofs.YteneadimchhhhaaGreatDoor.BM
open Go.RowKit

theorem pow64 : (2 : Nat) ^ 64 = 18446744073709551616 := by decide
/-- The place i is on. -/
def on (ws : Nat → Nat) (i : Nat) : Bool := (ws (i / 64)).testBit (i % 64)

theorem div_cast (W k : Nat) : (W : Int) / 2 ^ k = ((W / 2 ^ k : Nat) : Int) := by simp
theorem shr_lt (W k : Nat) (h : W < 18446744073709551616) : W / 2 ^ k < 18446744073709551616 := Nat.lt_of_le_of_lt (Nat.div_le_self _ _) h
theorem has_bit (W k : Nat) (h : W < 18446744073709551616) : (bits .and .u64 ((W : Int) / 2 ^ k) 1 == 1) = W.testBit k := by
  rw [div_cast]
  have e := u64_and_nat (W / 2 ^ k) 1 (shr_lt W k h) (by decide)
  rw [show ((1 : Nat) : Int) = 1 from rfl] at e
  rw [e, Nat.and_one_is_mod, Nat.testBit_eq_decide_div_mod_eq, Bool.eq_iff_iff]
  rw [beq_iff_eq, decide_eq_true_iff]
  generalize W / 2 ^ k % 2 = m
  omega

/-- The bits from a on, s of them. -/
def mask (a s : Nat) : Nat := (2 ^ s - 1) * 2 ^ a
theorem mask_lt (a s : Nat) (h : a + s ≤ 64) : mask a s < 18446744073709551616 := by
  unfold mask
  have h1 : 2 ^ (a + s) ≤ 2 ^ 64 := Nat.pow_le_pow_right (by decide) h
  have h2 := Nat.two_pow_pos a
  rw [Nat.pow_add, pow64] at h1
  rw [Nat.sub_mul]
  have : 2 ^ s * 2 ^ a = 2 ^ a * 2 ^ s := Nat.mul_comm _ _
  omega
theorem mask_bit (a s l : Nat) : (mask a s).testBit l = (decide (a ≤ l) && decide (l < a + s)) := by
  unfold mask
  rw [Nat.testBit_mul_two_pow, Nat.testBit_two_pow_sub_one, Bool.eq_iff_iff]
  simp
  omega
theorem mask_eq (a s t : Nat) (ht : s + t = 64) (h : a + s ≤ 64) : IntKind.u64.wrap ((18446744073709551615 : Int) / 2 ^ t * 2 ^ a) = ((mask a s : Nat) : Int) := by
  have hl := mask_lt a s h
  have hd : (18446744073709551615 : Nat) / 2 ^ t = 2 ^ s - 1 := by
    have hpw : 2 ^ s * 2 ^ t = 18446744073709551616 := by rw [← Nat.pow_add, ← pow64]; congr 1
    have hpos := Nat.two_pow_pos t
    have hpos2 := Nat.two_pow_pos s
    apply Nat.div_eq_of_lt_le
    · rw [Nat.sub_mul, hpw]; omega
    · rw [Nat.sub_add_cancel (by omega), hpw]; omega
  have e : (18446744073709551615 : Int) / 2 ^ t * 2 ^ a = ((mask a s : Nat) : Int) := by
    have := div_cast 18446744073709551615 t
    rw [show ((18446744073709551615 : Nat) : Int) = 18446744073709551615 from rfl] at this
    rw [this, hd]
    unfold mask
    rw [Int.natCast_mul, Int.natCast_pow]
    rfl
  rw [e, IntKind.wrap_u64]
  exact Int.emod_eq_of_lt (by omega) (by omega)
theorem or_mask (W a s : Nat) (hW : W < 18446744073709551616) (h : a + s ≤ 64) : bits .or .u64 (W : Int) ((mask a s : Nat) : Int) = ((W ||| mask a s : Nat) : Int) :=
  u64_or_nat W _ hW (mask_lt a s h)
theorem andNot_mask (W a s : Nat) (hW : W < 18446744073709551616) (h : a + s ≤ 64) : bits .andNot .u64 (W : Int) ((mask a s : Nat) : Int) = ((W &&& (18446744073709551615 - mask a s) : Nat) : Int) :=
  u64_andNot_nat W _ hW (mask_lt a s h)
theorem not_bit (W l : Nat) (hW : W < 18446744073709551616) : (18446744073709551615 - W).testBit l = (decide (l < 64) && !W.testBit l) := by
  have e : 18446744073709551615 - W = 2 ^ 64 - (W + 1) := by rw [pow64]; omega
  rw [e, Nat.testBit_two_pow_sub_succ (by rw [pow64]; exact hW)]
theorem or_lt (W a s : Nat) (hW : W < 18446744073709551616) (h : a + s ≤ 64) : W ||| mask a s < 18446744073709551616 := by
  have h2 := mask_lt a s h
  rw [← pow64] at hW h2 ⊢
  exact Nat.or_lt_two_pow hW h2
theorem and_lt (W U : Nat) (hW : W < 18446744073709551616) : W &&& U < 18446744073709551616 := Nat.lt_of_le_of_lt Nat.and_le_left hW

/-- The words with the bits from a on of the word k, s of them, turned to v. -/
def turn (ws : Nat → Nat) (k a s : Nat) (v : Bool) (j : Nat) : Nat :=
  if j = k then (if v = true then ws k ||| mask a s else ws k &&& (18446744073709551615 - mask a s)) else ws j
theorem turn_lt (ws : Nat → Nat) (k a s : Nat) (v : Bool) (h : a + s ≤ 64) (hw : ∀ j, ws j < 18446744073709551616) (j : Nat) : turn ws k a s v j < 18446744073709551616 := by
  unfold turn
  split
  · split
    · exact or_lt _ _ _ (hw _) h
    · exact and_lt _ _ (hw _)
  · exact hw j
theorem turn_on (ws : Nat → Nat) (k a s : Nat) (v : Bool) (h : a + s ≤ 64) (i : Nat) :
    on (turn ws k a s v) i = if 64 * k + a ≤ i ∧ i < 64 * k + a + s then v else on ws i := by
  unfold on turn
  by_cases e : i / 64 = k
  · rw [if_pos e]
    cases v
    · simp only [Bool.false_eq_true, if_false]
      rw [Nat.testBit_and, not_bit _ _ (mask_lt a s h), mask_bit, e]
      split
      · rename_i hc
        have h1 : a ≤ i % 64 := by omega
        have h2 : i % 64 < a + s := by omega
        simp [h1, h2]
      · rename_i hc
        have h3 : i % 64 < 64 := by omega
        by_cases h1 : a ≤ i % 64
        · have h2 : ¬ i % 64 < a + s := by omega
          simp [h2, h3]
        · simp [h1, h3]
    · simp only [if_true]
      rw [Nat.testBit_or, mask_bit, e]
      split
      · rename_i hc
        have h1 : a ≤ i % 64 := by omega
        have h2 : i % 64 < a + s := by omega
        simp [h1, h2]
      · rename_i hc
        by_cases h1 : a ≤ i % 64
        · have h2 : ¬ i % 64 < a + s := by omega
          simp [h2]
        · simp [h1]
  · rw [if_neg e, if_neg (by omega)]

/-- The search of so many numbers, from lo on. -/
def leastGo (p : Nat → Bool) (hi : Nat) : Nat → Nat → Nat
  | 0, _ => hi
  | d + 1, lo => if p lo = true then lo else leastGo p hi d (lo + 1)
/-- The least number from lo on, below hi, of which p holds; hi, if there is none. -/
def least (p : Nat → Bool) (lo hi : Nat) : Nat := leastGo p hi (hi - lo) lo
theorem least_out (p : Nat → Bool) (lo hi : Nat) (h : hi ≤ lo) : least p lo hi = hi := by
  unfold least
  rw [show hi - lo = 0 by omega]
  rfl
theorem least_here (p : Nat → Bool) (lo hi : Nat) (h : lo < hi) (hp : p lo = true) : least p lo hi = lo := by
  unfold least
  rw [show hi - lo = (hi - lo - 1) + 1 by omega, leastGo, if_pos hp]
theorem least_on (p : Nat → Bool) (lo hi : Nat) (h : lo < hi) (hp : ¬ p lo = true) : least p lo hi = least p (lo + 1) hi := by
  unfold least
  rw [show hi - lo = (hi - (lo + 1)) + 1 by omega, leastGo, if_neg hp]
theorem least_all (p : Nat → Bool) (hi d : Nat) : ∀ lo, hi - lo = d → least p lo hi ≤ hi ∧ (lo ≤ hi → lo ≤ least p lo hi) ∧ (∀ q, lo ≤ q → q < least p lo hi → q < hi → p q = false) ∧ (least p lo hi < hi → lo ≤ least p lo hi ∧ p (least p lo hi) = true) := by
  induction d with
  | zero =>
    intro lo h
    rw [least_out p lo hi (by omega)]
    exact ⟨Nat.le_refl _, fun h => h, fun q h1 h2 h3 => absurd h1 (by omega), fun h => absurd h (by omega)⟩
  | succ d ih =>
    intro lo h
    by_cases hp : p lo = true
    · rw [least_here p lo hi (by omega) hp]
      exact ⟨by omega, fun _ => Nat.le_refl _, fun q h1 h2 h3 => absurd h1 (by omega), fun _ => ⟨Nat.le_refl _, hp⟩⟩
    · rw [least_on p lo hi (by omega) hp]
      obtain ⟨h1, h2, h3, h4⟩ := ih (lo + 1) (by omega)
      refine ⟨h1, fun _ => by have := h2 (by omega); omega, fun q a b c => ?_, fun a => ⟨by have := (h4 a).1; omega, (h4 a).2⟩⟩
      by_cases e : q = lo
      · subst e; simpa using hp
      · exact h3 q (by omega) b c
theorem least_le (p : Nat → Bool) (lo hi : Nat) : least p lo hi ≤ hi := (least_all p hi _ lo rfl).1
theorem least_ge (p : Nat → Bool) (lo hi : Nat) (h : lo ≤ hi) : lo ≤ least p lo hi := (least_all p hi _ lo rfl).2.1 h
theorem least_not (p : Nat → Bool) (lo hi : Nat) : ∀ q, lo ≤ q → q < least p lo hi → q < hi → p q = false := (least_all p hi _ lo rfl).2.2.1
theorem least_is (p : Nat → Bool) (lo hi : Nat) (h : least p lo hi < hi) : lo ≤ least p lo hi ∧ p (least p lo hi) = true := (least_all p hi _ lo rfl).2.2.2 h
theorem least_eq (p : Nat → Bool) (lo hi r : Nat) (h1 : r ≤ hi) (h2 : ∀ q, lo ≤ q → q < r → p q = false) (h3 : r < hi → lo ≤ r ∧ p r = true) : least p lo hi = r := by
  have a := least_le p lo hi
  rcases Nat.lt_trichotomy (least p lo hi) r with h | h | h
  · have b := least_is p lo hi (by omega)
    have := h2 _ b.1 h
    rw [b.2] at this; cases this
  · exact h
  · obtain ⟨c, d⟩ := h3 (by omega)
    have := least_not p lo hi r c h (by omega)
    rw [d] at this; cases this

/-- The least place from i on that is v; n, if there is none. -/
def nx (f : Nat → Bool) (n : Nat) (v : Bool) (i : Nat) : Nat := least (fun q => f q == v) i n
theorem nx_le (f : Nat → Bool) (n : Nat) (v : Bool) (i : Nat) : nx f n v i ≤ n := least_le _ _ _
theorem nx_is (f : Nat → Bool) (n : Nat) (v : Bool) (i : Nat) (h : nx f n v i < n) : i ≤ nx f n v i ∧ f (nx f n v i) = v := by
  have := least_is _ _ _ h
  exact ⟨this.1, by simpa [nx] using this.2⟩
theorem nx_not (f : Nat → Bool) (n : Nat) (v : Bool) (i q : Nat) (h1 : i ≤ q) (h2 : q < nx f n v i) : f q = !v := by
  have h3 := nx_le f n v i
  have := least_not _ _ _ q h1 h2 (by omega)
  simp at this
  cases v <;> simp_all
theorem nx_ge (f : Nat → Bool) (n : Nat) (v : Bool) (i : Nat) (h : i ≤ n) : i ≤ nx f n v i := least_ge _ _ _ h
theorem nx_eq (f : Nat → Bool) (n : Nat) (v : Bool) (i r : Nat) (h1 : r ≤ n) (h2 : ∀ q, i ≤ q → q < r → f q = !v) (h3 : r < n → i ≤ r ∧ f r = v) : nx f n v i = r := by
  refine least_eq _ _ _ _ h1 (fun q a b => ?_) (fun h => ⟨(h3 h).1, by simpa using (h3 h).2⟩)
  rw [h2 q a b]
  cases v <;> rfl

/-- The word whose bits are to be looked for. -/
def look (W : Nat) (v : Bool) : Nat := if v = true then W else 18446744073709551615 - W
theorem look_lt (W : Nat) (v : Bool) (h : W < 18446744073709551616) : look W v < 18446744073709551616 := by
  unfold look
  split <;> omega
theorem xor_all (W : Nat) (h : W < 18446744073709551616) : bits .xor .u64 (if IntKind.u64.signed = true then -1 else IntKind.u64.max) (W : Int) = ((look W false : Nat) : Int) := by
  have e1 : (if IntKind.u64.signed = true then -1 else IntKind.u64.max) = ((18446744073709551615 : Nat) : Int) := by decide
  rw [e1, u64_xor_nat _ _ (by decide) h]
  congr 1
  unfold look
  simp only [Bool.false_eq_true, if_false]
  apply Nat.eq_of_testBit_eq
  intro i
  rw [Nat.testBit_xor, not_bit _ _ h]
  have := not_bit 0 i (by decide)
  rw [show 18446744073709551615 - 0 = 18446744073709551615 from rfl] at this
  rw [this]
  by_cases hi : i < 64
  · simp [hi]
  · have hf : W.testBit i = false := Nat.testBit_lt_two_pow (Nat.lt_of_lt_of_le (by rw [pow64]; exact h) (Nat.pow_le_pow_right (by decide) (by omega)))
    simp [hi, hf]
theorem look_bit (W : Nat) (v : Bool) (l : Nat) (h : W < 18446744073709551616) (hl : l < 64) : (look W v).testBit l = (W.testBit l == v) := by
  unfold look
  cases v
  · simp only [Bool.false_eq_true, if_false]
    rw [not_bit _ _ h]
    simp [hl]
  · simp
theorem ctz_bit (x : Nat) (h0 : x ≠ 0) (h : x < 18446744073709551616) : Lib.ctz 64 x < 64 ∧ x.testBit (Lib.ctz 64 x) = true ∧ ∀ j, j < Lib.ctz 64 x → x.testBit j = false := by
  obtain ⟨m, hm, hk⟩ := Lib.ctzFrom_spec 64 x (by omega) (by rw [pow64]; exact h)
  have e : Lib.ctz 64 x = Lib.ctzFrom 64 x := by simp [Lib.ctz, h0]
  rw [e]
  generalize Lib.ctzFrom 64 x = k at *
  refine ⟨hk, ?_, fun j hj => ?_⟩
  · rw [hm, Nat.mul_comm, Nat.testBit_mul_two_pow]
    simp [Nat.testBit_zero]
  · rw [hm, Nat.mul_comm, Nat.testBit_mul_two_pow]
    have : ¬ k ≤ j := by omega
    simp [this]
theorem div_bit (x a l : Nat) : (x / 2 ^ a).testBit l = x.testBit (a + l) := by
  rw [← Nat.shiftRight_eq_div_pow, Nat.testBit_shiftRight]

/-- A word in which what is looked for is found. -/
theorem found (ws : Nat → Nat) (n p : Nat) (v : Bool) (hw : ∀ j, ws j < 18446744073709551616) (hp : p < n) (past : ∀ i, n ≤ i → on ws i = false)
    (hv : look (ws (p / 64)) v / 2 ^ (p % 64) ≠ 0) :
    p + Lib.ctz 64 (look (ws (p / 64)) v / 2 ^ (p % 64)) = nx (on ws) n v p := by
  have hl := look_lt (ws (p / 64)) v (hw _)
  have hlt := shr_lt _ (p % 64) hl
  obtain ⟨h1, h2, h3⟩ := ctz_bit _ hv hlt
  generalize Lib.ctz 64 (look (ws (p / 64)) v / 2 ^ (p % 64)) = z at *
  rw [div_bit] at h2
  have hz : p % 64 + z < 64 := by
    apply Nat.lt_of_not_le
    intro hge
    have : (look (ws (p / 64)) v).testBit (p % 64 + z) = false := Nat.testBit_lt_two_pow (Nat.lt_of_lt_of_le (by rw [pow64]; exact hl) (Nat.pow_le_pow_right (by decide) hge))
    rw [this] at h2; cases h2
  have hon : on ws (p + z) = v := by
    unfold on
    have e1 : (p + z) / 64 = p / 64 := by omega
    have e2 : (p + z) % 64 = p % 64 + z := by omega
    rw [look_bit _ _ _ (hw _) hz] at h2
    rw [e1, e2]
    simpa using h2
  have hoff : ∀ q, p ≤ q → q < p + z → on ws q = !v := by
    intro q a b
    have := h3 (q - p) (by omega)
    rw [div_bit, look_bit _ _ _ (hw _) (by omega)] at this
    unfold on
    have e1 : q / 64 = p / 64 := by omega
    have e2 : q % 64 = p % 64 + (q - p) := by omega
    rw [e1, e2]
    revert this
    cases v <;> simp
  have hle : p + z ≤ n := by
    apply Nat.le_of_not_lt
    intro hgt
    have a := hoff n (by omega) hgt
    have b := past n (Nat.le_refl _)
    have c := past (p + z) (by omega)
    rw [hon] at c
    rw [b, c] at a
    cases a
  exact (nx_eq _ _ _ _ _ hle hoff (fun h => ⟨by omega, hon⟩)).symm
/-- A word in which it is not. -/
theorem missed (ws : Nat → Nat) (p : Nat) (v : Bool) (hw : ∀ j, ws j < 18446744073709551616) (hv : look (ws (p / 64)) v / 2 ^ (p % 64) = 0) :
    ∀ q, p ≤ q → q < (p / 64 + 1) * 64 → on ws q = !v := by
  intro q a b
  have : (look (ws (p / 64)) v / 2 ^ (p % 64)).testBit (q - p) = false := by rw [hv]; simp
  rw [div_bit, look_bit _ _ _ (hw _) (by omega)] at this
  unfold on
  have e1 : q / 64 = p / 64 := by omega
  have e2 : q % 64 = p % 64 + (q - p) := by omega
  rw [e1, e2]
  revert this
  cases v <;> simp
theorem nx_skip (f : Nat → Bool) (n : Nat) (v : Bool) (p p' : Nat) (h : p ≤ p') (hq : ∀ q, p ≤ q → q < p' → f q = !v) : nx f n v p = nx f n v p' := by
  refine nx_eq _ _ _ _ _ (nx_le _ _ _ _) (fun q a b => ?_) (fun hlt => ?_)
  · by_cases c : q < p'
    · exact hq q a c
    · exact nx_not f n v p' q (by omega) b
  · have := nx_is f n v p' hlt
    exact ⟨by omega, this.2⟩
theorem nx_out (f : Nat → Bool) (n : Nat) (v : Bool) (p : Nat) (h : n ≤ p) : nx f n v p = n := least_out _ _ _ h
end Go.Proofs.YteneadimchhhhaaGreatDoor.BM
/- Contracts of the small functions of package bitmap: what each call returns, in what world. -/
namespace Go.Proofs.YteneadimchhhhaaGreatDoor
open Go.RowKit


/-- The map's box and its words. -/
structure MapAt (w : World) (b c n : Nat) (ws : Nat → Nat) : Prop where
  n1 : 1 ≤ n
  n2 : n ≤ 1048576
  len : w.cell? ⟨b, 0, none⟩ = some (.int .i64 n)
  row : w.cell? ⟨b, 1, none⟩ = some (.slice (some ⟨c, 0, none⟩) ((n + 63) / 64) ((n + 63) / 64))
  word : ∀ k, k < (n + 63) / 64 → w.cell? ⟨c, k, none⟩ = some (.int .u64 (ws k))
  thaw : ∀ k, k < (n + 63) / 64 → w.frozen? ⟨c, k, none⟩ = false
  lt : ∀ k, ws k < 18446744073709551616
  past : ∀ i, n ≤ i → BM.on ws i = false
  ne : b ≠ c

set_option maxHeartbeats 400000 in
theorem len_any (b n : Nat) (w : World) (h : w.cell? ⟨b, 0, none⟩ = some (.int .i64 n)) :
    Calls Tryz.prog 96 #[.pointer (some ⟨b, 0, none⟩)] w fun e w' => e = .returned (.int .i64 n) ∧ w = w' := by
  go_enter Tryz.func96, Tryz.ntmps96
  go_wp2
  go_ret
  exact ⟨rfl, rfl⟩
theorem len_nil (w : World) :
    Calls Tryz.prog 96 #[.pointer none] w fun e w' => e = .returned (.int .i64 0) ∧ w = w' := by
  go_enter Tryz.func96, Tryz.ntmps96
  go_wp2
  go_ret
  exact ⟨rfl, rfl⟩

end Go.Proofs.YteneadimchhhhaaGreatDoor
/- Plain mathematics: how many bits of a word are on, by sums of bytes. -/
namespace Go.Proofs.YteneadimchhhhaaGreatDoor.BM
open Go.RowKit

/-- How many places below n are on. -/
def cnt (f : Nat → Bool) : Nat → Nat
  | 0 => 0
  | n + 1 => cnt f n + (f n).toNat
theorem cnt_le (f : Nat → Bool) (n : Nat) : cnt f n ≤ n := by
  induction n with
  | zero => exact Nat.le_refl _
  | succ n ih => unfold cnt; cases f n <;> simp <;> omega
theorem cnt_add (f : Nat → Bool) (a b : Nat) : cnt f (a + b) = cnt f a + cnt (fun i => f (a + i)) b := by
  induction b with
  | zero => rfl
  | succ b ih =>
    show cnt f (a + b) + (f (a + b)).toNat = _
    rw [ih, cnt]
    omega
theorem cnt_congr (f g : Nat → Bool) (n : Nat) (h : ∀ i, i < n → f i = g i) : cnt f n = cnt g n := by
  induction n with
  | zero => rfl
  | succ n ih => rw [cnt, cnt, ih (fun i hi => h i (by omega)), h n (by omega)]
theorem cnt_none (f : Nat → Bool) (n : Nat) (h : ∀ i, i < n → f i = false) : cnt f n = 0 := by
  induction n with
  | zero => rfl
  | succ n ih => rw [cnt, ih (fun i hi => h i (by omega)), h n (by omega)]; rfl

theorem and_split (p a b : Nat) : a &&& b = (a % 2 ^ p &&& b % 2 ^ p) + 2 ^ p * (a / 2 ^ p &&& b / 2 ^ p) := by
  rw [← Nat.and_mod_two_pow, ← Nat.and_div_two_pow]
  have := Nat.div_add_mod (a &&& b) (2 ^ p)
  omega
theorem and8 (a b : Nat) : a &&& b = (a % 256 &&& b % 256) + 256 * (a / 256 &&& b / 256) := and_split 8 a b

/-- A number whose bytes are c in all m places. -/
def rep (c : Nat) : Nat → Nat
  | 0 => 0
  | m + 1 => c + 256 * rep c m
/-- The number whose bytes are f of those of x. -/
def bmap (f : Nat → Nat) : Nat → Nat → Nat
  | 0, _ => 0
  | m + 1, x => f (x % 256) + 256 * bmap f m (x / 256)
/-- The sum of f of the bytes of x. -/
def bsum (f : Nat → Nat) : Nat → Nat → Nat
  | 0, _ => 0
  | m + 1, x => f (x % 256) + bsum f m (x / 256)

def s1 (b : Nat) : Nat := (b / 2 &&& 85) + (b &&& 85)
def s2 (b : Nat) : Nat := (s1 b / 4 &&& 51) + (s1 b &&& 51)
def s3 (b : Nat) : Nat := s2 b / 16 + s2 b % 16
theorem s1_lt : ∀ b, b < 256 → s1 b < 256 := by decide +kernel
theorem s2_lt : ∀ b, b < 256 → s2 b ≤ 68 ∧ s2 b % 16 ≤ 4 ∧ s2 b / 16 ≤ 4 := by decide +kernel
theorem s3_le : ∀ b, b < 256 → s3 b ≤ 8 := by decide +kernel
theorem s3_cnt : ∀ b, b < 256 → s3 b = cnt b.testBit 8 := by decide +kernel
theorem m85 : ∀ t, t < 512 → (t / 2) &&& 85 = (t % 256 / 2) &&& 85 := by decide +kernel
theorem m51 : ∀ t, t < 1024 → (t / 4) &&& 51 = (t % 256 / 4) &&& 51 := by decide +kernel

theorem rep_mod (c m : Nat) (h : c < 256) : rep c (m + 1) % 256 = c ∧ rep c (m + 1) / 256 = rep c m := by
  show (c + 256 * rep c m) % 256 = c ∧ (c + 256 * rep c m) / 256 = rep c m
  omega
theorem bmap_mod (f : Nat → Nat) (m x : Nat) (h : f (x % 256) < 256) : bmap f (m + 1) x % 256 = f (x % 256) ∧ bmap f (m + 1) x / 256 = bmap f m (x / 256) := by
  show (f (x % 256) + 256 * bmap f m (x / 256)) % 256 = f (x % 256) ∧ (f (x % 256) + 256 * bmap f m (x / 256)) / 256 = bmap f m (x / 256)
  omega
theorem step1 (m x : Nat) : (x / 2 &&& rep 85 m) + (x &&& rep 85 m) = bmap s1 m x := by
  induction m generalizing x with
  | zero => simp [rep, bmap]
  | succ m ih =>
    rw [and8 (x / 2), and8 x, (rep_mod 85 m (by decide)).1, (rep_mod 85 m (by decide)).2, bmap, ← ih (x / 256)]
    have e1 : x / 2 / 256 = x / 256 / 2 := by omega
    have e2 : (85 : Nat) % 256 = 85 := rfl
    have e3 : x / 2 % 256 = x % 512 / 2 := by omega
    have e4 := m85 (x % 512) (by omega)
    have e5 : x % 512 % 256 = x % 256 := by omega
    rw [e1, e3, e4, e5]
    unfold s1
    generalize x % 256 / 2 &&& 85 = A
    generalize x % 256 &&& 85 = B
    generalize x / 256 / 2 &&& rep 85 m = C
    generalize x / 256 &&& rep 85 m = D
    omega
theorem step2 (m x : Nat) : (bmap s1 m x / 4 &&& rep 51 m) + (bmap s1 m x &&& rep 51 m) = bmap s2 m x := by
  induction m generalizing x with
  | zero => simp [rep, bmap]
  | succ m ih =>
    have hb := bmap_mod s1 m x (s1_lt _ (by omega))
    rw [and8 (bmap s1 (m + 1) x / 4), and8 (bmap s1 (m + 1) x), (rep_mod 51 m (by decide)).1, (rep_mod 51 m (by decide)).2]
    conv => rhs; rw [bmap]
    rw [← ih (x / 256)]
    generalize bmap s1 (m + 1) x = y at *
    have e1 : y / 4 / 256 = y / 256 / 4 := by omega
    have e3 : y / 4 % 256 = y % 1024 / 4 := by omega
    have e4 := m51 (y % 1024) (by omega)
    have e5 : y % 1024 % 256 = y % 256 := by omega
    rw [e1, e3, e4, e5, hb.1, hb.2]
    unfold s2
    generalize s1 (x % 256) / 4 &&& 51 = A
    generalize s1 (x % 256) &&& 51 = B
    generalize bmap s1 m (x / 256) / 4 &&& rep 51 m = C
    generalize bmap s1 m (x / 256) &&& rep 51 m = D
    omega
theorem bmap_low (m x : Nat) : bmap s2 m x % 16 ≤ 4 := by
  cases m with
  | zero => simp [bmap]
  | succ m =>
    have := s2_lt (x % 256) (by omega)
    rw [bmap]
    omega
theorem and15 (a : Nat) : a % 256 &&& 15 = a % 16 := by
  rw [show (15 : Nat) = 2 ^ 4 - 1 from rfl, Nat.and_two_pow_sub_one_eq_mod]
  omega
theorem step3 (m x : Nat) : (bmap s2 m x / 16 + bmap s2 m x) &&& rep 15 m = bmap s3 m x := by
  induction m generalizing x with
  | zero => simp [rep, bmap]
  | succ m ih =>
    have hs := s2_lt (x % 256) (by omega)
    have hb := bmap_mod s2 m x (by omega)
    have hlow := bmap_low m (x / 256)
    rw [and8 (bmap s2 (m + 1) x / 16 + bmap s2 (m + 1) x), (rep_mod 15 m (by decide)).1, (rep_mod 15 m (by decide)).2, and15]
    conv => rhs; rw [bmap]
    rw [← ih (x / 256)]
    generalize bmap s2 (m + 1) x = y at *
    have e1 : (y / 16 + y) / 256 = bmap s2 m (x / 256) / 16 + bmap s2 m (x / 256) := by omega
    have e2 : (y / 16 + y) % 16 = s3 (x % 256) := by unfold s3; omega
    rw [e1, e2]
theorem rep85 : rep 85 8 = 6148914691236517205 := by decide
theorem rep51 : rep 51 8 = 3689348814741910323 := by decide
theorem rep15 : rep 15 8 = 1085102592571150095 := by decide

theorem cnt_bytes (m x : Nat) : cnt x.testBit (8 * m) = bsum s3 m x := by
  induction m generalizing x with
  | zero => rfl
  | succ m ih =>
    rw [bsum, ← ih (x / 256), s3_cnt _ (by omega), show 8 * (m + 1) = 8 + 8 * m by omega, cnt_add]
    congr 1
    · refine cnt_congr _ _ _ fun i hi => ?_
      rw [show (256 : Nat) = 2 ^ 8 from rfl, Nat.testBit_mod_two_pow]
      simp [hi]
    · refine cnt_congr _ _ _ fun i _ => ?_
      rw [show (256 : Nat) = 2 ^ 8 from rfl, div_bit]
theorem sum_bytes (x : Nat) : bmap s3 8 x < 1152921504606846976 ∧ bsum s3 8 x ≤ 64 ∧
    (let a := bmap s3 8 x + bmap s3 8 x / 256; let b := a + a / 65536; (b + b / 4294967296) % 128) = bsum s3 8 x := by
  simp only [bmap, bsum]
  have h0 := s3_le (x % 256) (by omega)
  have h1 := s3_le (x / 256 % 256) (by omega)
  have h2 := s3_le (x / 256 / 256 % 256) (by omega)
  have h3 := s3_le (x / 256 / 256 / 256 % 256) (by omega)
  have h4 := s3_le (x / 256 / 256 / 256 / 256 % 256) (by omega)
  have h5 := s3_le (x / 256 / 256 / 256 / 256 / 256 % 256) (by omega)
  have h6 := s3_le (x / 256 / 256 / 256 / 256 / 256 / 256 % 256) (by omega)
  have h7 := s3_le (x / 256 / 256 / 256 / 256 / 256 / 256 / 256 % 256) (by omega)
  generalize s3 (x % 256) = b0 at *
  generalize s3 (x / 256 % 256) = b1 at *
  generalize s3 (x / 256 / 256 % 256) = b2 at *
  generalize s3 (x / 256 / 256 / 256 % 256) = b3 at *
  generalize s3 (x / 256 / 256 / 256 / 256 % 256) = b4 at *
  generalize s3 (x / 256 / 256 / 256 / 256 / 256 % 256) = b5 at *
  generalize s3 (x / 256 / 256 / 256 / 256 / 256 / 256 % 256) = b6 at *
  generalize s3 (x / 256 / 256 / 256 / 256 / 256 / 256 / 256 % 256) = b7 at *
  refine ⟨by omega, by omega, ?_⟩
  have e0 : (b0 + 256 * (b1 + 256 * (b2 + 256 * (b3 + 256 * (b4 + 256 * (b5 + 256 * (b6 + 256 * (b7 + 256 * 0)))))))) / 256 = b1 + 256 * (b2 + 256 * (b3 + 256 * (b4 + 256 * (b5 + 256 * (b6 + 256 * b7))))) := by omega
  rw [e0]
  clear e0
  have e1 : (b0 + 256 * (b1 + 256 * (b2 + 256 * (b3 + 256 * (b4 + 256 * (b5 + 256 * (b6 + 256 * (b7 + 256 * 0))))))) + (b1 + 256 * (b2 + 256 * (b3 + 256 * (b4 + 256 * (b5 + 256 * (b6 + 256 * b7))))))) / 65536
      = (b2 + b3) + 256 * ((b3 + b4) + 256 * ((b4 + b5) + 256 * ((b5 + b6) + 256 * ((b6 + b7) + 256 * b7)))) := by omega
  rw [e1]
  clear e1
  have e2 : (b0 + 256 * (b1 + 256 * (b2 + 256 * (b3 + 256 * (b4 + 256 * (b5 + 256 * (b6 + 256 * (b7 + 256 * 0))))))) + (b1 + 256 * (b2 + 256 * (b3 + 256 * (b4 + 256 * (b5 + 256 * (b6 + 256 * b7)))))) + ((b2 + b3) + 256 * ((b3 + b4) + 256 * ((b4 + b5) + 256 * ((b5 + b6) + 256 * ((b6 + b7) + 256 * b7)))))) / 4294967296
      = (b4 + b5 + b6 + b7) + 256 * ((b5 + b6 + b7) + 256 * ((b6 + b7) + 256 * b7)) := by omega
  rw [e2]
  omega
end Go.Proofs.YteneadimchhhhaaGreatDoor.BM
/- Contracts of math/bits.TrailingZeros64 (the table as it is laid) and OnesCount64. -/
namespace Go.Proofs.YteneadimchhhhaaGreatDoor
open Go.RowKit

/-- The table of math/bits, as it is laid. -/
def Tab (w : World) : Prop := ∀ j, j < 64 → w.cell? ⟨0, j, none⟩ = some (.int .u8 (Lib.deBruijn64tab.getD j 0))
theorem Tab.below {B : Nat} {w w' : World} (h : Tab w) (hb : Below B w w') (hB : 0 < B) : Tab w' := fun j hj => (hb.cell (p := ⟨0, j, none⟩) hB).trans (h j hj)

/-- Where the table tells the lowest bit of x. -/
def lowAt (x : Nat) : Nat := 2 ^ Lib.ctz 64 x * 285870213051353865 % 18446744073709551616 / 288230376151711744
theorem low_at (x : Nat) (h0 : x ≠ 0) (h : x < 18446744073709551616) : lowAt x < 64 ∧ Lib.ctz 64 x < 64 ∧ Lib.deBruijn64tab.getD (lowAt x) 0 = Lib.ctz 64 x ∧
    IntKind.u64.wrap (bits .and .u64 (x : Int) (IntKind.u64.wrap (-(x : Int))) * 285870213051353865) / 288230376151711744 = (lowAt x : Int) := by
  have hb := Lib.lowest_bit 64 x h0 h
  have ht := Lib.deBruijn64_at (Lib.ctz 64 x) hb.2
  refine ⟨ht.1, hb.2, ht.2, ?_⟩
  have hneg : IntKind.u64.wrap (-(x : Int)) = ((2 ^ 64 - x : Nat) : Int) := by
    rw [IntKind.wrap_u64, BM.pow64]
    omega
  rw [hneg, u64_and_nat x (2 ^ 64 - x) h (by rw [BM.pow64]; omega), hb.1, IntKind.wrap_u64]
  unfold lowAt
  generalize 2 ^ Lib.ctz 64 x = A
  omega
set_option maxHeartbeats 1000000 in
theorem tz64_told (w : World) (x z p : Nat) (hp : p < 64) (hc : w.cell? ⟨0, p, none⟩ = some (.int .u8 z)) (hz : z < 64) (hn : ((x : Int) == 0) = false)
    (he : IntKind.u64.wrap (bits .and .u64 (x : Int) (IntKind.u64.wrap (-(x : Int))) * 285870213051353865) / 288230376151711744 = (p : Int)) :
    Calls Tryz.prog 104 #[.int .u64 x] w fun e w' => e = .returned (.int .i64 z) ∧ w = w' := by
  go_enter Tryz.func104, Tryz.ntmps104
  go_wp2_with (simp only [he])
  go_ret
  exact ⟨rfl, rfl⟩
theorem tz64_any (x : Nat) (hx : x < 18446744073709551616) (hx0 : x ≠ 0) (w : World) (hT : Tab w) :
    Calls Tryz.prog 104 #[.int .u64 x] w fun e w' => e = .returned (.int .i64 (Lib.ctz 64 x)) ∧ w = w' := by
  obtain ⟨h1, h2, h3, h4⟩ := low_at x hx0 hx
  have hc := hT (lowAt x) h1
  rw [h3] at hc
  exact tz64_told w x _ _ h1 hc h2 (by simp; omega) h4

end Go.Proofs.YteneadimchhhhaaGreatDoor
/- Contracts of (*Map).next, First, Run, Count: what is told, the world as it was. -/
namespace Go.Proofs.YteneadimchhhhaaGreatDoor
open Go.RowKit

/-- Where the loop of next stands. -/
def NextAt (f : Nat → Bool) (n : Nat) (v : Bool) (i : Nat) (x : Value) : Prop := ∃ p : Nat, p ≤ 1048640 ∧ x = .int .i64 p ∧ BM.nx f n v i = BM.nx f n v p

set_option maxHeartbeats 1000000 in
theorem next_any (b c n i : Nat) (ws : Nat → Nat) (v : Bool) (w : World) (h : MapAt w b c n ws) (hT : Tab w) (hi : i ≤ 1048640) :
    Calls Tryz.prog 95 #[.pointer (some ⟨b, 0, none⟩), .int .i64 i, .bool v] w fun e w' => e = .returned (.int .i64 (BM.nx (BM.on ws) n v i : Nat)) ∧ w = w' := by
  have h1 := h.n1
  have h2 := h.n2
  have c0 := h.len
  have c1 := h.row
  go_enter Tryz.func95, Tryz.ntmps95
  go_wp2
  go_loop [1] (NextAt (BM.on ws) n v i) (fun x => (1048640 - (intOf x).toNat))
  case atStart => exact ⟨i, hi, rfl, rfl⟩
  case round =>
    obtain ⟨p, hp, rfl, hx⟩ := hrel
    have hX := Lib.hid hx
    clear hx
    by_cases hlt : p < n
    · have hk : p / 64 < (n + 63) / 64 := by omega
      have c2 := h.word (p / 64) hk
      have hqq : ((p : Int) / 64).toNat = p / 64 := by omega
      have hw := h.lt (p / 64)
      have hlt' := BM.look_lt _ v hw
      cases v
      · have hxor : bits .xor .u64 (if IntKind.u64.signed = true then -1 else IntKind.u64.max) (ws (p / 64) : Int) = ((BM.look (ws (p / 64)) false : Nat) : Int) := BM.xor_all _ hw
        by_cases hz : BM.look (ws (p / 64)) false / 2 ^ (p % 64) = 0
        · have hm := Lib.hid (BM.missed ws p false h.lt hz)
          generalize BM.look (ws (p / 64)) false = U at *
          have hV : (U : Int) / 2 ^ (p % 64) = 0 := by rw [BM.div_cast, hz]; rfl
          have HZ := Lib.hid hz
          clear hz
          go_wp2_with (first
            | (go_at_call 96; refine (len_any b n _ c0).mono ?_; rintro e w' ⟨rfl, rfl⟩))
          go_round
          case rel => exact ⟨(p / 64 + 1) * 64, by omega, by go_num, by rw [hX.out]; exact BM.nx_skip _ _ _ _ _ (by omega) hm.out⟩
          case measure => simp [intOf]; omega
        · have hm := Lib.hid (BM.found ws n p false h.lt hlt h.past hz)
          have hb := BM.nx_le (BM.on ws) n false p
          have hlt3 := BM.shr_lt _ (p % 64) hlt'
          generalize BM.look (ws (p / 64)) false = U at *
          obtain ⟨V, hV⟩ : ∃ V : Nat, V = U / 2 ^ (p % 64) := ⟨_, rfl⟩
          have hV' : (U : Int) / 2 ^ (p % 64) = (V : Int) := by rw [BM.div_cast, hV]
          rw [← hV] at hz hm hlt3
          clear hV
          have hne : ((V : Int) != 0) = true := by simp; omega
          have hle : p + Lib.ctz 64 V ≤ n := by rw [hm.out]; exact hb
          go_wp2_with (first
            | (go_at_call 96; refine (len_any b n _ c0).mono ?_; rintro e w' ⟨rfl, rfl⟩)
            | (go_at_call 104; refine (tz64_any V hlt3 hz _ hT).mono ?_; rintro e w' ⟨rfl, rfl⟩))
          go_ret
          exact ⟨ret_int (by rw [hX.out, ← hm.out]; simp), rfl⟩
      · have hlook : BM.look (ws (p / 64)) true = ws (p / 64) := rfl
        by_cases hz : BM.look (ws (p / 64)) true / 2 ^ (p % 64) = 0
        · have hm := Lib.hid (BM.missed ws p true h.lt hz)
          rw [hlook] at *
          generalize ws (p / 64) = U at *
          have hV : (U : Int) / 2 ^ (p % 64) = 0 := by rw [BM.div_cast, hz]; rfl
          have HZ := Lib.hid hz
          clear hz hlook
          go_wp2_with (first
            | (go_at_call 96; refine (len_any b n _ c0).mono ?_; rintro e w' ⟨rfl, rfl⟩))
          go_round
          case rel => exact ⟨(p / 64 + 1) * 64, by omega, by go_num, by rw [hX.out]; exact BM.nx_skip _ _ _ _ _ (by omega) hm.out⟩
          case measure => simp [intOf]; omega
        · have hm := Lib.hid (BM.found ws n p true h.lt hlt h.past hz)
          have hb := BM.nx_le (BM.on ws) n true p
          have hlt3 := BM.shr_lt _ (p % 64) hlt'
          rw [hlook] at *
          generalize ws (p / 64) = U at *
          obtain ⟨V, hV⟩ : ∃ V : Nat, V = U / 2 ^ (p % 64) := ⟨_, rfl⟩
          have hV' : (U : Int) / 2 ^ (p % 64) = (V : Int) := by rw [BM.div_cast, hV]
          rw [← hV] at hz hm hlt3
          clear hV hlook
          have hne : ((V : Int) != 0) = true := by simp; omega
          have hle : p + Lib.ctz 64 V ≤ n := by rw [hm.out]; exact hb
          go_wp2_with (first
            | (go_at_call 96; refine (len_any b n _ c0).mono ?_; rintro e w' ⟨rfl, rfl⟩)
            | (go_at_call 104; refine (tz64_any V hlt3 hz _ hT).mono ?_; rintro e w' ⟨rfl, rfl⟩))
          go_ret
          exact ⟨ret_int (by rw [hX.out, ← hm.out]; simp), rfl⟩
    · go_wp2_with (first
        | (go_at_call 96; refine (len_any b n _ c0).mono ?_; rintro e w' ⟨rfl, rfl⟩))
      go_ret
      exact ⟨ret_int (by rw [hX.out, BM.nx_out _ _ _ _ (by omega)]), rfl⟩
end Go.Proofs.YteneadimchhhhaaGreatDoor
/- Contract of (*Map).turn: the places are turned, and nothing else. -/
namespace Go.Proofs.YteneadimchhhhaaGreatDoor
open Go.RowKit

/-- But for block c the world is as it was. -/
structure OnlyAt (c : Nat) (w w' : World) : Prop where
  os : w'.os = w.os
  tape : w'.tape = w.tape
  output : w'.output = w.output
  size : w'.heap.size = w.heap.size
  block : ∀ k, k ≠ c → w'.heap[k]? = w.heap[k]?
theorem OnlyAt.refl (c : Nat) (w : World) : OnlyAt c w w := ⟨rfl, rfl, rfl, rfl, fun _ _ => rfl⟩
theorem OnlyAt.trans {c : Nat} {a b d : World} (h : OnlyAt c a b) (k : OnlyAt c b d) : OnlyAt c a d :=
  ⟨k.os.trans h.os, k.tape.trans h.tape, k.output.trans h.output, k.size.trans h.size, fun i hi => (k.block i hi).trans (h.block i hi)⟩
theorem OnlyAt.setCell {c : Nat} {a w : World} (h : OnlyAt c a w) (o : Nat) (u : Value) : OnlyAt c a (w.setCell ⟨c, o, none⟩ u) :=
  h.trans ⟨rfl, rfl, rfl, by simp [World.setCell], fun k hk => Below.heap_setCell _ _ _ _ hk⟩
theorem OnlyAt.below {c B : Nat} {w w' : World} (h : OnlyAt c w w') (hB : B ≤ c) : Below B w w' :=
  ⟨h.os, h.tape, h.output, by rw [h.size]; exact Nat.le_refl _, fun k hk => h.block k (by omega)⟩
theorem OnlyAt.cell {c : Nat} {w w' : World} (h : OnlyAt c w w') {p : Addr} (hp : p.block ≠ c) : w'.cell? p = w.cell? p := World.cell?_of_block (w := w) (h.block p.block hp)
theorem OnlyAt.frozen {c : Nat} {w w' : World} (h : OnlyAt c w w') {p : Addr} (hp : p.block ≠ c) : w'.frozen? p = w.frozen? p := World.frozen?_of_block (w := w) (h.block p.block hp)

/-- Behind one store: the map with some bits of one word turned. -/
theorem MapAt.stored {w : World} {b c n : Nat} {ws : Nat → Nat} (h : MapAt w b c n ws) (k a s : Nat) (v : Bool) (hk : k < (n + 63) / 64) (has : a + s ≤ 64) (hn : 64 * k + a + s ≤ n) :
    MapAt (w.setCell ⟨c, k, none⟩ (.int .u64 (BM.turn ws k a s v k))) b c n (BM.turn ws k a s v) := by
  have hne := h.ne
  refine ⟨h.n1, h.n2, ?_, ?_, fun j hj => ?_, fun j hj => ?_, BM.turn_lt ws k a s v has h.lt, fun i hi => ?_, hne⟩
  · exact (World.cell?_setCell_other _ _ _ _ (by first | (simp; done) | (simp; omega))).trans h.len
  · exact (World.cell?_setCell_other _ _ _ _ (by first | (simp; done) | (simp; omega))).trans h.row
  · by_cases e : j = k
    · subst e
      exact World.cell?_setCell_same' _ _ _ (by rw [h.word j hj]; rfl)
    · refine (World.cell?_setCell_other _ _ _ _ (by first | (simp; done) | (simp; omega))).trans ?_
      rw [h.word j hj]
      simp [BM.turn, e]
  · rw [World.frozen?_setCell]; exact h.thaw j hj
  · rw [BM.turn_on ws k a s v has, if_neg (by omega)]; exact h.past i hi
/-- What turn leaves. -/
def TurnPost (w : World) (b c n : Nat) (ws : Nat → Nat) (i j : Nat) (v : Bool) (e : Ending) (w' : World) : Prop :=
  (∃ x, e = .returned x) ∧ OnlyAt c w w' ∧ ∃ ws', MapAt w' b c n ws' ∧ ∀ q, BM.on ws' q = if i ≤ q ∧ q < j then v else BM.on ws q

/-- Where the loop of turn stands. -/
def TurnAt (w : World) (b c n : Nat) (ws : Nat → Nat) (i j : Nat) (v : Bool) (x : Value) (wr : World) : Prop :=
  ∃ p ws', i ≤ p ∧ p ≤ j ∧ x = .int .i64 p ∧ OnlyAt c w wr ∧ MapAt wr b c n ws' ∧ ∀ q, BM.on ws' q = if i ≤ q ∧ q < p then v else BM.on ws q

theorem turn_next (w wr : World) (b c n : Nat) (ws ws' : Nat → Nat) (i j p s : Nat) (v : Bool) (hip : i ≤ p) (hs1 : 1 ≤ s) (hps : p + s ≤ j) (hj : j ≤ n) (hs : p % 64 + s ≤ 64)
    (ho : OnlyAt c w wr) (hm : MapAt wr b c n ws') (hq : ∀ q, BM.on ws' q = if i ≤ q ∧ q < p then v else BM.on ws q) :
    OnlyAt c w (wr.setCell ⟨c, p / 64, none⟩ (.int .u64 (BM.turn ws' (p / 64) (p % 64) s v (p / 64)))) ∧ MapAt (wr.setCell ⟨c, p / 64, none⟩ (.int .u64 (BM.turn ws' (p / 64) (p % 64) s v (p / 64)))) b c n (BM.turn ws' (p / 64) (p % 64) s v) ∧
    ∀ q, BM.on (BM.turn ws' (p / 64) (p % 64) s v) q = if i ≤ q ∧ q < p + s then v else BM.on ws q := by
  have e : 64 * (p / 64) + p % 64 = p := by omega
  refine ⟨ho.setCell _ _, hm.stored _ _ _ _ (by omega) hs (by omega), fun q => ?_⟩
  rw [BM.turn_on ws' _ _ _ _ hs, e, hq q]
  by_cases h1 : p ≤ q ∧ q < p + s
  · rw [if_pos h1, if_pos (by omega)]
  · rw [if_neg h1]
    by_cases h2 : i ≤ q ∧ q < p
    · rw [if_pos h2, if_pos (by omega)]
    · rw [if_neg h2, if_neg (by omega)]

theorem turn_val (ws : Nat → Nat) (k a s t : Nat) (v : Bool) (hw : ∀ j, ws j < 18446744073709551616) (ht : s + t = 64) (h : a + s ≤ 64) :
    (if v = true then bits .or .u64 (ws k : Int) (IntKind.u64.wrap ((18446744073709551615 : Int) / 2 ^ t * 2 ^ a)) else bits .andNot .u64 (ws k : Int) (IntKind.u64.wrap ((18446744073709551615 : Int) / 2 ^ t * 2 ^ a))) = ((BM.turn ws k a s v k : Nat) : Int) := by
  rw [BM.mask_eq a s t ht h]
  unfold BM.turn
  rw [if_pos rfl]
  cases v
  · simp only [Bool.false_eq_true, if_false]
    exact BM.andNot_mask _ _ _ (hw _) h
  · simp only [if_true]
    exact BM.or_mask _ _ _ (hw _) h

set_option maxHeartbeats 1000000 in
theorem turn_any (b c n i j : Nat) (ws : Nat → Nat) (w : World) (h : MapAt w b c n ws) (hij : i ≤ j) (hj : j ≤ n) (v : Bool) :
    Calls Tryz.prog 97 #[.pointer (some ⟨b, 0, none⟩), .int .i64 i, .int .i64 j, .bool v] w (TurnPost w b c n ws i j v) := by
  have h1 := h.n1
  have h2 := h.n2
  go_enter Tryz.func97, Tryz.ntmps97
  go_wp2
  go_loopw [1] (TurnAt w b c n ws i j v) (fun x _ => (j - (intOf x).toNat))
  case atStart => exact ⟨i, ws, Nat.le_refl _, hij, rfl, OnlyAt.refl _ _, h, fun q => by rw [if_neg (by omega)]⟩
  case round =>
    obtain ⟨p, ws', hip, hpj, rfl, ho, hm, hq⟩ := hrel
    have hQ := Lib.hid hq
    clear hq
    by_cases hlt : p < j
    · have c0 := hm.len
      have c1 := hm.row
      have hk : p / 64 < (n + 63) / 64 := by omega
      have c2 := hm.word (p / 64) hk
      have c3 := hm.thaw (p / 64) hk
      have hqq : ((p : Int) / 64).toNat = p / 64 := by omega
      by_cases hs : j ≤ (p / 64 + 1) * 64
      · have hv := Lib.hid (turn_val ws' (p / 64) (p % 64) (j - p) (64 - (j - p)) v hm.lt (by omega) (by omega))
        obtain ⟨n1, n2, n3⟩ := turn_next w wr b c n ws ws' i j p (j - p) v hip (by omega) (by omega) hj (by omega) ho hm hQ.out
        have N3 := Lib.hid n3
        clear n3
        cases v
        all_goals
          go_wp2
          have e := hv.out
          simp only [Bool.false_eq_true, if_true, if_false] at e
          rw [e]
          refine ⟨⟨j, _, hij, Nat.le_refl _, rfl, n1, n2, fun q => ?_⟩, by simp [intOf]; omega⟩
          rw [N3.out q, show p + (j - p) = j by omega]
      · have hv := Lib.hid (turn_val ws' (p / 64) (p % 64) (64 - p % 64) (p % 64) v hm.lt (by omega) (by omega))
        obtain ⟨n1, n2, n3⟩ := turn_next w wr b c n ws ws' i j p (64 - p % 64) v hip (by omega) (by omega) hj (by omega) ho hm hQ.out
        have N3 := Lib.hid n3
        clear n3
        cases v
        all_goals
          go_wp2
          have e := hv.out
          simp only [Bool.false_eq_true, if_true, if_false] at e
          rw [show 64 - ((p / 64 + 1) * 64 - p) = p % 64 by omega, e, if_pos (by omega), show ((p : Int) / 64 + 1) * 64 = ((p + (64 - p % 64) : Nat) : Int) by omega]
          exact ⟨⟨p + (64 - p % 64), _, by omega, by omega, rfl, n1, n2, N3.out⟩, by simp [intOf]; omega⟩
    · obtain rfl : p = j := by omega
      go_wp2
      go_end0
      exact ⟨⟨_, rfl⟩, ho, ws', hm, hQ.out⟩
end Go.Proofs.YteneadimchhhhaaGreatDoor
/- Plain mathematics: runs of places that are off, the places that are on. -/
namespace Go.Proofs.YteneadimchhhhaaGreatDoor.BM
open Go.RowKit

/-- k places from a on are off. -/
def runAt (f : Nat → Bool) (k a : Nat) : Bool := (List.range k).all fun j => !f (a + j)
theorem runAt_iff (f : Nat → Bool) (k a : Nat) : runAt f k a = true ↔ ∀ q, a ≤ q → q < a + k → f q = false := by
  unfold runAt
  rw [List.all_eq_true]
  constructor
  · intro h q h1 h2
    have := h (q - a) (by simp; omega)
    rw [show a + (q - a) = q by omega] at this
    simpa using this
  · intro h j hj
    have := h (a + j) (by omega) (by have := List.mem_range.1 hj; omega)
    simpa using this
theorem runAt_no (f : Nat → Bool) (k a q : Nat) (h1 : a ≤ q) (h2 : q < a + k) (h : f q = true) : runAt f k a = false := by
  cases e : runAt f k a
  · rfl
  · have := (runAt_iff f k a).1 e q h1 h2
    rw [h] at this; cases this
/-- The least place from which on k places are there, and off; n + 1 - k, if there is none. -/
def rn (f : Nat → Bool) (n k : Nat) : Nat := least (runAt f k) 0 (n + 1 - k)
theorem rn_le (f : Nat → Bool) (n k : Nat) : rn f n k ≤ n + 1 - k := least_le _ _ _
theorem rn_is (f : Nat → Bool) (n k : Nat) (h : rn f n k < n + 1 - k) : runAt f k (rn f n k) = true := (least_is _ _ _ h).2
theorem rn_not (f : Nat → Bool) (n k a : Nat) (h : a < rn f n k) : runAt f k a = false := least_not _ _ _ a (by omega) h (by have := rn_le f n k; omega)
theorem rn_eq (f : Nat → Bool) (n k r : Nat) (h1 : r ≤ n + 1 - k) (h2 : ∀ a, a < r → runAt f k a = false) (h3 : r < n + 1 - k → runAt f k r = true) : rn f n k = r :=
  least_eq _ _ _ _ h1 (fun q _ h => h2 q h) (fun h => ⟨by omega, h3 h⟩)

/-- Where the search of a run stands: none begins ahead of p, which is off, or n. -/
def RunSt (f : Nat → Bool) (n k p : Nat) : Prop := p ≤ n ∧ (p < n → f p = false) ∧ ∀ a, a < p → a < n + 1 - k → runAt f k a = false
theorem run_start (f : Nat → Bool) (n k : Nat) (hk : 1 ≤ k) : RunSt f n k (nx f n false 0) := by
  refine ⟨nx_le _ _ _ _, fun h => (nx_is _ _ _ _ h).2, fun a h1 _ => ?_⟩
  have := nx_not f n false 0 a (by omega) h1
  exact runAt_no f k a a (by omega) (by omega) (by simpa using this)
theorem run_end (f : Nat → Bool) (n k p : Nat) (h : RunSt f n k p) (hp : n < p + k) : rn f n k = n + 1 - k :=
  rn_eq _ _ _ _ (Nat.le_refl _) (fun a ha => h.2.2 a (by omega) ha) (fun h => absurd h (by omega))
theorem run_found (f : Nat → Bool) (n k p : Nat) (h : RunSt f n k p) (hp : p + k ≤ n) (he : p + k ≤ nx f n true p) : rn f n k = p := by
  refine rn_eq _ _ _ _ (by omega) (fun a ha => h.2.2 a ha (by omega)) (fun _ => (runAt_iff f k p).2 fun q h1 h2 => ?_)
  have := nx_not f n true p q h1 (by omega)
  simpa using this
theorem run_next (f : Nat → Bool) (n k p : Nat) (hk : 1 ≤ k) (h : RunSt f n k p) (hp : p + k ≤ n) (he : nx f n true p < p + k) : RunSt f n k (nx f n false (nx f n true p)) ∧ p < nx f n false (nx f n true p) := by
  have hlt : nx f n true p < n := by omega
  obtain ⟨h1, h2⟩ := nx_is f n true p hlt
  have h3 : nx f n true p ≠ p := by
    intro e
    rw [e] at h2
    rw [h.2.1 (by omega)] at h2
    cases h2
  have h4 := nx_ge f n false (nx f n true p) (by omega)
  refine ⟨⟨nx_le _ _ _ _, fun h => (nx_is _ _ _ _ h).2, fun a ha hb => ?_⟩, by omega⟩
  by_cases c1 : a < p
  · exact h.2.2 a c1 hb
  · by_cases c2 : a ≤ nx f n true p
    · exact runAt_no f k a _ c2 (by omega) h2
    · have := nx_not f n false (nx f n true p) a (by omega) ha
      exact runAt_no f k a a (by omega) (by omega) (by simpa using this)

/-- Where the document's search stands: i places were looked at, just the last r of them are off, and no run was found. -/
def RowSt (f : Nat → Bool) (k i r : Nat) : Prop := r ≤ i ∧ r < k ∧ (∀ q, i - r ≤ q → q < i → f q = false) ∧ (r < i → f (i - r - 1) = true) ∧ ∀ a, a + k ≤ i → runAt f k a = false
theorem row_start (f : Nat → Bool) (k : Nat) (hk : 1 ≤ k) : RowSt f k 0 0 := ⟨Nat.le_refl _, by omega, fun q _ h => absurd h (by omega), fun h => absurd h (by omega), fun a h => absurd h (by omega)⟩
theorem row_on (f : Nat → Bool) (k i r : Nat) (hk : 1 ≤ k) (h : RowSt f k i r) (ho : f i = true) : RowSt f k (i + 1) 0 := by
  refine ⟨by omega, by omega, fun q h1 h2 => absurd h1 (by omega), fun _ => by simpa using ho, fun a ha => ?_⟩
  by_cases c : a + k ≤ i
  · exact h.2.2.2.2 a c
  · exact runAt_no f k a i (by omega) (by omega) ho
theorem row_off (f : Nat → Bool) (k i r : Nat) (h : RowSt f k i r) (ho : f i = false) (hr : r + 1 < k) : RowSt f k (i + 1) (r + 1) := by
  obtain ⟨h0, h1, h2, h3, h4⟩ := h
  have hq : ∀ q, i + 1 - (r + 1) ≤ q → q < i + 1 → f q = false := by
    intro q a b
    by_cases e : q = i
    · subst e; exact ho
    · exact h2 q (by omega) (by omega)
  refine ⟨by omega, hr, hq, fun hlt => ?_, fun a ha => ?_⟩
  · rw [show i + 1 - (r + 1) - 1 = i - r - 1 by omega]
    exact h3 (by omega)
  · by_cases c : a + k ≤ i
    · exact h4 a c
    · exact runAt_no f k a (i - r - 1) (by omega) (by omega) (h3 (by omega))
theorem row_found (f : Nat → Bool) (n k i r : Nat) (h : RowSt f k i r) (ho : f i = false) (hr : r + 1 = k) (hi : i < n) : rn f n k = i + 1 - k ∧ i + 1 - k < n + 1 - k ∧ k ≤ i + 1 := by
  obtain ⟨h0, h1, h2, h3, h4⟩ := h
  refine ⟨rn_eq _ _ _ _ (by omega) (fun a ha => h4 a (by omega)) (fun _ => (runAt_iff _ _ _).2 fun q a b => ?_), by omega, by omega⟩
  by_cases e : q = i
  · subst e; exact ho
  · exact h2 q (by omega) (by omega)
theorem row_end (f : Nat → Bool) (n k r : Nat) (h : RowSt f k n r) : rn f n k = n + 1 - k :=
  rn_eq _ _ _ _ (Nat.le_refl _) (fun a ha => h.2.2.2.2 a (by omega)) (fun h => absurd h (by omega))

/-- The places below n that are on. -/
def ons (f : Nat → Bool) (n : Nat) : List Nat := (List.range n).filter f
theorem ons_yes (f : Nat → Bool) (n : Nat) (h : f n = true) : ons f (n + 1) = ons f n ++ [n] := by
  unfold ons
  rw [List.range_succ, List.filter_append]
  simp [h]
theorem ons_no (f : Nat → Bool) (n : Nat) (h : f n = false) : ons f (n + 1) = ons f n := by
  unfold ons
  rw [List.range_succ, List.filter_append]
  simp [h]
theorem ons_len (f : Nat → Bool) (n : Nat) : (ons f n).length = cnt f n := by
  induction n with
  | zero => rfl
  | succ n ih =>
    rw [cnt]
    cases h : f n
    · rw [ons_no f n h, ih]; rfl
    · rw [ons_yes f n h, List.length_append, ih]; rfl
theorem ons_skip (f : Nat → Bool) (a b : Nat) (h : a ≤ b) (hq : ∀ q, a ≤ q → q < b → f q = false) : ons f b = ons f a := by
  obtain ⟨d, rfl⟩ : ∃ d, b = a + d := ⟨b - a, by omega⟩
  clear h
  induction d with
  | zero => rfl
  | succ d ih =>
    rw [show a + (d + 1) = (a + d) + 1 by omega, ons_no _ _ (hq _ (by omega) (by omega))]
    exact ih fun q h1 h2 => hq q h1 (by omega)
end Go.Proofs.YteneadimchhhhaaGreatDoor.BM
/- Contracts of First, Run, Count, Set, Fill, New of package bitmap. -/
namespace Go.Proofs.YteneadimchhhhaaGreatDoor
open Go.RowKit

set_option maxHeartbeats 400000 in
theorem next_out (b n : Nat) (i : Int) (v : Bool) (w : World) (h : w.cell? ⟨b, 0, none⟩ = some (.int .i64 n)) (hi : (n : Int) ≤ i) :
    Calls Tryz.prog 95 #[.pointer (some ⟨b, 0, none⟩), .int .i64 i, .bool v] w fun e w' => e = .returned (.int .i64 n) ∧ w = w' := by
  have d1 : decide (i < (n : Int)) = false := by simp; omega
  go_enter Tryz.func95, Tryz.ntmps95
  go_wp2
  go_loop [1] (fun x => x = .int .i64 i) (fun _ => 0)
  case atStart => rfl
  case round =>
    obtain rfl := hrel
    go_wp2_with (first
      | (go_at_call 96; refine (len_any b n _ h).mono ?_; rintro e w' ⟨rfl, rfl⟩))
    go_ret
    exact ⟨rfl, rfl⟩
set_option maxHeartbeats 400000 in
theorem next_nil (i : Int) (v : Bool) (w : World) (hi : 0 ≤ i) :
    Calls Tryz.prog 95 #[.pointer none, .int .i64 i, .bool v] w fun e w' => e = .returned (.int .i64 0) ∧ w = w' := by
  have d1 : decide (i < 0) = false := by simp; omega
  go_enter Tryz.func95, Tryz.ntmps95
  go_wp2
  go_loop [1] (fun x => x = .int .i64 i) (fun _ => 0)
  case atStart => rfl
  case round =>
    obtain rfl := hrel
    go_wp2_with (first
      | (go_at_call 96; refine (len_nil _).mono ?_; rintro e w' ⟨rfl, rfl⟩))
    go_ret
    exact ⟨rfl, rfl⟩

theorem next_all (b c n : Nat) (i : Int) (ws : Nat → Nat) (v : Bool) (w : World) (h : MapAt w b c n ws) (hT : Tab w) (hi : 0 ≤ i) :
    Calls Tryz.prog 95 #[.pointer (some ⟨b, 0, none⟩), .int .i64 i, .bool v] w fun e w' => e = .returned (.int .i64 (BM.nx (BM.on ws) n v i.toNat : Nat)) ∧ w = w' := by
  have h2 := h.n2
  by_cases hn : (n : Int) ≤ i
  · rw [BM.nx_out _ _ _ _ (by omega)]
    exact next_out b n i v w h.len hn
  · obtain ⟨k, rfl⟩ := Int.eq_ofNat_of_zero_le hi
    rw [Int.toNat_natCast]
    exact next_any b c n k ws v w h hT (by omega)

/-- What First tells. -/
def firstVal (f : Nat → Bool) (n : Nat) (i : Int) : Value := if BM.nx f n false i.toNat < n then .tuple #[.int .i64 (BM.nx f n false i.toNat : Nat), .bool true] else .tuple #[.int .i64 0, .bool false]
/-- What Run tells. -/
def runVal (f : Nat → Bool) (n : Nat) (k : Int) : Value := if 1 ≤ k ∧ BM.rn f n k.toNat < n + 1 - k.toNat then .tuple #[.int .i64 (BM.rn f n k.toNat : Nat), .bool true] else .tuple #[.int .i64 0, .bool false]

end Go.Proofs.YteneadimchhhhaaGreatDoor
/- Contracts of Run, Count, Set, Fill, New of package bitmap. -/
namespace Go.Proofs.YteneadimchhhhaaGreatDoor
open Go.RowKit

theorem run_small (b : Nat) (k : Int) (w : World) (hk : k < 1) :
    Calls Tryz.prog 83 #[.pointer (some ⟨b, 0, none⟩), .int .i64 k] w fun e w' => e = .returned (.tuple #[.int .i64 0, .bool false]) ∧ w = w' := by
  go_enter Tryz.func83, Tryz.ntmps83
  go_wp2
  go_ret2
  exact ⟨rfl, rfl⟩

theorem runVal_yes {f : Nat → Bool} {n k p : Nat} (hk : 1 ≤ k) (h : BM.rn f n k = p) (hp : p < n + 1 - k) : runVal f n (k : Int) = .tuple #[.int .i64 (p : Nat), .bool true] := by
  unfold runVal
  rw [Int.toNat_natCast, h, if_pos (by omega)]
theorem runVal_no {f : Nat → Bool} {n k : Nat} (h : ¬ BM.rn f n k < n + 1 - k) : runVal f n (k : Int) = .tuple #[.int .i64 0, .bool false] := by
  unfold runVal
  rw [Int.toNat_natCast, if_neg (by omega)]
/-- Where the loop of Run stands. -/
def RunLoop (f : Nat → Bool) (n k : Nat) (x : Value) : Prop := ∃ p : Nat, x = .int .i64 p ∧ BM.RunSt f n k p

set_option maxHeartbeats 1000000 in
theorem run_big (b c n k : Nat) (ws : Nat → Nat) (w : World) (h : MapAt w b c n ws) (hT : Tab w) (hk : 1 ≤ k) (hk2 : k ≤ 9223372036854775807) :
    Calls Tryz.prog 83 #[.pointer (some ⟨b, 0, none⟩), .int .i64 k] w fun e w' => e = .returned (runVal (BM.on ws) n k) ∧ w = w' := by
  have h2 := h.n2
  have c0 := h.len
  go_enter Tryz.func83, Tryz.ntmps83
  go_wp2_with (first
    | (go_at_call 95; refine (next_any b c n 0 ws false _ h hT (by omega)).mono ?_; rintro e w' ⟨rfl, rfl⟩))
  go_loop [6] (RunLoop (BM.on ws) n k) (fun x => (n - (intOf x).toNat))
  case atStart => exact ⟨_, rfl, BM.run_start _ _ _ hk⟩
  case round =>
    obtain ⟨p, rfl, hst⟩ := hrel
    have hp := hst.1
    by_cases hlt : p + k ≤ n
    · have d1 : decide ((k : Int) ≤ (n : Int) - (p : Int)) = true := by simp; omega
      have hle := BM.nx_le (BM.on ws) n true p
      have hge := BM.nx_ge (BM.on ws) n true p hp
      by_cases he : p + k ≤ BM.nx (BM.on ws) n true p
      · have hR := Lib.hid (BM.run_found _ _ _ _ hst hlt he)
        have c1 := next_any b c n p ws true w h hT (by omega)
        generalize BM.nx (BM.on ws) n true p = q at *
        have C1 := Lib.hid c1
        clear c1
        have d2 : decide ((k : Int) ≤ (q : Int) - (p : Int)) = true := by simp; omega
        go_wp2_with (first
          | (go_at_call 96; refine (len_any b n _ c0).mono ?_; rintro e w' ⟨rfl, rfl⟩)
          | (go_at_call 95; refine C1.out.mono ?_; rintro e w' ⟨rfl, rfl⟩))
        go_ret2
        exact ⟨by rw [runVal_yes hk hR.out (by omega)]; rfl, rfl⟩
      · obtain ⟨s1, s2⟩ := BM.run_next _ _ _ _ hk hst hlt (by omega)
        have c1 := next_any b c n p ws true w h hT (by omega)
        generalize BM.nx (BM.on ws) n true p = q at *
        have c2 := next_any b c n q ws false w h hT (by omega)
        have C1 := Lib.hid c1
        have C2 := Lib.hid c2
        clear c1 c2
        have d2 : decide ((k : Int) ≤ (q : Int) - (p : Int)) = false := by simp; omega
        go_wp2_with (first
          | (go_at_call 96; refine (len_any b n _ c0).mono ?_; rintro e w' ⟨rfl, rfl⟩)
          | (go_at_call 95; with_reducible refine C1.out.mono ?_; clear C1; rintro e w' ⟨rfl, rfl⟩)
          | (go_at_call 95; with_reducible refine C2.out.mono ?_; rintro e w' ⟨rfl, rfl⟩))
        go_round
        case rel => exact ⟨_, rfl, s1⟩
        case measure => have := s1.1; simp [intOf]; omega
    · have d1 : decide ((k : Int) ≤ (n : Int) - (p : Int)) = false := by simp; omega
      go_wp2_with (first
        | (go_at_call 96; refine (len_any b n _ c0).mono ?_; rintro e w' ⟨rfl, rfl⟩))
      go_ret2
      exact ⟨by rw [runVal_no (by rw [BM.run_end _ _ _ _ hst (by omega)]; omega)]; rfl, rfl⟩
theorem run_any (b c n : Nat) (k : Int) (ws : Nat → Nat) (w : World) (h : MapAt w b c n ws) (hT : Tab w) (hk2 : k ≤ 9223372036854775807) :
    Calls Tryz.prog 83 #[.pointer (some ⟨b, 0, none⟩), .int .i64 k] w fun e w' => e = .returned (runVal (BM.on ws) n k) ∧ w = w' := by
  by_cases hk : k < 1
  · unfold runVal
    rw [if_neg (by omega)]
    exact run_small b k w hk
  · obtain ⟨j, rfl⟩ := Int.eq_ofNat_of_zero_le (show 0 ≤ k by omega)
    exact run_big b c n j ws w h hT (by omega) (by omega)
theorem run_nil (w : World) :
    Calls Tryz.prog 83 #[.pointer none, .int .i64 1] w fun e w' => e = .returned (.tuple #[.int .i64 0, .bool false]) ∧ w = w' := by
  go_enter Tryz.func83, Tryz.ntmps83
  go_wp2_with (first
    | (go_at_call 95; refine (next_nil _ _ _ (by omega)).mono ?_; rintro e w' ⟨rfl, rfl⟩))
  go_loop [6] (fun x => x = .int .i64 0) (fun _ => 0)
  case atStart => rfl
  case round =>
    obtain rfl := hrel
    go_wp2_with (first
      | (go_at_call 96; refine (len_nil _).mono ?_; rintro e w' ⟨rfl, rfl⟩))
    go_ret2
    exact ⟨rfl, rfl⟩

theorem cnt_word (ws : Nat → Nat) (k : Nat) : BM.cnt (BM.on ws) (64 * (k + 1)) = BM.cnt (BM.on ws) (64 * k) + BM.cnt (ws k).testBit 64 := by
  rw [show 64 * (k + 1) = 64 * k + 64 by omega, BM.cnt_add]
  congr 1
  refine BM.cnt_congr _ _ _ fun i hi => ?_
  unfold BM.on
  rw [show (64 * k + i) / 64 = k by omega, show (64 * k + i) % 64 = i by omega]
theorem cnt_past (f : Nat → Bool) (n m : Nat) (hm : n ≤ m) (h : ∀ i, n ≤ i → f i = false) : BM.cnt f m = BM.cnt f n := by
  obtain ⟨d, rfl⟩ : ∃ d, m = n + d := ⟨m - n, by omega⟩
  rw [BM.cnt_add, BM.cnt_none (fun i => f (n + i)) d (fun i _ => h _ (by omega))]
  rfl

/-- What Has tells. -/
def hasB (f : Nat → Bool) (n : Nat) (i : Int) : Bool := decide (0 ≤ i) && decide (i < n) && f i.toNat
end Go.Proofs.YteneadimchhhhaaGreatDoor
/- Words for a block of the call's own that is known whole. -/
namespace Go.Proofs.YteneadimchhhhaaGreatDoor
open Go.RowKit

/-- Block g is just these cells, of element type t, none of them frozen. -/
def Whole (w : World) (g : Nat) (t : TypeId) (cs : Array Value) : Prop := w.heap[g]? = some (.cells cs t (0, 0))

section
variable {w w' : World} {g : Nat} {t : TypeId} {cs : Array Value}
theorem Whole.lt (h : Whole w g t cs) : g < w.heap.size := by
  rcases Nat.lt_or_ge g w.heap.size with hl | hg
  · exact hl
  · unfold Whole at h
    rw [Array.getElem?_eq_none hg] at h
    cases h
theorem Whole.cell (h : Whole w g t cs) (i : Nat) : w.cell? ⟨g, i, none⟩ = cs[i]? := by
  unfold Whole at h
  simp [World.cell?, h]
theorem Whole.free (h : Whole w g t cs) (i : Nat) : w.frozen? ⟨g, i, none⟩ = false := by
  unfold Whole at h
  simp [World.frozen?, h]
theorem Whole.fresh (w : World) (t : TypeId) (cs : Array Value) : Whole (w.alloc (.cells cs t)) w.heap.size t cs := heap_alloc_new w _
theorem Whole.fresh' {b : Nat} (h : b = w.heap.size) : Whole (w.alloc (.cells cs t)) b t cs := by subst h; exact Whole.fresh w t cs
theorem Whole.drew (h : Whole w g t cs) : Whole w.drew g t cs := h
theorem Whole.drewN (h : Whole w g t cs) (n : Nat) : Whole (w.drewN n) g t cs := h
theorem Whole.alloc (h : Whole w g t cs) (o : Obj) : Whole (w.alloc o) g t cs := (Below.heap_alloc w o g h.lt).trans h
theorem Whole.set (h : Whole w g t cs) (i : Nat) (u : Value) : Whole (w.setCell ⟨g, i, none⟩ u) g t (cs.setIfInBounds i u) := by
  unfold Whole at h ⊢
  simp [World.setCell, Array.getElem?_modify, h]
theorem Whole.far (h : Whole w g t cs) {p : Addr} (hp : g ≠ p.block) (u : Value) : Whole (w.setCell p u) g t cs := (Below.heap_setCell w p u g hp).trans h
theorem Whole.below {B : Nat} (h : Whole w g t cs) (hb : Below B w w') (hg : g < B) : Whole w' g t cs := (hb.block g hg).trans h
end
theorem made_at (z : Value) (n i : Nat) (h : i < n) : (madeCells #[z] n)[i]? = some z := by
  simp [madeCells, h, Nat.mod_one]
end Go.Proofs.YteneadimchhhhaaGreatDoor
/- Contracts of Set, Fill, New of package bitmap, and of New, In, Fill, First, Run of the document's answers. -/
namespace Go.Proofs.YteneadimchhhhaaGreatDoor
open Go.RowKit

/-- What a call that turns places leaves. -/
def Turned (w : World) (b c n : Nat) (ws : Nat → Nat) (i j : Nat) (v : Bool) (w' : World) : Prop :=
  OnlyAt c w w' ∧ ∃ ws', MapAt w' b c n ws' ∧ ∀ q, BM.on ws' q = if i ≤ q ∧ q < j then v else BM.on ws q

theorem fill_nil (w : World) :
    Calls Tryz.prog 84 #[.pointer none, .int .i64 0, .int .i64 0, .bool true] w fun e w' => e = .returned (.int .i64 1) ∧ w = w' := by
  go_enter Tryz.func84, Tryz.ntmps84
  go_wp2
  go_ret
  exact ⟨rfl, rfl⟩
set_option maxHeartbeats 400000 in
theorem fill_ok (b c n i k : Nat) (ws : Nat → Nat) (v : Bool) (w : World) (h : MapAt w b c n ws) (hi : i + k ≤ n) :
    Calls Tryz.prog 84 #[.pointer (some ⟨b, 0, none⟩), .int .i64 i, .int .i64 k, .bool v] w fun e w' => e = .returned (.int .i64 0) ∧ Turned w b c n ws i (i + k) v w' := by
  have h2 := h.n2
  have c0 := h.len
  have t := turn_any b c n i (i + k) ws w h (by omega) (by omega) v
  rw [show ((i + k : Nat) : Int) = (i : Int) + (k : Int) by omega] at t
  have T := Lib.hid t
  clear t
  have d1 : decide ((n : Int) < (i : Int)) = false := by simp; omega
  have d2 : decide ((n : Int) - (i : Int) < (k : Int)) = false := by simp; omega
  have d3 : decide (n < i) = false := by simp; omega
  go_enter Tryz.func84, Tryz.ntmps84
  go_wp2_with (first
    | (go_at_call 97; refine T.out.mono ?_; rintro e w' ⟨⟨x, rfl⟩, ho, hm⟩; have HM := Lib.hid hm; clear hm))
  go_ret
  exact ⟨rfl, ho, HM.out⟩
/-- Are k places from i on all there? -/
def inB (n : Nat) (i k : Int) : Bool := decide (0 ≤ k) && decide (0 ≤ i) && decide (i ≤ n) && decide (k ≤ n - i)
theorem inB_iff (n : Nat) (i k : Int) : inB n i k = true ↔ 0 ≤ k ∧ 0 ≤ i ∧ i ≤ n ∧ k ≤ n - i := by
  unfold inB
  simp
  omega
theorem inB_not (n : Nat) (i k : Int) : inB n i k = false ↔ k < 0 ∨ (0 ≤ k ∧ i < 0) ∨ (0 ≤ k ∧ 0 ≤ i ∧ n < i) ∨ (0 ≤ k ∧ 0 ≤ i ∧ i ≤ n ∧ n - i < k) := by
  unfold inB
  simp
  omega
set_option maxHeartbeats 400000 in
theorem fill_no (b n : Nat) (i k : Int) (v : Bool) (w : World) (h : w.cell? ⟨b, 0, none⟩ = some (.int .i64 n)) (hn : n ≤ 1048576) (hi : inB n i k = false) :
    Calls Tryz.prog 84 #[.pointer (some ⟨b, 0, none⟩), .int .i64 i, .int .i64 k, .bool v] w fun e w' => e = .returned (.int .i64 3) ∧ w = w' := by
  rcases (inB_not n i k).1 hi with a | ⟨a, a2⟩ | ⟨a, a2, a3⟩ | ⟨a, a2, a3, a4⟩
  all_goals
    clear hi
    go_enter Tryz.func84, Tryz.ntmps84
    go_wp2
    go_ret
    exact ⟨rfl, rfl⟩
theorem new_no (n : Int) (w : World) (h : n < 1 ∨ 1048576 < n) :
    Calls Tryz.prog 52 #[.int .i64 n] w fun e w' => e = .returned (.tuple #[.pointer none, .int .i64 3]) ∧ w = w' := by
  rcases h with h | h
  · go_enter Tryz.func52, Tryz.ntmps52
    go_wp2
    go_ret2
    exact ⟨rfl, rfl⟩
  · have h0 : 1 ≤ n := by omega
    go_enter Tryz.func52, Tryz.ntmps52
    go_wp2
    go_ret2
    exact ⟨rfl, rfl⟩
/-- What New leaves. -/
def NewPost (n : Nat) (w : World) (e : Ending) (w' : World) : Prop :=
  e = .returned (.tuple #[.pointer (some ⟨w.heap.size + 1, 0, none⟩), .int .i64 0]) ∧ MapAt w' (w.heap.size + 1) w.heap.size n (fun _ => 0) ∧ Below w.heap.size w w' ∧ w'.heap.size = w.heap.size + 2
set_option maxHeartbeats 400000 in
theorem new_ok (n : Nat) (w : World) (h : 1 ≤ n) (h2 : n ≤ 1048576) :
    Calls Tryz.prog 52 #[.int .i64 n] w (NewPost n w) := by
  obtain ⟨m, hm⟩ : ∃ m, m = (n + 63) / 64 := ⟨_, rfl⟩
  have hM : ((n : Int) + 64 - 1) / 64 = (m : Int) := by omega
  have hmk := fun W => run_make_row' (P := Tryz.prog) 41 33 (.int .u64 0) 8 Tryz.underlying41 (by kernel_rfl) rfl .i64 .i64 m (by omega) (by omega) W
  have HM := Lib.hid hm
  clear hm
  go_enter Tryz.func52, Tryz.ntmps52
  go_wp2
  go_ret2
  have W1 := (Whole.fresh w 33 (madeCells #[.int .u64 0] m)).alloc (.cells #[.int .i64 n, .slice (some ⟨w.heap.size, 0, none⟩) m m] 154)
  have W2 := Whole.fresh (w.alloc (.cells (madeCells #[.int .u64 0] m) 33)) 154 #[.int .i64 n, .slice (some ⟨w.heap.size, 0, none⟩) m m]
  rw [World.size_alloc] at W2
  refine ⟨rfl, ⟨h, h2, (W2.cell 0).trans rfl, ?_, fun k hk => ?_, fun k _ => W1.free k, fun _ => by omega, fun i _ => by simp [BM.on], by omega⟩, ((Below.refl _ _).alloc (Nat.le_refl _) _).alloc (by simp) _, by simp⟩
  · rw [← HM.out]; exact (W2.cell 1).trans rfl
  · rw [← HM.out] at hk
    exact (W1.cell k).trans (made_at _ _ _ hk)

/-- The document's map: its places. -/
structure RefAt (w : World) (r n : Nat) (f : Nat → Bool) : Prop where
  cell : ∀ k, k < n → w.cell? ⟨r, k, none⟩ = some (.bool (f k))
  thaw : ∀ k, k < n → w.frozen? ⟨r, k, none⟩ = false
theorem RefAt.below {B r n : Nat} {w w' : World} {f : Nat → Bool} (h : RefAt w r n f) (hb : Below B w w') (hr : r < B) : RefAt w' r n f :=
  ⟨fun k hk => (hb.cell (p := ⟨r, k, none⟩) hr).trans (h.cell k hk), fun k hk => (hb.frozen (p := ⟨r, k, none⟩) hr).trans (h.thaw k hk)⟩
theorem RefAt.only {c r n : Nat} {w w' : World} {f : Nat → Bool} (h : RefAt w r n f) (ho : OnlyAt c w w') (hr : r ≠ c) : RefAt w' r n f :=
  ⟨fun k hk => (ho.cell (p := ⟨r, k, none⟩) hr).trans (h.cell k hk), fun k hk => (ho.frozen (p := ⟨r, k, none⟩) hr).trans (h.thaw k hk)⟩
theorem RefAt.congr {r n : Nat} {w : World} {f g : Nat → Bool} (h : RefAt w r n f) (e : ∀ k, f k = g k) : RefAt w r n g :=
  ⟨fun k hk => by rw [← e k]; exact h.cell k hk, h.thaw⟩
theorem MapAt.below {B b c n : Nat} {w w' : World} {ws : Nat → Nat} (h : MapAt w b c n ws) (hb : Below B w w') (h1 : b < B) (h2 : c < B) : MapAt w' b c n ws :=
  ⟨h.n1, h.n2, (hb.cell (p := ⟨b, 0, none⟩) h1).trans h.len, (hb.cell (p := ⟨b, 1, none⟩) h1).trans h.row, fun k hk => (hb.cell (p := ⟨c, k, none⟩) h2).trans (h.word k hk),
    fun k hk => (hb.frozen (p := ⟨c, k, none⟩) h2).trans (h.thaw k hk), h.lt, h.past, h.ne⟩
theorem MapAt.only {r b c n : Nat} {w w' : World} {ws : Nat → Nat} (h : MapAt w b c n ws) (ho : OnlyAt r w w') (h1 : b ≠ r) (h2 : c ≠ r) : MapAt w' b c n ws :=
  ⟨h.n1, h.n2, (ho.cell (p := ⟨b, 0, none⟩) h1).trans h.len, (ho.cell (p := ⟨b, 1, none⟩) h1).trans h.row, fun k hk => (ho.cell (p := ⟨c, k, none⟩) h2).trans (h.word k hk),
    fun k hk => (ho.frozen (p := ⟨c, k, none⟩) h2).trans (h.thaw k hk), h.lt, h.past, h.ne⟩

def RefNewPost (n : Nat) (w : World) (e : Ending) (w' : World) : Prop :=
  e = .returned (.slice (some ⟨w.heap.size, 0, none⟩) n n) ∧ RefAt w' w.heap.size n (fun _ => false) ∧ Below w.heap.size w w' ∧ w'.heap.size = w.heap.size + 1
theorem RefAt.stored {w : World} {r n : Nat} {f : Nat → Bool} (h : RefAt w r n f) (k : Nat) (v : Bool) :
    RefAt (w.setCell ⟨r, k, none⟩ (.bool v)) r n (fun q => if q = k then v else f q) := by
  refine ⟨fun j hj => ?_, fun j hj => by rw [World.frozen?_setCell]; exact h.thaw j hj⟩
  by_cases e : j = k
  · subst e
    rw [if_pos rfl]
    exact World.cell?_setCell_same' _ _ _ (by rw [h.cell j hj]; rfl)
  · rw [if_neg e]
    exact (World.cell?_setCell_other _ _ _ _ (by first | (simp; done) | (simp; omega))).trans (h.cell j hj)
def RefFilled (w : World) (r n : Nat) (f : Nat → Bool) (i k : Nat) (v : Bool) (e : Ending) (w' : World) : Prop :=
  (∃ x, e = .returned x) ∧ OnlyAt r w w' ∧ RefAt w' r n (fun q => if i ≤ q ∧ q < i + k then v else f q)
def RefFillAt (w : World) (r n : Nat) (f : Nat → Bool) (i k : Nat) (v : Bool) (x : Value) (wr : World) : Prop :=
  ∃ j : Nat, j ≤ k ∧ x = .int .i64 j ∧ OnlyAt r w wr ∧ RefAt wr r n (fun q => if i ≤ q ∧ q < i + j then v else f q)
end Go.Proofs.YteneadimchhhhaaGreatDoor
/- Contracts of First, Run, All, Same of the document's answers. -/
namespace Go.Proofs.YteneadimchhhhaaGreatDoor
open Go.RowKit

theorem firstVal_yes {f : Nat → Bool} {n : Nat} {i : Int} {k : Nat} (hk : k < n) (h1 : i ≤ k) (hf : f k = false) (h2 : ∀ q : Nat, i ≤ q → q < k → f q = true) : firstVal f n i = .tuple #[.int .i64 (k : Nat), .bool true] := by
  unfold firstVal
  have e : BM.nx f n false i.toNat = k := BM.nx_eq _ _ _ _ _ (by omega) (fun q a b => by rw [h2 q (by omega) b]; rfl) (fun _ => ⟨by omega, hf⟩)
  rw [e, if_pos hk]
theorem firstVal_no {f : Nat → Bool} {n : Nat} {i : Int} (h2 : ∀ q : Nat, i ≤ q → q < n → f q = true) : firstVal f n i = .tuple #[.int .i64 0, .bool false] := by
  unfold firstVal
  have e : BM.nx f n false i.toNat = n := BM.nx_eq _ _ _ _ _ (by omega) (fun q a b => by rw [h2 q (by omega) b]; rfl) (fun h => absurd h (by omega))
  rw [e, if_neg (by omega)]

end Go.Proofs.YteneadimchhhhaaGreatDoor
/- Contracts of All and Same of the document's answers; slices of places. -/
namespace Go.Proofs.YteneadimchhhhaaGreatDoor
open Go.RowKit

theorem infoInt : (Tryz.prog.info? 3).map (fun i => (i.zero, i.size, i.bytes)) = some (some (.int .i64 0), 1, 8) := by kernel_rfl

/-- Places as values. -/
def vals (xs : List Nat) : List Value := xs.map fun x => Value.int .i64 (x : Nat)
theorem vals_snoc (xs : List Nat) (a : Nat) : vals (xs ++ [a]) = vals xs ++ [.int .i64 (a : Nat)] := by simp [vals]
theorem vals_len (xs : List Nat) : (vals xs).length = xs.length := by simp [vals]

/-- A slice that reads as these places. -/
def IS (w : World) (v : Value) (xs : List Nat) : Prop :=
  ∃ A c, v = .slice A xs.length c ∧ ∀ i x, xs[i]? = some x → ∃ g off, A = some ⟨g, off, none⟩ ∧ w.cell? ⟨g, off + i, none⟩ = some (.int .i64 (x : Nat))
theorem IS.of_owns {w : World} {base : Nat} {e : TypeId} {v : Value} {xs : List Nat} (h : w.ownsRow base e 1 v xs.length (vals xs)) : IS w v xs := by
  obtain ⟨h1, h2⟩ := h
  rcases h2 with ⟨rfl, h0⟩ | ⟨g, cap, cur, rfl, hg, hh, hn, hm, hs, ht⟩
  · have : xs = [] := List.length_eq_zero_iff.1 h0
    subst this
    exact ⟨none, 0, rfl, fun i x h => by simp at h⟩
  · refine ⟨_, cap, rfl, fun i x hx => ⟨g, 0, rfl, ?_⟩⟩
    have hi : i < xs.length := (List.getElem?_eq_some_iff.1 hx).1
    have hv : (vals xs)[i]? = some (.int .i64 (x : Nat)) := by simp [vals, hx]
    rw [← ht, List.getElem?_take, if_pos (by omega)] at hv
    rw [Nat.zero_add]
    simpa [World.cell?, hh] using hv
theorem IS.below {B : Nat} {w w' : World} {v : Value} {xs : List Nat} (h : IS w v xs) (hb : Below B w w') (hlt : ∀ g off n c, v = .slice (some ⟨g, off, none⟩) n c → g < B) : IS w' v xs := by
  obtain ⟨A, c, rfl, hc⟩ := h
  refine ⟨A, c, rfl, fun i x hx => ?_⟩
  obtain ⟨g, off, rfl, h1⟩ := hc i x hx
  exact ⟨g, off, rfl, (hb.cell (p := ⟨g, off + i, none⟩) (hlt g off _ _ rfl)).trans h1⟩

/-- What is left by a call that makes a slice of these places. -/
def RowPost (xs : List Nat) (w : World) (e : Ending) (w' : World) : Prop :=
  ∃ v, e = .returned v ∧ w'.ownsRow w.heap.size 3 1 v xs.length (vals xs) ∧ Below w.heap.size w w'

set_option maxHeartbeats 1000000 in
theorem same_any (u v : Value) (xs : List Nat) (w : World) (hn : xs.length ≤ 1048576) (hu : IS w u xs) (hv : IS w v xs) :
    Calls Tryz.prog 14 #[u, v] w fun e w' => e = .returned (.bool true) ∧ Below w.heap.size w w' := by
  obtain ⟨A, c, rfl, hA⟩ := hu
  obtain ⟨B, d, rfl, hB⟩ := hv
  have HA := Lib.hid hA
  have HB := Lib.hid hB
  clear hA hB
  obtain ⟨n, hn'⟩ : ∃ n, n = xs.length := ⟨_, rfl⟩
  rw [← hn'] at hn ⊢
  have HN := Lib.hid hn'
  clear hn'
  go_enter Tryz.func14, Tryz.ntmps14
  go_wp2
  go_loopw [5] (fun x wr => ∃ k j : Nat, k ≤ n ∧ x = .int .i64 k ∧ wr = w.drewN j) (fun x _ => n - (intOf x).toNat)
  case atStart => exact ⟨0, 0, Nat.zero_le _, rfl, rfl⟩
  case round =>
    obtain ⟨k, j, hk, rfl, rfl⟩ := hrel
    by_cases hlt : k < n
    · obtain ⟨x, hx⟩ : ∃ x, xs[k]? = some x := ⟨xs[k]'(by have := HN.out; omega), by simp⟩
      obtain ⟨g1, o1, rfl, c1⟩ := HA.out k x hx
      obtain ⟨g2, o2, rfl, c2⟩ := HB.out k x hx
      have HX := Lib.hid hx
      clear hx
      have e1 : (w.drewN j).cell? ⟨g1, o1 + k, none⟩ = some (.int .i64 (x : Nat)) := c1
      have e2 : (w.drewN j).cell? ⟨g2, o2 + k, none⟩ = some (.int .i64 (x : Nat)) := c2
      go_wp2
      go_quiet (fail)
      go_wp2
      go_roundw
      case rel => exact ⟨k + 1, _, by omega, by go_num, rfl⟩
      case measure => simp [intOf]; omega
    · go_wp2
      go_ret
      exact ⟨rfl, below_drewN (Below.refl _ _) _⟩
end Go.Proofs.YteneadimchhhhaaGreatDoor
