/- Plain mathematics of numbers in the bits of a word: no program in sight. -/
import Derived.WalkKit
namespace Go.Proofs.Ytomjaieplpjcpaa.FM
open Go.RowKit

/-- The greatest number of b bits. -/
def gr (b : Int) : Int := ((2 ^ b.toNat - 1 : Nat) : Int)
/-- The bits of a field. -/
def boN (A B : Nat) : Nat := (2 ^ B - 1) * 2 ^ A
def bo (a b : Int) : Int := (boN a.toNat b.toNat : Int)
/-- What a field has. -/
def numN (X A B : Nat) : Nat := X / 2 ^ A % 2 ^ B
def num (x a b : Int) : Int := (numN x.toNat a.toNat b.toNat : Int)
/-- The word, but that a field has another number. -/
def putN (X A B Y : Nat) : Nat := (X &&& (18446744073709551615 - boN A B)) ||| (Y * 2 ^ A)
def put (x a b y : Int) : Int := (putN x.toNat a.toNat b.toNat y.toNat : Int)
/-- A field that is right. -/
def right (a b : Int) : Bool := decide (0 ≤ a ∧ a ≤ 63 ∧ 1 ≤ b ∧ a + b ≤ 64)
theorem right_iff (a b : Int) : right a b = true ↔ 0 ≤ a ∧ a ≤ 63 ∧ 1 ≤ b ∧ a + b ≤ 64 := by simp [right]
theorem right_not (a b : Int) : right a b = false ↔ ¬ (0 ≤ a ∧ a ≤ 63 ∧ 1 ≤ b ∧ a + b ≤ 64) := by simp [right]

def Word (x : Int) : Prop := 0 ≤ x ∧ x < 18446744073709551616

theorem pow_pos' (n : Nat) : 0 < 2 ^ n := Nat.two_pow_pos n
theorem pow64 : (2 : Nat) ^ 64 = 18446744073709551616 := by decide
theorem pow_le64 (n : Nat) (h : n ≤ 64) : 2 ^ n ≤ 18446744073709551616 := by
  rw [← pow64]; exact Nat.pow_le_pow_right (by decide) h

theorem gr_eq (b : Int) (h1 : 1 ≤ b) (h2 : b ≤ 64) : (18446744073709551615 : Int) / 2 ^ (64 - b).toNat = gr b := by
  unfold gr
  obtain ⟨n, rfl⟩ := Int.eq_ofNat_of_zero_le (show 0 ≤ b by omega)
  have hn : n ≤ 64 := by omega
  have e : (64 - (n : Int)).toNat = 64 - n := by omega
  rw [e, Int.toNat_natCast]
  have hp : (2 : Int) ^ (64 - n) = ((2 ^ (64 - n) : Nat) : Int) := by simp
  rw [hp]
  have h : (18446744073709551615 : Nat) / 2 ^ (64 - n) = 2 ^ n - 1 := by
    have hpw : 2 ^ n * 2 ^ (64 - n) = 18446744073709551616 := by rw [← Nat.pow_add, ← pow64]; congr 1; omega
    have hpos := pow_pos' (64 - n)
    have hpos2 := pow_pos' n
    apply Nat.div_eq_of_lt_le
    · rw [Nat.sub_mul, hpw]; omega
    · rw [Nat.sub_add_cancel (by omega), hpw]; omega
  have hc : (((18446744073709551615 : Nat) / 2 ^ (64 - n) : Nat) : Int) = ((2 ^ n - 1 : Nat) : Int) := by rw [h]
  rw [Int.natCast_ediv] at hc
  exact hc

theorem gr_lt (b : Int) (h2 : b ≤ 64) : 0 ≤ gr b ∧ gr b < 18446744073709551616 := by
  unfold gr
  have := pow_le64 b.toNat (by omega)
  have := pow_pos' b.toNat
  omega

theorem and_gr (y : Int) (b : Int) (hy : Word y) (h2 : b ≤ 64) : bits .and .u64 y (gr b) = ((y.toNat % 2 ^ b.toNat : Nat) : Int) := by
  have hg := gr_lt b h2
  rw [u64_and y (gr b) hy.1 hy.2 hg.1 hg.2]
  have e : (gr b).toNat = 2 ^ b.toNat - 1 := by unfold gr; exact Int.toNat_natCast _
  rw [e, Nat.and_two_pow_sub_one_eq_mod]

theorem shr_word (x a : Int) (hx : Word x) : Word (x / 2 ^ a.toNat) := by
  obtain ⟨h0, h1⟩ := hx
  obtain ⟨X, rfl⟩ := Int.eq_ofNat_of_zero_le h0
  have hp : (2 : Int) ^ a.toNat = ((2 ^ a.toNat : Nat) : Int) := by simp
  rw [hp]
  have : X / 2 ^ a.toNat ≤ X := Nat.div_le_self _ _
  constructor
  · exact Int.ediv_nonneg (by omega) (Int.natCast_nonneg _)
  · have e : (X : Int) / ((2 ^ a.toNat : Nat) : Int) = ((X / 2 ^ a.toNat : Nat) : Int) := by simp
    rw [e]; omega

theorem shr_toNat (x a : Int) (h0 : 0 ≤ x) : (x / 2 ^ a.toNat).toNat = x.toNat / 2 ^ a.toNat := by
  obtain ⟨X, rfl⟩ := Int.eq_ofNat_of_zero_le h0
  have hp : (2 : Int) ^ a.toNat = ((2 ^ a.toNat : Nat) : Int) := by simp
  rw [hp, ← Int.natCast_ediv, Int.toNat_natCast, Int.toNat_natCast]

theorem num_eq (x a b : Int) (hx : Word x) (h2 : b ≤ 64) : bits .and .u64 (x / 2 ^ a.toNat) (gr b) = num x a b := by
  rw [and_gr _ b (shr_word x a hx) h2, shr_toNat x a hx.1]
  rfl

theorem num_word (x a b : Int) (h2 : b ≤ 64) : Word (num x a b) := by
  unfold num numN Word
  have := pow_le64 b.toNat (by omega)
  have := Nat.mod_lt (x.toNat / 2 ^ a.toNat) (pow_pos' b.toNat)
  omega

theorem boN_lt (A B : Nat) (h : A + B ≤ 64) : boN A B < 18446744073709551616 := by
  unfold boN
  have h1 := pow_le64 (A + B) h
  have h2 := pow_pos' A
  rw [Nat.pow_add] at h1
  rw [Nat.sub_mul]
  have : 2 ^ B * 2 ^ A = 2 ^ A * 2 ^ B := Nat.mul_comm _ _
  omega

theorem bo_word (a b : Int) (h : right a b = true) : Word (bo a b) := by
  obtain ⟨h1, h2, h3, h4⟩ := (right_iff a b).1 h
  have := boN_lt a.toNat b.toNat (by omega)
  unfold bo Word
  omega

theorem shl_gr (a b : Int) (h : right a b = true) : IntKind.u64.wrap (gr b * 2 ^ a.toNat) = bo a b := by
  have hw := bo_word a b h
  have e : gr b * 2 ^ a.toNat = bo a b := by unfold gr bo boN; simp
  rw [e, IntKind.wrap_u64]
  exact Int.emod_eq_of_lt hw.1 hw.2

theorem bit_eq (x i : Int) (h0 : 0 ≤ x) : x / 2 ^ i.toNat % 2 = ((x.toNat.testBit i.toNat).toNat : Int) := by
  obtain ⟨X, rfl⟩ := Int.eq_ofNat_of_zero_le h0
  rw [Nat.toNat_testBit, Int.toNat_natCast]
  simp

theorem wrap_pow (i : Int) (h : i ≤ 63) : IntKind.u64.wrap (2 ^ i.toNat) = 2 ^ i.toNat := by
  rw [IntKind.wrap_u64]
  have hp : (2 : Int) ^ i.toNat = ((2 ^ i.toNat : Nat) : Int) := by simp
  have h1 : 2 ^ i.toNat < 2 ^ 64 := Nat.pow_lt_pow_right (by decide) (by omega)
  rw [pow64] at h1
  rw [hp]
  exact Int.emod_eq_of_lt (Int.natCast_nonneg _) (by omega)
theorem wrap_pow_ne (i : Int) (h : i ≤ 63) : ¬ IntKind.u64.wrap (2 ^ i.toNat) = 0 := by
  rw [wrap_pow i h]
  have hp : (2 : Int) ^ i.toNat = ((2 ^ i.toNat : Nat) : Int) := by simp
  have := pow_pos' i.toNat
  rw [hp]
  omega

/-- A word's bit, as a number. -/
def bit (x i : Int) : Int := ((x.toNat.testBit i.toNat).toNat : Int)
theorem bit_val (x i : Int) (hx : Word x) (h : i ≤ 63) : (IntKind.u64.wrap (x.tdiv (IntKind.u64.wrap (2 ^ i.toNat)))).tmod 2 = bit x i := by
  rw [wrap_pow i h]
  have hp : (2 : Int) ^ i.toNat = ((2 ^ i.toNat : Nat) : Int) := by simp
  have hd : x.tdiv (2 ^ i.toNat) = x / 2 ^ i.toNat := Int.tdiv_eq_ediv_of_nonneg hx.1
  have hw := shr_word x i hx
  rw [hd, IntKind.wrap_u64, Int.emod_eq_of_lt hw.1 hw.2, Int.tmod_eq_emod_of_nonneg hw.1, bit_eq x i hx.1]
  rfl
theorem bit_01 (x i : Int) : 0 ≤ bit x i ∧ bit x i ≤ 1 := by
  unfold bit
  cases x.toNat.testBit i.toNat <;> simp

theorem putN_lt (X A B Y : Nat) (hX : X < 18446744073709551616) (h : A + B ≤ 64) (hY : Y < 2 ^ B) : putN X A B Y < 18446744073709551616 := by
  unfold putN
  rw [← pow64] at hX ⊢
  refine Nat.or_lt_two_pow (Nat.lt_of_le_of_lt Nat.and_le_left hX) ?_
  have h1 : 2 ^ (A + B) ≤ 2 ^ 64 := Nat.pow_le_pow_right (by decide) h
  rw [Nat.pow_add] at h1
  have h2 : Y * 2 ^ A < 2 ^ B * 2 ^ A := Nat.mul_lt_mul_of_pos_right hY (pow_pos' A)
  have : 2 ^ B * 2 ^ A = 2 ^ A * 2 ^ B := Nat.mul_comm _ _
  omega

/-- A number has no more than so many bits. -/
def fits (y b : Int) : Bool := decide (y ≤ gr b)
theorem fits_iff (y b : Int) (h0 : 0 ≤ y) : fits y b = true ↔ y.toNat < 2 ^ b.toNat := by
  unfold fits gr
  have := pow_pos' b.toNat
  simp
  omega

theorem put_eq (x a b y : Int) (hx : Word x) (hy : Word y) (h : right a b = true) (hf : fits y b = true) :
    bits .or .u64 (bits .andNot .u64 x (bo a b)) (IntKind.u64.wrap (y * 2 ^ a.toNat)) = put x a b y := by
  obtain ⟨h1, h2, h3, h4⟩ := (right_iff a b).1 h
  have hf' := (fits_iff y b hy.1).1 hf
  have hbo := bo_word a b h
  have hA : a.toNat + b.toNat ≤ 64 := by omega
  have hsh : y.toNat * 2 ^ a.toNat < 18446744073709551616 := by
    have h1 := pow_le64 (a.toNat + b.toNat) hA
    rw [Nat.pow_add] at h1
    have h2 : y.toNat * 2 ^ a.toNat < 2 ^ b.toNat * 2 ^ a.toNat := Nat.mul_lt_mul_of_pos_right hf' (pow_pos' _)
    have : 2 ^ b.toNat * 2 ^ a.toNat = 2 ^ a.toNat * 2 ^ b.toNat := Nat.mul_comm _ _
    omega
  have e1 : IntKind.u64.wrap (y * 2 ^ a.toNat) = ((y.toNat * 2 ^ a.toNat : Nat) : Int) := by
    have e : y * 2 ^ a.toNat = ((y.toNat * 2 ^ a.toNat : Nat) : Int) := by
      rw [Int.natCast_mul, Int.toNat_of_nonneg hy.1]; simp
    rw [e, IntKind.wrap_u64]
    exact Int.emod_eq_of_lt (Int.natCast_nonneg _) (by omega)
  rw [e1, u64_andNot x (bo a b) hx.1 hx.2 hbo.1 hbo.2]
  have hlt : x.toNat &&& (18446744073709551615 - (bo a b).toNat) < 18446744073709551616 :=
    Nat.lt_of_le_of_lt Nat.and_le_left (by have := hx.2; have := hx.1; omega)
  rw [u64_or_nat _ _ hlt hsh]
  rfl
theorem put_word (x a b y : Int) (hx : Word x) (hy : 0 ≤ y) (h : right a b = true) (hf : fits y b = true) : Word (put x a b y) := by
  obtain ⟨h1, h2, h3, h4⟩ := (right_iff a b).1 h
  have hf' := (fits_iff y b hy).1 hf
  have := putN_lt x.toNat a.toNat b.toNat y.toNat (by have := hx.2; have := hx.1; omega) (by omega) hf'
  unfold put Word
  omega

/-- Fields that are right, and share no bit, nor one with t. -/
def apartGo (t : Nat) : List (Int × Int) → Bool
  | [] => true
  | f :: r => right f.1 f.2 && (t &&& boN f.1.toNat f.2.toNat == 0) && apartGo (t ||| boN f.1.toNat f.2.toNat) r
def apart (l : List (Int × Int)) : Bool := apartGo 0 l

theorem drop_cons {α : Type} (l : List α) (k : Nat) (h : k < l.length) : l.drop k = l[k] :: l.drop (k + 1) := List.drop_eq_getElem_cons h

theorem and_bo (t : Nat) (a b : Int) (ht : t < 18446744073709551616) (h : right a b = true) : bits .and .u64 (t : Int) (bo a b) = ((t &&& boN a.toNat b.toNat : Nat) : Int) := by
  have hb := boN_lt a.toNat b.toNat (by have := (right_iff a b).1 h; omega)
  exact u64_and_nat t _ ht hb
theorem or_bo (t : Nat) (a b : Int) (ht : t < 18446744073709551616) (h : right a b = true) : bits .or .u64 (t : Int) (bo a b) = ((t ||| boN a.toNat b.toNat : Nat) : Int) := by
  have hb := boN_lt a.toNat b.toNat (by have := (right_iff a b).1 h; omega)
  exact u64_or_nat t _ ht hb
theorem or_bo_lt (t : Nat) (a b : Int) (ht : t < 18446744073709551616) (h : right a b = true) : t ||| boN a.toNat b.toNat < 18446744073709551616 := by
  have hb := boN_lt a.toNat b.toNat (by have := (right_iff a b).1 h; omega)
  rw [← pow64] at ht hb ⊢
  exact Nat.or_lt_two_pow ht hb
theorem go_wrong (t : Nat) (f : Int × Int) (r : List (Int × Int)) (h : right f.1 f.2 = false) : apartGo t (f :: r) = false := by simp [apartGo, h]
theorem go_share (t : Nat) (f : Int × Int) (r : List (Int × Int)) (h : ¬ t &&& boN f.1.toNat f.2.toNat = 0) : apartGo t (f :: r) = false := by simp [apartGo, h]
theorem go_next (t : Nat) (f : Int × Int) (r : List (Int × Int)) (hr : right f.1 f.2 = true) (h : t &&& boN f.1.toNat f.2.toNat = 0) : apartGo t (f :: r) = apartGo (t ||| boN f.1.toNat f.2.toNat) r := by simp [apartGo, h, hr]

/-- The word of some fields' numbers; none, if one is too great. -/
def packGo (W : Nat) : List (Int × Int) → List Int → Option Nat
  | f :: r, x :: q => if fits x f.2 = true then packGo (W ||| x.toNat * 2 ^ f.1.toNat) r q else none
  | _, _ => some W
theorem pack_stop (W : Nat) (f : Int × Int) (r : List (Int × Int)) (x : Int) (q : List Int) (h : fits x f.2 = false) : packGo W (f :: r) (x :: q) = none := by simp [packGo, h]
theorem pack_next (W : Nat) (f : Int × Int) (r : List (Int × Int)) (x : Int) (q : List Int) (h : fits x f.2 = true) : packGo W (f :: r) (x :: q) = packGo (W ||| x.toNat * 2 ^ f.1.toNat) r q := by simp [packGo, h]
theorem apart_right (t : Nat) (l : List (Int × Int)) (h : apartGo t l = true) : ∀ f ∈ l, right f.1 f.2 = true := by
  induction l generalizing t with
  | nil => intro f hf; cases hf
  | cons g r ih =>
    simp only [apartGo, Bool.and_eq_true] at h
    intro f hf
    rcases List.mem_cons.1 hf with rfl | hf
    · exact h.1.1
    · exact ih _ h.2 f hf
theorem shl_lt (x a b : Int) (h0 : 0 ≤ x) (h : right a b = true) (hf : fits x b = true) : x.toNat * 2 ^ a.toNat < 18446744073709551616 := by
  obtain ⟨h1, h2, h3, h4⟩ := (right_iff a b).1 h
  have hf' := (fits_iff x b h0).1 hf
  have h1 := pow_le64 (a.toNat + b.toNat) (by omega)
  rw [Nat.pow_add] at h1
  have h2 : x.toNat * 2 ^ a.toNat < 2 ^ b.toNat * 2 ^ a.toNat := Nat.mul_lt_mul_of_pos_right hf' (pow_pos' _)
  have : 2 ^ b.toNat * 2 ^ a.toNat = 2 ^ a.toNat * 2 ^ b.toNat := Nat.mul_comm _ _
  omega
theorem wrap_shl (x a b : Int) (h0 : 0 ≤ x) (h : right a b = true) (hf : fits x b = true) : IntKind.u64.wrap (x * 2 ^ a.toNat) = ((x.toNat * 2 ^ a.toNat : Nat) : Int) := by
  have hl := shl_lt x a b h0 h hf
  have e : x * 2 ^ a.toNat = ((x.toNat * 2 ^ a.toNat : Nat) : Int) := by
    rw [Int.natCast_mul, Int.toNat_of_nonneg h0]; simp
  rw [e, IntKind.wrap_u64]
  exact Int.emod_eq_of_lt (Int.natCast_nonneg _) (by omega)
theorem pack_or (W : Nat) (x a b : Int) (hW : W < 18446744073709551616) (h0 : 0 ≤ x) (h : right a b = true) (hf : fits x b = true) :
    bits .or .u64 (W : Int) (IntKind.u64.wrap (x * 2 ^ a.toNat)) = ((W ||| x.toNat * 2 ^ a.toNat : Nat) : Int) ∧ W ||| x.toNat * 2 ^ a.toNat < 18446744073709551616 := by
  have hl := shl_lt x a b h0 h hf
  rw [wrap_shl x a b h0 h hf]
  refine ⟨u64_or_nat W _ hW hl, ?_⟩
  rw [← pow64] at hW hl ⊢
  exact Nat.or_lt_two_pow hW hl

theorem cut_ex (t b : Int) (h : 2 ≤ b) (h' : b ≤ 64) : ∃ k, wrap64 (1 + wrap64 ((IntKind.u64.wrap t).tmod (b - 1))) = k ∧ 1 ≤ k ∧ k ≤ b - 1 := by
  refine ⟨_, rfl, ?_⟩
  have h0 : 0 ≤ IntKind.u64.wrap t := by rw [IntKind.wrap_u64]; omega
  rw [Int.tmod_eq_emod_of_nonneg h0]
  have h1 := Int.emod_nonneg (IntKind.u64.wrap t) (show b - 1 ≠ 0 by omega)
  have h2 := Int.emod_lt_of_pos (IntKind.u64.wrap t) (show 0 < b - 1 by omega)
  generalize IntKind.u64.wrap t % (b - 1) = m at *
  unfold wrap64
  omega

theorem halvesN (X A B K : Nat) (hK : K ≤ B) : numN X A B = numN X (A + K) (B - K) * 2 ^ K + numN X A K := by
  unfold numN
  rw [show 2 ^ B = 2 ^ K * 2 ^ (B - K) by rw [← Nat.pow_add]; congr 1; omega, Nat.mod_mul, Nat.pow_add, ← Nat.div_div_eq_div_mul, Nat.mul_comm]
  omega

theorem halves_eq (x a b k : Int) (h : right a b = true) (h1 : 1 ≤ k) (h2 : k ≤ b - 1) :
    (num x a b == IntKind.u64.wrap (IntKind.u64.wrap (num x (a + k) (b - k) * 2 ^ k.toNat) + num x a k)) = true := by
  obtain ⟨g1, g2, g3, g4⟩ := (right_iff a b).1 h
  have hN := halvesN x.toNat a.toNat b.toNat k.toNat (by omega)
  have e1 : (a + k).toNat = a.toNat + k.toNat := by omega
  have e2 : (b - k).toNat = b.toNat - k.toNat := by omega
  have hw := (num_word x a b (by omega)).2
  have hp : (2 : Int) ^ k.toNat = ((2 ^ k.toNat : Nat) : Int) := by simp
  have hI : num x a b = num x (a + k) (b - k) * 2 ^ k.toNat + num x a k := by
    unfold num
    rw [e1, e2, hN, hp]
    simp
  have hb := num_word x a k (by omega)
  have hc := num_word x (a + k) (b - k) (by omega)
  have hpos : 0 ≤ num x (a + k) (b - k) * 2 ^ k.toNat := Int.mul_nonneg hc.1 (by rw [hp]; exact Int.natCast_nonneg _)
  generalize num x (a + k) (b - k) * 2 ^ k.toNat = P at *
  rw [IntKind.wrap_u64, IntKind.wrap_u64, beq_iff_eq]
  have := hb.1
  omega

end Go.Proofs.Ytomjaieplpjcpaa.FM
