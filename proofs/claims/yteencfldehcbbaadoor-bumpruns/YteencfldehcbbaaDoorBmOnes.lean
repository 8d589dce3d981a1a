/- Plain mathematics: how many bits of a word are on, by sums of bytes. -/
import Derived.Test.YteencfldehcbbaaDoorBmMath
namespace Go.Proofs.YteencfldehcbbaaDoor.BM
open Go.RowKit

/-- How many places below n are on. -/
def cnt (f : Nat → Bool) : Nat → Nat
  | 0 => 0
  | n + 1 => cnt f n + (f n).toNat
theorem cnt_le (f : Nat → Bool) (n : Nat) : cnt f n ≤ n := by
  induction n with
  | zero => exact Nat.le_refl _
  | succ n ih => unfold cnt; cases f n <;> simp <;> omega
theorem cnt_add (f : Nat → Bool) (a b : Nat) : cnt f (a + b) = cnt f a + cnt (fun i => f (a + i)) b := by
  induction b with
  | zero => rfl
  | succ b ih =>
    show cnt f (a + b) + (f (a + b)).toNat = _
    rw [ih, cnt]
    omega
theorem cnt_congr (f g : Nat → Bool) (n : Nat) (h : ∀ i, i < n → f i = g i) : cnt f n = cnt g n := by
  induction n with
  | zero => rfl
  | succ n ih => rw [cnt, cnt, ih (fun i hi => h i (by omega)), h n (by omega)]
theorem cnt_none (f : Nat → Bool) (n : Nat) (h : ∀ i, i < n → f i = false) : cnt f n = 0 := by
  induction n with
  | zero => rfl
  | succ n ih => rw [cnt, ih (fun i hi => h i (by omega)), h n (by omega)]; rfl

theorem and_split (p a b : Nat) : a &&& b = (a % 2 ^ p &&& b % 2 ^ p) + 2 ^ p * (a / 2 ^ p &&& b / 2 ^ p) := by
  rw [← Nat.and_mod_two_pow, ← Nat.and_div_two_pow]
  have := Nat.div_add_mod (a &&& b) (2 ^ p)
  omega
theorem and8 (a b : Nat) : a &&& b = (a % 256 &&& b % 256) + 256 * (a / 256 &&& b / 256) := and_split 8 a b

/-- A number whose bytes are c in all m places. -/
def rep (c : Nat) : Nat → Nat
  | 0 => 0
  | m + 1 => c + 256 * rep c m
/-- The number whose bytes are f of those of x. -/
def bmap (f : Nat → Nat) : Nat → Nat → Nat
  | 0, _ => 0
  | m + 1, x => f (x % 256) + 256 * bmap f m (x / 256)
/-- The sum of f of the bytes of x. -/
def bsum (f : Nat → Nat) : Nat → Nat → Nat
  | 0, _ => 0
  | m + 1, x => f (x % 256) + bsum f m (x / 256)

def s1 (b : Nat) : Nat := (b / 2 &&& 85) + (b &&& 85)
def s2 (b : Nat) : Nat := (s1 b / 4 &&& 51) + (s1 b &&& 51)
def s3 (b : Nat) : Nat := s2 b / 16 + s2 b % 16
theorem s1_lt : ∀ b, b < 256 → s1 b < 256 := by decide +kernel
theorem s2_lt : ∀ b, b < 256 → s2 b ≤ 68 ∧ s2 b % 16 ≤ 4 ∧ s2 b / 16 ≤ 4 := by decide +kernel
theorem s3_le : ∀ b, b < 256 → s3 b ≤ 8 := by decide +kernel
theorem s3_cnt : ∀ b, b < 256 → s3 b = cnt b.testBit 8 := by decide +kernel
theorem m85 : ∀ t, t < 512 → (t / 2) &&& 85 = (t % 256 / 2) &&& 85 := by decide +kernel
theorem m51 : ∀ t, t < 1024 → (t / 4) &&& 51 = (t % 256 / 4) &&& 51 := by decide +kernel

theorem rep_mod (c m : Nat) (h : c < 256) : rep c (m + 1) % 256 = c ∧ rep c (m + 1) / 256 = rep c m := by
  show (c + 256 * rep c m) % 256 = c ∧ (c + 256 * rep c m) / 256 = rep c m
  omega
theorem bmap_mod (f : Nat → Nat) (m x : Nat) (h : f (x % 256) < 256) : bmap f (m + 1) x % 256 = f (x % 256) ∧ bmap f (m + 1) x / 256 = bmap f m (x / 256) := by
  show (f (x % 256) + 256 * bmap f m (x / 256)) % 256 = f (x % 256) ∧ (f (x % 256) + 256 * bmap f m (x / 256)) / 256 = bmap f m (x / 256)
  omega
theorem step1 (m x : Nat) : (x / 2 &&& rep 85 m) + (x &&& rep 85 m) = bmap s1 m x := by
  induction m generalizing x with
  | zero => simp [rep, bmap]
  | succ m ih =>
    rw [and8 (x / 2), and8 x, (rep_mod 85 m (by decide)).1, (rep_mod 85 m (by decide)).2, bmap, ← ih (x / 256)]
    have e1 : x / 2 / 256 = x / 256 / 2 := by omega
    have e2 : (85 : Nat) % 256 = 85 := rfl
    have e3 : x / 2 % 256 = x % 512 / 2 := by omega
    have e4 := m85 (x % 512) (by omega)
    have e5 : x % 512 % 256 = x % 256 := by omega
    rw [e1, e3, e4, e5]
    unfold s1
    generalize x % 256 / 2 &&& 85 = A
    generalize x % 256 &&& 85 = B
    generalize x / 256 / 2 &&& rep 85 m = C
    generalize x / 256 &&& rep 85 m = D
    omega
theorem step2 (m x : Nat) : (bmap s1 m x / 4 &&& rep 51 m) + (bmap s1 m x &&& rep 51 m) = bmap s2 m x := by
  induction m generalizing x with
  | zero => simp [rep, bmap]
  | succ m ih =>
    have hb := bmap_mod s1 m x (s1_lt _ (by omega))
    rw [and8 (bmap s1 (m + 1) x / 4), and8 (bmap s1 (m + 1) x), (rep_mod 51 m (by decide)).1, (rep_mod 51 m (by decide)).2]
    conv => rhs; rw [bmap]
    rw [← ih (x / 256)]
    generalize bmap s1 (m + 1) x = y at *
    have e1 : y / 4 / 256 = y / 256 / 4 := by omega
    have e3 : y / 4 % 256 = y % 1024 / 4 := by omega
    have e4 := m51 (y % 1024) (by omega)
    have e5 : y % 1024 % 256 = y % 256 := by omega
    rw [e1, e3, e4, e5, hb.1, hb.2]
    unfold s2
    generalize s1 (x % 256) / 4 &&& 51 = A
    generalize s1 (x % 256) &&& 51 = B
    generalize bmap s1 m (x / 256) / 4 &&& rep 51 m = C
    generalize bmap s1 m (x / 256) &&& rep 51 m = D
    omega
theorem bmap_low (m x : Nat) : bmap s2 m x % 16 ≤ 4 := by
  cases m with
  | zero => simp [bmap]
  | succ m =>
    have := s2_lt (x % 256) (by omega)
    rw [bmap]
    omega
theorem and15 (a : Nat) : a % 256 &&& 15 = a % 16 := by
  rw [show (15 : Nat) = 2 ^ 4 - 1 from rfl, Nat.and_two_pow_sub_one_eq_mod]
  omega
theorem step3 (m x : Nat) : (bmap s2 m x / 16 + bmap s2 m x) &&& rep 15 m = bmap s3 m x := by
  induction m generalizing x with
  | zero => simp [rep, bmap]
  | succ m ih =>
    have hs := s2_lt (x % 256) (by omega)
    have hb := bmap_mod s2 m x (by omega)
    have hlow := bmap_low m (x / 256)
    rw [and8 (bmap s2 (m + 1) x / 16 + bmap s2 (m + 1) x), (rep_mod 15 m (by decide)).1, (rep_mod 15 m (by decide)).2, and15]
    conv => rhs; rw [bmap]
    rw [← ih (x / 256)]
    generalize bmap s2 (m + 1) x = y at *
    have e1 : (y / 16 + y) / 256 = bmap s2 m (x / 256) / 16 + bmap s2 m (x / 256) := by omega
    have e2 : (y / 16 + y) % 16 = s3 (x % 256) := by unfold s3; omega
    rw [e1, e2]
theorem rep85 : rep 85 8 = 6148914691236517205 := by decide
theorem rep51 : rep 51 8 = 3689348814741910323 := by decide
theorem rep15 : rep 15 8 = 1085102592571150095 := by decide

theorem cnt_bytes (m x : Nat) : cnt x.testBit (8 * m) = bsum s3 m x := by
  induction m generalizing x with
  | zero => rfl
  | succ m ih =>
    rw [bsum, ← ih (x / 256), s3_cnt _ (by omega), show 8 * (m + 1) = 8 + 8 * m by omega, cnt_add]
    congr 1
    · refine cnt_congr _ _ _ fun i hi => ?_
      rw [show (256 : Nat) = 2 ^ 8 from rfl, Nat.testBit_mod_two_pow]
      simp [hi]
    · refine cnt_congr _ _ _ fun i _ => ?_
      rw [show (256 : Nat) = 2 ^ 8 from rfl, div_bit]
theorem sum_bytes (x : Nat) : bmap s3 8 x < 1152921504606846976 ∧ bsum s3 8 x ≤ 64 ∧
    (let a := bmap s3 8 x + bmap s3 8 x / 256; let b := a + a / 65536; (b + b / 4294967296) % 128) = bsum s3 8 x := by
  simp only [bmap, bsum]
  have h0 := s3_le (x % 256) (by omega)
  have h1 := s3_le (x / 256 % 256) (by omega)
  have h2 := s3_le (x / 256 / 256 % 256) (by omega)
  have h3 := s3_le (x / 256 / 256 / 256 % 256) (by omega)
  have h4 := s3_le (x / 256 / 256 / 256 / 256 % 256) (by omega)
  have h5 := s3_le (x / 256 / 256 / 256 / 256 / 256 % 256) (by omega)
  have h6 := s3_le (x / 256 / 256 / 256 / 256 / 256 / 256 % 256) (by omega)
  have h7 := s3_le (x / 256 / 256 / 256 / 256 / 256 / 256 / 256 % 256) (by omega)
  generalize s3 (x % 256) = b0 at *
  generalize s3 (x / 256 % 256) = b1 at *
  generalize s3 (x / 256 / 256 % 256) = b2 at *
  generalize s3 (x / 256 / 256 / 256 % 256) = b3 at *
  generalize s3 (x / 256 / 256 / 256 / 256 % 256) = b4 at *
  generalize s3 (x / 256 / 256 / 256 / 256 / 256 % 256) = b5 at *
  generalize s3 (x / 256 / 256 / 256 / 256 / 256 / 256 % 256) = b6 at *
  generalize s3 (x / 256 / 256 / 256 / 256 / 256 / 256 / 256 % 256) = b7 at *
  refine ⟨by omega, by omega, ?_⟩
  have e0 : (b0 + 256 * (b1 + 256 * (b2 + 256 * (b3 + 256 * (b4 + 256 * (b5 + 256 * (b6 + 256 * (b7 + 256 * 0)))))))) / 256 = b1 + 256 * (b2 + 256 * (b3 + 256 * (b4 + 256 * (b5 + 256 * (b6 + 256 * b7))))) := by omega
  rw [e0]
  clear e0
  have e1 : (b0 + 256 * (b1 + 256 * (b2 + 256 * (b3 + 256 * (b4 + 256 * (b5 + 256 * (b6 + 256 * (b7 + 256 * 0))))))) + (b1 + 256 * (b2 + 256 * (b3 + 256 * (b4 + 256 * (b5 + 256 * (b6 + 256 * b7))))))) / 65536
      = (b2 + b3) + 256 * ((b3 + b4) + 256 * ((b4 + b5) + 256 * ((b5 + b6) + 256 * ((b6 + b7) + 256 * b7)))) := by omega
  rw [e1]
  clear e1
  have e2 : (b0 + 256 * (b1 + 256 * (b2 + 256 * (b3 + 256 * (b4 + 256 * (b5 + 256 * (b6 + 256 * (b7 + 256 * 0))))))) + (b1 + 256 * (b2 + 256 * (b3 + 256 * (b4 + 256 * (b5 + 256 * (b6 + 256 * b7)))))) + ((b2 + b3) + 256 * ((b3 + b4) + 256 * ((b4 + b5) + 256 * ((b5 + b6) + 256 * ((b6 + b7) + 256 * b7)))))) / 4294967296
      = (b4 + b5 + b6 + b7) + 256 * ((b5 + b6 + b7) + 256 * ((b6 + b7) + 256 * b7)) := by omega
  rw [e2]
  omega
end Go.Proofs.YteencfldehcbbaaDoor.BM
