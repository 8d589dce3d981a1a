/- Texts of this claim, laid into one file. -/
import Derived.WalkKit
import Derived.Test.YteneadimchhhhaaGreatDoorMgStLeaf
import Derived.Test.YteneadimchhhhaaGreatDoorMgBase
/- Plain mathematics of layouts: no program in sight. -/
namespace Go.Proofs.YteneadimchhhhaaGreatDoor.LM

/-- Places rise from lo on, each above the one ahead, and stay below K. -/
def rise (lo K : Int) : List Int → Bool
  | [] => true
  | p :: t => decide (lo ≤ p) && (decide (p < K) && rise (p + 1) K t)
theorem rise_low (lo K p : Int) (t : List Int) (h : p < lo) : rise lo K (p :: t) = false := by simp [rise]; omega
theorem rise_high (lo K p : Int) (t : List Int) (h : K ≤ p) : rise lo K (p :: t) = false := by simp [rise]; omega
theorem rise_next (lo K p : Int) (t : List Int) (h1 : lo ≤ p) (h2 : p < K) : rise lo K (p :: t) = rise (p + 1) K t := by simp [rise, h1, h2]
theorem rise_all (xs : List Int) : ∀ lo K, rise lo K xs = true → xs.Pairwise (· < ·) ∧ ∀ p ∈ xs, lo ≤ p ∧ p < K := by
  induction xs with
  | nil => intro lo K _; simp
  | cons p t ih =>
    intro lo K h
    simp [rise] at h
    obtain ⟨h1, h2, h3⟩ := h
    obtain ⟨i1, i2⟩ := ih _ _ h3
    refine ⟨List.pairwise_cons.2 ⟨fun q hq => by have := (i2 q hq).1; omega, i1⟩, fun q hq => ?_⟩
    rcases List.mem_cons.1 hq with rfl | hq
    · exact ⟨h1, h2⟩
    · have := i2 q hq; omega
theorem rise_of (xs : List Int) : ∀ lo K, xs.Pairwise (· < ·) → (∀ p ∈ xs, lo ≤ p ∧ p < K) → rise lo K xs = true := by
  induction xs with
  | nil => intro lo K _ _; rfl
  | cons p t ih =>
    intro lo K h1 h2
    obtain ⟨a, b⟩ := List.pairwise_cons.1 h1
    have hp := h2 p List.mem_cons_self
    rw [rise_next _ _ _ _ hp.1 hp.2]
    exact ih _ _ b fun q hq => ⟨by have := a q hq; omega, (h2 q (List.mem_cons_of_mem _ hq)).2⟩
theorem rise_len (xs : List Int) : ∀ lo K, rise lo K xs = true → lo ≤ K → (xs.length : Int) ≤ K - lo := by
  induction xs with
  | nil => intro lo K _ h; simp; omega
  | cons p t ih =>
    intro lo K h hl
    simp [rise] at h
    obtain ⟨h1, h2, h3⟩ := h
    have := ih _ _ h3 (by omega)
    simp only [List.length_cons]
    omega

/-- Fixed and Record may be. -/
def ends (F R : Int) : Bool := decide (0 ≤ F ∧ F ≤ 64 ∧ 0 ≤ R ∧ R ≤ 64 ∧ ¬ (F = 0 ∧ R = 0))
/-- A right layout. -/
def right (F R : Int) (xs ys : List Int) : Bool := ends F R && (rise 0 F xs && rise 0 R ys)
theorem ends_iff (F R : Int) : ends F R = true ↔ 0 ≤ F ∧ F ≤ 64 ∧ 0 ≤ R ∧ R ≤ 64 ∧ ¬ (F = 0 ∧ R = 0) := by unfold ends; exact decide_eq_true_iff
theorem right_no {F R : Int} {xs ys : List Int} (h : ¬ (0 ≤ F ∧ F ≤ 64 ∧ 0 ≤ R ∧ R ≤ 64 ∧ ¬ (F = 0 ∧ R = 0))) : right F R xs ys = false := by
  have : ends F R = false := by rw [Bool.eq_false_iff]; exact fun e => h ((ends_iff F R).1 e)
  simp [right, this]
theorem right_yes {F R : Int} {xs ys : List Int} (h : 0 ≤ F ∧ F ≤ 64 ∧ 0 ≤ R ∧ R ≤ 64 ∧ ¬ (F = 0 ∧ R = 0)) : right F R xs ys = (rise 0 F xs && rise 0 R ys) := by
  have : ends F R = true := (ends_iff F R).2 h
  simp [right, this]
theorem right_parts {F R : Int} {xs ys : List Int} (h : right F R xs ys = true) : (0 ≤ F ∧ F ≤ 64 ∧ 0 ≤ R ∧ R ≤ 64 ∧ ¬ (F = 0 ∧ R = 0)) ∧ rise 0 F xs = true ∧ rise 0 R ys = true := by
  simp [right] at h
  exact ⟨(ends_iff F R).1 h.1, h.2.1, h.2.2⟩

/-- The count may be. -/
def countOk (R C : Int) : Bool := decide (0 ≤ C ∧ C ≤ 1024 ∧ (R = 0 → C = 0))
theorem countOk_iff (R C : Int) : countOk R C = true ↔ 0 ≤ C ∧ C ≤ 1024 ∧ (R = 0 → C = 0) := by unfold countOk; exact decide_eq_true_iff
/-- Size's error, and what it tells. -/
def code (F R : Int) (xs ys : List Int) (C : Int) : Int := if right F R xs ys = true then (if countOk R C = true then (if 8192 < F + C * R + 1 then 10 else 0) else 3) else 2
def size (F R : Int) (xs ys : List Int) (C : Int) : Int := if code F R xs ys C = 0 then F + C * R else 0
theorem code_wrong {F R : Int} {xs ys : List Int} {C : Int} (h : right F R xs ys = false) : code F R xs ys C = 2 := by simp [code, h]
theorem code_count {F R : Int} {xs ys : List Int} {C : Int} (h : right F R xs ys = true) (h2 : ¬ (0 ≤ C ∧ C ≤ 1024 ∧ (R = 0 → C = 0))) : code F R xs ys C = 3 := by
  have : countOk R C = false := by rw [Bool.eq_false_iff]; exact fun e => h2 ((countOk_iff R C).1 e)
  simp [code, h, this]
theorem code_big {F R : Int} {xs ys : List Int} {C : Int} (h : right F R xs ys = true) (h2 : 0 ≤ C ∧ C ≤ 1024 ∧ (R = 0 → C = 0)) (h3 : 8192 < F + C * R + 1) : code F R xs ys C = 10 := by
  simp only [code, h, (countOk_iff R C).2 h2, if_true, if_pos h3]
theorem code_ok {F R : Int} {xs ys : List Int} {C : Int} (h : right F R xs ys = true) (h2 : 0 ≤ C ∧ C ≤ 1024 ∧ (R = 0 → C = 0)) (h3 : ¬ 8192 < F + C * R + 1) : code F R xs ys C = 0 := by
  simp only [code, h, (countOk_iff R C).2 h2, if_true, if_neg h3]
theorem size_no {F R : Int} {xs ys : List Int} {C : Int} (h : code F R xs ys C ≠ 0) : size F R xs ys C = 0 := by simp [size, h]
theorem size_ok {F R : Int} {xs ys : List Int} {C : Int} (h : code F R xs ys C = 0) : size F R xs ys C = F + C * R := by simp [size, h]
theorem code_zero {F R : Int} {xs ys : List Int} {C : Int} (h : code F R xs ys C = 0) : right F R xs ys = true ∧ (0 ≤ C ∧ C ≤ 1024 ∧ (R = 0 → C = 0)) ∧ F + C * R + 1 ≤ 8192 := by
  by_cases hr : right F R xs ys = true
  · by_cases hc : countOk R C = true
    · by_cases hb : 8192 < F + C * R + 1
      · rw [code_big hr ((countOk_iff R C).1 hc) hb] at h; omega
      · exact ⟨hr, (countOk_iff R C).1 hc, by omega⟩
    · rw [code_count hr (fun e => hc ((countOk_iff R C).2 e))] at h; omega
  · rw [code_wrong (by simpa using hr)] at h; omega
theorem code_cases (F R : Int) (xs ys : List Int) (C : Int) : code F R xs ys C = 0 ∨ code F R xs ys C = 2 ∨ code F R xs ys C = 3 ∨ code F R xs ys C = 10 := by
  unfold code
  split
  · split
    · split <;> simp
    · simp
  · simp

/-- The word at a place is a reference. -/
def has (xs : List Int) (x : Int) : Bool := xs.contains x
def isRef (F R : Int) (xs ys : List Int) (p : Int) : Bool := if p < F then has xs p else has ys ((p - F) % R)
theorem has_iff (xs : List Int) (x : Int) : has xs x = true ↔ x ∈ xs := by simp [has]

/-- The references of so many records. -/
def recs (F R : Int) (ys : List Int) : Nat → List Int
  | 0 => []
  | j + 1 => recs F R ys j ++ ys.map fun p => F + j * R + p
def slots (F R : Int) (xs ys : List Int) (c : Nat) : List Int := xs ++ recs F R ys c
theorem slots_zero (F R : Int) (xs ys : List Int) : slots F R xs ys 0 = xs := by simp [slots, recs]
theorem slots_succ (F R : Int) (xs ys : List Int) (c : Nat) : slots F R xs ys (c + 1) = slots F R xs ys c ++ ys.map fun p => F + c * R + p := by simp [slots, recs]
theorem recs_len (F R : Int) (ys : List Int) (c : Nat) : (recs F R ys c).length = c * ys.length := by
  induction c with
  | zero => simp [recs]
  | succ j ih => simp [recs, ih, Nat.add_mul]
theorem slots_len (F R : Int) (xs ys : List Int) (c : Nat) : (slots F R xs ys c).length = xs.length + c * ys.length := by simp [slots, recs_len]
theorem mem_recs (F R : Int) (ys : List Int) (x : Int) : ∀ c : Nat, x ∈ recs F R ys c ↔ ∃ j : Nat, j < c ∧ ∃ p ∈ ys, x = F + j * R + p := by
  intro c
  induction c with
  | zero => simp [recs]
  | succ c ih =>
    simp only [recs, List.mem_append, ih, List.mem_map]
    constructor
    · rintro (⟨j, hj, p, hp, e⟩ | ⟨p, hp, e⟩)
      · exact ⟨j, by omega, p, hp, e⟩
      · exact ⟨c, by omega, p, hp, e.symm⟩
    · rintro ⟨j, hj, p, hp, e⟩
      by_cases hc : j = c
      · subst hc; exact .inr ⟨p, hp, e.symm⟩
      · exact .inl ⟨j, by omega, p, hp, e⟩

/-- Lists that rise and have the same are the same. -/
theorem sorted_eq : ∀ (a b : List Int), a.Pairwise (· < ·) → b.Pairwise (· < ·) → (∀ x, x ∈ a ↔ x ∈ b) → a = b := by
  intro a
  induction a with
  | nil =>
    intro b _ _ h
    cases b with
    | nil => rfl
    | cons y t => exact absurd ((h y).2 List.mem_cons_self) (by simp)
  | cons x s ih =>
    intro b ha hb h
    cases b with
    | nil => exact absurd ((h x).1 List.mem_cons_self) (by simp)
    | cons y t =>
      obtain ⟨a1, a2⟩ := List.pairwise_cons.1 ha
      obtain ⟨b1, b2⟩ := List.pairwise_cons.1 hb
      have hxy : x = y := by
        rcases List.mem_cons.1 ((h x).1 List.mem_cons_self) with e | hx
        · exact e
        · rcases List.mem_cons.1 ((h y).2 List.mem_cons_self) with e | hy
          · exact e.symm
          · have := b1 x hx; have := a1 y hy; omega
      subst hxy
      congr 1
      refine ih t a2 b2 fun z => ⟨fun hz => ?_, fun hz => ?_⟩
      · rcases List.mem_cons.1 ((h z).1 (List.mem_cons_of_mem _ hz)) with rfl | hz'
        · have := a1 z hz; omega
        · exact hz'
      · rcases List.mem_cons.1 ((h z).2 (List.mem_cons_of_mem _ hz)) with rfl | hz'
        · have := b1 z hz; omega
        · exact hz'

/-- The numbers below n of which f is so. -/
def picks (f : Int → Bool) : Nat → List Int
  | 0 => []
  | n + 1 => if f n = true then picks f n ++ [(n : Int)] else picks f n
theorem picks_yes {f : Int → Bool} {n : Nat} (h : f n = true) : picks f (n + 1) = picks f n ++ [(n : Int)] := by simp [picks, h]
theorem picks_no {f : Int → Bool} {n : Nat} (h : f n = false) : picks f (n + 1) = picks f n := by simp [picks, h]
theorem picks_len (f : Int → Bool) (n : Nat) : (picks f n).length ≤ n := by
  induction n with
  | zero => simp [picks]
  | succ n ih =>
    cases h : f n
    · rw [picks_no h]; omega
    · rw [picks_yes h, List.length_append]; simp; omega
theorem mem_picks (f : Int → Bool) (x : Int) : ∀ n : Nat, x ∈ picks f n ↔ 0 ≤ x ∧ x < n ∧ f x = true := by
  intro n
  induction n with
  | zero => simp [picks]; omega
  | succ n ih =>
    cases h : f n
    · rw [picks_no h, ih]
      constructor
      · rintro ⟨a, b, c⟩; exact ⟨a, by omega, c⟩
      · rintro ⟨a, b, c⟩
        refine ⟨a, ?_, c⟩
        by_cases e : x = n
        · subst e; rw [h] at c; cases c
        · omega
    · rw [picks_yes h, List.mem_append, ih, List.mem_singleton]
      constructor
      · rintro (⟨a, b, c⟩ | rfl)
        · exact ⟨a, by omega, c⟩
        · exact ⟨by omega, by omega, h⟩
      · rintro ⟨a, b, c⟩
        by_cases e : x = n
        · exact .inr e
        · exact .inl ⟨a, by omega, c⟩
theorem picks_sorted (f : Int → Bool) (n : Nat) : (picks f n).Pairwise (· < ·) := by
  induction n with
  | zero => simp [picks]
  | succ n ih =>
    cases h : f n
    · rw [picks_no h]; exact ih
    · rw [picks_yes h, List.pairwise_append]
      refine ⟨ih, by simp, fun a ha b hb => ?_⟩
      rw [List.mem_singleton] at hb
      subst hb
      exact ((mem_picks f a n).1 ha).2.1
theorem picks_congr {f g : Int → Bool} {n : Nat} (h : ∀ x : Int, 0 ≤ x → x < n → f x = g x) : picks f n = picks g n :=
  sorted_eq _ _ (picks_sorted f n) (picks_sorted g n) fun x => by
    rw [mem_picks, mem_picks]
    constructor
    · rintro ⟨a, b, c⟩; exact ⟨a, b, by rw [← h x a b]; exact c⟩
    · rintro ⟨a, b, c⟩; exact ⟨a, b, by rw [h x a b]; exact c⟩

theorem mul_step (j c : Nat) (R : Int) (hR : 0 ≤ R) (h : j < c) : (j : Int) * R + R ≤ c * R := by
  have h1 : ((j : Int) + 1) * R ≤ (c : Int) * R := Int.mul_le_mul_of_nonneg_right (by omega) hR
  have h2 : ((j : Int) + 1) * R = (j : Int) * R + R := by rw [Int.add_mul, Int.one_mul]
  omega
theorem mul_pos' (c : Nat) (R : Int) (hR : 0 ≤ R) : 0 ≤ (c : Int) * R := Int.mul_nonneg (by omega) hR

theorem recs_sorted (F R : Int) (ys : List Int) (h : rise 0 R ys = true) (hR : 0 ≤ R) : ∀ c : Nat, (recs F R ys c).Pairwise (· < ·) := by
  obtain ⟨s1, s2⟩ := rise_all ys 0 R h
  intro c
  induction c with
  | zero => simp [recs]
  | succ c ih =>
    simp only [recs]
    rw [List.pairwise_append]
    refine ⟨ih, List.pairwise_map.2 (s1.imp fun {a b} hab => by omega), fun a ha b hb => ?_⟩
    obtain ⟨j, hj, p, hp, rfl⟩ := (mem_recs F R ys a c).1 ha
    obtain ⟨q, hq, rfl⟩ := List.mem_map.1 hb
    have := mul_step j c R hR hj
    have := s2 p hp
    have := s2 q hq
    omega

theorem isRef_low {F R : Int} {xs ys : List Int} {p : Int} (h : p < F) : isRef F R xs ys p = has xs p := by simp [isRef, h]
theorem isRef_high {F R : Int} {xs ys : List Int} {p : Int} (h : ¬ p < F) : isRef F R xs ys p = has ys ((p - F) % R) := by simp [isRef, h]

/-- What is told is just what is told one by one. -/
theorem slots_picks (F R : Int) (xs ys : List Int) (c n : Nat) (h : right F R xs ys = true) (hc : R = 0 → c = 0) (hn : (n : Int) = F + c * R) : slots F R xs ys c = picks (isRef F R xs ys) n := by
  obtain ⟨⟨h1, h2, h3, h4, h5⟩, r1, r2⟩ := right_parts h
  obtain ⟨s1, s2⟩ := rise_all xs 0 F r1
  obtain ⟨t1, t2⟩ := rise_all ys 0 R r2
  refine sorted_eq _ _ ?_ (picks_sorted _ _) fun x => ?_
  · unfold slots
    rw [List.pairwise_append]
    refine ⟨s1, recs_sorted F R ys r2 h3 c, fun a ha b hb => ?_⟩
    obtain ⟨j, hj, p, hp, rfl⟩ := (mem_recs F R ys b c).1 hb
    have := s2 a ha
    have := t2 p hp
    have := mul_pos' j R h3
    omega
  · rw [mem_picks, slots, List.mem_append, mem_recs]
    have hcR := mul_pos' c R h3
    constructor
    · rintro (hx | ⟨j, hj, p, hp, rfl⟩)
      · have := s2 x hx
        exact ⟨this.1, by omega, by rw [isRef_low this.2, has_iff]; exact hx⟩
      · have a1 := t2 p hp
        have a2 := mul_pos' j R h3
        have a3 := mul_step j c R h3 hj
        refine ⟨by omega, by omega, ?_⟩
        rw [isRef_high (by omega), has_iff]
        have e : F + (j : Int) * R + p - F = p + j * R := by omega
        rw [e, Int.add_mul_emod_self_right, Int.emod_eq_of_lt a1.1 a1.2]
        exact hp
    · rintro ⟨a, b, hr⟩
      by_cases hl : x < F
      · rw [isRef_low hl, has_iff] at hr
        exact .inl hr
      · rw [isRef_high hl, has_iff] at hr
        have hR0 : R ≠ 0 := by
          intro e
          have := hc e
          subst this
          simp at hn
          omega
        have hRp : 0 < R := by omega
        refine .inr ⟨((x - F) / R).toNat, ?_, (x - F) % R, hr, ?_⟩
        · have hlt : (x - F) / R < c := Int.ediv_lt_of_lt_mul hRp (by omega)
          have hge : 0 ≤ (x - F) / R := Int.ediv_nonneg (by omega) (by omega)
          omega
        · have hge : 0 ≤ (x - F) / R := Int.ediv_nonneg (by omega) (by omega)
          rw [Int.toNat_of_nonneg hge]
          have := Int.mul_ediv_add_emod (x - F) R
          rw [Int.mul_comm ((x - F) / R) R]
          omega
end Go.Proofs.YteneadimchhhhaaGreatDoor.LM
/- Plain mathematics of numbers in the bits of a word: no program in sight. -/
namespace Go.Proofs.YteneadimchhhhaaGreatDoor.FM
open Go.RowKit

/-- The greatest number of b bits. -/
def gr (b : Int) : Int := ((2 ^ b.toNat - 1 : Nat) : Int)
/-- The bits of a field. -/
def boN (A B : Nat) : Nat := (2 ^ B - 1) * 2 ^ A
def bo (a b : Int) : Int := (boN a.toNat b.toNat : Int)
/-- What a field has. -/
def numN (X A B : Nat) : Nat := X / 2 ^ A % 2 ^ B
def num (x a b : Int) : Int := (numN x.toNat a.toNat b.toNat : Int)
/-- The word, but that a field has another number. -/
def putN (X A B Y : Nat) : Nat := (X &&& (18446744073709551615 - boN A B)) ||| (Y * 2 ^ A)
def put (x a b y : Int) : Int := (putN x.toNat a.toNat b.toNat y.toNat : Int)
/-- A field that is right. -/
def right (a b : Int) : Bool := decide (0 ≤ a ∧ a ≤ 63 ∧ 1 ≤ b ∧ a + b ≤ 64)
theorem right_iff (a b : Int) : right a b = true ↔ 0 ≤ a ∧ a ≤ 63 ∧ 1 ≤ b ∧ a + b ≤ 64 := by simp [right]
theorem right_not (a b : Int) : right a b = false ↔ ¬ (0 ≤ a ∧ a ≤ 63 ∧ 1 ≤ b ∧ a + b ≤ 64) := by simp [right]

def Word (x : Int) : Prop := 0 ≤ x ∧ x < 18446744073709551616

theorem pow_pos' (n : Nat) : 0 < 2 ^ n := Nat.two_pow_pos n
theorem pow64 : (2 : Nat) ^ 64 = 18446744073709551616 := by decide
theorem pow_le64 (n : Nat) (h : n ≤ 64) : 2 ^ n ≤ 18446744073709551616 := by
  rw [← pow64]; exact Nat.pow_le_pow_right (by decide) h

theorem gr_eq (b : Int) (h1 : 1 ≤ b) (h2 : b ≤ 64) : (18446744073709551615 : Int) / 2 ^ (64 - b).toNat = gr b := by
  unfold gr
  obtain ⟨n, rfl⟩ := Int.eq_ofNat_of_zero_le (show 0 ≤ b by omega)
  have hn : n ≤ 64 := by omega
  have e : (64 - (n : Int)).toNat = 64 - n := by omega
  rw [e, Int.toNat_natCast]
  have hp : (2 : Int) ^ (64 - n) = ((2 ^ (64 - n) : Nat) : Int) := by simp
  rw [hp]
  have h : (18446744073709551615 : Nat) / 2 ^ (64 - n) = 2 ^ n - 1 := by
    have hpw : 2 ^ n * 2 ^ (64 - n) = 18446744073709551616 := by rw [← Nat.pow_add, ← pow64]; congr 1; omega
    have hpos := pow_pos' (64 - n)
    have hpos2 := pow_pos' n
    apply Nat.div_eq_of_lt_le
    · rw [Nat.sub_mul, hpw]; omega
    · rw [Nat.sub_add_cancel (by omega), hpw]; omega
  have hc : (((18446744073709551615 : Nat) / 2 ^ (64 - n) : Nat) : Int) = ((2 ^ n - 1 : Nat) : Int) := by rw [h]
  rw [Int.natCast_ediv] at hc
  exact hc

theorem gr_lt (b : Int) (h2 : b ≤ 64) : 0 ≤ gr b ∧ gr b < 18446744073709551616 := by
  unfold gr
  have := pow_le64 b.toNat (by omega)
  have := pow_pos' b.toNat
  omega

theorem and_gr (y : Int) (b : Int) (hy : Word y) (h2 : b ≤ 64) : bits .and .u64 y (gr b) = ((y.toNat % 2 ^ b.toNat : Nat) : Int) := by
  have hg := gr_lt b h2
  rw [u64_and y (gr b) hy.1 hy.2 hg.1 hg.2]
  have e : (gr b).toNat = 2 ^ b.toNat - 1 := by unfold gr; exact Int.toNat_natCast _
  rw [e, Nat.and_two_pow_sub_one_eq_mod]

theorem shr_word (x a : Int) (hx : Word x) : Word (x / 2 ^ a.toNat) := by
  obtain ⟨h0, h1⟩ := hx
  obtain ⟨X, rfl⟩ := Int.eq_ofNat_of_zero_le h0
  have hp : (2 : Int) ^ a.toNat = ((2 ^ a.toNat : Nat) : Int) := by simp
  rw [hp]
  have : X / 2 ^ a.toNat ≤ X := Nat.div_le_self _ _
  constructor
  · exact Int.ediv_nonneg (by omega) (Int.natCast_nonneg _)
  · have e : (X : Int) / ((2 ^ a.toNat : Nat) : Int) = ((X / 2 ^ a.toNat : Nat) : Int) := by simp
    rw [e]; omega

theorem shr_toNat (x a : Int) (h0 : 0 ≤ x) : (x / 2 ^ a.toNat).toNat = x.toNat / 2 ^ a.toNat := by
  obtain ⟨X, rfl⟩ := Int.eq_ofNat_of_zero_le h0
  have hp : (2 : Int) ^ a.toNat = ((2 ^ a.toNat : Nat) : Int) := by simp
  rw [hp, ← Int.natCast_ediv, Int.toNat_natCast, Int.toNat_natCast]

theorem num_eq (x a b : Int) (hx : Word x) (h2 : b ≤ 64) : bits .and .u64 (x / 2 ^ a.toNat) (gr b) = num x a b := by
  rw [and_gr _ b (shr_word x a hx) h2, shr_toNat x a hx.1]
  rfl

theorem num_word (x a b : Int) (h2 : b ≤ 64) : Word (num x a b) := by
  unfold num numN Word
  have := pow_le64 b.toNat (by omega)
  have := Nat.mod_lt (x.toNat / 2 ^ a.toNat) (pow_pos' b.toNat)
  omega

theorem boN_lt (A B : Nat) (h : A + B ≤ 64) : boN A B < 18446744073709551616 := by
  unfold boN
  have h1 := pow_le64 (A + B) h
  have h2 := pow_pos' A
  rw [Nat.pow_add] at h1
  rw [Nat.sub_mul]
  have : 2 ^ B * 2 ^ A = 2 ^ A * 2 ^ B := Nat.mul_comm _ _
  omega

theorem bo_word (a b : Int) (h : right a b = true) : Word (bo a b) := by
  obtain ⟨h1, h2, h3, h4⟩ := (right_iff a b).1 h
  have := boN_lt a.toNat b.toNat (by omega)
  unfold bo Word
  omega

theorem shl_gr (a b : Int) (h : right a b = true) : IntKind.u64.wrap (gr b * 2 ^ a.toNat) = bo a b := by
  have hw := bo_word a b h
  have e : gr b * 2 ^ a.toNat = bo a b := by unfold gr bo boN; simp
  rw [e, IntKind.wrap_u64]
  exact Int.emod_eq_of_lt hw.1 hw.2

theorem bit_eq (x i : Int) (h0 : 0 ≤ x) : x / 2 ^ i.toNat % 2 = ((x.toNat.testBit i.toNat).toNat : Int) := by
  obtain ⟨X, rfl⟩ := Int.eq_ofNat_of_zero_le h0
  rw [Nat.toNat_testBit, Int.toNat_natCast]
  simp

theorem wrap_pow (i : Int) (h : i ≤ 63) : IntKind.u64.wrap (2 ^ i.toNat) = 2 ^ i.toNat := by
  rw [IntKind.wrap_u64]
  have hp : (2 : Int) ^ i.toNat = ((2 ^ i.toNat : Nat) : Int) := by simp
  have h1 : 2 ^ i.toNat < 2 ^ 64 := Nat.pow_lt_pow_right (by decide) (by omega)
  rw [pow64] at h1
  rw [hp]
  exact Int.emod_eq_of_lt (Int.natCast_nonneg _) (by omega)
theorem wrap_pow_ne (i : Int) (h : i ≤ 63) : ¬ IntKind.u64.wrap (2 ^ i.toNat) = 0 := by
  rw [wrap_pow i h]
  have hp : (2 : Int) ^ i.toNat = ((2 ^ i.toNat : Nat) : Int) := by simp
  have := pow_pos' i.toNat
  rw [hp]
  omega

/-- A word's bit, as a number. -/
def bit (x i : Int) : Int := ((x.toNat.testBit i.toNat).toNat : Int)
theorem bit_val (x i : Int) (hx : Word x) (h : i ≤ 63) : (IntKind.u64.wrap (x.tdiv (IntKind.u64.wrap (2 ^ i.toNat)))).tmod 2 = bit x i := by
  rw [wrap_pow i h]
  have hp : (2 : Int) ^ i.toNat = ((2 ^ i.toNat : Nat) : Int) := by simp
  have hd : x.tdiv (2 ^ i.toNat) = x / 2 ^ i.toNat := Int.tdiv_eq_ediv_of_nonneg hx.1
  have hw := shr_word x i hx
  rw [hd, IntKind.wrap_u64, Int.emod_eq_of_lt hw.1 hw.2, Int.tmod_eq_emod_of_nonneg hw.1, bit_eq x i hx.1]
  rfl
theorem bit_01 (x i : Int) : 0 ≤ bit x i ∧ bit x i ≤ 1 := by
  unfold bit
  cases x.toNat.testBit i.toNat <;> simp

theorem putN_lt (X A B Y : Nat) (hX : X < 18446744073709551616) (h : A + B ≤ 64) (hY : Y < 2 ^ B) : putN X A B Y < 18446744073709551616 := by
  unfold putN
  rw [← pow64] at hX ⊢
  refine Nat.or_lt_two_pow (Nat.lt_of_le_of_lt Nat.and_le_left hX) ?_
  have h1 : 2 ^ (A + B) ≤ 2 ^ 64 := Nat.pow_le_pow_right (by decide) h
  rw [Nat.pow_add] at h1
  have h2 : Y * 2 ^ A < 2 ^ B * 2 ^ A := Nat.mul_lt_mul_of_pos_right hY (pow_pos' A)
  have : 2 ^ B * 2 ^ A = 2 ^ A * 2 ^ B := Nat.mul_comm _ _
  omega

/-- A number has no more than so many bits. -/
def fits (y b : Int) : Bool := decide (y ≤ gr b)
theorem fits_iff (y b : Int) (h0 : 0 ≤ y) : fits y b = true ↔ y.toNat < 2 ^ b.toNat := by
  unfold fits gr
  have := pow_pos' b.toNat
  simp
  omega

theorem put_eq (x a b y : Int) (hx : Word x) (hy : Word y) (h : right a b = true) (hf : fits y b = true) :
    bits .or .u64 (bits .andNot .u64 x (bo a b)) (IntKind.u64.wrap (y * 2 ^ a.toNat)) = put x a b y := by
  obtain ⟨h1, h2, h3, h4⟩ := (right_iff a b).1 h
  have hf' := (fits_iff y b hy.1).1 hf
  have hbo := bo_word a b h
  have hA : a.toNat + b.toNat ≤ 64 := by omega
  have hsh : y.toNat * 2 ^ a.toNat < 18446744073709551616 := by
    have h1 := pow_le64 (a.toNat + b.toNat) hA
    rw [Nat.pow_add] at h1
    have h2 : y.toNat * 2 ^ a.toNat < 2 ^ b.toNat * 2 ^ a.toNat := Nat.mul_lt_mul_of_pos_right hf' (pow_pos' _)
    have : 2 ^ b.toNat * 2 ^ a.toNat = 2 ^ a.toNat * 2 ^ b.toNat := Nat.mul_comm _ _
    omega
  have e1 : IntKind.u64.wrap (y * 2 ^ a.toNat) = ((y.toNat * 2 ^ a.toNat : Nat) : Int) := by
    have e : y * 2 ^ a.toNat = ((y.toNat * 2 ^ a.toNat : Nat) : Int) := by
      rw [Int.natCast_mul, Int.toNat_of_nonneg hy.1]; simp
    rw [e, IntKind.wrap_u64]
    exact Int.emod_eq_of_lt (Int.natCast_nonneg _) (by omega)
  rw [e1, u64_andNot x (bo a b) hx.1 hx.2 hbo.1 hbo.2]
  have hlt : x.toNat &&& (18446744073709551615 - (bo a b).toNat) < 18446744073709551616 :=
    Nat.lt_of_le_of_lt Nat.and_le_left (by have := hx.2; have := hx.1; omega)
  rw [u64_or_nat _ _ hlt hsh]
  rfl
theorem put_word (x a b y : Int) (hx : Word x) (hy : 0 ≤ y) (h : right a b = true) (hf : fits y b = true) : Word (put x a b y) := by
  obtain ⟨h1, h2, h3, h4⟩ := (right_iff a b).1 h
  have hf' := (fits_iff y b hy).1 hf
  have := putN_lt x.toNat a.toNat b.toNat y.toNat (by have := hx.2; have := hx.1; omega) (by omega) hf'
  unfold put Word
  omega

/-- Fields that are right, and share no bit, nor one with t. -/
def apartGo (t : Nat) : List (Int × Int) → Bool
  | [] => true
  | f :: r => right f.1 f.2 && (t &&& boN f.1.toNat f.2.toNat == 0) && apartGo (t ||| boN f.1.toNat f.2.toNat) r
def apart (l : List (Int × Int)) : Bool := apartGo 0 l

theorem drop_cons {α : Type} (l : List α) (k : Nat) (h : k < l.length) : l.drop k = l[k] :: l.drop (k + 1) := List.drop_eq_getElem_cons h

theorem and_bo (t : Nat) (a b : Int) (ht : t < 18446744073709551616) (h : right a b = true) : bits .and .u64 (t : Int) (bo a b) = ((t &&& boN a.toNat b.toNat : Nat) : Int) := by
  have hb := boN_lt a.toNat b.toNat (by have := (right_iff a b).1 h; omega)
  exact u64_and_nat t _ ht hb
theorem or_bo (t : Nat) (a b : Int) (ht : t < 18446744073709551616) (h : right a b = true) : bits .or .u64 (t : Int) (bo a b) = ((t ||| boN a.toNat b.toNat : Nat) : Int) := by
  have hb := boN_lt a.toNat b.toNat (by have := (right_iff a b).1 h; omega)
  exact u64_or_nat t _ ht hb
theorem or_bo_lt (t : Nat) (a b : Int) (ht : t < 18446744073709551616) (h : right a b = true) : t ||| boN a.toNat b.toNat < 18446744073709551616 := by
  have hb := boN_lt a.toNat b.toNat (by have := (right_iff a b).1 h; omega)
  rw [← pow64] at ht hb ⊢
  exact Nat.or_lt_two_pow ht hb
theorem go_wrong (t : Nat) (f : Int × Int) (r : List (Int × Int)) (h : right f.1 f.2 = false) : apartGo t (f :: r) = false := by simp [apartGo, h]
theorem go_share (t : Nat) (f : Int × Int) (r : List (Int × Int)) (h : ¬ t &&& boN f.1.toNat f.2.toNat = 0) : apartGo t (f :: r) = false := by simp [apartGo, h]
theorem go_next (t : Nat) (f : Int × Int) (r : List (Int × Int)) (hr : right f.1 f.2 = true) (h : t &&& boN f.1.toNat f.2.toNat = 0) : apartGo t (f :: r) = apartGo (t ||| boN f.1.toNat f.2.toNat) r := by simp [apartGo, h, hr]

/-- The word of some fields' numbers; none, if one is too great. -/
def packGo (W : Nat) : List (Int × Int) → List Int → Option Nat
  | f :: r, x :: q => if fits x f.2 = true then packGo (W ||| x.toNat * 2 ^ f.1.toNat) r q else none
  | _, _ => some W
theorem pack_stop (W : Nat) (f : Int × Int) (r : List (Int × Int)) (x : Int) (q : List Int) (h : fits x f.2 = false) : packGo W (f :: r) (x :: q) = none := by simp [packGo, h]
theorem pack_next (W : Nat) (f : Int × Int) (r : List (Int × Int)) (x : Int) (q : List Int) (h : fits x f.2 = true) : packGo W (f :: r) (x :: q) = packGo (W ||| x.toNat * 2 ^ f.1.toNat) r q := by simp [packGo, h]
theorem apart_right (t : Nat) (l : List (Int × Int)) (h : apartGo t l = true) : ∀ f ∈ l, right f.1 f.2 = true := by
  induction l generalizing t with
  | nil => intro f hf; cases hf
  | cons g r ih =>
    simp only [apartGo, Bool.and_eq_true] at h
    intro f hf
    rcases List.mem_cons.1 hf with rfl | hf
    · exact h.1.1
    · exact ih _ h.2 f hf
theorem shl_lt (x a b : Int) (h0 : 0 ≤ x) (h : right a b = true) (hf : fits x b = true) : x.toNat * 2 ^ a.toNat < 18446744073709551616 := by
  obtain ⟨h1, h2, h3, h4⟩ := (right_iff a b).1 h
  have hf' := (fits_iff x b h0).1 hf
  have h1 := pow_le64 (a.toNat + b.toNat) (by omega)
  rw [Nat.pow_add] at h1
  have h2 : x.toNat * 2 ^ a.toNat < 2 ^ b.toNat * 2 ^ a.toNat := Nat.mul_lt_mul_of_pos_right hf' (pow_pos' _)
  have : 2 ^ b.toNat * 2 ^ a.toNat = 2 ^ a.toNat * 2 ^ b.toNat := Nat.mul_comm _ _
  omega
theorem wrap_shl (x a b : Int) (h0 : 0 ≤ x) (h : right a b = true) (hf : fits x b = true) : IntKind.u64.wrap (x * 2 ^ a.toNat) = ((x.toNat * 2 ^ a.toNat : Nat) : Int) := by
  have hl := shl_lt x a b h0 h hf
  have e : x * 2 ^ a.toNat = ((x.toNat * 2 ^ a.toNat : Nat) : Int) := by
    rw [Int.natCast_mul, Int.toNat_of_nonneg h0]; simp
  rw [e, IntKind.wrap_u64]
  exact Int.emod_eq_of_lt (Int.natCast_nonneg _) (by omega)
theorem pack_or (W : Nat) (x a b : Int) (hW : W < 18446744073709551616) (h0 : 0 ≤ x) (h : right a b = true) (hf : fits x b = true) :
    bits .or .u64 (W : Int) (IntKind.u64.wrap (x * 2 ^ a.toNat)) = ((W ||| x.toNat * 2 ^ a.toNat : Nat) : Int) ∧ W ||| x.toNat * 2 ^ a.toNat < 18446744073709551616 := by
  have hl := shl_lt x a b h0 h hf
  rw [wrap_shl x a b h0 h hf]
  refine ⟨u64_or_nat W _ hW hl, ?_⟩
  rw [← pow64] at hW hl ⊢
  exact Nat.or_lt_two_pow hW hl

theorem cut_ex (t b : Int) (h : 2 ≤ b) (h' : b ≤ 64) : ∃ k, wrap64 (1 + wrap64 ((IntKind.u64.wrap t).tmod (b - 1))) = k ∧ 1 ≤ k ∧ k ≤ b - 1 := by
  refine ⟨_, rfl, ?_⟩
  have h0 : 0 ≤ IntKind.u64.wrap t := by rw [IntKind.wrap_u64]; omega
  rw [Int.tmod_eq_emod_of_nonneg h0]
  have h1 := Int.emod_nonneg (IntKind.u64.wrap t) (show b - 1 ≠ 0 by omega)
  have h2 := Int.emod_lt_of_pos (IntKind.u64.wrap t) (show 0 < b - 1 by omega)
  generalize IntKind.u64.wrap t % (b - 1) = m at *
  unfold wrap64
  omega

theorem halvesN (X A B K : Nat) (hK : K ≤ B) : numN X A B = numN X (A + K) (B - K) * 2 ^ K + numN X A K := by
  unfold numN
  rw [show 2 ^ B = 2 ^ K * 2 ^ (B - K) by rw [← Nat.pow_add]; congr 1; omega, Nat.mod_mul, Nat.pow_add, ← Nat.div_div_eq_div_mul, Nat.mul_comm]
  omega

theorem halves_eq (x a b k : Int) (h : right a b = true) (h1 : 1 ≤ k) (h2 : k ≤ b - 1) :
    (num x a b == IntKind.u64.wrap (IntKind.u64.wrap (num x (a + k) (b - k) * 2 ^ k.toNat) + num x a k)) = true := by
  obtain ⟨g1, g2, g3, g4⟩ := (right_iff a b).1 h
  have hN := halvesN x.toNat a.toNat b.toNat k.toNat (by omega)
  have e1 : (a + k).toNat = a.toNat + k.toNat := by omega
  have e2 : (b - k).toNat = b.toNat - k.toNat := by omega
  have hw := (num_word x a b (by omega)).2
  have hp : (2 : Int) ^ k.toNat = ((2 ^ k.toNat : Nat) : Int) := by simp
  have hI : num x a b = num x (a + k) (b - k) * 2 ^ k.toNat + num x a k := by
    unfold num
    rw [e1, e2, hN, hp]
    simp
  have hb := num_word x a k (by omega)
  have hc := num_word x (a + k) (b - k) (by omega)
  have hpos : 0 ≤ num x (a + k) (b - k) * 2 ^ k.toNat := Int.mul_nonneg hc.1 (by rw [hp]; exact Int.natCast_nonneg _)
  generalize num x (a + k) (b - k) * 2 ^ k.toNat = P at *
  rw [IntKind.wrap_u64, IntKind.wrap_u64, beq_iff_eq]
  have := hb.1
  omega

end Go.Proofs.YteneadimchhhhaaGreatDoor.FM
/- Plain mathematics of a header's word and a link's word: no program in sight. -/
namespace Go.Proofs.YteneadimchhhhaaGreatDoor.HM
open Go.RowKit

/-- A header that may be. -/
def may (L C S : Int) : Bool := decide (1 ≤ L ∧ L ≤ 64 ∧ 0 ≤ C ∧ C ≤ 1024 ∧ 0 ≤ S ∧ S ≤ 4095)
theorem may_iff (L C S : Int) : may L C S = true ↔ (1 ≤ L ∧ L ≤ 64 ∧ 0 ≤ C ∧ C ≤ 1024 ∧ 0 ≤ S ∧ S ≤ 4095) := by simp [may]
theorem may_not (L C S : Int) : may L C S = false ↔ ¬ (1 ≤ L ∧ L ≤ 64 ∧ 0 ≤ C ∧ C ≤ 1024 ∧ 0 ≤ S ∧ S ≤ 4095) := by
  unfold may
  exact decide_eq_false_iff_not
/-- Its word. -/
def word (L C S : Int) : Int := ((2768240640 + L) * 65536 + C) * 65536 + S
/-- Whether a word is one of a header, and what it tells: zeros, if it is none. -/
def hok (x : Int) : Bool := decide (1 ≤ x / 4294967296 % 256 ∧ x / 4294967296 % 256 ≤ 64 ∧ x / 65536 % 65536 ≤ 1024 ∧ x % 65536 ≤ 4095 ∧ x / 1099511627776 = 10813440)
theorem hok_iff (x : Int) : hok x = true ↔ (1 ≤ x / 4294967296 % 256 ∧ x / 4294967296 % 256 ≤ 64 ∧ x / 65536 % 65536 ≤ 1024 ∧ x % 65536 ≤ 4095 ∧ x / 1099511627776 = 10813440) := by simp [hok]
theorem hok_not (x : Int) : hok x = false ↔ ¬ (1 ≤ x / 4294967296 % 256 ∧ x / 4294967296 % 256 ≤ 64 ∧ x / 65536 % 65536 ≤ 1024 ∧ x % 65536 ≤ 4095 ∧ x / 1099511627776 = 10813440) := by
  unfold hok
  exact decide_eq_false_iff_not
def dL (x : Int) : Int := if hok x = true then x / 4294967296 % 256 else 0
def dC (x : Int) : Int := if hok x = true then x / 65536 % 65536 else 0
def dS (x : Int) : Int := if hok x = true then x % 65536 else 0
def dE (x : Int) : Int := if hok x = true then 0 else 4
/-- What Encode answers. -/
def eW (L C S : Int) : Int := if may L C S = true then word L C S else 0
def eE (L C S : Int) : Int := if may L C S = true then 0 else 3

theorem word_lt {L C S : Int} (h : may L C S = true) : FM.Word (word L C S) := by
  rw [may_iff] at h
  unfold word FM.Word
  omega
theorem eW_word (L C S : Int) : FM.Word (eW L C S) := by
  unfold eW
  split
  · exact word_lt ‹_›
  · unfold FM.Word; omega
/-- What is packed tells the header again. -/
theorem hok_word {L C S : Int} (h : may L C S = true) : hok (word L C S) = true ∧ word L C S / 4294967296 % 256 = L ∧ word L C S / 65536 % 65536 = C ∧ word L C S % 65536 = S := by
  rw [may_iff] at h
  rw [hok_iff]
  unfold word
  omega
theorem word_hok {x : Int} (h : hok x = true) : may (x / 4294967296 % 256) (x / 65536 % 65536) (x % 65536) = true ∧ word (x / 4294967296 % 256) (x / 65536 % 65536) (x % 65536) = x := by
  rw [hok_iff] at h
  rw [may_iff]
  unfold word
  omega

/-- A link that may be. -/
def lmay (K I G : Int) : Bool := decide ((K = 2 ∧ 0 ≤ I ∧ I ≤ 4095 ∧ 1 ≤ G ∧ G ≤ 255) ∨ ((K = 0 ∨ K = 1) ∧ I = 0 ∧ G = 0))
theorem lmay_iff (K I G : Int) : lmay K I G = true ↔ ((K = 2 ∧ 0 ≤ I ∧ I ≤ 4095 ∧ 1 ≤ G ∧ G ≤ 255) ∨ ((K = 0 ∨ K = 1) ∧ I = 0 ∧ G = 0)) := by simp [lmay]
theorem lmay_not (K I G : Int) : lmay K I G = false ↔ ¬ ((K = 2 ∧ 0 ≤ I ∧ I ≤ 4095 ∧ 1 ≤ G ∧ G ≤ 255) ∨ ((K = 0 ∨ K = 1) ∧ I = 0 ∧ G = 0)) := by
  unfold lmay
  exact decide_eq_false_iff_not
def lword (K I G : Int) : Int := if K = 2 then G * 4294967296 + I + 2 else K
/-- Whether a word is a token's. -/
def tok (x : Int) : Bool := decide (2 ≤ x % 4294967296 ∧ x % 4294967296 ≤ 4097 ∧ 1 ≤ x / 4294967296 ∧ x / 4294967296 ≤ 255)
theorem tok_iff (x : Int) : tok x = true ↔ (2 ≤ x % 4294967296 ∧ x % 4294967296 ≤ 4097 ∧ 1 ≤ x / 4294967296 ∧ x / 4294967296 ≤ 255) := by simp [tok]
theorem tok_not (x : Int) : tok x = false ↔ ¬ (2 ≤ x % 4294967296 ∧ x % 4294967296 ≤ 4097 ∧ 1 ≤ x / 4294967296 ∧ x / 4294967296 ≤ 255) := by
  unfold tok
  exact decide_eq_false_iff_not
/-- What Link answers: the kind, the token, the error. -/
def kK (x : Int) : Int := if tok x = true then 2 else if x = 1 then 1 else 0
def kI (x : Int) : Int := if tok x = true then x % 4294967296 - 2 else 0
def kG (x : Int) : Int := if tok x = true then x / 4294967296 else 0
def kE (x : Int) : Int := if tok x = true then 0 else if x = 1 then 0 else if x = 0 then 0 else 4
/-- What Word answers. -/
def wW (K I G : Int) : Int := if lmay K I G = true then lword K I G else 0
def wE (K I G : Int) : Int := if lmay K I G = true then 0 else 3
theorem lword_lt {K I G : Int} (h : lmay K I G = true) : FM.Word (lword K I G) := by
  rw [lmay_iff] at h
  unfold lword FM.Word
  split <;> omega
theorem wW_word (K I G : Int) : FM.Word (wW K I G) := by
  unfold wW
  split
  · exact lword_lt ‹_›
  · unfold FM.Word; omega
theorem link_word {K I G : Int} (h : lmay K I G = true) : kE (lword K I G) = 0 ∧ kK (lword K I G) = K ∧ kI (lword K I G) = I ∧ kG (lword K I G) = G := by
  rw [lmay_iff] at h
  by_cases hK : K = 2
  · have ht : tok (lword K I G) = true := by rw [tok_iff]; unfold lword; rw [if_pos hK]; omega
    unfold kE kK kI kG
    rw [if_pos ht, if_pos ht, if_pos ht, if_pos ht]
    unfold lword
    rw [if_pos hK]
    refine ⟨rfl, hK.symm, ?_, ?_⟩ <;> omega
  · have hl : lword K I G = K := by unfold lword; rw [if_neg hK]
    have ht : tok K = false := by rw [tok_not]; omega
    unfold kE kK kI kG
    rw [hl, ht]
    simp
    omega
theorem word_link {x : Int} (h : kE x = 0) : lmay (kK x) (kI x) (kG x) = true ∧ lword (kK x) (kI x) (kG x) = x := by
  by_cases ht : tok x = true
  · unfold kK kI kG
    simp only [ht, if_true]
    rw [tok_iff] at ht
    rw [lmay_iff]
    unfold lword
    rw [if_pos rfl]
    omega
  · have ht' : tok x = false := by simpa using ht
    unfold kE at h
    unfold kK kI kG
    simp only [ht', Bool.false_eq_true, if_false] at h ⊢
    rw [lmay_iff]
    unfold lword
    by_cases h1 : x = 1
    · subst h1; simp
    · by_cases h0 : x = 0
      · subst h0; simp
      · simp [h1, h0] at h
end Go.Proofs.YteneadimchhhhaaGreatDoor.HM
/- Plain data of objects in a store: no program in sight. -/
namespace Go.Proofs.YteneadimchhhhaaGreatDoor
open Go.RowKit

/-- A layout, as plain data. -/
structure LD where
  F : Int
  R : Int
  xs : List Int
  ys : List Int
/-- What images keep for good: the chunks' owners, how many they are and how great, the layouts. -/
structure Cf where
  own : Nat → Nat
  C : Nat
  K : Nat
  D : List LD
namespace IM
def lay (D : List LD) (L : Int) : Option LD := if 1 ≤ L then D[(L - 1).toNat]? else none
/-- What a book's Get says. -/
def gE (D : List LD) (L : Int) : Int := if (lay D L).isSome then 0 else 6
def szE (D : List LD) (L C : Int) : Int := match lay D L with
  | none => 6
  | some l => LM.code l.F l.R l.xs l.ys C
def szN (D : List LD) (L C : Int) : Int := if szE D L C = 0 then (match lay D L with
  | none => 0
  | some l => 1 + LM.size l.F l.R l.xs l.ys C) else 0
def isR (D : List LD) (L p : Int) : Bool := match lay D L with
  | none => false
  | some l => LM.isRef l.F l.R l.xs l.ys p
def hd (wd : Nat → Nat) (a : Int) : Int := (wd a.toNat : Int)
section
variable (q : Cf) (wd : Nat → Nat) (a p : Int)
def adE : Int := addrE q.own q.C q.K a
def atE : Int := if adE q a = 0 then (if HM.dE (hd wd a) = 0 then szE q.D (HM.dL (hd wd a)) (HM.dC (hd wd a)) else 4) else adE q a
def atL : Int := if atE q wd a = 0 then HM.dL (hd wd a) else 0
def atC : Int := if atE q wd a = 0 then HM.dC (hd wd a) else 0
def atS : Int := if atE q wd a = 0 then HM.dS (hd wd a) else 0
def atN : Int := if atE q wd a = 0 then szN q.D (HM.dL (hd wd a)) (HM.dC (hd wd a)) else 0
/-- What is wrong with a place, that must be a reference, or none. -/
def plE (r : Bool) : Int := if atE q wd a = 0 then (if p < 0 ∨ atN q wd a - 1 ≤ p then 3 else if isR q.D (atL q wd a) p = r then 0 else 9) else atE q wd a
def plA (r : Bool) : Int := if plE q wd a p r = 0 then a + 1 + p else 0
def ldE : Int := if plE q wd a p false = 0 then adE q (a + 1 + p) else plE q wd a p false
def ldV : Nat := if ldE q wd a p = 0 then wd (a + 1 + p).toNat else 0
def upd (wd : Nat → Nat) (i x : Nat) : Nat → Nat := fun k => if k = i then x else wd k
def svW (x : Nat) : Nat → Nat := if ldE q wd a p = 0 then upd wd (a + 1 + p).toNat x else wd
def flE : Int := if plE q wd a p true = 0 then (if adE q (a + 1 + p) = 0 then HM.kE (hd wd (a + 1 + p)) else adE q (a + 1 + p)) else plE q wd a p true
def flK : Int := if flE q wd a p = 0 then HM.kK (hd wd (a + 1 + p)) else 0
def flI : Int := if flE q wd a p = 0 then HM.kI (hd wd (a + 1 + p)) else 0
def flG : Int := if flE q wd a p = 0 then HM.kG (hd wd (a + 1 + p)) else 0
def tiE (K I G : Int) : Int := if plE q wd a p true = 0 then (if HM.wE K I G = 0 then adE q (a + 1 + p) else 2) else plE q wd a p true
def tiW (K I G : Int) : Nat → Nat := if tiE q wd a p K I G = 0 then upd wd (a + 1 + p).toNat (HM.wW K I G).toNat else wd
def mkE (L C S : Int) : Int := if HM.eE L C S = 0 then (if szE q.D L C = 0 then copyE q.own q.C q.K a a (szN q.D L C) else szE q.D L C) else HM.eE L C S
def mkN (L C S : Int) : Int := if mkE q a L C S = 0 then szN q.D L C else 0
/-- The words with an object made anew, so many of its words being written. -/
def laid (wd : Nat → Nat) (i n x : Nat) : Nat → Nat := fun k => if k = i then x else if i < k ∧ k < i + n then 0 else wd k
def mkW (L C S : Int) : Nat → Nat := if mkE q a L C S = 0 then laid wd a.toNat (szN q.D L C).toNat (HM.eW L C S).toNat else wd
def mvE (to fr : Int) : Int := if atE q wd fr = 0 then copyE q.own q.C q.K to fr (atN q wd fr) else atE q wd fr
def mvN (to fr : Int) : Int := if mvE q wd to fr = 0 then atN q wd fr else 0
def mvW (to fr : Int) : Nat → Nat := if mvE q wd to fr = 0 then cpWd wd to.toNat fr.toNat (atN q wd fr).toNat else wd
end
end IM
end Go.Proofs.YteneadimchhhhaaGreatDoor
/- A world behind some calls: but for some blocks all that was there is as it was, and new blocks may follow. -/
namespace Go.Proofs.YteneadimchhhhaaGreatDoor
open Go.RowKit

theorem bl_alloc {w w2 : World} {o : Obj} (h : Below (w.alloc o).heap.size (w.alloc o) w2) : Below w.heap.size w w2 := ((Below.refl _ w).alloc (Nat.le_refl _) o).trans (h.mono (by simp))
theorem bl_alloc_drew {w w2 : World} {o : Obj} (h : Below (w.alloc o).drew.heap.size (w.alloc o).drew w2) : Below w.heap.size w w2 := bl_alloc ⟨h.os, h.tape, h.output, h.size, h.block⟩
theorem bl_drew {w w' : World} (h : Below w.drew.heap.size w.drew w') : Below w.heap.size w w' := ⟨h.os, h.tape, h.output, h.size, h.block⟩
/-- All that was there but the blocks S is as it was; new ones may follow. -/
structure Aft (S : List Nat) (w w' : World) : Prop where
  os : w'.os = w.os
  tape : w'.tape = w.tape
  output : w'.output = w.output
  size : w.heap.size ≤ w'.heap.size
  block : ∀ k, k < w.heap.size → k ∉ S → w'.heap[k]? = w.heap[k]?
section
variable {S : List Nat} {c B : Nat} {w w' a b d : World}
theorem Aft.refl (S : List Nat) (w : World) : Aft S w w := ⟨rfl, rfl, rfl, Nat.le_refl _, fun _ _ _ => rfl⟩
theorem Aft.trans (h : Aft S a b) (k : Aft S b d) : Aft S a d :=
  ⟨k.os.trans h.os, k.tape.trans h.tape, k.output.trans h.output, Nat.le_trans h.size k.size, fun i hi hs => (k.block i (Nat.lt_of_lt_of_le hi h.size) hs).trans (h.block i hi hs)⟩
theorem Aft.of_below (h : Below w.heap.size w w') : Aft S w w' := ⟨h.os, h.tape, h.output, h.size, fun k hk _ => h.block k hk⟩
theorem Aft.sub {T : List Nat} (h : Aft S w w') (hs : ∀ x ∈ S, x ∈ T) : Aft T w w' := ⟨h.os, h.tape, h.output, h.size, fun k hk hx => h.block k hk (fun e => hx (hs k e))⟩
theorem Aft.drew (h : Aft S w w') : Aft S w w'.drew := ⟨h.os, h.tape, h.output, h.size, h.block⟩
theorem Aft.drewN (h : Aft S w w') (n : Nat) : Aft S w (w'.drewN n) := ⟨h.os, h.tape, h.output, h.size, h.block⟩
theorem Aft.setCell (h : Aft S a w) (hc : c ∈ S) (o : Nat) (u : Value) : Aft S a (w.setCell ⟨c, o, none⟩ u) :=
  h.trans ⟨rfl, rfl, rfl, by simp [World.setCell], fun k _ hk => Below.heap_setCell _ _ _ _ (fun e => hk (e ▸ hc))⟩
theorem Aft.alloc (h : Aft S a w) (o : Obj) : Aft S a (w.alloc o) := h.trans (Aft.of_below ((Below.refl _ _).alloc (Nat.le_refl _) o))
theorem Aft.below (h : Aft S w w') (hB : ∀ c ∈ S, B ≤ c) (hw : B ≤ w.heap.size) : Below B w w' :=
  ⟨h.os, h.tape, h.output, h.size, fun k hk => h.block k (by omega) fun e => by have := hB k e; omega⟩
theorem Aft.cell (h : Aft S w w') {p : Addr} (hl : p.block < w.heap.size) (hp : p.block ∉ S) : w'.cell? p = w.cell? p := World.cell?_of_block (w := w) (h.block p.block hl hp)
theorem Aft.whole {t : TypeId} {cs : Array Value} (h : Aft S w w') (k : Whole w c t cs) (hc : c ∉ S) : Whole w' c t cs := (h.block c k.lt hc).trans k
theorem Aft.later (h : Aft S w a) (hb : Below w.heap.size a b) : Aft S w b :=
  ⟨hb.os.trans h.os, hb.tape.trans h.tape, hb.output.trans h.output, Nat.le_trans h.size hb.size, fun k hk hs => (hb.block k hk).trans (h.block k hk hs)⟩
end
end Go.Proofs.YteneadimchhhhaaGreatDoor
