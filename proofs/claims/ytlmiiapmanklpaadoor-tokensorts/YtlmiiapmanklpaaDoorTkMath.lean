/- Plain data of package token: which tokens may be, their texts, what a text tells. No program in it. -/
import Derived.Lib.ItoaMem
import Derived.Lib.AtoiAll
import Derived.Lib.IndexMore
import Derived.Lib.IndexBytes
import Derived.Lib.Strings
namespace Go.Proofs.YtlmiiapmanklpaaDoor
open Go.Lib

/-- A token may be. -/
def TM.right (i g : Int) : Bool := decide (0 ≤ i ∧ i < 4096 ∧ 1 ≤ g ∧ g ≤ 255)
/-- A token's text. -/
def TM.text (i g : Int) : List UInt8 := 35 :: (itoa i ++ 46 :: itoa g)

theorem TM.digit (d : Nat) (h : d < 10) : (UInt8.ofNat (48 + d)).toNat = 48 + d := by
  simp
  omega
theorem TM.dec_small {u : Nat} (h : u < 10) : decDigits u = [UInt8.ofNat (48 + u)] := by rw [decDigits, dif_pos h]
theorem TM.dec_big {u : Nat} (h : ¬ u < 10) : decDigits u = decDigits (u / 10) ++ [UInt8.ofNat (48 + u % 10)] := by rw [decDigits, dif_neg h]

theorem TM.dec_ind {p : Nat → Prop} (small : ∀ u, u < 10 → p u) (big : ∀ u, ¬ u < 10 → p (u / 10) → p u) (u : Nat) : p u := by
  induction u using Nat.strongRecOn with
  | ind u ih =>
    by_cases h : u < 10
    · exact small u h
    · exact big u h (ih (u / 10) (by omega))

theorem TM.dec_digits (u : Nat) : ∀ c ∈ decDigits u, 48 ≤ c.toNat ∧ c.toNat ≤ 57 := by
  refine TM.dec_ind (p := fun u => ∀ c ∈ decDigits u, 48 ≤ c.toNat ∧ c.toNat ≤ 57) (fun u h c hc => ?_) (fun u h ih c hc => ?_) u
  · rw [TM.dec_small h] at hc
    have : c = UInt8.ofNat (48 + u) := by simpa using hc
    rw [this, TM.digit u h]
    omega
  · rw [TM.dec_big h, List.mem_append] at hc
    rcases hc with hc | hc
    · exact ih c hc
    · have : c = UInt8.ofNat (48 + u % 10) := by simpa using hc
      rw [this, TM.digit _ (Nat.mod_lt _ (by decide))]
      omega
theorem TM.dec_ne (u : Nat) : decDigits u ≠ [] := by
  by_cases h : u < 10
  · rw [TM.dec_small h]; simp
  · rw [TM.dec_big h]; simp
theorem TM.dec_len (u : Nat) : ∀ k, u < 10 ^ k → 1 ≤ k → (decDigits u).length ≤ k := by
  refine TM.dec_ind (p := fun u => ∀ k, u < 10 ^ k → 1 ≤ k → (decDigits u).length ≤ k) (fun u h k _ hk => ?_) (fun u h ih k hu hk => ?_) u
  · rw [TM.dec_small h]; simpa using hk
  · rw [TM.dec_big h, List.length_append, List.length_singleton]
    obtain ⟨j, rfl⟩ : ∃ j, k = j + 1 := ⟨k - 1, by omega⟩
    have hj : 1 ≤ j := by
      rcases Nat.eq_zero_or_pos j with rfl | h'
      · simp at hu; omega
      · exact h'
    have := ih j (by rw [Nat.pow_succ] at hu; omega) hj
    omega

theorem TM.parse_append : ∀ (l : List UInt8) (acc a : Nat) (c : UInt8), parseUint10 acc l = .ok a → parseUint10 acc (l ++ [c]) = parseUint10 a [c]
  | [], acc, a, c, h => by
    simp only [parseUint10] at h
    injection h with h
    subst h
    rfl
  | b :: r, acc, a, c, h => by
    simp only [parseUint10, List.cons_append] at h ⊢
    by_cases h1 : 48 ≤ b.toNat ∧ b.toNat ≤ 57
    · rw [if_pos h1] at h ⊢
      by_cases h2 : 1844674407370955162 ≤ acc
      · rw [if_pos h2] at h; cases h
      · rw [if_neg h2] at h ⊢
        by_cases h3 : 18446744073709551616 ≤ acc * 10 + (b.toNat - 48)
        · rw [if_pos h3] at h; cases h
        · rw [if_neg h3] at h ⊢
          have := TM.parse_append r _ a c h
          rw [this]
          simp only [parseUint10]
    · rw [if_neg h1] at h; cases h
theorem TM.parse_one (a d : Nat) (hd : d < 10) (h : a * 10 + d < 9223372036854775808) : parseUint10 a [UInt8.ofNat (48 + d)] = .ok (a * 10 + d) := by
  simp only [parseUint10]
  rw [TM.digit d hd, if_pos (by omega), if_neg (by omega), if_neg (by omega)]
  congr 1
  omega
theorem TM.parse_dec (u : Nat) : u < 9223372036854775808 → parseUint10 0 (decDigits u) = .ok u := by
  refine TM.dec_ind (p := fun u => u < 9223372036854775808 → parseUint10 0 (decDigits u) = .ok u) (fun u h hu => ?_) (fun u h ih hu => ?_) u
  · rw [TM.dec_small h, TM.parse_one 0 u h (by omega)]
    congr 1
    omega
  · rw [TM.dec_big h, TM.parse_append _ _ _ _ (ih (by omega)), TM.parse_one _ _ (Nat.mod_lt _ (by decide)) (by omega)]
    congr 1
    omega

theorem TM.atoi_dec (u : Nat) (h : u < 9223372036854775808) : atoiAll (decDigits u) = .ok (u : Int) := by
  have hne := TM.dec_ne u
  have hd := TM.dec_digits u
  have hp := TM.parse_dec u h
  revert hne hd hp
  generalize decDigits u = l
  intro hne hd hp
  cases l with
  | nil => exact absurd rfl hne
  | cons c r =>
    have hc := hd c (by simp)
    have hm : parseMag (if c.toNat = 43 ∨ c.toNat = 45 then r else c :: r) = .ok u := by
      rw [if_neg (by omega)]
      unfold parseMag
      rw [if_neg (by simp), hp]
    simp only [atoiAll, hm]
    rw [if_neg (by omega), if_neg (by omega), if_neg (by omega)]
theorem TM.itoa_nat (i : Int) (h : 0 ≤ i) : itoa i = decDigits i.toNat := by
  unfold itoa
  rw [if_neg (by omega)]
theorem TM.atoi_itoa (i : Int) (h0 : 0 ≤ i) (h1 : i < 9223372036854775808) : atoiAll (itoa i) = .ok i := by
  rw [TM.itoa_nat i h0, TM.atoi_dec _ (by omega)]
  congr 1
  omega
theorem TM.no_dot (i : Int) (h : 0 ≤ i) : ∀ c ∈ itoa i, c ≠ 46 := by
  rw [TM.itoa_nat i h]
  intro c hc e
  have := TM.dec_digits _ c hc
  rw [e] at this
  simp at this

theorem TM.indexByte_at : ∀ (l r : List UInt8), (∀ c ∈ l, c ≠ 46) → indexByte (l ++ 46 :: r) 46 = l.length
  | [], r, _ => by simp [indexByte]
  | b :: l, r, h => by
    have ih := TM.indexByte_at l r (fun c hc => h c (List.mem_cons_of_mem _ hc))
    have hb := h b List.mem_cons_self
    simp only [List.cons_append, indexByte, ih]
    rw [if_neg (by simpa using hb), if_neg (by simp)]
    simp
theorem TM.cut_at (l r : List UInt8) (h : ∀ c ∈ l, c ≠ 46) : cut (l ++ 46 :: r) [46] = (l, r, true) := by
  unfold cut
  rw [index_one, TM.indexByte_at l r h, if_pos (by omega)]
  simp

/-- The two numbers of a text. -/
def TM.nums (l : List UInt8) : Option (Int × Int) :=
  if hasPrefix l [35] = true ∧ (cut (trimPrefix l [35]) [46]).2.2 = true then
    match atoiAll (cut (trimPrefix l [35]) [46]).1, atoiAll (cut (trimPrefix l [35]) [46]).2.1 with
    | .ok x, .ok y => some (x, y)
    | _, _ => none
  else none
/-- The token of a text. -/
def TM.parse (l : List UInt8) : Option (Int × Int) :=
  match TM.nums l with
  | some (x, y) => if TM.right x y = true ∧ TM.text x y = l then some (x, y) else none
  | none => none

theorem TM.right_iff {i g : Int} : TM.right i g = true ↔ 0 ≤ i ∧ i < 4096 ∧ 1 ≤ g ∧ g ≤ 255 := by simp [TM.right]
theorem TM.nums_text {i g : Int} (h : TM.right i g = true) : TM.nums (TM.text i g) = some (i, g) := by
  obtain ⟨h0, h1, h2, h3⟩ := TM.right_iff.1 h
  have e1 : hasPrefix (TM.text i g) [35] = true := by simp [hasPrefix, TM.text]
  have e2 : trimPrefix (TM.text i g) [35] = itoa i ++ 46 :: itoa g := by
    unfold trimPrefix
    rw [if_pos e1]
    simp [TM.text]
  unfold TM.nums
  rw [e1, e2, TM.cut_at _ _ (TM.no_dot i h0)]
  simp [TM.atoi_itoa i h0 (by omega), TM.atoi_itoa g (by omega) (by omega)]
theorem TM.parse_iff {l : List UInt8} {i g : Int} : TM.parse l = some (i, g) ↔ TM.right i g = true ∧ l = TM.text i g := by
  constructor
  · intro h
    unfold TM.parse at h
    split at h
    · split at h
      · next hc =>
        injection h with h
        injection h with h1 h2
        subst h1 h2
        exact ⟨hc.1, hc.2.symm⟩
      · cases h
    · cases h
  · rintro ⟨h, rfl⟩
    unfold TM.parse
    rw [TM.nums_text h]
    simp [h]

/-- The document's answer: one byte of the text. -/
def TM.rstep (st : Bool × Int × Int) (c : UInt8) : Bool × Int × Int :=
  if c = 46 then (true, st.2.1, st.2.2)
  else if st.1 then (true, st.2.1, (st.2.2 * 10 + (c.toNat : Int) - 48).tmod 1000000)
  else (false, (st.2.1 * 10 + (c.toNat : Int) - 48).tmod 1000000, st.2.2)
def TM.rfold (l : List UInt8) : Bool × Int × Int := (l.drop 1).foldl TM.rstep (false, 0, 0)
def TM.rparse (l : List UInt8) : Option (Int × Int) :=
  if l.length ≤ 20 ∧ TM.right (TM.rfold l).2.1 (TM.rfold l).2.2 = true ∧ TM.text (TM.rfold l).2.1 (TM.rfold l).2.2 = l then some ((TM.rfold l).2.1, (TM.rfold l).2.2) else none

theorem TM.tm (x y : Int) (e : x = y) (h0 : 0 ≤ y) (h1 : y < 1000000) : x.tmod 1000000 = y := by
  subst e
  rw [Int.tmod_eq_emod_of_nonneg h0]
  omega
theorem TM.fold_dec0 (u : Nat) : u < 1000000 → (decDigits u).foldl TM.rstep (false, 0, 0) = (false, (u : Int), 0) := by
  refine TM.dec_ind (p := fun u => u < 1000000 → (decDigits u).foldl TM.rstep (false, 0, 0) = (false, (u : Int), 0)) (fun u h hu => ?_) (fun u h ih hu => ?_) u
  · have hd := TM.digit u h
    have hne : UInt8.ofNat (48 + u) ≠ 46 := fun e => by rw [e] at hd; simp at hd; omega
    rw [TM.dec_small h]
    simp only [List.foldl_cons, List.foldl_nil, TM.rstep, if_neg hne, hd, Bool.false_eq_true, ↓reduceIte]
    rw [TM.tm _ (u : Int) (by omega) (by omega) (by omega)]
  · have hd := TM.digit (u % 10) (Nat.mod_lt _ (by decide))
    have hne : UInt8.ofNat (48 + u % 10) ≠ 46 := fun e => by rw [e] at hd; simp at hd; omega
    rw [TM.dec_big h, List.foldl_append, ih (by omega)]
    simp only [List.foldl_cons, List.foldl_nil, TM.rstep, if_neg hne, hd, Bool.false_eq_true, ↓reduceIte]
    rw [TM.tm _ (u : Int) (by omega) (by omega) (by omega)]
theorem TM.fold_dec1 (n : Int) (u : Nat) : u < 1000000 → (decDigits u).foldl TM.rstep (true, n, 0) = (true, n, (u : Int)) := by
  refine TM.dec_ind (p := fun u => u < 1000000 → (decDigits u).foldl TM.rstep (true, n, 0) = (true, n, (u : Int))) (fun u h hu => ?_) (fun u h ih hu => ?_) u
  · have hd := TM.digit u h
    have hne : UInt8.ofNat (48 + u) ≠ 46 := fun e => by rw [e] at hd; simp at hd; omega
    rw [TM.dec_small h]
    simp only [List.foldl_cons, List.foldl_nil, TM.rstep, if_neg hne, hd, ↓reduceIte]
    rw [TM.tm _ (u : Int) (by omega) (by omega) (by omega)]
  · have hd := TM.digit (u % 10) (Nat.mod_lt _ (by decide))
    have hne : UInt8.ofNat (48 + u % 10) ≠ 46 := fun e => by rw [e] at hd; simp at hd; omega
    rw [TM.dec_big h, List.foldl_append, ih (by omega)]
    simp only [List.foldl_cons, List.foldl_nil, TM.rstep, if_neg hne, hd, ↓reduceIte]
    rw [TM.tm _ (u : Int) (by omega) (by omega) (by omega)]
theorem TM.text_len {i g : Int} (h : TM.right i g = true) : (TM.text i g).length ≤ 9 := by
  obtain ⟨h0, h1, h2, h3⟩ := TM.right_iff.1 h
  have e1 := TM.dec_len i.toNat 4 (by omega) (by omega)
  have e2 := TM.dec_len g.toNat 3 (by omega) (by omega)
  unfold TM.text
  rw [TM.itoa_nat i h0, TM.itoa_nat g (by omega)]
  simp
  omega
theorem TM.fold_text {i g : Int} (h : TM.right i g = true) : TM.rfold (TM.text i g) = (true, i, g) := by
  obtain ⟨h0, h1, h2, h3⟩ := TM.right_iff.1 h
  unfold TM.rfold TM.text
  rw [TM.itoa_nat i h0, TM.itoa_nat g (by omega)]
  simp only [List.drop_succ_cons, List.drop_zero, List.foldl_append, TM.fold_dec0 i.toNat (by omega), List.foldl_cons]
  have e : TM.rstep (false, (i.toNat : Int), 0) 46 = (true, (i.toNat : Int), 0) := rfl
  rw [e, TM.fold_dec1 _ g.toNat (by omega)]
  simp
  omega
theorem TM.rparse_iff {l : List UInt8} {i g : Int} : TM.rparse l = some (i, g) ↔ TM.right i g = true ∧ l = TM.text i g := by
  constructor
  · intro h
    unfold TM.rparse at h
    split at h
    · next hc =>
      injection h with h
      injection h with h1 h2
      rw [h1, h2] at hc
      exact ⟨hc.2.1, hc.2.2.symm⟩
    · cases h
  · rintro ⟨h, rfl⟩
    have := TM.text_len h
    unfold TM.rparse
    rw [TM.fold_text h, if_pos ⟨by omega, h, rfl⟩]
theorem TM.parse_eq (l : List UInt8) : TM.parse l = TM.rparse l := by
  cases h1 : TM.parse l with
  | some t =>
    obtain ⟨i, g⟩ := t
    exact (TM.rparse_iff.2 (TM.parse_iff.1 h1)).symm
  | none =>
    cases h2 : TM.rparse l with
    | none => rfl
    | some t =>
      obtain ⟨i, g⟩ := t
      rw [TM.parse_iff.2 (TM.rparse_iff.1 h2)] at h1
      cases h1
end Go.Proofs.YtlmiiapmanklpaaDoor
