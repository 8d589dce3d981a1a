/- Contracts of usable, Read, within, touchesFree, Owned of package store. -/
import Derived.Test.YteencfldehcbbaaDoorStLeaf
namespace Go.Proofs.YteencfldehcbbaaDoor
open Go.RowKit

/-- What is wrong with an address. -/
def addrE (own : Nat → Nat) (C K : Nat) (a : Int) : Int := if 0 ≤ a ∧ a < (C * K : Nat) then (if own (a.toNat / K) = 0 then 17 else 0) else 3
theorem addrE_in {own : Nat → Nat} {C K j : Nat} (hj : j < C * K) : addrE own C K (j : Int) = if own (j / K) = 0 then 17 else 0 := by
  unfold addrE
  rw [if_pos (by omega), Int.toNat_natCast]
theorem addrE_out {own : Nat → Nat} {C K : Nat} {k : Int} (h : k < 0 ∨ ((C * K : Nat) : Int) ≤ k) : addrE own C K k = 3 := by
  unfold addrE
  rw [if_neg (by omega)]
theorem addrE_ok {own : Nat → Nat} {C K : Nat} {k : Int} (h : addrE own C K k = 0) : ∃ j : Nat, k = j ∧ j < C * K ∧ own (j / K) ≠ 0 := by
  unfold addrE at h
  split at h
  · refine ⟨k.toNat, by omega, by omega, fun e => ?_⟩
    rw [if_pos e] at h
    omega
  · omega
theorem div_lt {C K j : Nat} (hj : j < C * K) : j / K < C := by
  rw [Nat.mul_comm] at hj
  exact Nat.div_lt_of_lt_mul hj

section
variable {w : World} {B : SB} {C K : Nat} {own wd : Nat → Nat}
set_option maxHeartbeats 400000 in
theorem usable_any (h : StAt w B C K own wd) (k : Int) : Calls Tryd.prog 55 #[.pointer (some ⟨B.s, 0, none⟩), .int .i64 k] w fun e w' => e = .returned (.int .i64 (addrE own C K k)) ∧ w = w' := by
  have c0 := h.size
  have c1 := h.words
  have hM := h.all
  have hK := h.K1
  have hK2 := h.K2
  by_cases h0 : k < 0
  · rw [addrE_out (.inl h0)]
    go_enter Tryd.func55, Tryd.ntmps55
    go_wp2
    go_ret
    exact ⟨rfl, rfl⟩
  · have g0 : 0 ≤ k := by omega
    by_cases h1 : ((C * K : Nat) : Int) ≤ k
    · rw [addrE_out (.inr h1)]
      generalize C * K = M at *
      go_enter Tryd.func55, Tryd.ntmps55
      go_wp2
      go_ret
      exact ⟨rfl, rfl⟩
    · obtain ⟨j, rfl⟩ := Int.eq_ofNat_of_zero_le g0
      have hj : j < C * K := by omega
      have hd := div_lt hj
      have hs := Lib.hid (somebodys_any h ((j / K : Nat) : Int))
      have e : addrE own C K (j : Int) = chunkE own C ((j / K : Nat) : Int) := by
        rw [addrE_in hj, chunkE_in hd]
      have ep : (j : Int) / (K : Int) = ((j / K : Nat) : Int) := by simp
      have hC := h.C2
      rw [e]
      clear h0 g0 h1 e
      generalize C * K = M at *
      generalize j / K = q at *
      have hkz : ((K : Int) == 0) = false := by simp; omega
      go_enter Tryd.func55, Tryd.ntmps55
      go_wp2_with (first
        | (go_at_call 69; refine hs.out.mono ?_; rintro e w' ⟨rfl, rfl⟩))
      go_ret
      exact ⟨rfl, rfl⟩
theorem usable_nil (w : World) (k : Int) : Calls Tryd.prog 55 #[.pointer none, .int .i64 k] w fun e w' => e = .returned (.int .i64 1) ∧ w = w' := by
  go_enter Tryd.func55, Tryd.ntmps55
  go_wp2
  go_ret
  exact ⟨rfl, rfl⟩

/-- The word that is told of an address. -/
def readV (own wd : Nat → Nat) (C K : Nat) (a : Int) : Nat := if addrE own C K a = 0 then wd a.toNat else 0
set_option maxHeartbeats 400000 in
theorem read_any (h : StAt w B C K own wd) (k : Int) : Calls Tryd.prog 32 #[.pointer (some ⟨B.s, 0, none⟩), .int .i64 k] w fun e w' => e = .returned (.tuple #[.int .u64 (readV own wd C K k : Nat), .int .i64 (addrE own C K k)]) ∧ w = w' := by
  have c1 := h.words
  have hM := h.all
  have hu := Lib.hid (usable_any h k)
  unfold readV
  by_cases hz : addrE own C K k = 0
  · obtain ⟨j, rfl, hj, _⟩ := addrE_ok hz
    rw [if_pos hz, hz, Int.toNat_natCast]
    rw [hz] at hu
    have c4 := h.word j hj
    clear hz
    generalize C * K = M at *
    go_enter Tryd.func32, Tryd.ntmps32
    go_wp2_with (first
      | (go_at_call 55; refine hu.out.mono ?_; rintro e w' ⟨rfl, rfl⟩))
    go_ret2
    exact ⟨rfl, rfl⟩
  · rw [if_neg hz]
    generalize addrE own C K k = x at *
    have d : (x != 0) = true := by simp; omega
    go_enter Tryd.func32, Tryd.ntmps32
    go_wp2_with (first
      | (go_at_call 55; refine hu.out.mono ?_; rintro e w' ⟨rfl, rfl⟩))
    go_ret2
    exact ⟨rfl, rfl⟩
theorem read_nil (w : World) (k : Int) : Calls Tryd.prog 32 #[.pointer none, .int .i64 k] w fun e w' => e = .returned (.tuple #[.int .u64 0, .int .i64 1]) ∧ w = w' := by
  go_enter Tryd.func32, Tryd.ntmps32
  go_wp2_with (first
    | (go_at_call 55; refine (usable_nil _ _).mono ?_; rintro e w' ⟨rfl, rfl⟩))
  go_ret2
  exact ⟨rfl, rfl⟩

/-- Is one of n words from a on in a free chunk? -/
def anyFree (own : Nat → Nat) (K a n : Nat) : Bool := (List.range n).any fun i => own ((a + i) / K) == 0
theorem anyFree_iff (own : Nat → Nat) (K a n : Nat) : anyFree own K a n = true ↔ ∃ i, i < n ∧ own ((a + i) / K) = 0 := by
  unfold anyFree
  simp [List.any_eq_true]
theorem anyFree_not (own : Nat → Nat) (K a n : Nat) : anyFree own K a n = false ↔ ∀ i, i < n → own ((a + i) / K) ≠ 0 := by
  constructor
  · intro h i hi e
    have := (anyFree_iff own K a n).2 ⟨i, hi, e⟩
    rw [h] at this
    cases this
  · intro h
    cases e : anyFree own K a n
    · rfl
    · obtain ⟨i, hi, ei⟩ := (anyFree_iff own K a n).1 e
      exact absurd ei (h i hi)
/-- By chunks. -/
theorem anyFree_chunks (own : Nat → Nat) (K a n : Nat) (_hK : 1 ≤ K) (hn : 1 ≤ n) (h : ∀ c, a / K ≤ c → c ≤ (a + n - 1) / K → own c ≠ 0) : anyFree own K a n = false :=
  (anyFree_not own K a n).2 fun i hi => h _ (Nat.div_le_div_right (by omega)) (Nat.div_le_div_right (by omega))
theorem anyFree_chunk (own : Nat → Nat) (K a n c : Nat) (hK : 1 ≤ K) (hn : 1 ≤ n) (h1 : a / K ≤ c) (h2 : c ≤ (a + n - 1) / K) (h : own c = 0) : anyFree own K a n = true := by
  have h3 : c * K ≤ a + n - 1 := by
    have := Nat.mul_le_mul_right K h2
    exact Nat.le_trans this (Nat.div_mul_le_self _ _)
  have h4 : a < (c + 1) * K := by
    have := Nat.lt_succ_of_le h1
    have h5 := (Nat.div_lt_iff_lt_mul (show 0 < K by omega)).1 this
    exact h5
  rw [Nat.add_mul, Nat.one_mul] at h4
  refine (anyFree_iff own K a n).2 ?_
  by_cases hc : c * K ≤ a
  · refine ⟨0, by omega, ?_⟩
    rw [Nat.add_zero, show a / K = c from Nat.div_eq_of_lt_le hc (by rw [Nat.add_mul, Nat.one_mul]; exact h4)]
    exact h
  · refine ⟨c * K - a, by omega, ?_⟩
    rw [show a + (c * K - a) = c * K by omega, Nat.mul_div_cancel _ (show 0 < K by omega)]
    exact h
def TouchAt (own : Nat → Nat) (p q : Nat) (x : Value) : Prop := ∃ c : Nat, p ≤ c ∧ c ≤ q + 1 ∧ x = .int .i64 c ∧ ∀ d, p ≤ d → d < c → own d ≠ 0
/-- Whose it is. -/
def hers (own : Nat → Nat) (o : Int) (k : Nat) : Bool := decide (1 ≤ o) && decide ((own k : Int) = o)
theorem hers_none (own : Nat → Nat) (o : Int) (h : o < 1) (n : Nat) : BM.ons (hers own o) n = [] := by
  unfold BM.ons
  rw [List.filter_eq_nil_iff]
  intro a _
  unfold hers
  simp
  omega
end
end Go.Proofs.YteencfldehcbbaaDoor
