/- Plain mathematics of owners and words (out of stage 3's texts). -/
import Derived.Test.YteencfldehcbbaaDoorMgStLeaf
namespace Go.Proofs.YteencfldehcbbaaDoor
open Go.RowKit
set_option linter.unusedVariables false

theorem ownerOf_in {own : Nat → Nat} {C k : Nat} (h : k < C) : ownerOf own C (k : Int) = own k := by
  unfold ownerOf
  rw [if_pos (by omega), Int.toNat_natCast]
theorem readV_in {own wd : Nat → Nat} {C K i : Nat} (h : i < C * K) : readV own wd C K (i : Int) = if own (i / K) = 0 then 0 else wd i := by
  unfold readV
  rw [addrE_in h, Int.toNat_natCast]
  by_cases e : own (i / K) = 0
  · rw [if_pos e, if_neg (by omega), if_pos e]
  · rw [if_neg e, if_pos rfl, if_neg e]

theorem frees_congr {own own' : Nat → Nat} (C : Nat) (h : ∀ k, k < C → own k = own' k) : frees own C = frees own' C := by
  unfold frees
  rw [BM.cnt_congr (busy own) (busy own') C fun i hi => by unfold busy; rw [h i hi]]
theorem frees_one (own : Nat → Nat) (p y : Nat) (hp : own p = 0) (hy : 0 < y) : ∀ C, p < C → frees (fun q => if q = p then y else own q) C + 1 = frees own C := by
  intro C
  induction C with
  | zero => intro h; omega
  | succ C ih =>
    intro h
    by_cases e : p = C
    · subst e
      rw [frees_no _ _ (by simp; omega), frees_yes own p hp, frees_congr (own' := own) p fun k hk => by rw [if_neg (by omega)]]
    · have := ih (by omega)
      by_cases z : own C = 0
      · rw [frees_yes own C z, frees_yes _ C (by rw [if_neg (by omega)]; exact z)]
        omega
      · rw [frees_no own C z, frees_no _ C (by rw [if_neg (by omega)]; exact z)]
        omega
theorem frees_tk (own : Nat → Nat) (C p y : Nat) (hy : 0 < y) : ∀ k, (∀ q, p ≤ q → q < p + k → own q = 0) → p + k ≤ C → frees (tkOwn own p k y) C + k = frees own C := by
  intro k
  induction k with
  | zero =>
    intro _ _
    exact frees_congr C fun q _ => by unfold tkOwn; rw [if_neg (by omega)]
  | succ k ih =>
    intro h1 h2
    have i1 := ih (fun q a b => h1 q a (by omega)) (by omega)
    have i2 := frees_one (tkOwn own p k y) (p + k) y (by unfold tkOwn; rw [if_neg (by omega)]; exact h1 _ (by omega) (by omega)) hy C (by omega)
    have e : frees (tkOwn own p (k + 1) y) C = frees (fun q => if q = p + k then y else tkOwn own p k y q) C := frees_congr C fun q _ => by
      unfold tkOwn
      by_cases a : q = p + k
      · rw [if_pos a, if_pos (by omega)]
      · rw [if_neg a]
        by_cases b : p ≤ q ∧ q < p + k
        · rw [if_pos b, if_pos (by omega)]
        · rw [if_neg b, if_neg (by omega)]
    omega
theorem frees_zero (own : Nat → Nat) : ∀ C, frees own C = 0 → ∀ k, k < C → own k ≠ 0 := by
  intro C
  induction C with
  | zero => intro _ k h; omega
  | succ C ih =>
    intro h k hk
    by_cases z : own C = 0
    · rw [frees_yes own C z] at h; omega
    · rw [frees_no own C z] at h
      by_cases e : k = C
      · subst e; exact z
      · exact ih h k (by omega)
theorem frees_some (own : Nat → Nat) : ∀ C, frees own C ≠ 0 → ∃ k, k < C ∧ own k = 0 := by
  intro C
  induction C with
  | zero => intro h; exact absurd rfl h
  | succ C ih =>
    intro h
    by_cases z : own C = 0
    · exact ⟨C, by omega, z⟩
    · rw [frees_no own C z] at h
      obtain ⟨k, hk, e⟩ := ih h
      exact ⟨k, by omega, e⟩
theorem busy_off {own : Nat → Nat} {k : Nat} : busy own k = false ↔ own k = 0 := by
  unfold busy
  simp
theorem busy_on {own : Nat → Nat} {k : Nat} : busy own k = true ↔ own k ≠ 0 := by
  unfold busy
  simp
  omega
/-- One is free: the least one is told. -/
theorem tk1_free {own : Nat → Nat} {C : Nat} {y : Nat} (hy : 1 ≤ y) (h : frees own C ≠ 0) : ∃ p, p < C ∧ own p = 0 ∧ (∀ q, q < p → own q ≠ 0) ∧ tkE own C y 1 = 0 ∧ tkP own C y 1 = p ∧ tkOwnA own C y 1 = tkOwn own p 1 y ∧ ∀ K wd, tkWdA own wd C K y 1 = tkWd wd K p 1 := by
  obtain ⟨k, hk, hz⟩ := frees_some own C h
  have hr : BM.rn (busy own) C 1 < C + 1 - 1 := by
    rcases Nat.lt_or_ge (BM.rn (busy own) C 1) (C + 1 - 1) with h | h
    · exact h
    · have h1 := BM.rn_not (busy own) C 1 k (by omega)
      have h2 := (BM.runAt_iff (busy own) 1 k).2 fun q a b => by
        obtain rfl : q = k := by omega
        exact busy_off.2 hz
      rw [h1] at h2
      cases h2
  have e : tkE own C y 1 = 0 := by
    unfold tkE
    rw [if_neg (by omega)]
    exact if_pos hr
  refine ⟨BM.rn (busy own) C 1, by omega, busy_off.1 ((BM.runAt_iff _ _ _).1 (BM.rn_is _ _ _ hr) _ (Nat.le_refl _) (by omega)), fun q hq => ?_, e, ?_, ?_, ?_⟩
  · intro h0
    have h1 := BM.rn_not (busy own) C 1 q hq
    have h2 := (BM.runAt_iff (busy own) 1 q).2 fun q' a b => by
      obtain rfl : q' = q := by omega
      exact busy_off.2 h0
    rw [h1] at h2
    cases h2
  · unfold tkP
    rw [if_pos e]; rfl
  · unfold tkOwnA
    rw [if_pos e, Int.toNat_natCast]; rfl
  · intro K wd
    unfold tkWdA
    rw [if_pos e]; rfl
theorem frees_tk1 (own : Nat → Nat) (C p y : Nat) (hy : 0 < y) (hp : p < C) (h0 : own p = 0) : frees (tkOwn own p 1 y) C = frees own C - 1 ∧ 1 ≤ frees own C := by
  have h := frees_tk own C p y hy 1 (fun q a b => by rw [show q = p by omega]; exact h0) (by omega)
  omega
end Go.Proofs.YteencfldehcbbaaDoor
