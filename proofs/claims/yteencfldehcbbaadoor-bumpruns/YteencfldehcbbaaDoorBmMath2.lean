/- Plain mathematics: runs of places that are off, the places that are on. -/
import Derived.Test.YteencfldehcbbaaDoorBmOnes
namespace Go.Proofs.YteencfldehcbbaaDoor.BM
open Go.RowKit

/-- k places from a on are off. -/
def runAt (f : Nat → Bool) (k a : Nat) : Bool := (List.range k).all fun j => !f (a + j)
theorem runAt_iff (f : Nat → Bool) (k a : Nat) : runAt f k a = true ↔ ∀ q, a ≤ q → q < a + k → f q = false := by
  unfold runAt
  rw [List.all_eq_true]
  constructor
  · intro h q h1 h2
    have := h (q - a) (by simp; omega)
    rw [show a + (q - a) = q by omega] at this
    simpa using this
  · intro h j hj
    have := h (a + j) (by omega) (by have := List.mem_range.1 hj; omega)
    simpa using this
theorem runAt_no (f : Nat → Bool) (k a q : Nat) (h1 : a ≤ q) (h2 : q < a + k) (h : f q = true) : runAt f k a = false := by
  cases e : runAt f k a
  · rfl
  · have := (runAt_iff f k a).1 e q h1 h2
    rw [h] at this; cases this
/-- The least place from which on k places are there, and off; n + 1 - k, if there is none. -/
def rn (f : Nat → Bool) (n k : Nat) : Nat := least (runAt f k) 0 (n + 1 - k)
theorem rn_le (f : Nat → Bool) (n k : Nat) : rn f n k ≤ n + 1 - k := least_le _ _ _
theorem rn_is (f : Nat → Bool) (n k : Nat) (h : rn f n k < n + 1 - k) : runAt f k (rn f n k) = true := (least_is _ _ _ h).2
theorem rn_not (f : Nat → Bool) (n k a : Nat) (h : a < rn f n k) : runAt f k a = false := least_not _ _ _ a (by omega) h (by have := rn_le f n k; omega)
theorem rn_eq (f : Nat → Bool) (n k r : Nat) (h1 : r ≤ n + 1 - k) (h2 : ∀ a, a < r → runAt f k a = false) (h3 : r < n + 1 - k → runAt f k r = true) : rn f n k = r :=
  least_eq _ _ _ _ h1 (fun q _ h => h2 q h) (fun h => ⟨by omega, h3 h⟩)

/-- Where the search of a run stands: none begins ahead of p, which is off, or n. -/
def RunSt (f : Nat → Bool) (n k p : Nat) : Prop := p ≤ n ∧ (p < n → f p = false) ∧ ∀ a, a < p → a < n + 1 - k → runAt f k a = false
theorem run_start (f : Nat → Bool) (n k : Nat) (hk : 1 ≤ k) : RunSt f n k (nx f n false 0) := by
  refine ⟨nx_le _ _ _ _, fun h => (nx_is _ _ _ _ h).2, fun a h1 _ => ?_⟩
  have := nx_not f n false 0 a (by omega) h1
  exact runAt_no f k a a (by omega) (by omega) (by simpa using this)
theorem run_end (f : Nat → Bool) (n k p : Nat) (h : RunSt f n k p) (hp : n < p + k) : rn f n k = n + 1 - k :=
  rn_eq _ _ _ _ (Nat.le_refl _) (fun a ha => h.2.2 a (by omega) ha) (fun h => absurd h (by omega))
theorem run_found (f : Nat → Bool) (n k p : Nat) (h : RunSt f n k p) (hp : p + k ≤ n) (he : p + k ≤ nx f n true p) : rn f n k = p := by
  refine rn_eq _ _ _ _ (by omega) (fun a ha => h.2.2 a ha (by omega)) (fun _ => (runAt_iff f k p).2 fun q h1 h2 => ?_)
  have := nx_not f n true p q h1 (by omega)
  simpa using this
theorem run_next (f : Nat → Bool) (n k p : Nat) (hk : 1 ≤ k) (h : RunSt f n k p) (hp : p + k ≤ n) (he : nx f n true p < p + k) : RunSt f n k (nx f n false (nx f n true p)) ∧ p < nx f n false (nx f n true p) := by
  have hlt : nx f n true p < n := by omega
  obtain ⟨h1, h2⟩ := nx_is f n true p hlt
  have h3 : nx f n true p ≠ p := by
    intro e
    rw [e] at h2
    rw [h.2.1 (by omega)] at h2
    cases h2
  have h4 := nx_ge f n false (nx f n true p) (by omega)
  refine ⟨⟨nx_le _ _ _ _, fun h => (nx_is _ _ _ _ h).2, fun a ha hb => ?_⟩, by omega⟩
  by_cases c1 : a < p
  · exact h.2.2 a c1 hb
  · by_cases c2 : a ≤ nx f n true p
    · exact runAt_no f k a _ c2 (by omega) h2
    · have := nx_not f n false (nx f n true p) a (by omega) ha
      exact runAt_no f k a a (by omega) (by omega) (by simpa using this)

/-- Where the document's search stands: i places were looked at, just the last r of them are off, and no run was found. -/
def RowSt (f : Nat → Bool) (k i r : Nat) : Prop := r ≤ i ∧ r < k ∧ (∀ q, i - r ≤ q → q < i → f q = false) ∧ (r < i → f (i - r - 1) = true) ∧ ∀ a, a + k ≤ i → runAt f k a = false
theorem row_start (f : Nat → Bool) (k : Nat) (hk : 1 ≤ k) : RowSt f k 0 0 := ⟨Nat.le_refl _, by omega, fun q _ h => absurd h (by omega), fun h => absurd h (by omega), fun a h => absurd h (by omega)⟩
theorem row_on (f : Nat → Bool) (k i r : Nat) (hk : 1 ≤ k) (h : RowSt f k i r) (ho : f i = true) : RowSt f k (i + 1) 0 := by
  refine ⟨by omega, by omega, fun q h1 h2 => absurd h1 (by omega), fun _ => by simpa using ho, fun a ha => ?_⟩
  by_cases c : a + k ≤ i
  · exact h.2.2.2.2 a c
  · exact runAt_no f k a i (by omega) (by omega) ho
theorem row_off (f : Nat → Bool) (k i r : Nat) (h : RowSt f k i r) (ho : f i = false) (hr : r + 1 < k) : RowSt f k (i + 1) (r + 1) := by
  obtain ⟨h0, h1, h2, h3, h4⟩ := h
  have hq : ∀ q, i + 1 - (r + 1) ≤ q → q < i + 1 → f q = false := by
    intro q a b
    by_cases e : q = i
    · subst e; exact ho
    · exact h2 q (by omega) (by omega)
  refine ⟨by omega, hr, hq, fun hlt => ?_, fun a ha => ?_⟩
  · rw [show i + 1 - (r + 1) - 1 = i - r - 1 by omega]
    exact h3 (by omega)
  · by_cases c : a + k ≤ i
    · exact h4 a c
    · exact runAt_no f k a (i - r - 1) (by omega) (by omega) (h3 (by omega))
theorem row_found (f : Nat → Bool) (n k i r : Nat) (h : RowSt f k i r) (ho : f i = false) (hr : r + 1 = k) (hi : i < n) : rn f n k = i + 1 - k ∧ i + 1 - k < n + 1 - k ∧ k ≤ i + 1 := by
  obtain ⟨h0, h1, h2, h3, h4⟩ := h
  refine ⟨rn_eq _ _ _ _ (by omega) (fun a ha => h4 a (by omega)) (fun _ => (runAt_iff _ _ _).2 fun q a b => ?_), by omega, by omega⟩
  by_cases e : q = i
  · subst e; exact ho
  · exact h2 q (by omega) (by omega)
theorem row_end (f : Nat → Bool) (n k r : Nat) (h : RowSt f k n r) : rn f n k = n + 1 - k :=
  rn_eq _ _ _ _ (Nat.le_refl _) (fun a ha => h.2.2.2.2 a (by omega)) (fun h => absurd h (by omega))

/-- The places below n that are on. -/
def ons (f : Nat → Bool) (n : Nat) : List Nat := (List.range n).filter f
theorem ons_yes (f : Nat → Bool) (n : Nat) (h : f n = true) : ons f (n + 1) = ons f n ++ [n] := by
  unfold ons
  rw [List.range_succ, List.filter_append]
  simp [h]
theorem ons_no (f : Nat → Bool) (n : Nat) (h : f n = false) : ons f (n + 1) = ons f n := by
  unfold ons
  rw [List.range_succ, List.filter_append]
  simp [h]
theorem ons_len (f : Nat → Bool) (n : Nat) : (ons f n).length = cnt f n := by
  induction n with
  | zero => rfl
  | succ n ih =>
    rw [cnt]
    cases h : f n
    · rw [ons_no f n h, ih]; rfl
    · rw [ons_yes f n h, List.length_append, ih]; rfl
theorem ons_skip (f : Nat → Bool) (a b : Nat) (h : a ≤ b) (hq : ∀ q, a ≤ q → q < b → f q = false) : ons f b = ons f a := by
  obtain ⟨d, rfl⟩ : ∃ d, b = a + d := ⟨b - a, by omega⟩
  clear h
  induction d with
  | zero => rfl
  | succ d ih =>
    rw [show a + (d + 1) = (a + d) + 1 by omega, ons_no _ _ (hq _ (by omega) (by omega))]
    exact ih fun q h1 h2 => hq q h1 (by omega)
end Go.Proofs.YteencfldehcbbaaDoor.BM
