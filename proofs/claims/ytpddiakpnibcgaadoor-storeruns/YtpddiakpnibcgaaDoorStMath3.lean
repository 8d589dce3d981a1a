/- Plain mathematics of runs. -/
import Derived.Test.YtpddiakpnibcgaaDoorStMath2
namespace Go.Proofs.YtpddiakpnibcgaaDoor
open Go.RowKit

theorem infoBool : (Tryd.prog.info? 4).map (fun i => (i.zero, i.size, i.bytes)) = some (some (.bool false), 1, 1) := by kernel_rfl
theorem runAt_zero (f : Nat → Bool) (a : Nat) : BM.runAt f 0 a = true := by simp [BM.runAt]
theorem runAt_succ (f : Nat → Bool) (k a : Nat) : BM.runAt f (k + 1) a = (BM.runAt f k a && !f (a + k)) := by
  simp [BM.runAt, List.range_succ]
/-- The least run behind c, or -1. -/
def RF (own : Nat → Nat) (C Z : Nat) (c f : Int) : Prop :=
  (f = -1 ∧ ∀ a : Nat, c < a → a < C + 1 - Z → BM.runAt (busy own) Z a = false) ∨
  (∃ p : Nat, f = p ∧ c < p ∧ p < C + 1 - Z ∧ BM.runAt (busy own) Z p = true ∧ ∀ a : Nat, c < a → a < p → BM.runAt (busy own) Z a = false)
theorem rf_start (own : Nat → Nat) (C Z : Nat) : RF own C Z ((C : Int) - (Z : Int)) (-1) := .inl ⟨rfl, fun a h1 h2 => absurd h1 (by omega)⟩
theorem rf_yes {own : Nat → Nat} {C Z c : Nat} {f : Int} (h2 : c < C + 1 - Z) (hr : BM.runAt (busy own) Z c = true) : RF own C Z (c : Int) f → RF own C Z ((c : Int) - 1) (c : Int) := fun _ =>
  .inr ⟨c, rfl, by omega, h2, hr, fun a h3 h4 => absurd h4 (by omega)⟩
theorem rf_no {own : Nat → Nat} {C Z c : Nat} {f : Int} (hr : BM.runAt (busy own) Z c = false) (h : RF own C Z (c : Int) f) : RF own C Z ((c : Int) - 1) f := by
  rcases h with ⟨rfl, h⟩ | ⟨p, rfl, h1, h2, h3, h4⟩
  · refine .inl ⟨rfl, fun a h1 h2 => ?_⟩
    by_cases e : a = c
    · subst e; exact hr
    · exact h a (by omega) h2
  · refine .inr ⟨p, rfl, by omega, h2, h3, fun a h5 h6 => ?_⟩
    by_cases e : a = c
    · subst e; exact hr
    · exact h4 a (by omega) h6
theorem rf_end {own : Nat → Nat} {C Z : Nat} {c f : Int} (hc : c < 0) (h : RF own C Z c f) : (f = -1 ∧ ¬ BM.rn (busy own) C Z < C + 1 - Z) ∨ ∃ p : Nat, f = p ∧ BM.rn (busy own) C Z = p ∧ p < C + 1 - Z := by
  rcases h with ⟨rfl, h⟩ | ⟨p, rfl, h1, h2, h3, h4⟩
  · refine .inl ⟨rfl, fun hr => ?_⟩
    have := BM.rn_is _ _ _ hr
    rw [h _ (by omega) hr] at this
    cases this
  · exact .inr ⟨p, rfl, BM.rn_eq _ _ _ _ (by omega) (fun a ha => h4 a (by omega) ha) (fun _ => h3), h2⟩
theorem tkZ_no {own wd : Nat → Nat} {C K Z : Nat} (hZ : 1 ≤ Z) (hr : ¬ BM.rn (busy own) C Z < C + 1 - Z) : tkE own C 7 Z = 11 ∧ tkP own C 7 Z = 0 ∧ tkOwnA own C 7 Z = own ∧ tkWdA own wd C K 7 Z = wd := by
  have e : tkE own C 7 Z = 11 := by
    unfold tkE
    rw [if_neg (by omega), Int.toNat_natCast, if_neg hr]
  refine ⟨e, ?_, ?_, ?_⟩
  · unfold tkP; rw [e, if_neg (by omega)]
  · unfold tkOwnA; rw [e, if_neg (by omega)]
  · unfold tkWdA; rw [e, if_neg (by omega)]
theorem tkZ_yes {own wd : Nat → Nat} {C K Z p : Nat} (hZ : 1 ≤ Z) (hr : BM.rn (busy own) C Z = p) (hp : p < C + 1 - Z) : tkE own C 7 Z = 0 ∧ tkP own C 7 Z = p ∧ tkOwnA own C 7 Z = tkOwn own p Z 7 ∧ tkWdA own wd C K 7 Z = tkWd wd K p Z := by
  have e : tkE own C 7 Z = 0 := by
    unfold tkE
    rw [if_neg (by omega), Int.toNat_natCast, hr, if_pos hp]
  refine ⟨e, ?_, ?_, ?_⟩
  · unfold tkP; rw [e, if_pos rfl, Int.toNat_natCast, hr]
  · unfold tkOwnA; rw [e, if_pos rfl, Int.toNat_natCast, hr]; rfl
  · unfold tkWdA; rw [e, if_pos rfl, Int.toNat_natCast, hr]
theorem frees_run {own : Nat → Nat} {C Z p : Nat} (hr : BM.rn (busy own) C Z = p) (hp : p < C + 1 - Z) : frees (tkOwn own p Z 7) C = frees own C - Z ∧ Z ≤ frees own C := by
  have h1 := BM.rn_is (busy own) C Z (by omega)
  rw [hr] at h1
  have h := frees_tk own C p 7 (by omega) Z (fun q a b => busy_off.1 ((BM.runAt_iff _ _ _).1 h1 q a b)) (by omega)
  omega
/-- The words of a run that is taken. -/
theorem run_word {own wd : Nat → Nat} {C K Z p i : Nat} (hp : p < C + 1 - Z) (hi : i < Z * K) :
    p * K + i < C * K ∧ addrE (tkOwn own p Z 7) C K ((p * K + i : Nat) : Int) = 0 ∧ readV (tkOwn own p Z 7) (tkWd wd K p Z) C K ((p * K + i : Nat) : Int) = 0 := by
  have hK : 0 < K := by
    rcases Nat.eq_zero_or_pos K with h | h
    · subst h; simp at hi
    · exact h
  have h1 : (p + Z) * K ≤ C * K := Nat.mul_le_mul_right K (by omega)
  have h2 : (p + Z) * K = p * K + Z * K := Nat.add_mul _ _ _
  have hlt : p * K + i < C * K := by omega
  have hd : (p * K + i) / K = p + i / K := by
    rw [Nat.add_comm, Nat.add_mul_div_right _ _ hK, Nat.add_comm]
  have hiZ : i / K < Z := Nat.div_lt_of_lt_mul (by rw [Nat.mul_comm]; exact hi)
  have ho : tkOwn own p Z 7 ((p * K + i) / K) = 7 := by
    rw [hd]
    unfold tkOwn
    rw [if_pos ⟨Nat.le_add_right _ _, Nat.add_lt_add_left hiZ p⟩]
  refine ⟨hlt, ?_, ?_⟩
  · rw [addrE_in hlt, ho, if_neg (by omega)]
  · rw [readV_in hlt, ho, if_neg (by omega)]
    unfold tkWd
    rw [if_pos (by omega)]
/-- Which are free, as values. -/
def bvals (own : Nat → Nat) (k : Nat) : List Value := (List.range k).map fun i => Value.bool (!busy own i)
theorem bvals_len (own : Nat → Nat) (k : Nat) : (bvals own k).length = k := by simp [bvals]
theorem bvals_snoc (own : Nat → Nat) (k : Nat) : bvals own (k + 1) = bvals own k ++ [Value.bool (!busy own k)] := by simp [bvals, List.range_succ]
theorem bvals_at (own : Nat → Nat) (k j : Nat) (h : j < k) : (bvals own k)[j]? = some (Value.bool (!busy own j)) := by simp [bvals, h]
theorem size6 (n : Int) : ∃ N : Nat, 1 ≤ N ∧ N ≤ 6 ∧ 1 + (if n < 0 then 0 else n) % 6 = (N : Int) := by
  refine ⟨(1 + (if n < 0 then 0 else n) % 6).toNat, ?_⟩
  split <;> omega
theorem beq_busy (own : Nat → Nat) (i : Nat) : ((own i : Int) == 0) = !busy own i := by
  rw [Bool.eq_iff_iff]
  unfold busy
  simp
end Go.Proofs.YtpddiakpnibcgaaDoor
