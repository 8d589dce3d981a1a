/- Plain mathematics of giving. -/
import Derived.Test.YtpddiakpnibcgaaDoorStMath
namespace Go.Proofs.YtpddiakpnibcgaaDoor
open Go.RowKit

theorem uint_mod (c : Int) (C : Nat) (hC : 1 ≤ C) : ∃ q : Nat, q < C ∧ (c % 18446744073709551616) % (C : Int) = (q : Int) := by
  have h1 := Int.emod_nonneg (c % 18446744073709551616) (show (C : Int) ≠ 0 by omega)
  have h2 := Int.emod_lt_of_pos (c % 18446744073709551616) (show (0 : Int) < (C : Int) by omega)
  exact ⟨((c % 18446744073709551616) % (C : Int)).toNat, by omega, by omega⟩
theorem give_in {own : Nat → Nat} {C q Y : Nat} (hq : q < C) (hY : 1 ≤ Y) : giveE own C (q : Int) (Y : Int) = if own q = 0 then 17 else 0 := by
  unfold giveE
  rw [if_neg (by omega), chunkE_in hq]
theorem givOwn_no {own : Nat → Nat} {C q Y : Nat} (hq : q < C) (hY : 1 ≤ Y) (h : own q = 0) : givOwn own C (q : Int) (Y : Int) = own := by
  unfold givOwn
  rw [give_in hq hY, if_pos h, if_neg (by omega)]
/-- The owners, with one that is another. -/
def gvOwn (own : Nat → Nat) (q y k : Nat) : Nat := if k = q then y else own k
theorem givOwn_yes {own : Nat → Nat} {C q Y : Nat} (hq : q < C) (hY : 1 ≤ Y) (h : own q ≠ 0) : givOwn own C (q : Int) (Y : Int) = gvOwn own q Y := by
  unfold givOwn
  rw [give_in hq hY, if_neg h, if_pos rfl, Int.toNat_natCast, Int.toNat_natCast]
  rfl
theorem gv_self (own : Nat → Nat) (q y : Nat) : gvOwn own q y q = y := if_pos rfl
theorem gv_other (own : Nat → Nat) (q y k : Nat) (h : k ≠ q) : gvOwn own q y k = own k := if_neg h
theorem frees_gv (own : Nat → Nat) (C q y : Nat) (h : own q ≠ 0) (hy : 1 ≤ y) : frees (gvOwn own q y) C = frees own C := by
  unfold frees
  rw [BM.cnt_congr (busy (gvOwn own q y)) (busy own) C fun i _ => by
    unfold busy gvOwn
    by_cases e : i = q
    · subst e; simp; omega
    · rw [if_neg e]]
theorem mem_hers {own : Nat → Nat} {C q : Nat} {o : Int} : q ∈ BM.ons (hers own o) C ↔ q < C ∧ 1 ≤ o ∧ (own q : Int) = o := by
  unfold BM.ons hers
  simp
theorem mem_take_succ {xs : List Nat} {j x q : Nat} (h : xs[j]? = some x) : q ∈ xs.take (j + 1) ↔ q ∈ xs.take j ∨ x = q := by
  have hj : j < xs.length := (List.getElem?_eq_some_iff.1 h).1
  have e : xs.take (j + 1) = xs.take j ++ [x] := by
    rw [List.take_add_one, h]; rfl
  rw [e, List.mem_append, List.mem_singleton, eq_comm (a := q)]
/-- A word of a chunk, as it is told. -/
def rdw (own wd : Nat → Nat) (K q i : Nat) : Nat := if own q = 0 then 0 else wd (q * K + i)
theorem rd_in {own wd : Nat → Nat} {C K q i : Nat} (hq : q < C) (hi : i < K) : readV own wd C K ((q * K + i : Nat) : Int) = rdw own wd K q i := by
  rw [readV_in (mul_at_lt hq hi), mul_div_at hi]
  rfl
end Go.Proofs.YtpddiakpnibcgaaDoor
