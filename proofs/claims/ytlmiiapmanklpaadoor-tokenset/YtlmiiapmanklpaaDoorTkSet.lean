/- The walk of TokenSet. -/
import Derived.Test.YtlmiiapmanklpaaDoorTkSorts
namespace Go.Proofs.YtlmiiapmanklpaaDoor
open Go.RowKit Go.Sort

/-- The place of the list that is told as the i-th. -/
def TM.at_ (M T i : Nat) : Nat := (M - 1 - i + T) % M
/-- The first k of the list, turned about. -/
def TM.back (ls : List (Int × Int)) (M T k : Nat) : List (Int × Int) := (List.range k).map fun i => ls.getD (TM.at_ M T i) (0, 0)
theorem TM.back_len (ls : List (Int × Int)) (M T k : Nat) : (TM.back ls M T k).length = k := by simp [TM.back]
theorem TM.back_next (ls : List (Int × Int)) (M T k : Nat) (x : Int × Int) (h : ls[TM.at_ M T k]? = some x) : TM.back ls M T (k + 1) = TM.back ls M T k ++ [x] := by
  unfold TM.back
  rw [List.range_succ, List.map_append]
  simp [List.getD, h]
theorem TM.back_mem {ls : List (Int × Int)} {M T : Nat} (hl : ls.length = M) (hT : T < M ∨ M = 0) (x : Int × Int) : x ∈ TM.back ls M T M ↔ x ∈ ls := by
  unfold TM.back
  rw [List.mem_map]
  constructor
  · rintro ⟨i, hi, rfl⟩
    have hi' : i < M := List.mem_range.1 hi
    have ha : TM.at_ M T i < M := Nat.mod_lt _ (by omega)
    rw [List.getD_eq_getElem?_getD, List.getElem?_eq_getElem (by omega)]
    exact List.getElem_mem (by omega)
  · intro hx
    obtain ⟨j, hj, e⟩ := List.getElem_of_mem hx
    have hT' : T < M := by omega
    have key : ∃ i, i < M ∧ TM.at_ M T i = j := by
      by_cases h : T ≤ j
      · refine ⟨M - 1 - j + T, by omega, ?_⟩
        unfold TM.at_
        rw [show M - 1 - (M - 1 - j + T) + T = j by omega]
        exact Nat.mod_eq_of_lt (by omega)
      · refine ⟨T - 1 - j, by omega, ?_⟩
        unfold TM.at_
        rw [show M - 1 - (T - 1 - j) + T = j + M by omega, Nat.add_mod_right]
        exact Nat.mod_eq_of_lt (by omega)
    obtain ⟨i, hi, hij⟩ := key
    refine ⟨i, List.mem_range.2 hi, ?_⟩
    rw [hij, List.getD_eq_getElem?_getD, List.getElem?_eq_getElem (by omega)]
    exact e
theorem TM.allR_mem {l m : List (Int × Int)} (h : ∀ x, x ∈ l ↔ x ∈ m) : TM.allR l = TM.allR m := by
  unfold TM.allR
  rw [Bool.eq_iff_iff, List.all_eq_true, List.all_eq_true]
  exact ⟨fun k x hx => k x ((h x).2 hx), fun k x hx => k x ((h x).1 hx)⟩
theorem TM.sortE_same {l m : List (Int × Int)} (h : ∀ x, x ∈ l ↔ x ∈ m) (hl : l.length = m.length) : TM.sortE l = TM.sortE m := by
  unfold TM.sortE
  rw [TM.allR_mem h, hl]
theorem TM.sortL_same {l m : List (Int × Int)} (h : ∀ x, x ∈ l ↔ x ∈ m) (hl : l.length = m.length) : TM.sortL l = TM.sortL m := by
  unfold TM.sortL
  rw [TM.sortE_same h hl, TM.sort_of h]
/-- Sorted again, tokens are told the same. -/
theorem TM.sort_again (l : List (Int × Int)) : TM.sortE (TM.sortL l) = 0 ∧ TM.sortL (TM.sortL l) = TM.sortL l := by
  by_cases h : TM.sortE l = 0
  · have e : TM.sortL l = TM.sort l := if_pos h
    obtain ⟨s1, s2, s3⟩ := TM.sort_is l
    have hr : TM.allR l = true ∧ l.length ≤ 64 := by
      unfold TM.sortE at h
      by_cases h1 : TM.allR l = true
      · rw [if_pos h1] at h
        by_cases h2 : l.length ≤ 64
        · exact ⟨h1, h2⟩
        · rw [if_neg h2] at h; exact absurd h (by decide)
      · rw [if_neg h1] at h; exact absurd h (by decide)
    have h0 : TM.sortE (TM.sort l) = 0 := by
      unfold TM.sortE
      rw [TM.allR_mem s2, if_pos hr.1, if_pos (by omega)]
    rw [e]
    exact ⟨h0, by unfold TM.sortL; rw [if_pos h0, TM.sort_sort]⟩
  · have e : TM.sortL l = [] := if_neg h
    rw [e]
    have h0 : TM.sortE [] = 0 := by decide
    exact ⟨h0, by unfold TM.sortL; rw [if_pos h0, TM.sort_nil]⟩
theorem TM.sortL_le (l : List (Int × Int)) : (TM.sortL l).length ≤ l.length := by
  unfold TM.sortL
  split
  · exact (TM.sort_is l).2.2
  · simp

theorem mod_at (M T k : Nat) (hk : k < M) : ((M : Int) - 1 - (k : Int) + (T : Int)) % (M : Int) = ((TM.at_ M T k : Nat) : Int) := by
  unfold TM.at_
  rw [show (M : Int) - 1 - (k : Int) + (T : Int) = ((M - 1 - k + T : Nat) : Int) by omega]
  exact (Int.natCast_emod _ _).symm
theorem uint_turn (x : Int) (M : Nat) (hM : 1 ≤ M) (hM2 : M ≤ 64) : ∃ T : Nat, T < M ∧ wrap64 ((IntKind.u64.wrap x).tmod (M : Int)) = (T : Int) := by
  have h0 : 0 ≤ IntKind.u64.wrap x := by simp [IntKind.wrap, IntKind.bits, IntKind.signed]; omega
  have h1 : (IntKind.u64.wrap x).tmod (M : Int) = IntKind.u64.wrap x % (M : Int) := Int.tmod_eq_emod_of_nonneg h0
  have h2 := Int.emod_nonneg (IntKind.u64.wrap x) (show (M : Int) ≠ 0 by omega)
  have h3 := Int.emod_lt_of_pos (IntKind.u64.wrap x) (show (0 : Int) < (M : Int) by omega)
  refine ⟨(IntKind.u64.wrap x % (M : Int)).toNat, by omega, ?_⟩
  rw [h1]
  unfold wrap64
  omega
theorem own_alloc {w : World} {base n : Nat} {e : TypeId} {v : Value} {xs : List Value} (h : w.ownsRow base e 2 v n xs) (o : Obj) : (w.alloc o).ownsRow base e 2 v n xs := by
  refine ⟨h.1, ?_⟩
  rcases h.2 with h0 | ⟨g, cap, cur, e1, e2, hh, rest⟩
  · exact .inl h0
  · exact .inr ⟨g, cap, cur, e1, e2, (Below.heap_alloc w o g (Array.getElem?_eq_some_iff.1 hh).1).trans hh, rest⟩
theorem own_from {w : World} {base n : Nat} {e : TypeId} {v : Value} {xs : List Value} (h : w.ownsRow base e 2 v n xs) : ∀ k, v.ownBlock = some k → base ≤ k := by
  intro k hk
  rcases h.2 with ⟨rfl, _⟩ | ⟨g, cap, cur, rfl, e2, _⟩
  · cases hk
  · simp [Value.ownBlock] at hk
    omega
theorem one_ts {w : World} {g : Nat} {x y : Int} (h : Whole w g 23 #[.int .i64 x, .int .i64 y]) : TS w w.heap.size (some ⟨g, 0, none⟩) 1 1 [(x, y)] := TS.of_whole (l := [(x, y)]) h
end Go.Proofs.YtlmiiapmanklpaaDoor
