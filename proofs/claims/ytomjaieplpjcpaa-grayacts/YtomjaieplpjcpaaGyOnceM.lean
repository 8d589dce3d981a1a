/- Plain data of GrayOnce, GrayPaints: what is put and painted, and then told to the end. -/
import Derived.Test.YtomjaieplpjcpaaGyWalks
namespace Go.Proofs.Ytomjaieplpjcpaa
open Go.RowKit Go.Lib Go.Sort Go.Maps

theorem gy_cut (n K : Nat) : ∃ M : Nat, M ≤ n ∧ M ≤ K ∧ (n ≤ K ∧ M = n ∨ K < n ∧ M = K) := by
  by_cases h : n ≤ K
  · exact ⟨n, Nat.le_refl _, h, .inl ⟨h, rfl⟩⟩
  · exact ⟨K, by omega, Nat.le_refl _, .inr ⟨by omega, rfl⟩⟩

namespace GY
/-- What was put is painted. -/
def pst (U ps : List Int) : S := ⟨GM.out ps U, GM.adds [] ps⟩
theorem pst_nil (U : List Int) : pst U [] = at_ U 0 := by
  unfold pst at_
  rw [List.drop_zero, List.take_zero, GM.adds_nil]
  congr 1
  unfold GM.out
  exact List.filter_eq_self.2 fun x _ => by simp
theorem out_out (U ps : List Int) (x : Int) : GM.out (ps ++ [x]) U = out (GM.out ps U) x := by
  unfold GM.out out
  rw [List.filter_filter]
  congr 1
  funext y
  by_cases h1 : y ∈ ps <;> by_cases h2 : y = x <;> simp [h1, h2]
theorem pst_snoc (U ps : List Int) (x : Int) : paint (pst U ps) x = pst U (ps ++ [x]) := by
  by_cases h : x ∈ ps
  · have hc : col (pst U ps) x = 2 := by
      unfold col
      have h1 : x ∉ (pst U ps).W := fun k => (GM.mem_out.1 k).2 h
      have h2 : x ∈ (pst U ps).D := GM.mem_adds.2 (.inr h)
      rw [if_neg h1, if_pos h2]
    rw [paint_2 hc]
    unfold pst
    rw [GM.adds_snoc, GM.add_in (GM.mem_adds.2 (.inr h))]
    congr 1
    exact GM.out_congr fun y => by
      rw [List.mem_append, List.mem_singleton]
      exact ⟨.inl, fun k => k.elim id fun e => e ▸ h⟩
  · have hn : x ∉ GM.adds [] ps := fun k => by
      rcases GM.mem_adds.1 k with k | k
      · cases k
      · exact h k
    have hc : col (pst U ps) x ≠ 2 := fun k => hn (d_col k).1
    rw [paint_no hc]
    unfold pst
    rw [GM.adds_snoc, GM.add_out hn, out_out]
theorem pst_take (U : List Int) {ps : List Int} {j : Nat} (h : j < ps.length) : paint (pst U (ps.take j)) ps[j] = pst U (ps.take (j + 1)) := by
  rw [List.take_succ_eq_append_getElem h]
  exact pst_snoc _ _ _
theorem pst_num (U ps : List Int) : num (pst U ps) ≤ U.length + ps.length := by
  have h1 := GM.out_len ps U
  have h2 := GM.adds_len [] ps
  simp at h2
  show (GM.out ps U).length + (GM.adds [] ps).length ≤ _
  omega
/-- Told: the first k of W. -/
def told (D0 W : List Int) (k : Nat) : S := ⟨W.drop k, D0 ++ W.take k⟩
theorem told_0 (D0 W : List Int) : told D0 W 0 = ⟨W, D0⟩ := by simp [told]
theorem told_next {D0 W : List Int} {k : Nat} {x : Int} (h : W[k]? = some x) : (told D0 W k).W = x :: W.drop (k + 1) ∧ next (told D0 W k) = told D0 W (k + 1) ∧ x ∈ (told D0 W (k + 1)).D := by
  obtain ⟨hk, e⟩ := List.getElem?_eq_some_iff.1 h
  have h1 : (told D0 W k).W = x :: W.drop (k + 1) := by
    show W.drop k = _
    rw [List.drop_eq_getElem_cons hk, e]
  have h2 : W.take (k + 1) = W.take k ++ [x] := by rw [List.take_succ_eq_append_getElem hk, e]
  refine ⟨h1, ?_, ?_⟩
  · rw [next_cons h1]
    show (⟨W.drop (k + 1), D0 ++ W.take k ++ [x]⟩ : S) = ⟨W.drop (k + 1), D0 ++ W.take (k + 1)⟩
    rw [h2, List.append_assoc]
  · show x ∈ D0 ++ W.take (k + 1)
    rw [h2]
    simp
theorem told_end {D0 W : List Int} {k : Nat} (h : W.length ≤ k) : told D0 W k = ⟨[], D0 ++ W⟩ := by
  unfold told
  rw [List.drop_eq_nil_of_le h, List.take_of_length_le h]
theorem told_num (D0 W : List Int) (k : Nat) : num (told D0 W k) = D0.length + W.length := by
  show (W.drop k).length + (D0 ++ W.take k).length = _
  rw [List.length_append, List.length_drop, List.length_take]
  omega
/-- Two rows that say the same, rising. -/
theorem row_is {l m : List Int} (h : l.Nodup) (hm : ∀ x, x ∈ l ↔ x ∈ m) : BG.row l = BG.norm m := by
  rw [GM.row_norm h]
  exact BG.ext _ _ (BG.norm_rises _) (BG.norm_rises _) fun x => by rw [BG.mem_norm, BG.mem_norm]; exact hm x
/-- What is wanted of those that are put, but for some that are painted. -/
theorem want_take {ls ps : List Int} {i : Nat} {x : Int} (h : ls[i]? = some x) : GM.out ps (GM.adds [] (ls.take (i + 1))) = if x ∈ ls.take i ∨ x ∈ ps then GM.out ps (GM.adds [] (ls.take i)) else GM.out ps (GM.adds [] (ls.take i)) ++ [x] := by
  obtain ⟨hi, e⟩ := List.getElem?_eq_some_iff.1 h
  rw [List.take_succ_eq_append_getElem hi, e, GM.adds_snoc]
  by_cases h1 : x ∈ ls.take i
  · rw [if_pos (.inl h1), GM.add_in (GM.mem_adds.2 (.inr h1))]
  · have hn : x ∉ GM.adds [] (ls.take i) := fun k => by
      rcases GM.mem_adds.1 k with k | k
      · cases k
      · exact h1 k
    rw [GM.add_out hn, GM.out_snoc]
    by_cases h2 : x ∈ ps
    · rw [if_pos h2, if_pos (.inr h2), List.append_nil]
    · rw [if_neg h2, if_neg (fun k => k.elim h1 h2)]
end GY

section
variable {w : World} {lo B : Nat} {v u : Value} {l l' : List Int}
/-- A row that was there and one made since. -/
theorem NewZ.apart (hlt : ∀ g, v.ownBlock = some g → g < B) (hu : NewZ B w u l') : v.ownBlock = none ∨ v.ownBlock ≠ u.ownBlock := by
  cases hv : v.ownBlock with
  | none => exact .inl rfl
  | some g =>
    refine .inr fun e => ?_
    have h1 := hlt g hv
    have h2 := (hu.own.lt g e.symm).1
    omega
end
end Go.Proofs.Ytomjaieplpjcpaa
