/- What the document's take takes out of a row of parts. -/
import Derived.Test.YteencfldehcbbaaDoorBpMath
namespace Go.Proofs.YteencfldehcbbaaDoor
open Go.RowKit

namespace BP
set_option linter.unusedVariables false
/-- The part is the one that is asked for. -/
def hitP (f : Int) (r : Bool) (x : Nat × Nat) : Bool := decide ((x.1 : Int) = f) && (decide (1 < x.2) || !r)
def tkX (f : Int) (r : Bool) (P : List (Nat × Nat)) : Nat × Nat := ((P.filter (hitP f r)).getLast?).getD (0, 0)
def tkB (f : Int) (r : Bool) (P : List (Nat × Nat)) : Bool := P.any (hitP f r)
def tkL (f : Int) (r : Bool) (P : List (Nat × Nat)) : List (Nat × Nat) := P.filter fun x => !hitP f r x
section
variable {f : Int} {r : Bool} {P : List (Nat × Nat)} {j : Nat} {x : Nat × Nat}
theorem tk_hit (hx : P[j]? = some x) (hq : hitP f r x = true) : tkX f r (P.take (j + 1)) = x ∧ tkB f r (P.take (j + 1)) = true ∧ tkL f r (P.take (j + 1)) = tkL f r (P.take j) := by
  unfold tkX tkB tkL
  rw [List.take_add_one, hx]
  refine ⟨?_, ?_, ?_⟩
  · rw [List.filter_append]
    simp [hq]
  · simp [hq]
  · rw [List.filter_append]
    simp [hq]
theorem tk_miss (hx : P[j]? = some x) (hq : hitP f r x = false) : tkX f r (P.take (j + 1)) = tkX f r (P.take j) ∧ tkB f r (P.take (j + 1)) = tkB f r (P.take j) ∧ tkL f r (P.take (j + 1)) = tkL f r (P.take j) ++ [x] := by
  unfold tkX tkB tkL
  rw [List.take_add_one, hx]
  refine ⟨?_, ?_, ?_⟩
  · rw [List.filter_append]
    simp [hq]
  · simp [hq]
  · rw [List.filter_append]
    simp [hq]
theorem tkL_len : (tkL f r P).length ≤ P.length := List.length_filter_le _ _
/-- What begins with a chunk is just one part. -/
theorem hit_unique (hn : (chunks P).Nodup) (h1 : ∀ x ∈ P, 1 ≤ x.2) {y : Nat × Nat} (hx : x ∈ P) (hy : y ∈ P) (e : (x.1 : Int) = f) (e2 : (y.1 : Int) = f) : y = x :=
  same_part hn hy hx (c := y.1) (cs_mem.2 ⟨Nat.le_refl _, by have := h1 y hy; omega⟩) (cs_mem.2 ⟨by omega, by have := h1 x hx; omega⟩)
theorem tk_none (h : ∀ y ∈ P, hitP f r y = false) : tkB f r P = false ∧ tkL f r P = P ∧ tkX f r P = (0, 0) := by
  refine ⟨?_, ?_, ?_⟩
  · unfold tkB
    rw [List.any_eq_false]
    intro y hy
    simp [h y hy]
  · exact List.filter_eq_self.2 fun y hy => by simp [h y hy]
  · unfold tkX
    rw [List.filter_eq_nil_iff.2 fun y hy => by simp [h y hy]]
    rfl
theorem tk_some (hn : (chunks P).Nodup) (h1 : ∀ x ∈ P, 1 ≤ x.2) (hx : x ∈ P) (hq : hitP f r x = true) : tkB f r P = true ∧ tkL f r P = (P.filter fun y => decide (y ≠ x)) ∧ tkX f r P = x := by
  have hf : (x.1 : Int) = f := by
    unfold hitP at hq
    simp at hq
    exact hq.1
  have hu : ∀ y ∈ P, hitP f r y = true → y = x := fun y hy hh => by
    unfold hitP at hh
    simp at hh
    exact hit_unique hn h1 hx hy hf hh.1
  refine ⟨List.any_eq_true.2 ⟨x, hx, hq⟩, ?_, ?_⟩
  · refine List.filter_congr fun y hy => ?_
    by_cases e : y = x
    · rw [e, hq]; simp
    · have : hitP f r y = false := by
        cases hh : hitP f r y
        · rfl
        · exact absurd (hu y hy hh) e
      rw [this]; simp [e]
  · unfold tkX
    have hm : x ∈ P.filter (hitP f r) := List.mem_filter.2 ⟨hx, hq⟩
    cases hl : (P.filter (hitP f r)).getLast? with
    | none => rw [List.getLast?_eq_none_iff] at hl; rw [hl] at hm; cases hm
    | some a =>
      have ha := List.mem_filter.1 (List.mem_of_getLast? hl)
      rw [hu a ha.1 ha.2]
      rfl
/-- As the code finds it. -/
theorem tk_drop (hn : (chunks P).Nodup) (h1 : ∀ x ∈ P, 1 ≤ x.2) :
    (fromP P f = (0, 0) ∧ tkB f false P = false ∧ tkL f false P = P) ∨ (fromP P f ≠ (0, 0) ∧ fromP P f ∈ P ∧ ((fromP P f).1 : Int) = f ∧ tkB f false P = true ∧ tkL f false P = (P.filter fun y => decide (y ≠ fromP P f)) ∧ tkX f false P = fromP P f) := by
  rcases from_cases (P := P) f with ⟨e, h⟩ | ⟨e, h⟩
  · have := tk_none (f := f) (r := false) (P := P) fun y hy => by unfold hitP; simp [h y hy]
    exact .inl ⟨e, this.1, this.2.1⟩
  · obtain ⟨a, b, c⟩ := tk_some (f := f) (r := false) hn h1 e (by unfold hitP; simp [h])
    refine .inr ⟨fun ez => ?_, e, h, a, b, c⟩
    have := h1 _ e
    rw [ez] at this
    simp at this
theorem tk_hand (hn : (chunks P).Nodup) (h1 : ∀ x ∈ P, 1 ≤ x.2) :
    ((fromP P f).2 ≤ 1 ∧ tkB f true P = false ∧ tkL f true P = P) ∨ (1 < (fromP P f).2 ∧ fromP P f ∈ P ∧ ((fromP P f).1 : Int) = f ∧ tkB f true P = true ∧ tkL f true P = (P.filter fun y => decide (y ≠ fromP P f)) ∧ tkX f true P = fromP P f) := by
  rcases from_cases (P := P) f with ⟨e, h⟩ | ⟨e, h⟩
  · have := tk_none (f := f) (r := true) (P := P) fun y hy => by unfold hitP; simp [h y hy]
    exact .inl ⟨by rw [e]; simp, this.1, this.2.1⟩
  · by_cases h2 : 1 < (fromP P f).2
    · obtain ⟨a, b, c⟩ := tk_some (f := f) (r := true) hn h1 e (by unfold hitP; simp [h, h2])
      exact .inr ⟨h2, e, h, a, b, c⟩
    · have := tk_none (f := f) (r := true) (P := P) fun y hy => by
        unfold hitP
        by_cases e2 : (y.1 : Int) = f
        · have := hit_unique hn h1 e hy h e2
          rw [this]; simp [h2]
        · simp [e2]
      exact .inl ⟨by omega, this.1, this.2.1⟩
end
end BP
end Go.Proofs.YteencfldehcbbaaDoor
