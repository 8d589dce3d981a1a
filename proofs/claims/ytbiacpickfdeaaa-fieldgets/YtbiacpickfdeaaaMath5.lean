/- Plain mathematics: fields are apart just if no bit is had twice. No program in sight. -/
import Derived.Test.YtbiacpickfdeaaaMath4
namespace Go.Proofs.Ytbiacpickfdeaaa.FM
open Go.RowKit

/-- A field has a bit. -/
def has (f : Int × Int) (b : Int) : Bool := decide (f.1 ≤ b ∧ b < f.1 + f.2)
/-- How often a bit is had. -/
def cnt (b : Int) (l : List (Int × Int)) : Nat := (l.filter fun f => has f b).length
theorem cnt_nil (b : Int) : cnt b [] = 0 := rfl
theorem cnt_cons (b : Int) (f : Int × Int) (r : List (Int × Int)) : cnt b (f :: r) = (if has f b = true then 1 else 0) + cnt b r := by
  unfold cnt
  rw [List.filter_cons]
  split <;> simp [Nat.add_comm]
theorem cnt_snoc (b : Int) (l : List (Int × Int)) (f : Int × Int) : cnt b (l ++ [f]) = cnt b l + (if has f b = true then 1 else 0) := by
  unfold cnt
  rw [List.filter_append, List.length_append]
  congr 1
  rw [List.filter_cons]
  split <;> simp
theorem cnt_le (b : Int) (l : List (Int × Int)) : cnt b l ≤ l.length := List.length_filter_le _ _
theorem has_tb (f : Int × Int) (b : Nat) (h : right f.1 f.2 = true) : (boN f.1.toNat f.2.toNat).testBit b = has f b := by
  obtain ⟨h1, h2, h3, h4⟩ := (right_iff _ _).1 h
  rw [tb_bo', Bool.eq_iff_iff]
  unfold has
  simp
  omega
theorem apart_cnt (t : Nat) (l : List (Int × Int)) (hr : ∀ f ∈ l, right f.1 f.2 = true) : apartGo t l = true ↔ ∀ b : Nat, (t.testBit b = true → cnt b l = 0) ∧ cnt b l ≤ 1 := by
  induction l generalizing t with
  | nil => simp [apartGo, cnt_nil]
  | cons f r ih =>
    have hf := hr f List.mem_cons_self
    have ihr := ih (t ||| boN f.1.toNat f.2.toNat) (fun g hg => hr g (List.mem_cons_of_mem _ hg))
    simp only [apartGo, hf, Bool.true_and, Bool.and_eq_true, beq_iff_eq]
    rw [ihr]
    constructor
    · rintro ⟨h0, h1⟩ b
      have hb := congrArg (fun n => n.testBit b) h0
      simp only [Nat.testBit_and, Nat.zero_testBit, has_tb f b hf] at hb
      have hb1 := h1 b
      simp only [Nat.testBit_or, has_tb f b hf] at hb1
      rw [cnt_cons]
      cases hh : has f b with
      | true =>
        rw [hh] at hb hb1
        simp at hb hb1
        simp [hb, hb1]
      | false =>
        rw [hh] at hb1
        simp at hb1
        simp
        exact hb1
    · intro h
      constructor
      · apply Nat.eq_of_testBit_eq
        intro b
        have hb := (h b).1
        rw [cnt_cons] at hb
        rw [Nat.testBit_and, has_tb f b hf, Nat.zero_testBit]
        cases ht : t.testBit b <;> cases hh : has f b <;> simp
        have := hb ht
        rw [hh] at this
        simp at this
      · intro b
        have hb := h b
        rw [cnt_cons] at hb
        rw [Nat.testBit_or, has_tb f b hf]
        cases hh : has f b with
        | true =>
          rw [hh] at hb
          simp at hb
          simp
          omega
        | false =>
          rw [hh] at hb
          simpa using hb
theorem cnt_high (b : Nat) (l : List (Int × Int)) (hr : ∀ f ∈ l, right f.1 f.2 = true) (hb : 64 ≤ b) : cnt b l = 0 := by
  unfold cnt
  rw [List.length_eq_zero_iff, List.filter_eq_nil_iff]
  intro f hf
  obtain ⟨h1, h2, h3, h4⟩ := (right_iff _ _).1 (hr f hf)
  unfold has
  simp
  omega
theorem apart_of (l : List (Int × Int)) (hr : ∀ f ∈ l, right f.1 f.2 = true) (h : ∀ b : Nat, b < 64 → cnt b l ≤ 1) : apart l = true := by
  unfold apart
  rw [apart_cnt 0 l hr]
  intro b
  refine ⟨by simp, ?_⟩
  by_cases hb : b < 64
  · exact h b hb
  · rw [cnt_high b l hr (by omega)]; omega
theorem apart_not (l : List (Int × Int)) (b : Nat) (h : 1 < cnt b l) : apart l = false := by
  cases ha : apart l with
  | false => rfl
  | true =>
    have hr := apart_right 0 l ha
    have := ((apart_cnt 0 l hr).1 ha b).2
    omega
theorem apart_wrong (l : List (Int × Int)) (f : Int × Int) (hf : f ∈ l) (h : right f.1 f.2 = false) : apart l = false := by
  cases ha : apart l with
  | false => rfl
  | true =>
    have := apart_right 0 l ha f hf
    rw [h] at this
    cases this
end Go.Proofs.Ytbiacpickfdeaaa.FM
