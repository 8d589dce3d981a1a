/- The document's Big. -/
import Derived.Test.YteencfldehcbbaaDoorBpRef2
namespace Go.Proofs.YteencfldehcbbaaDoor
open Go.RowKit Go.Sort BP
set_option linter.unusedVariables false

def bigP (k : Int) (x : Nat × Nat) : Bool := decide (1 < x.2) && (decide ((x.1 : Int) ≤ k) && decide (k - x.1 < x.2))
theorem big_hit {k : Int} {P : List (Nat × Nat)} {x : Nat × Nat} (h : x ∈ P) (hq : bigP k x = true) : isBig P k = true := List.any_eq_true.2 ⟨x, h, hq⟩
theorem big_miss {k : Int} {P : List (Nat × Nat)} (h : ∀ (i : Nat) (y : Nat × Nat), P[i]? = some y → bigP k y = false) : isBig P k = false := by
  unfold isBig
  rw [List.any_eq_false]
  intro x hx
  obtain ⟨i, hi⟩ := List.mem_iff_getElem?.1 hx
  have := h i x hi
  unfold bigP at this
  rw [this]
  simp
theorem bigP_cases (k : Int) (a b : Nat) : (bigP k (a, b) = false ∧ decide (1 < b) = false) ∨ (bigP k (a, b) = false ∧ decide (1 < b) = true ∧ k < a) ∨ (bigP k (a, b) = false ∧ decide (1 < b) = true ∧ (a : Int) ≤ k ∧ (a : Int) + b ≤ k) ∨ (bigP k (a, b) = true ∧ decide (1 < b) = true ∧ (a : Int) ≤ k ∧ k < (a : Int) + b) := by
  unfold bigP
  by_cases h1 : 1 < b
  · by_cases h2 : (a : Int) ≤ k
    · by_cases h3 : k - (a : Int) < b
      · exact .inr (.inr (.inr ⟨by simp [h1, h2, h3], by simp [h1], h2, by omega⟩))
      · exact .inr (.inr (.inl ⟨by simp [h3], by simp [h1], h2, by omega⟩))
    · exact .inr (.inl ⟨by simp [h2], by simp [h1], by omega⟩)
  · exact .inl ⟨by simp [h1], by simp [h1]⟩
section
variable {w w' : World} {base p m o K : Nat} {v : Value} {S : Sp}
set_option maxHeartbeats 4000000 in
set_option maxRecDepth 100000 in
theorem rbig_any (h : RSp w base p v m o S) (hall : ∀ x ∈ S.parts, x.1 ≤ 1024 ∧ x.2 ≤ 1024) (hlen : S.parts.length ≤ 5000) (k : Int) : Calls Tryd.prog 22 #[.pointer (some ⟨p, 0, none⟩), .int .i64 k] w fun e w' => e = .returned (.bool (isBig S.parts k)) ∧ Below w.heap.size w w' := by
  obtain ⟨A, c, rfl, hc, hrd⟩ := h.row.rd
  have c2 := h.c2
  have hpl := h.lt
  have HRD := Lib.hid hrd
  obtain ⟨P, pr, fl⟩ := S
  simp only at HRD c2 hc hlen hall ⊢
  obtain ⟨n, hn⟩ : ∃ n, n = P.length := ⟨_, rfl⟩
  rw [← hn] at hc hlen c2
  have HN := Lib.hid hn
  have HALL := Lib.hid hall
  obtain ⟨R, hR⟩ : ∃ R, R = isBig P k := ⟨_, rfl⟩
  rw [← hR]
  have HRR := Lib.hid hR
  clear hrd h hn hall hR
  go_enter Tryd.func22, Tryd.ntmps22
  go_wp2_with fail
  go_loopw [5] (fun x wr => ∃ j : Nat, j ≤ n ∧ x = .int .i64 j ∧ Hid (Below w.heap.size w wr) ∧ Hid (∀ (i : Nat) (y : Nat × Nat), i < j → P[i]? = some y → bigP k y = false)) (fun x _ => n - (intOf x).toNat)
  case atStart => exact ⟨0, Nat.zero_le _, rfl, Lib.hid (Below.refl _ _), Lib.hid (fun i _ hi => absurd hi (by omega))⟩
  case round =>
    obtain ⟨j, hj, rfl, HBW, HA⟩ := hrel
    have d2 := (HBW.out.cell (p := ⟨p, 2, none⟩) hpl).trans c2
    by_cases hlt : j < n
    · obtain ⟨x, hx⟩ : ∃ x, P[j]? = some x := ⟨P[j]'(by have := HN.out; omega), by simp⟩
      obtain ⟨g, rfl, hg1, hg2, k0, k1, k2⟩ := HRD.out j x hx
      have r0 := bcellB HBW.out k0
      have r1 := bcellB HBW.out k1
      have r2 := bcellB HBW.out k2
      have hxx := HALL.out x (List.mem_of_getElem? hx)
      have HXX := Lib.hid hx
      obtain ⟨a, b⟩ := x
      have HB2 := Lib.hid (HBW.out.alloc HBW.out.size (.cells #[.int .i64 a, .int .i64 b, .bool (decide (1 < b))] 81))
      simp only at hxx r2
      have v1 := wrapOk ((a : Int) + (b : Int)) (by omega) (by omega)
      clear hx k0 k1 k2 hg1 hg2
      rcases bigP_cases k a b with ⟨hq, h1⟩ | ⟨hq, h1, h2⟩ | ⟨hq, h1, h2, h3⟩ | ⟨hq, h1, h2, h3⟩
      case inr.inr.inr =>
        have HQ := Lib.hid (HRR.out.trans (big_hit (List.mem_of_getElem? HXX.out) hq))
        rw [h1] at r2 HB2
        clear hq h1
        go_wp2
        go_ret
        exact ⟨by rw [HQ.out]; rfl, HB2.out⟩
      all_goals
        have HNX := Lib.hid (show ∀ (i : Nat) (y : Nat × Nat), i < j + 1 → P[i]? = some y → bigP k y = false from fun i y hi hy => by
          by_cases e : i = j
          · subst e
            rw [HXX.out] at hy
            injection hy with hy
            rw [← hy]
            exact hq
          · exact HA.out i y (by omega) hy)
        rw [h1] at r2 HB2
        clear hq h1
        go_wp2
        go_roundw
        case rel => exact ⟨j + 1, by omega, by go_num, HB2, HNX⟩
        case measure => simp [intOf]; omega
    · obtain rfl : j = n := by omega
      have HQ := Lib.hid (HRR.out.trans (big_miss fun i y hy => HA.out i y (by have := (List.getElem?_eq_some_iff.1 hy).1; have := HN.out; omega) hy))
      go_wp2
      go_ret
      exact ⟨by rw [HQ.out]; rfl, HBW.out⟩
end
end Go.Proofs.YteencfldehcbbaaDoor
