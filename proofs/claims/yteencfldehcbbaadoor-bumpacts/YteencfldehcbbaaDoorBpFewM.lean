/- Plain mathematics of BumpFew. -/
import Derived.Test.YteencfldehcbbaaDoorBpAlive
import Derived.Test.YteencfldehcbbaaDoorBpStM
namespace Go.Proofs.YteencfldehcbbaaDoor
open Go.RowKit Go.Sort BP
set_option linter.unusedVariables false

theorem chunks_ones : ∀ {P : List (Nat × Nat)}, (∀ x ∈ P, x.2 = 1) → (chunks P).length = P.length
  | [], _ => rfl
  | x :: P, h => by
    rw [chunks_cons, List.length_append, cs_len, h x (by simp), chunks_ones fun y hy => h y (by simp [hy]), List.length_cons]
    omega
structure Few (k : Nat) (D : Dt) (sum i : Nat) : Prop where
  good : Good2 200 8 1 2 D
  ones : ∀ x ∈ D.S.parts, x.2 = 1
  emp : D.S.parts = [] → D.S.pr = (0, 0)
  bnd : D.S.parts ≠ [] → D.S.pr ≠ (0, 0) ∧ (D.S.parts.length - 1) * (9 - k) + D.S.fl ≤ sum
  fr : frees D.own 200 + D.S.parts.length = 200
  cnt : D.S.parts.length ≤ i
theorem few_start (k : Nat) : Few k d0 0 0 := ⟨d0_good _ _, fun x h => (by cases h), fun _ => rfl, fun h => absurd rfl h, (by decide +kernel), Nat.le_refl _⟩
theorem few_step {k n i sum : Nat} {D : Dt} (h : Few k D sum i) (h1 : 1 ≤ n) (h2 : n ≤ k) (h3 : k ≤ 8) (hi : i < 200) : alE 200 8 1 D (n : Nat) = 0 ∧ Few k (alD 200 8 1 D (n : Nat)) (sum + n) (i + 1) := by
  have hg := alloc_good (by decide) h.good (n : Nat)
  unfold alE
  by_cases hr : n ≤ room 8 D.S
  · have e : alD 200 8 1 D (n : Nat) = ⟨D.own, D.wd, ⟨D.S.parts, D.S.pr, D.S.fl + n⟩, D.T⟩ := by
      unfold alD
      rw [if_neg (by omega), Int.toNat_natCast, if_pos hr]
    rw [e] at hg ⊢
    rw [if_neg (by omega), Int.toNat_natCast, if_pos hr]
    have hp : D.S.pr ≠ (0, 0) := fun hp => by unfold room at hr; rw [if_pos hp] at hr; omega
    have hne : D.S.parts ≠ [] := fun he => hp (h.emp he)
    have := h.bnd hne
    have := h.cnt
    refine ⟨rfl, hg, h.ones, fun he => absurd he hne, fun _ => ⟨hp, ?_⟩, h.fr, ?_⟩
    · show (D.S.parts.length - 1) * (9 - k) + (D.S.fl + n) ≤ sum + n
      omega
    · show D.S.parts.length ≤ i + 1
      omega
  · have hone : need 8 n = 1 := (need_one (by decide) h1).2 (by omega)
    have hc := h.cnt
    have hf := h.fr
    obtain ⟨p, hp1, hp2, _, hE, hP, hO, _⟩ := tk1_free (own := D.own) (C := 200) (y := 1) (by decide) (by omega)
    have hft := frees_tk1 D.own 200 p 1 (by decide) hp1 hp2
    have hE' : tkE D.own 200 ((1 : Nat) : Int) ((1 : Nat) : Int) = 0 := hE
    have hP' : tkP D.own 200 ((1 : Nat) : Int) ((1 : Nat) : Int) = p := hP
    have hO' : tkOwnA D.own 200 ((1 : Nat) : Int) ((1 : Nat) : Int) = tkOwn D.own p 1 1 := hO
    have e : alD 200 8 1 D (n : Nat) = ⟨tkOwn D.own p 1 1, tkWdA D.own D.wd 200 8 ((1 : Nat) : Int) ((1 : Nat) : Int), ⟨D.S.parts ++ [(p, 1)], (p, 1), n⟩, D.T⟩ := by
      unfold alD
      rw [if_neg (by omega), Int.toNat_natCast, if_neg hr, hone, if_pos hE', if_pos rfl, if_pos rfl, hP', hO']
    rw [e] at hg ⊢
    rw [if_neg (by omega), Int.toNat_natCast, if_neg hr, hone]
    refine ⟨hE', hg, fun x hx => ?_, fun he => (by simp at he), fun _ => ⟨by simp, ?_⟩, ?_, ?_⟩
    · rcases List.mem_append.1 hx with hx | hx
      · exact h.ones x hx
      · rw [List.mem_singleton.1 hx]
    · show ((D.S.parts ++ [(p, 1)]).length - 1) * (9 - k) + n ≤ sum + n
      rw [List.length_append, List.length_singleton]
      by_cases he : D.S.parts = []
      · rw [he]; simp
      · obtain ⟨q1, q2⟩ := h.bnd he
        have hfl : 9 - k ≤ D.S.fl := by
          unfold room at hr
          rw [if_neg q1] at hr
          omega
        obtain ⟨c, hc'⟩ : ∃ c, D.S.parts.length = c + 1 := ⟨D.S.parts.length - 1, by have := List.length_pos_iff.2 he; omega⟩
        rw [hc'] at q2 ⊢
        simp only [Nat.add_sub_cancel] at q2 ⊢
        rw [Nat.add_mul, Nat.one_mul]
        omega
    · show frees (tkOwn D.own p 1 1) 200 + (D.S.parts ++ [(p, 1)]).length = 200
      rw [List.length_append, List.length_singleton]
      omega
    · show (D.S.parts ++ [(p, 1)]).length ≤ i + 1
      rw [List.length_append, List.length_singleton]
      omega
theorem few_end {k sum i : Nat} {D : Dt} (h : Few k D sum i) (h3 : k ≤ 8) : (chunks D.S.parts).length ≤ sum / (9 - k) + 1 ∧ frees D.own 200 + (chunks D.S.parts).length = 200 := by
  rw [chunks_ones h.ones]
  refine ⟨?_, h.fr⟩
  by_cases he : D.S.parts = []
  · rw [he]; simp
  · have := (h.bnd he).2
    have h2 : D.S.parts.length - 1 ≤ sum / (9 - k) := (Nat.le_div_iff_mul_le (by omega)).2 (by omega)
    omega
theorem sizeK (n : Int) (K : Nat) (h1 : 1 ≤ K) (h2 : K ≤ 1000) : ∃ N : Nat, 1 ≤ N ∧ N ≤ K ∧ 1 + (if n < 0 then 0 else n) % (K : Int) = (N : Int) := by
  have e1 := Int.emod_nonneg (if n < 0 then 0 else n) (show (K : Int) ≠ 0 by omega)
  have e2 := Int.emod_lt_of_pos (if n < 0 then 0 else n) (show (0 : Int) < (K : Int) by omega)
  exact ⟨(1 + (if n < 0 then 0 else n) % (K : Int)).toNat, by omega, by omega, by omega⟩
end Go.Proofs.YteencfldehcbbaaDoor
