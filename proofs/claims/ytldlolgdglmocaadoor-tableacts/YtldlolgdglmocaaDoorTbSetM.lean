/- What Get tells behind Set and Drop: plain data. -/
import Derived.Test.YtldlolgdglmocaaDoorTbAlive
namespace Go.Proofs.YtldlolgdglmocaaDoor

/-- The entry that Get tells. -/
def getE (S : Nat → Sl) (N : Nat) (i g : Int) : En := if freshB S N i g = true then (S i.toNat).e else En.zero
theorem getVal_eq (S : Nat → Sl) (N : Nat) (i g : Int) : getVal S N i g = .tuple #[(getE S N i g).v, .int .i64 (staleE (freshB S N i g))] := by
  unfold getVal getE staleE
  cases freshB S N i g <;> rfl
theorem freshB_not {S : Nat → Sl} {N : Nat} {i g : Int} (h : ∀ k : Nat, i = k → k < N → (S k).used = true → g ≠ (S k).gen) : freshB S N i g = false := by
  cases e : freshB S N i g
  · rfl
  · obtain ⟨k, h1, h2, h3, h4⟩ := freshB_iff.1 e
    exact absurd h4 (h k h1 h2 h3)
theorem freshB_congr {S T : Nat → Sl} {N : Nat} {i g : Int} (h : ∀ k : Nat, i = k → (S k).used = (T k).used ∧ (S k).gen = (T k).gen) : freshB S N i g = freshB T N i g := by
  rw [Bool.eq_iff_iff, freshB_iff, freshB_iff]
  constructor
  · rintro ⟨k, rfl, h2, h3, h4⟩
    obtain ⟨a, b⟩ := h k rfl
    exact ⟨k, rfl, h2, by rw [← a]; exact h3, by rw [← b]; exact h4⟩
  · rintro ⟨k, rfl, h2, h3, h4⟩
    obtain ⟨a, b⟩ := h k rfl
    exact ⟨k, rfl, h2, by rw [a]; exact h3, by rw [b]; exact h4⟩
theorem fresh_set (S : Nat → Sl) (N : Nat) (i g : Int) (e : En) (j k : Int) : freshB (setSt S N i g e) N j k = freshB S N j k := by
  unfold setSt
  split
  · refine freshB_congr fun q _ => ?_
    unfold setS
    by_cases h : q = i.toNat
    · subst h; rw [upd_same]; exact ⟨rfl, rfl⟩
    · rw [upd_other _ _ h]; exact ⟨rfl, rfl⟩
  · rfl
theorem get_set_same (S : Nat → Sl) (N : Nat) (i g : Int) (e : En) (h : freshB S N i g = true) : getE (setSt S N i g e) N i g = e := by
  unfold getE
  rw [fresh_set, if_pos h]
  unfold setSt setS
  rw [if_pos h, upd_same]
theorem get_set_other (S : Nat → Sl) (N : Nat) (i g : Int) (e : En) (j k : Int) (h : ¬ (j = i ∧ k = g)) : getE (setSt S N i g e) N j k = getE S N j k := by
  unfold getE
  rw [fresh_set]
  by_cases hf : freshB S N j k = true
  · rw [if_pos hf, if_pos hf]
    unfold setSt
    by_cases hg : freshB S N i g = true
    · rw [if_pos hg]
      unfold setS
      obtain ⟨a, rfl, _, _, rfl⟩ := freshB_iff.1 hf
      obtain ⟨b, rfl, _, _, rfl⟩ := freshB_iff.1 hg
      rw [upd_other]
      intro e
      simp at e
      subst e
      exact h ⟨rfl, rfl⟩
    · rw [if_neg hg]
  · rw [if_neg hf, if_neg hf]
theorem fresh_drop (S : Nat → Sl) (N : Nat) (i g : Int) : freshB (dropSt S N i g) N i g = false := by
  unfold dropSt
  by_cases hg : freshB S N i g = true
  · rw [if_pos hg]
    refine freshB_not fun k hk _ hu => ?_
    subst hk
    unfold dropS at hu
    rw [Int.toNat_natCast, upd_same] at hu
    cases hu
  · rw [if_neg hg]
    simpa using hg
theorem get_drop_other (S : Nat → Sl) (N : Nat) (i g : Int) (j k : Int) (h : ¬ (j = i ∧ k = g)) : getE (dropSt S N i g) N j k = getE S N j k := by
  unfold dropSt
  by_cases hg : freshB S N i g = true
  · rw [if_pos hg]
    obtain ⟨b, rfl, b1, b2, rfl⟩ := freshB_iff.1 hg
    rw [Int.toNat_natCast]
    by_cases e : j = (b : Int)
    · subst e
      unfold getE
      rw [freshB_not (S := dropS S b) (fun q hq _ hu => by
        obtain rfl : q = b := by omega
        unfold dropS at hu
        rw [upd_same] at hu
        cases hu), freshB_not (S := S) (fun q hq _ hu e => by
        obtain rfl : q = b := by omega
        exact h ⟨rfl, e⟩)]
      rfl
    · unfold getE
      have hne : ∀ q : Nat, j = q → q ≠ b := fun q hq e2 => e (by rw [hq, e2])
      have hq : ∀ q : Nat, j = q → dropS S b q = S q := fun q hq => by unfold dropS; exact upd_other _ _ (hne q hq)
      rw [freshB_congr (S := dropS S b) (T := S) (fun q hj => by rw [hq q hj]; exact ⟨rfl, rfl⟩)]
      by_cases hf : freshB S N j k = true
      · rw [if_pos hf, if_pos hf]
        obtain ⟨a, ha, _⟩ := freshB_iff.1 hf
        subst ha
        rw [Int.toNat_natCast, hq a rfl]
      · rw [if_neg hf, if_neg hf]
  · rw [if_neg hg]
end Go.Proofs.YtldlolgdglmocaaDoor
