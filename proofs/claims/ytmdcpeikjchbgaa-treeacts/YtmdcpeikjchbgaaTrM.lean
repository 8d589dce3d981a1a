/- Plain mathematics of trees: parents by number; live ones, kids, what is under one; what Add, Free, Merge make of them. -/
import Derived.WalkKit
namespace Go.Proofs.Ytmdcpeikjchbgaa
open Go.RowKit

namespace TR
set_option linter.unusedVariables false
/-- By numbers, each live one's parent. -/
abbrev F := Nat → Option Nat
structure Good (n : Nat) (f : F) : Prop where
  zero : f 0 = none
  le : ∀ i p, f i = some p → 1 ≤ i ∧ i ≤ n ∧ p < i
  par : ∀ i p, f i = some p → p = 0 ∨ ∃ q, f p = some q
def live (f : F) (i : Nat) : Bool := (f i).isSome
def all (n : Nat) (f : F) : List Nat := (List.range (n + 1)).filter (live f)
def kids (n : Nat) (f : F) (x : Nat) : List Nat := (List.range (n + 1)).filter fun i => decide (f i = some x)
/-- Is one it, or below it? (k: more steps than there are.) -/
def belowK (f : F) (x : Nat) : Nat → Nat → Bool
  | 0, _ => false
  | k + 1, i => if i = 0 then false else if i = x then true else match f i with
    | none => false
    | some p => belowK f x k p
def below (f : F) (x i : Nat) : Bool := belowK f x (i + 1) i
def under (n : Nat) (f : F) (x : Nat) : List Nat := (List.range (n + 1)).filter fun i => live f i && below f x i
def addF (n : Nat) (f : F) (p : Nat) : F := fun i => if i = n + 1 then some p else f i
def freeF (n : Nat) (f : F) (x : Nat) : F := fun i => if i ∈ under n f x then none else f i
def mergeF (f : F) (x p : Nat) : F := fun i => if i = x then none else if f i = some x then some p else f i

theorem mem_all {n i : Nat} {f : F} : i ∈ all n f ↔ i ≤ n ∧ live f i = true := by
  unfold all
  rw [List.mem_filter, List.mem_range, Nat.lt_succ_iff]
theorem mem_kids {n i x : Nat} {f : F} : i ∈ kids n f x ↔ i ≤ n ∧ f i = some x := by
  unfold kids
  rw [List.mem_filter, List.mem_range, Nat.lt_succ_iff]
  simp
theorem mem_under {n i x : Nat} {f : F} : i ∈ under n f x ↔ i ≤ n ∧ live f i = true ∧ below f x i = true := by
  unfold under
  rw [List.mem_filter, List.mem_range, Nat.lt_succ_iff]
  simp
theorem live_iff {f : F} {i : Nat} : live f i = true ↔ ∃ p, f i = some p := by
  unfold live
  cases h : f i <;> simp
theorem live_not {f : F} {i : Nat} : live f i = false ↔ f i = none := by
  unfold live
  cases h : f i <;> simp

section
variable {n x i p : Nat} {f : F}
/-- More steps than the number are enough. -/
theorem belowK_more (h : Good n f) (x : Nat) : ∀ (k : Nat) (i : Nat), i < k → belowK f x k i = belowK f x (i + 1) i := by
  intro k
  induction k using Nat.strongRecOn with
  | ind k ih =>
    intro i hi
    cases k with
    | zero => omega
    | succ k =>
      unfold belowK
      by_cases h0 : i = 0
      · rw [if_pos h0, if_pos h0]
      · rw [if_neg h0, if_neg h0]
        by_cases hx : i = x
        · rw [if_pos hx, if_pos hx]
        · rw [if_neg hx, if_neg hx]
          cases e : f i with
          | none => rfl
          | some p =>
            have hp := (h.le i p e).2.2
            show belowK f x k p = belowK f x i p
            rw [ih k (by omega) p (by omega)]
            by_cases hk : i = k + 1
            · omega
            · rcases Nat.lt_or_ge i (k + 1) with h1 | h1
              · rw [ih i (by omega) p hp]
              · omega
theorem below_zero (f : F) (x : Nat) : below f x 0 = false := by simp [below, belowK]
theorem below_self (h : i ≠ 0) : below f i i = true := by simp [below, belowK, h]
theorem below_step (h : Good n f) (hf : f i = some p) (hx : i ≠ x) : below f x i = below f x p := by
  have hl := h.le i p hf
  unfold below
  rw [belowK, if_neg (by omega), if_neg hx, hf]
  show belowK f x i p = belowK f x (p + 1) p
  exact belowK_more h x i p hl.2.2
theorem below_dead (hf : f i = none) (hx : i ≠ x) : below f x i = false := by
  unfold below
  rw [belowK]
  by_cases h0 : i = 0
  · rw [if_pos h0]
  · rw [if_neg h0, if_neg hx, hf]
theorem below_le (h : Good n f) : ∀ i, below f x i = true → x ≤ i := by
  intro i
  induction i using Nat.strongRecOn with
  | ind i ih =>
    intro hb
    by_cases hx : i = x
    · omega
    · cases e : f i with
      | none => rw [below_dead e hx] at hb; cases hb
      | some p =>
        rw [below_step h e hx] at hb
        have := ih p (h.le i p e).2.2 hb
        have := (h.le i p e).2.2
        omega
/-- Just one kid has it. -/
theorem below_kids (h : Good n f) (hx : x ≠ 0) : ∀ i, (if below f x i = true then 1 else 0) = (if i = x then 1 else 0) + ((kids n f x).filter fun y => below f y i).length := by
  intro i
  induction i using Nat.strongRecOn with
  | ind i ih =>
    have hkl : ∀ y ∈ kids n f x, x < y ∧ f y = some x := fun y hy => by
      have := (mem_kids.1 hy).2
      exact ⟨(h.le y x this).2.2, this⟩
    by_cases hix : i = x
    · subst hix
      rw [below_self hx, if_pos rfl, if_pos rfl, List.filter_eq_nil_iff.2 fun y hy hb => by
        have := below_le h i hb
        have := (hkl y hy).1
        omega]
      rfl
    · rw [if_neg hix]
      cases e : f i with
      | none =>
        rw [below_dead e hix, List.filter_eq_nil_iff.2 fun y hy hb => by
          by_cases hy2 : i = y
          · have := (hkl y hy).2
            rw [← hy2, e] at this
            cases this
          · rw [below_dead e hy2] at hb
            cases hb]
        rfl
      | some p =>
        have hp := h.le i p e
        rw [below_step h e hix]
        by_cases hpx : p = x
        · subst hpx
          rw [below_self hx, if_pos rfl, Nat.zero_add]
          have hm : i ∈ kids n f p := mem_kids.2 ⟨hp.2.1, e⟩
          have : ((kids n f p).filter fun y => below f y i) = ((kids n f p).filter fun y => decide (y = i)) := List.filter_congr fun y hy => by
            by_cases hy2 : i = y
            · subst hy2
              rw [below_self (by omega)]
              simp
            · rw [below_step h e hy2]
              have hlt := (hkl y hy).1
              have : below f y p = false := by
                cases hb : below f y p
                · rfl
                · have := below_le h p hb; omega
              rw [this]
              simp
              omega
          rw [this]
          have hnd : (kids n f p).Nodup := (List.filter_sublist).nodup List.nodup_range
          have e2 : ((kids n f p).filter fun y => decide (y = i)) = [i] := by
            have : ∀ l : List Nat, l.Nodup → i ∈ l → (l.filter fun y => decide (y = i)) = [i] := by
              intro l
              induction l with
              | nil => intro _ h; cases h
              | cons a l ihl =>
                intro hn hm
                rw [List.nodup_cons] at hn
                rw [List.filter_cons]
                by_cases ha : a = i
                · rw [if_pos (by simp [ha]), ha, List.filter_eq_nil_iff.2 fun y hy => by
                    simp
                    intro e
                    exact hn.1 (by rw [ha, ← e]; exact hy)]
                · rw [if_neg (by simp [ha])]
                  exact ihl hn.2 (by rcases List.mem_cons.1 hm with e | e; exact absurd e.symm ha; exact e)
            exact this _ hnd hm
          rw [e2]
          rfl
        · have hi2 := ih p hp.2.2
          rw [if_neg hpx] at hi2
          rw [hi2]
          congr 2
          refine List.filter_congr fun y hy => ?_
          have hy2 : i ≠ y := fun e3 => by
            have := (hkl y hy).2
            rw [← e3, e] at this
            injection this with this
            exact hpx this
          rw [below_step h e hy2]
theorem sum_swap (l m : List Nat) (b : Nat → Nat → Bool) : (l.map fun i => (m.filter fun y => b y i).length).sum = (m.map fun y => (l.filter fun i => b y i).length).sum := by
  induction m with
  | nil => induction l with
    | nil => rfl
    | cons a l ih => simpa using ih
  | cons a m ih =>
    rw [List.map_cons, List.sum_cons, ← ih]
    clear ih
    induction l with
    | nil => rfl
    | cons c l ih2 =>
      rw [List.map_cons, List.sum_cons, ih2, List.map_cons, List.sum_cons, List.filter_cons, List.filter_cons]
      cases hb : b a c <;> simp <;> omega
theorem len_sum (l : List Nat) (b : Nat → Bool) : (l.filter b).length = (l.map fun i => if b i = true then 1 else 0).sum := by
  induction l with
  | nil => rfl
  | cons a l ih =>
    rw [List.filter_cons, List.map_cons, List.sum_cons, ← ih]
    cases hb : b a <;> simp <;> omega
/-- What is under one is it, and what is under its kids. -/
theorem under_len (h : Good n f) (hl : live f x = true) : (under n f x).length = 1 + ((kids n f x).map fun y => (under n f y).length).sum := by
  obtain ⟨p, hp⟩ := live_iff.1 hl
  have hx := h.le x p hp
  have key : ∀ y, under n f y = ((all n f).filter fun i => below f y i) := fun y => by
    unfold under all
    rw [List.filter_filter]
    exact List.filter_congr fun i _ => by rw [Bool.and_comm]
  rw [key x, len_sum]
  have e1 : ((all n f).map fun i => if below f x i = true then 1 else 0) = ((all n f).map fun i => (if i = x then 1 else 0) + ((kids n f x).filter fun y => below f y i).length) := List.map_congr_left fun i _ => below_kids h (by omega) i
  rw [e1]
  have e2 : ∀ (l : List Nat) (g1 g2 : Nat → Nat), (l.map fun i => g1 i + g2 i).sum = (l.map g1).sum + (l.map g2).sum := by
    intro l g1 g2
    induction l with
    | nil => rfl
    | cons a l ih => rw [List.map_cons, List.sum_cons, List.map_cons, List.sum_cons, List.map_cons, List.sum_cons, ih]; omega
  rw [e2, sum_swap]
  congr 1
  · have hm : x ∈ all n f := mem_all.2 ⟨hx.2.1, hl⟩
    have hnd : (all n f).Nodup := (List.filter_sublist).nodup List.nodup_range
    have : ∀ l : List Nat, l.Nodup → x ∈ l → (l.map fun i => if i = x then 1 else 0).sum = 1 := by
      intro l
      induction l with
      | nil => intro _ h; cases h
      | cons a l ihl =>
        intro hn hm
        rw [List.nodup_cons] at hn
        rw [List.map_cons, List.sum_cons]
        by_cases ha : a = x
        · have h0 : (l.map fun i => if i = x then 1 else 0) = (l.map fun _ => 0) := List.map_congr_left fun i hi => if_neg fun e => hn.1 (by rw [ha, ← e]; exact hi)
          have hz : ∀ l : List Nat, (l.map fun _ => 0).sum = 0 := fun l => by
            induction l with
            | nil => rfl
            | cons a l ih => rw [List.map_cons, List.sum_cons, ih]
          rw [if_pos ha, h0, hz]
        · rw [if_neg ha, ihl hn.2 (by rcases List.mem_cons.1 hm with e | e; exact absurd e.symm ha; exact e)]
    exact this _ hnd hm
  · congr 1
    exact List.map_congr_left fun y _ => by rw [key y]
/-! What Add, Free, Merge leave. -/
theorem add_good (h : Good n f) {p : Nat} (hp : p = 0 ∨ live f p = true) : Good (n + 1) (addF n f p) := by
  have hpn : p ≤ n := by
    rcases hp with e | e
    · omega
    · obtain ⟨q, hq⟩ := live_iff.1 e; exact (h.le p q hq).2.1
  refine ⟨by unfold addF; rw [if_neg (by omega)]; exact h.zero, fun i q hi => ?_, fun i q hi => ?_⟩
  · unfold addF at hi
    by_cases e : i = n + 1
    · rw [if_pos e] at hi
      injection hi with hi
      omega
    · rw [if_neg e] at hi
      have := h.le i q hi
      omega
  · unfold addF at hi ⊢
    by_cases e : i = n + 1
    · rw [if_pos e] at hi
      injection hi with hi
      subst hi
      rcases hp with e2 | e2
      · exact .inl e2
      · obtain ⟨r, hr⟩ := live_iff.1 e2
        exact .inr ⟨r, by rw [if_neg (by omega)]; exact hr⟩
    · rw [if_neg e] at hi
      have hl := h.le i q hi
      rcases h.par i q hi with e2 | ⟨r, hr⟩
      · exact .inl e2
      · exact .inr ⟨r, by rw [if_neg (by omega)]; exact hr⟩
theorem free_of {i : Nat} (hi : freeF n f x i = some p) : f i = some p ∧ i ∉ under n f x := by
  unfold freeF at hi
  by_cases e : i ∈ under n f x
  · rw [if_pos e] at hi; cases hi
  · rw [if_neg e] at hi; exact ⟨hi, e⟩
theorem free_good (h : Good n f) (x : Nat) : Good n (freeF n f x) := by
  refine ⟨?_, fun i q hi => h.le i q (free_of hi).1, fun i q hi => ?_⟩
  · unfold freeF
    split
    · rfl
    · exact h.zero
  · obtain ⟨h1, h2⟩ := free_of hi
    have hl := h.le i q h1
    rcases h.par i q h1 with e | ⟨r, hr⟩
    · exact .inl e
    · refine .inr ⟨r, ?_⟩
      unfold freeF
      rw [if_neg fun hq => h2 ?_]
      · exact hr
      · obtain ⟨_, _, hb⟩ := mem_under.1 hq
        refine mem_under.2 ⟨hl.2.1, live_iff.2 ⟨q, h1⟩, ?_⟩
        by_cases e : i = x
        · rw [e]; exact below_self (by omega)
        · rw [below_step h h1 e]; exact hb
theorem merge_at {i : Nat} (hp : f x = some p) : mergeF f x p i = if i = x then none else if f i = some x then some p else f i := rfl
theorem merge_good (h : Good n f) (hp : f x = some p) : Good n (mergeF f x p) := by
  have hx := h.le x p hp
  refine ⟨?_, fun i q hi => ?_, fun i q hi => ?_⟩
  · unfold mergeF
    rw [if_neg (by omega), h.zero, if_neg (by simp)]
  · unfold mergeF at hi
    by_cases e : i = x
    · rw [if_pos e] at hi; cases hi
    · rw [if_neg e] at hi
      by_cases e2 : f i = some x
      · rw [if_pos e2] at hi
        injection hi with hi
        have := h.le i x e2
        omega
      · rw [if_neg e2] at hi
        exact h.le i q hi
  · have key : ∀ q, q ≠ x → (q = 0 ∨ ∃ r, f q = some r) → q = 0 ∨ ∃ r, mergeF f x p q = some r := fun q hq hr => by
      rcases hr with e | ⟨r, hr⟩
      · exact .inl e
      · refine .inr ?_
        unfold mergeF
        rw [if_neg hq]
        by_cases e2 : f q = some x
        · exact ⟨p, by rw [if_pos e2]⟩
        · exact ⟨r, by rw [if_neg e2]; exact hr⟩
    unfold mergeF at hi
    by_cases e : i = x
    · rw [if_pos e] at hi; cases hi
    · rw [if_neg e] at hi
      by_cases e2 : f i = some x
      · rw [if_pos e2] at hi
        injection hi with hi
        subst hi
        exact key p (by omega) (h.par x p hp)
      · rw [if_neg e2] at hi
        exact key q (fun e3 => e2 (by rw [hi, e3])) (h.par i q hi)
theorem merge_live (hp : f x = some p) (i : Nat) : live (mergeF f x p) i = (decide (i ≠ x) && live f i) := by
  unfold live mergeF
  by_cases e : i = x
  · simp [e]
  · rw [if_neg e]
    by_cases e2 : f i = some x
    · simp [e, e2]
    · simp [e, e2]
/-- Under the parent all are as before, but for it. -/
theorem merge_below (h : Good n f) (hp : f x = some p) (h0 : p ≠ 0) : ∀ i, i ≠ x → below (mergeF f x p) p i = below f p i := by
  have hx := h.le x p hp
  have hg := merge_good h hp
  intro i
  induction i using Nat.strongRecOn with
  | ind i ih =>
    intro hi
    by_cases hip : i = p
    · subst hip
      rw [below_self h0, below_self h0]
    · cases e : f i with
      | none =>
        rw [below_dead e hip, below_dead (by unfold mergeF; rw [if_neg hi, e, if_neg (by simp)]) hip]
      | some q =>
        have hq := h.le i q e
        by_cases e2 : q = x
        · subst e2
          have hm : mergeF f q p i = some p := by unfold mergeF; rw [if_neg hi, if_pos e]
          rw [below_step hg hm hip, below_self h0, below_step h e hip, below_step h hp (by omega), below_self h0]
        · have hm : mergeF f x p i = some q := by unfold mergeF; rw [if_neg hi, e, if_neg (by simp [e2])]
          rw [below_step hg hm hip, below_step h e hip, ih q hq.2.2 e2]
theorem count_one (l : List Nat) (hn : l.Nodup) (b : Nat → Bool) (hx : x ∈ l) (hb : b x = true) : (l.filter b).length = (l.filter fun i => decide (i ≠ x) && b i).length + 1 := by
  induction l with
  | nil => cases hx
  | cons a l ih =>
    rw [List.nodup_cons] at hn
    rw [List.filter_cons, List.filter_cons]
    by_cases ha : a = x
    · subst ha
      rw [if_pos hb, if_neg (by simp), List.length_cons]
      congr 1
      congr 1
      exact List.filter_congr fun i hi => by
        have : i ≠ a := fun e => hn.1 (e ▸ hi)
        simp [this]
    · have hx2 : x ∈ l := by rcases List.mem_cons.1 hx with e | e; exact absurd e.symm ha; exact e
      have := ih hn.2 hx2
      by_cases hba : b a = true
      · rw [if_pos hba, if_pos (by simp [ha, hba]), List.length_cons, List.length_cons]
        omega
      · rw [if_neg hba, if_neg (by simp [hba])]
        omega
theorem merge_under (h : Good n f) (hp : f x = some p) (h0 : p ≠ 0) : (under n f p).length = (under n (mergeF f x p) p).length + 1 := by
  have hx := h.le x p hp
  have hb : below f p x = true := by rw [below_step h hp (by omega), below_self h0]
  unfold under
  rw [count_one _ List.nodup_range (fun i => live f i && below f p i) (x := x) (by rw [List.mem_range]; omega) (by rw [hb, live_iff.2 ⟨p, hp⟩]; rfl)]
  congr 2
  refine List.filter_congr fun i _ => ?_
  rw [merge_live hp]
  by_cases e : i = x
  · simp [e]
  · rw [merge_below h hp h0 i e]
    simp [e]
theorem merge_kids (h : Good n f) (hp : f x = some p) (h0 : p ≠ 0) : (kids n f p).length + (kids n f x).length = (kids n (mergeF f x p) p).length + 1 := by
  have hx := h.le x p hp
  unfold kids
  rw [count_one _ List.nodup_range (fun i => decide (f i = some p)) (x := x) (by rw [List.mem_range]; omega) (by simp [hp])]
  have : ∀ l : List Nat, (l.filter fun i => decide (i ≠ x) && decide (f i = some p)).length + (l.filter fun i => decide (f i = some x)).length = (l.filter fun i => decide (mergeF f x p i = some p)).length := by
    intro l
    induction l with
    | nil => rfl
    | cons a l ih =>
      have hpx : p ≠ x := by omega
      rw [List.filter_cons, List.filter_cons, List.filter_cons]
      by_cases ha : a = x
      · subst ha
        have e1 : mergeF f a p a = none := by unfold mergeF; rw [if_pos rfl]
        have e2 : f a ≠ some a := fun e => by have := (h.le a a e).2.2; omega
        simp [e1, e2]
        simpa using ih
      · by_cases e3 : f a = some x
        · have e1 : mergeF f x p a = some p := by unfold mergeF; rw [if_neg ha, if_pos e3]
          have e4 : ¬ x = p := fun e => hpx e.symm
          simp [e1, e3, ha, e4]
          simp at ih
          omega
        · have e1 : mergeF f x p a = f a := by unfold mergeF; rw [if_neg ha, if_neg e3]
          rw [e1]
          by_cases e4 : f a = some p
          · have e5 : ¬ p = x := hpx
            simp [e4, ha, e5]
            simp at ih
            omega
          · simp [e3, e4, ha]
            simpa using ih
  rw [← this]
  omega
/-- Each live one is under just one at the top. -/
theorem tops_one (h : Good n f) : ∀ i, live f i = true → ((kids n f 0).filter fun y => below f y i).length = 1 := by
  intro i
  induction i using Nat.strongRecOn with
  | ind i ih =>
    intro hl
    obtain ⟨p, e⟩ := live_iff.1 hl
    have hp := h.le i p e
    by_cases h0 : p = 0
    · subst h0
      have hm : i ∈ kids n f 0 := mem_kids.2 ⟨hp.2.1, e⟩
      have : ((kids n f 0).filter fun y => below f y i) = ((kids n f 0).filter fun y => decide (y = i)) := List.filter_congr fun y hy => by
        by_cases hy2 : i = y
        · subst hy2
          rw [below_self (by omega)]
          simp
        · rw [below_step h e hy2, below_zero]
          simp [Ne.symm hy2]
      rw [this]
      have hnd : (kids n f 0).Nodup := (List.filter_sublist).nodup List.nodup_range
      have hc := count_one (kids n f 0) hnd (fun y => decide (y = i)) hm (by simp)
      rw [hc, List.filter_eq_nil_iff.2 fun y _ => by simp]
      rfl
    · have hlp : live f p = true := by
        rcases h.par i p e with e2 | ⟨r, hr⟩
        · exact absurd e2 h0
        · exact live_iff.2 ⟨r, hr⟩
      rw [← ih p hp.2.2 hlp]
      congr 1
      refine List.filter_congr fun y hy => below_step h e fun e2 => ?_
      have := (mem_kids.1 hy).2
      rw [← e2, e] at this
      injection this with this
      exact h0 this
theorem tops_len (h : Good n f) : (all n f).length = ((kids n f 0).map fun y => (under n f y).length).sum := by
  have key : ∀ y, under n f y = ((all n f).filter fun i => below f y i) := fun y => by
    unfold under all
    rw [List.filter_filter]
    exact List.filter_congr fun i _ => by rw [Bool.and_comm]
  have e1 : ((kids n f 0).map fun y => (under n f y).length) = ((kids n f 0).map fun y => ((all n f).filter fun i => below f y i).length) := List.map_congr_left fun y _ => by rw [key y]
  rw [e1, ← sum_swap]
  have e2 : ((all n f).map fun i => ((kids n f 0).filter fun y => below f y i).length) = ((all n f).map fun _ => 1) := List.map_congr_left fun i hi => tops_one h i (mem_all.1 hi).2
  rw [e2]
  have : ∀ l : List Nat, (l.map fun _ => 1).sum = l.length := fun l => by
    induction l with
    | nil => rfl
    | cons a l ih => rw [List.map_cons, List.sum_cons, ih, List.length_cons]; omega
  rw [this]
theorem head_of : ∀ (l : List Nat), l.Pairwise (· < ·) → x ∈ l → (∀ y ∈ l, x ≤ y) → l[0]? = some x
  | [], _, h, _ => by cases h
  | a :: l, hp, hx, hle => by
    rcases List.mem_cons.1 hx with e | e
    · rw [e]; rfl
    · have h1 := (List.pairwise_cons.1 hp).1 x e
      have := hle a (by simp)
      omega
theorem under_head (h : Good n f) (hl : live f x = true) : (under n f x)[0]? = some x := by
  obtain ⟨p, hp⟩ := live_iff.1 hl
  have hx := h.le x p hp
  refine head_of _ (List.Pairwise.sublist List.filter_sublist List.pairwise_lt_range) (mem_under.2 ⟨hx.2.1, hl, below_self (by omega)⟩) fun y hy => below_le h y (mem_under.1 hy).2.2
theorem free_live (x i : Nat) (hi : i ≤ n) : live (freeF n f x) i = (live f i && !(live f i && below f x i)) := by
  unfold freeF live
  show (if i ∈ under n f x then none else f i).isSome = _
  by_cases e : i ∈ under n f x
  · rw [if_pos e]
    obtain ⟨_, h2, h3⟩ := mem_under.1 e
    unfold live at h2
    simp [h2, h3]
  · rw [if_neg e]
    cases h2 : (f i).isSome
    · simp
    · have : below f x i = false := by
        cases h3 : below f x i
        · rfl
        · exact absurd (mem_under.2 ⟨hi, h2, h3⟩) e
      simp [this]
theorem free_all (x : Nat) : (all n (freeF n f x)).length + (under n f x).length = (all n f).length := by
  have e1 : all n (freeF n f x) = (List.range (n + 1)).filter fun i => live f i && !(live f i && below f x i) := List.filter_congr fun i hi => free_live x i (by have := List.mem_range.1 hi; omega)
  rw [e1]
  unfold under all
  have : ∀ (l : List Nat) (a b : Nat → Bool), (l.filter fun i => a i && !(a i && b i)).length + (l.filter fun i => a i && b i).length = (l.filter a).length := by
    intro l a b
    induction l with
    | nil => rfl
    | cons c l ih =>
      rw [List.filter_cons, List.filter_cons, List.filter_cons]
      cases ha : a c <;> cases hb : b c <;> simp at ih ⊢ <;> omega
  exact this _ _ _
theorem merge_all (h : Good n f) (hp : f x = some p) : (all n f).length = (all n (mergeF f x p)).length + 1 := by
  have hx := h.le x p hp
  unfold all
  rw [count_one _ List.nodup_range (live f) (x := x) (by rw [List.mem_range]; omega) (live_iff.2 ⟨p, hp⟩)]
  congr 2
  exact List.filter_congr fun i _ => (merge_live hp i).symm
theorem add_live (f : F) (i : Nat) : live (addF n f p) i = (decide (i = n + 1) || live f i) := by
  unfold live addF
  by_cases e : i = n + 1
  · simp [e]
  · simp [e]
theorem add_all (h : Good n f) (p : Nat) : all (n + 1) (addF n f p) = all n f ++ [n + 1] := by
  unfold all
  rw [List.range_succ, List.filter_append]
  congr 1
  · exact List.filter_congr fun i hi => by
      have := List.mem_range.1 hi
      rw [add_live]
      have e : ¬ i = n + 1 := by omega
      simp [e]
  · simp [add_live]
end
end TR
end Go.Proofs.Ytmdcpeikjchbgaa
