/- Plain mathematics of trees, more of it: how kids and what is under one come out of all. -/
import Derived.Test.YtmdcpeikjchbgaaTrLeaf
namespace Go.Proofs.Ytmdcpeikjchbgaa
open Go.RowKit
namespace TR
theorem ext_lt {l1 l2 : List Nat} (h1 : l1.Pairwise (· < ·)) (h2 : l2.Pairwise (· < ·)) (h : ∀ x, x ∈ l1 ↔ x ∈ l2) : l1 = l2 :=
  List.Perm.eq_of_pairwise (le := fun a b => a < b) (fun a b _ _ h1 h2 => by omega) h1 h2 ((List.perm_ext_iff_of_nodup (h1.imp (fun h => by omega)) (h2.imp (fun h => by omega))).2 h)
theorem all_up (n : Nat) (f : F) : (all n f).Pairwise (· < ·) := List.Pairwise.sublist List.filter_sublist List.pairwise_lt_range
theorem kids_up (n : Nat) (f : F) (x : Nat) : (kids n f x).Pairwise (· < ·) := List.Pairwise.sublist List.filter_sublist List.pairwise_lt_range
theorem under_up (n : Nat) (f : F) (x : Nat) : (under n f x).Pairwise (· < ·) := List.Pairwise.sublist List.filter_sublist List.pairwise_lt_range
theorem all_len (n : Nat) (f : F) : (all n f).length ≤ n + 1 := by
  have := List.length_filter_le (live f) (List.range (n + 1))
  rw [List.length_range] at this
  exact this
theorem kids_len (n : Nat) (f : F) (x : Nat) : (kids n f x).length ≤ n + 1 := by
  unfold kids
  refine Nat.le_trans (List.length_filter_le _ _) ?_
  simp
theorem under_len_le (n : Nat) (f : F) (x : Nat) : (under n f x).length ≤ n + 1 := by
  unfold under
  refine Nat.le_trans (List.length_filter_le _ _) ?_
  simp
theorem all_at {n : Nat} {f : F} {k : Nat} (h : k < (all n f).length) : ∃ p, f (all n f)[k] = some p := live_iff.1 (mem_all.1 (List.getElem_mem h)).2
theorem kids_all (n : Nat) (f : F) (x : Nat) : kids n f x = (all n f).filter fun i => decide (f i = some x) := by
  refine ext_lt (kids_up n f x) (List.Pairwise.sublist List.filter_sublist (all_up n f)) fun i => ?_
  rw [mem_kids, List.mem_filter, mem_all, live_iff, decide_eq_true_iff]
  constructor
  · rintro ⟨h1, h2⟩
    exact ⟨⟨h1, x, h2⟩, h2⟩
  · rintro ⟨⟨h1, _⟩, h2⟩
    exact ⟨h1, h2⟩
theorem filter_take {l : List Nat} {k : Nat} (q : Nat → Bool) (h : k < l.length) : (l.take (k + 1)).filter q = (l.take k).filter q ++ if q l[k] = true then [l[k]] else [] := by
  rw [List.take_succ_eq_append_getElem h, List.filter_append, List.filter_cons, List.filter_nil]
theorem filter_take_yes {l : List Nat} {k : Nat} {q : Nat → Bool} (h : k < l.length) (hq : q l[k] = true) : (l.take (k + 1)).filter q = (l.take k).filter q ++ [l[k]] := by rw [filter_take q h, if_pos hq]
theorem filter_take_no {l : List Nat} {k : Nat} {q : Nat → Bool} (h : k < l.length) (hq : q l[k] = false) : (l.take (k + 1)).filter q = (l.take k).filter q := by rw [filter_take q h, if_neg (by simp [hq])]; simp
theorem filter_take_len (l : List Nat) (k : Nat) (q : Nat → Bool) : ((l.take k).filter q).length ≤ k := Nat.le_trans (List.length_filter_le _ _) (List.length_take_le _ _)
theorem mem_take_lt {l : List Nat} (h : l.Pairwise (· < ·)) {p k : Nat} (hk : k < l.length) (hp : p ∈ l) (hlt : p < l[k]) : p ∈ l.take k := by
  obtain ⟨j, hj, rfl⟩ := List.mem_iff_getElem.1 hp
  have : j < k := by
    rcases Nat.lt_or_ge j k with h1 | h1
    · exact h1
    · rcases Nat.lt_or_eq_of_le h1 with h2 | h2
      · have := List.pairwise_iff_getElem.1 h k j hk hj h2
        omega
      · subst h2
        omega
  exact List.mem_iff_getElem.2 ⟨j, by simp; omega, by simp⟩
/-- What Under has behind k of all. -/
def uTo (n : Nat) (f : F) (x k : Nat) : List Nat := x :: ((all n f).take k).filter fun y => decide (y ≠ x) && below f x y
theorem uTo_start (n : Nat) (f : F) (x : Nat) : uTo n f x 0 = [x] := by simp [uTo]
theorem uTo_len (n : Nat) (f : F) (x k : Nat) : (uTo n f x k).length ≤ k + 1 := by
  unfold uTo
  have := filter_take_len (all n f) k fun y => decide (y ≠ x) && below f x y
  rw [List.length_cons]
  omega
theorem uTo_end {n : Nat} {f : F} {x p : Nat} (h : Good n f) (hx : f x = some p) : uTo n f x (all n f).length = under n f x := by
  have hl := h.le x p hx
  refine ext_lt ?_ (under_up n f x) fun i => ?_
  · unfold uTo
    rw [List.take_length, List.pairwise_cons]
    refine ⟨fun y hy => ?_, List.Pairwise.sublist List.filter_sublist (all_up n f)⟩
    rw [List.mem_filter] at hy
    have h2 := hy.2
    simp at h2
    have := below_le h y h2.2
    omega
  · unfold uTo
    rw [List.take_length, List.mem_cons, List.mem_filter, mem_all, mem_under]
    simp
    constructor
    · rintro (rfl | ⟨⟨h1, h2⟩, h3, h4⟩)
      · exact ⟨hl.2.1, live_iff.2 ⟨p, hx⟩, below_self (by omega)⟩
      · exact ⟨h1, h2, h4⟩
    · rintro ⟨h1, h2, h3⟩
      by_cases e : i = x
      · exact .inl e
      · exact .inr ⟨⟨h1, h2⟩, e, h3⟩
theorem uTo_mem {n : Nat} {f : F} {x q k y p : Nat} (h : Good n f) (hx : f x = some q) (hk : k < (all n f).length) (hy : (all n f)[k] = y) (hp : f y = some p) : p ∈ uTo n f x k ↔ y ≠ x ∧ below f x y = true := by
  have hlx := h.le x q hx
  have hly := h.le y p hp
  have key : p ∈ uTo n f x k → below f x p = true := fun hm => by
    unfold uTo at hm
    rcases List.mem_cons.1 hm with rfl | hm
    · exact below_self (by omega)
    · have := (List.mem_filter.1 hm).2
      simp at this
      exact this.2
  constructor
  · intro hm
    have hb := key hm
    have hne : y ≠ x := fun e => by
      have := below_le h p hb
      omega
    exact ⟨hne, by rw [below_step h hp hne]; exact hb⟩
  · rintro ⟨hne, hb⟩
    rw [below_step h hp hne] at hb
    unfold uTo
    by_cases e : p = x
    · rw [e]; simp
    · refine List.mem_cons_of_mem _ (List.mem_filter.2 ⟨?_, by simp [e, hb]⟩)
      have hp0 : p ≠ 0 := fun e => by rw [e, below_zero] at hb; cases hb
      rcases h.par y p hp with e2 | ⟨r, hr⟩
      · exact absurd e2 hp0
      · exact mem_take_lt (all_up n f) hk (mem_all.2 ⟨(h.le p r hr).2.1, live_iff.2 ⟨r, hr⟩⟩) (by rw [hy]; exact hly.2.2)
theorem uTo_yes {n : Nat} {f : F} {x k y : Nat} (hk : k < (all n f).length) (hy : (all n f)[k] = y) (h : y ≠ x ∧ below f x y = true) : uTo n f x (k + 1) = uTo n f x k ++ [y] := by
  unfold uTo
  rw [filter_take_yes hk (by rw [hy]; simp [h.1, h.2]), hy]
  rfl
theorem uTo_no {n : Nat} {f : F} {x k y : Nat} (hk : k < (all n f).length) (hy : (all n f)[k] = y) (h : ¬ (y ≠ x ∧ below f x y = true)) : uTo n f x (k + 1) = uTo n f x k := by
  unfold uTo
  rw [filter_take_no hk (by rw [hy]; simpa using h)]
theorem zs_mem {l : List Nat} {p : Nat} : ((p : Int) ∈ zs l) ↔ p ∈ l := by
  unfold zs
  rw [List.mem_map]
  constructor
  · rintro ⟨i, hi, e⟩
    have : i = p := by omega
    rw [← this]; exact hi
  · exact fun h => ⟨p, h, rfl⟩
/-- What Kids, Under tell of any int. -/
def kidsI (n : Nat) (f : F) (x : Int) : List Nat := if mayErr f x = 0 then kids n f x.toNat else []
def underI (n : Nat) (f : F) (x : Int) : List Nat := if liveI f x then under n f x.toNat else []
theorem kidsI_no {n : Nat} {f : F} {x : Int} (h : mayErr f x ≠ 0) : kidsI n f x = [] := if_neg h
theorem kidsI_ok {n : Nat} {f : F} {i : Nat} (h : mayErr f i = 0) : kidsI n f i = kids n f i := by unfold kidsI; rw [if_pos h, Int.toNat_natCast]
theorem underI_no {n : Nat} {f : F} {x : Int} (h : liveI f x = false) : underI n f x = [] := by unfold underI; rw [h]; rfl
theorem underI_ok {n : Nat} {f : F} {i p : Nat} (h : f i = some p) : underI n f i = under n f i := by unfold underI; rw [liveI_nat, live_iff.2 ⟨p, h⟩, if_pos rfl, Int.toNat_natCast]
theorem mayErr_ok {f : F} {x : Int} (h : mayErr f x = 0) : ∃ i : Nat, x = i ∧ (i = 0 ∨ ∃ p, f i = some p) := by
  unfold mayErr at h
  by_cases h0 : x = 0
  · exact ⟨0, by omega, .inl rfl⟩
  · rw [if_neg h0] at h
    unfold liveErr at h
    cases hl : liveI f x
    · rw [hl] at h; simp at h
    · obtain ⟨i, p, e, hp⟩ := liveI_iff.1 hl
      exact ⟨i, e, .inr ⟨p, hp⟩⟩
theorem mayErr_or (f : F) (x : Int) : mayErr f x = 0 ∨ mayErr f x = 6 := by
  unfold mayErr liveErr
  split
  · exact .inl rfl
  · split
    · exact .inl rfl
    · exact .inr rfl
theorem liveErr_ok {f : F} {x : Int} (h : liveI f x = true) : liveErr f x = 0 := by unfold liveErr; rw [h]; rfl
theorem liveErr_no {f : F} {x : Int} (h : liveI f x = false) : liveErr f x = 6 := by unfold liveErr; rw [h]; rfl
end TR
end Go.Proofs.Ytmdcpeikjchbgaa
