/- Plain data of package token: the order of tokens, and tokens in order, each once. No program in it. -/
import Derived.Lib.Small
import Derived.Lib.SlicesCompact
import Derived.Sort.LotA
namespace Go.Proofs.Ytehkcflbdmkjpaa
open Go.Lib Go.Sort

/-- What Compare answers. -/
def TM.cmp (x y : Int × Int) : Int := if compareInt x.1 y.1 = 0 then compareInt x.2 y.2 else compareInt x.1 y.1
/-- One goes ahead of another. -/
def TM.Lt (x y : Int × Int) : Prop := x.1 < y.1 ∨ x.1 = y.1 ∧ x.2 < y.2

theorem TM.cint (x y : Int) : compareInt x y = -1 ∧ x < y ∨ compareInt x y = 0 ∧ x = y ∨ compareInt x y = 1 ∧ y < x := by
  unfold compareInt
  by_cases h1 : x < y
  · rw [if_pos h1]; exact Or.inl ⟨rfl, h1⟩
  · rw [if_neg h1]
    by_cases h2 : x > y
    · rw [if_pos h2]; exact Or.inr (Or.inr ⟨rfl, h2⟩)
    · rw [if_neg h2]; exact Or.inr (Or.inl ⟨rfl, by omega⟩)
theorem TM.cmp_cases (x y : Int × Int) : TM.cmp x y = -1 ∧ TM.Lt x y ∨ TM.cmp x y = 0 ∧ x = y ∨ TM.cmp x y = 1 ∧ TM.Lt y x := by
  unfold TM.cmp TM.Lt
  rcases TM.cint x.1 y.1 with ⟨e, h⟩ | ⟨e, h⟩ | ⟨e, h⟩
  · rw [e]; exact Or.inl ⟨if_neg (by decide), Or.inl h⟩
  · rw [e, if_pos rfl]
    rcases TM.cint x.2 y.2 with ⟨e', h'⟩ | ⟨e', h'⟩ | ⟨e', h'⟩
    · exact Or.inl ⟨e', Or.inr ⟨h, h'⟩⟩
    · exact Or.inr (Or.inl ⟨e', Prod.ext h h'⟩)
    · exact Or.inr (Or.inr ⟨e', Or.inr ⟨h.symm, h'⟩⟩)
  · rw [e]; exact Or.inr (Or.inr ⟨if_neg (by decide), Or.inl h⟩)
theorem TM.Lt.irrefl {x : Int × Int} (h : TM.Lt x x) : False := by unfold TM.Lt at h; omega
theorem TM.Lt.trans {x y z : Int × Int} (h : TM.Lt x y) (k : TM.Lt y z) : TM.Lt x z := by unfold TM.Lt at *; omega
theorem TM.Lt.asymm {x y : Int × Int} (h : TM.Lt x y) (k : TM.Lt y x) : False := (h.trans k).irrefl
theorem TM.Lt.tri (x y : Int × Int) : TM.Lt x y ∨ x = y ∨ TM.Lt y x := by
  rcases TM.cmp_cases x y with h | h | h
  · exact Or.inl h.2
  · exact Or.inr (Or.inl h.2)
  · exact Or.inr (Or.inr h.2)
theorem TM.cmp_lt {x y : Int × Int} : TM.cmp x y < 0 ↔ TM.Lt x y := by
  rcases TM.cmp_cases x y with ⟨e, h⟩ | ⟨e, h⟩ | ⟨e, h⟩
  · rw [e]; exact ⟨fun _ => h, fun _ => by decide⟩
  · rw [e]; exact ⟨fun k => by omega, fun k => by subst h; exact k.irrefl.elim⟩
  · rw [e]; exact ⟨fun k => by omega, fun k => (k.asymm h).elim⟩
theorem TM.cmp_zero {x y : Int × Int} : TM.cmp x y = 0 ↔ x = y := by
  rcases TM.cmp_cases x y with ⟨e, h⟩ | ⟨e, h⟩ | ⟨e, h⟩
  · rw [e]; exact ⟨fun k => by omega, fun k => by subst k; exact h.irrefl.elim⟩
  · rw [e]; exact ⟨fun _ => h, fun _ => rfl⟩
  · rw [e]; exact ⟨fun k => by omega, fun k => by subst k; exact h.irrefl.elim⟩
theorem TM.cmp_neg (x y : Int × Int) : TM.cmp y x = -TM.cmp x y := by
  rcases TM.cmp_cases x y with ⟨e, h⟩ | ⟨e, h⟩ | ⟨e, h⟩ <;> rcases TM.cmp_cases y x with ⟨e', h'⟩ | ⟨e', h'⟩ | ⟨e', h'⟩ <;> rw [e, e'] <;> first
    | rfl
    | exact (h.asymm h').elim
    | (subst h; exact h'.irrefl.elim)
    | (subst h'; exact h.irrefl.elim)
theorem TM.cmp_ge (x y : Int × Int) : TM.cmp x y ≤ 0 ∨ TM.cmp x y = 1 := by
  rcases TM.cmp_cases x y with ⟨e, h⟩ | ⟨e, h⟩ | ⟨e, h⟩ <;> rw [e] <;> omega
theorem TM.cmp_one {x y : Int × Int} : 0 < TM.cmp x y ↔ TM.Lt y x := by
  rw [← TM.cmp_lt, TM.cmp_neg x y]; omega

/-- What is less, as the sort asks it. -/
def TM.lt (x y : Int × Int) : Bool := decide (TM.cmp x y < 0)
theorem TM.lt_iff {x y : Int × Int} : TM.lt x y = true ↔ TM.Lt x y := by unfold TM.lt; rw [decide_eq_true_iff, TM.cmp_lt]
theorem TM.lt_not {x y : Int × Int} : TM.lt x y = false ↔ ¬ TM.Lt x y := by rw [← Bool.not_eq_true, TM.lt_iff]
theorem TM.swo : SWO TM.lt where
  irrefl x := TM.lt_not.2 fun h => h.irrefl
  trans x y z h1 h2 := TM.lt_iff.2 ((TM.lt_iff.1 h1).trans (TM.lt_iff.1 h2))
  ntrans x y z h1 h2 := TM.lt_not.2 fun h => by
    have h1 := TM.lt_not.1 h1
    have h2 := TM.lt_not.1 h2
    unfold TM.Lt at *
    omega
theorem TM.parts (x y : Int × Int) (h1 : TM.lt x y = false) (h2 : TM.lt y x = false) : x = y := by
  rcases TM.Lt.tri x y with h | h | h
  · exact (TM.lt_not.1 h1 h).elim
  · exact h
  · exact (TM.lt_not.1 h2 h).elim

/-- In order, those that are the same beside each other. -/
def TM.row (l : List (Int × Int)) : List (Int × Int) := l.mergeSort fun x y => !TM.lt y x
/-- In order, each once. -/
def TM.sort (l : List (Int × Int)) : List (Int × Int) := compactUpTo (TM.row l).toArray (TM.row l).length

theorem TM.row_perm (l : List (Int × Int)) : (TM.row l).Perm l := List.mergeSort_perm l _
theorem TM.row_len (l : List (Int × Int)) : (TM.row l).length = l.length := (TM.row_perm l).length_eq
theorem TM.row_sorted (l : List (Int × Int)) : (TM.row l).Pairwise fun x y => ¬ TM.Lt y x := by
  have h := List.pairwise_mergeSort (le := fun x y => !TM.lt y x) (fun a b c h1 h2 => by
      simp only [Bool.not_eq_true', TM.lt_not] at *
      unfold TM.Lt at *
      omega) (fun a b => by
      simp only [Bool.or_eq_true, Bool.not_eq_true', TM.lt_not]
      unfold TM.Lt
      omega) l
  exact h.imp fun hh => by simpa only [Bool.not_eq_true', TM.lt_not] using hh

/-- What stays of a row in order: rising; each that was there; none above the last. -/
theorem TM.upTo (d : Array (Int × Int)) (hs : ∀ i j, i < j → j < d.size → ¬ TM.Lt d[j]! d[i]!) : ∀ m, m ≤ d.size →
    (compactUpTo d m).Pairwise TM.Lt ∧ (∀ x, x ∈ compactUpTo d m ↔ ∃ j, j < m ∧ d[j]! = x) ∧ (compactUpTo d m).length ≤ m
  | 0, _ => ⟨by simp [compactUpTo], fun x => by simp [compactUpTo], by simp [compactUpTo]⟩
  | m + 1, hm => by
    obtain ⟨h1, h2, h3⟩ := TM.upTo d hs m (by omega)
    rw [compactUpTo_succ]
    by_cases hk : keeps d m = true
    · rw [if_pos hk]
      refine ⟨List.pairwise_append.2 ⟨h1, List.pairwise_singleton _ _, fun x hx y hy => ?_⟩, fun x => ?_, by simp; omega⟩
      · have ey : y = d[m]! := by simpa using hy
        subst ey
        obtain ⟨j, hj, rfl⟩ := (h2 x).1 hx
        have hne : d[m]! ≠ d[m - 1]! := by
          have : ¬ m = 0 := by omega
          simpa [keeps, this] using hk
        have a1 := hs (m - 1) m (by omega) (by omega)
        have a2 : TM.Lt d[m - 1]! d[m]! := by
          rcases TM.Lt.tri d[m]! d[m - 1]! with h | h | h
          · exact (a1 h).elim
          · exact (hne h).elim
          · exact h
        by_cases e : j = m - 1
        · rw [e]; exact a2
        · have a3 := hs j (m - 1) (by omega) (by omega)
          rcases TM.Lt.tri d[m - 1]! d[j]! with h | h | h
          · exact (a3 h).elim
          · rw [← h]; exact a2
          · exact h.trans a2
      · rw [List.mem_append, h2 x, List.mem_singleton]
        constructor
        · rintro (⟨j, hj, e⟩ | rfl)
          · exact ⟨j, by omega, e⟩
          · exact ⟨m, by omega, rfl⟩
        · rintro ⟨j, hj, e⟩
          by_cases e' : j = m
          · exact Or.inr (by rw [← e, e'])
          · exact Or.inl ⟨j, by omega, e⟩
    · rw [if_neg hk, List.append_nil]
      have hk' : ¬ (m = 0 ∨ d[m]! ≠ d[m - 1]!) := by simpa only [keeps, decide_eq_true_iff] using hk
      have h0 : m ≠ 0 := fun e => hk' (Or.inl e)
      have he : d[m]! = d[m - 1]! := Decidable.byContradiction fun e => hk' (Or.inr e)
      refine ⟨h1, fun x => ?_, by omega⟩
      rw [h2 x]
      constructor
      · rintro ⟨j, hj, e⟩
        exact ⟨j, by omega, e⟩
      · rintro ⟨j, hj, e⟩
        by_cases e' : j = m
        · exact ⟨m - 1, by omega, by rw [← he, ← e', e]⟩
        · exact ⟨j, by omega, e⟩

theorem TM.get_arr (l : List (Int × Int)) (j : Nat) (h : j < l.length) : l.toArray[j]! = l[j] := by
  rw [getElem!_pos l.toArray j (by simpa using h)]
  simp
theorem TM.sort_is (l : List (Int × Int)) : (TM.sort l).Pairwise TM.Lt ∧ (∀ x, x ∈ TM.sort l ↔ x ∈ l) ∧ (TM.sort l).length ≤ l.length := by
  have hr := TM.row_sorted l
  obtain ⟨h1, h2, h3⟩ := TM.upTo (TM.row l).toArray (fun i j hij hj => by
    have hj' : j < (TM.row l).length := by simpa using hj
    rw [TM.get_arr _ j hj', TM.get_arr _ i (by omega)]
    exact List.pairwise_iff_getElem.1 hr i j (by omega) hj' hij) (TM.row l).length (by simp)
  refine ⟨h1, fun x => ?_, by rw [← TM.row_len l]; exact h3⟩
  unfold TM.sort
  rw [h2 x, ← (TM.row_perm l).mem_iff]
  constructor
  · rintro ⟨j, hj, e⟩
    rw [TM.get_arr _ j hj] at e
    rw [← e]
    exact List.getElem_mem hj
  · intro hx
    obtain ⟨j, hj, e⟩ := List.getElem_of_mem hx
    exact ⟨j, hj, by rw [TM.get_arr _ j hj, e]⟩

/-- Two rising lists of the same are one. -/
theorem TM.same : ∀ (l m : List (Int × Int)), l.Pairwise TM.Lt → m.Pairwise TM.Lt → (∀ x, x ∈ l ↔ x ∈ m) → l = m
  | [], [], _, _, _ => rfl
  | [], y :: m, _, _, h => absurd ((h y).2 List.mem_cons_self) (by simp)
  | x :: l, [], _, _, h => absurd ((h x).1 List.mem_cons_self) (by simp)
  | x :: l, y :: m, hl, hm, h => by
    have hl' := List.pairwise_cons.1 hl
    have hm' := List.pairwise_cons.1 hm
    have e : x = y := by
      rcases List.mem_cons.1 ((h x).1 List.mem_cons_self) with e | hx
      · exact e
      · rcases List.mem_cons.1 ((h y).2 List.mem_cons_self) with e | hy
        · exact e.symm
        · exact ((hm'.1 x hx).asymm (hl'.1 y hy)).elim
    subst e
    rw [TM.same l m hl'.2 hm'.2 fun z => ?_]
    constructor
    · intro hz
      rcases List.mem_cons.1 ((h z).1 (List.mem_cons_of_mem _ hz)) with e | hz'
      · subst e; exact (hl'.1 z hz).irrefl.elim
      · exact hz'
    · intro hz
      rcases List.mem_cons.1 ((h z).2 (List.mem_cons_of_mem _ hz)) with e | hz'
      · subst e; exact (hm'.1 z hz).irrefl.elim
      · exact hz'
theorem TM.sort_of {l m : List (Int × Int)} (h : ∀ x, x ∈ l ↔ x ∈ m) : TM.sort l = TM.sort m :=
  TM.same _ _ (TM.sort_is l).1 (TM.sort_is m).1 fun x => by rw [(TM.sort_is l).2.1, (TM.sort_is m).2.1, h]
theorem TM.sort_sort (l : List (Int × Int)) : TM.sort (TM.sort l) = TM.sort l := TM.sort_of fun x => (TM.sort_is l).2.1 x
theorem TM.sort_example : TM.sort [(2, 1), (1, 9), (2, 1)] = [(1, 9), (2, 1)] :=
  TM.same _ _ (TM.sort_is _).1 (by simp [TM.Lt]) fun x => by
    rw [(TM.sort_is _).2.1]
    simp only [List.mem_cons, List.not_mem_nil, or_false]
    constructor
    · rintro (h | h | h)
      · exact Or.inr h
      · exact Or.inl h
      · exact Or.inr h
    · rintro (h | h)
      · exact Or.inr (Or.inl h)
      · exact Or.inl h
end Go.Proofs.Ytehkcflbdmkjpaa
