/- Plain data of package bag: lists of numbers that rise, each once. No program in it. -/
import Derived.Lib.SlicesCompact
namespace Go.Proofs.Ytomjaieplpjcpaa
open Go.Lib

namespace BG
/-- Rising, each once. -/
def Rises (l : List Int) : Prop := l.Pairwise (· < ·)
theorem ext : ∀ (l m : List Int), Rises l → Rises m → (∀ x, x ∈ l ↔ x ∈ m) → l = m
  | [], [], _, _, _ => rfl
  | [], y :: m, _, _, h => absurd ((h y).2 List.mem_cons_self) (by simp)
  | x :: l, [], _, _, h => absurd ((h x).1 List.mem_cons_self) (by simp)
  | x :: l, y :: m, hl, hm, h => by
    have hl' := List.pairwise_cons.1 hl
    have hm' := List.pairwise_cons.1 hm
    have e : x = y := by
      rcases List.mem_cons.1 ((h x).1 List.mem_cons_self) with e | hx
      · exact e
      · rcases List.mem_cons.1 ((h y).2 List.mem_cons_self) with e | hy
        · exact e.symm
        · have := hm'.1 x hx
          have := hl'.1 y hy
          omega
    subst e
    rw [ext l m hl'.2 hm'.2 fun z => ?_]
    constructor
    · intro hz
      rcases List.mem_cons.1 ((h z).1 (List.mem_cons_of_mem _ hz)) with e | hz'
      · subst e; have := hl'.1 z hz; omega
      · exact hz'
    · intro hz
      rcases List.mem_cons.1 ((h z).2 (List.mem_cons_of_mem _ hz)) with e | hz'
      · subst e; have := hm'.1 z hz; omega
      · exact hz'

/-- In order, those that are the same beside each other. -/
def row (l : List Int) : List Int := l.mergeSort fun x y => decide (x ≤ y)
/-- In order, each once. -/
def norm (l : List Int) : List Int := compactUpTo (row l).toArray (row l).length
theorem row_perm (l : List Int) : (row l).Perm l := List.mergeSort_perm l _
theorem row_len (l : List Int) : (row l).length = l.length := (row_perm l).length_eq
theorem row_sorted (l : List Int) : (row l).Pairwise (· ≤ ·) := by
  have h := List.pairwise_mergeSort (le := fun x y : Int => decide (x ≤ y)) (fun a b c h1 h2 => by simp at *; omega) (fun a b => by simp; omega) l
  exact h.imp fun hh => by simpa using hh
theorem upTo (d : Array Int) (hs : ∀ i j, i < j → j < d.size → d[i]! ≤ d[j]!) : ∀ m, m ≤ d.size →
    Rises (compactUpTo d m) ∧ (∀ x, x ∈ compactUpTo d m ↔ ∃ j, j < m ∧ d[j]! = x) ∧ (compactUpTo d m).length ≤ m
  | 0, _ => ⟨by simp [compactUpTo, Rises], fun x => by simp [compactUpTo], by simp [compactUpTo]⟩
  | m + 1, hm => by
    obtain ⟨h1, h2, h3⟩ := upTo d hs m (by omega)
    rw [compactUpTo_succ]
    by_cases hk : keeps d m = true
    · rw [if_pos hk]
      refine ⟨List.pairwise_append.2 ⟨h1, List.pairwise_singleton _ _, fun x hx y hy => ?_⟩, fun x => ?_, by simp; omega⟩
      · have ey : y = d[m]! := by simpa using hy
        subst ey
        obtain ⟨j, hj, rfl⟩ := (h2 x).1 hx
        have hne : d[m]! ≠ d[m - 1]! := by
          have : ¬ m = 0 := by omega
          simpa [keeps, this] using hk
        have a1 := hs (m - 1) m (by omega) (by omega)
        by_cases e : j = m - 1
        · rw [e]; omega
        · have a3 := hs j (m - 1) (by omega) (by omega)
          omega
      · rw [List.mem_append, h2 x, List.mem_singleton]
        constructor
        · rintro (⟨j, hj, e⟩ | rfl)
          · exact ⟨j, by omega, e⟩
          · exact ⟨m, by omega, rfl⟩
        · rintro ⟨j, hj, e⟩
          by_cases e' : j = m
          · exact Or.inr (by rw [← e, e'])
          · exact Or.inl ⟨j, by omega, e⟩
    · rw [if_neg hk, List.append_nil]
      have hk' : ¬ (m = 0 ∨ d[m]! ≠ d[m - 1]!) := by simpa only [keeps, decide_eq_true_iff] using hk
      have he : d[m]! = d[m - 1]! := Decidable.byContradiction fun e => hk' (Or.inr e)
      have h0 : m ≠ 0 := fun e => hk' (Or.inl e)
      refine ⟨h1, fun x => ?_, by omega⟩
      rw [h2 x]
      constructor
      · rintro ⟨j, hj, e⟩
        exact ⟨j, by omega, e⟩
      · rintro ⟨j, hj, e⟩
        by_cases e' : j = m
        · exact ⟨m - 1, by omega, by rw [← he, ← e', e]⟩
        · exact ⟨j, by omega, e⟩
theorem get_arr (l : List Int) (j : Nat) (h : j < l.length) : l.toArray[j]! = l[j] := by
  rw [getElem!_pos l.toArray j (by simpa using h)]
  simp
theorem norm_is (l : List Int) : Rises (norm l) ∧ (∀ x, x ∈ norm l ↔ x ∈ l) ∧ (norm l).length ≤ l.length := by
  have hr := row_sorted l
  obtain ⟨h1, h2, h3⟩ := upTo (row l).toArray (fun i j hij hj => by
    have hj' : j < (row l).length := by simpa using hj
    rw [get_arr _ j hj', get_arr _ i (by omega)]
    exact List.pairwise_iff_getElem.1 hr i j (by omega) hj' hij) (row l).length (by simp)
  refine ⟨h1, fun x => ?_, by rw [← row_len l]; exact h3⟩
  unfold norm
  rw [h2 x, ← (row_perm l).mem_iff]
  constructor
  · rintro ⟨j, hj, e⟩
    rw [get_arr _ j hj] at e
    rw [← e]
    exact List.getElem_mem hj
  · intro hx
    obtain ⟨j, hj, e⟩ := List.getElem_of_mem hx
    exact ⟨j, hj, by rw [get_arr _ j hj, e]⟩
theorem norm_rises (l : List Int) : Rises (norm l) := (norm_is l).1
theorem mem_norm {l : List Int} {x : Int} : x ∈ norm l ↔ x ∈ l := (norm_is l).2.1 x
theorem norm_len (l : List Int) : (norm l).length ≤ l.length := (norm_is l).2.2
theorem norm_eq {l m : List Int} (h : ∀ x, x ∈ l ↔ x ∈ m) : norm l = norm m := ext _ _ (norm_rises l) (norm_rises m) fun x => by rw [mem_norm, mem_norm, h]
theorem norm_self {l : List Int} (h : Rises l) : norm l = l := ext _ _ (norm_rises l) h fun _ => mem_norm
theorem norm_nil : norm [] = [] := List.eq_nil_of_length_eq_zero (Nat.le_zero.1 (norm_len []))

/-- How many are less. -/
def pos (l : List Int) (x : Int) : Nat := l.countP (· < x)
theorem pos_le (l : List Int) (x : Int) : pos l x ≤ l.length := List.countP_le_length
theorem Rises.tail {a : Int} {l : List Int} (h : Rises (a :: l)) : Rises l := (List.pairwise_cons.1 h).2
theorem pos_parts : ∀ (l : List Int) (x : Int), Rises l → (∀ z ∈ l.take (pos l x), z < x) ∧ ∀ z ∈ l.drop (pos l x), x ≤ z
  | [], _, _ => by simp [pos]
  | a :: l, x, h => by
    obtain ⟨h1, h2⟩ := pos_parts l x h.tail
    by_cases ha : a < x
    · have e : pos (a :: l) x = pos l x + 1 := by simp [pos, ha]
      rw [e]
      simp only [List.take_succ_cons, List.drop_succ_cons, List.mem_cons]
      exact ⟨fun z hz => hz.elim (fun e => e ▸ ha) (h1 z), h2⟩
    · have e : pos (a :: l) x = 0 := by
        unfold pos
        rw [List.countP_eq_zero]
        intro z hz
        rcases List.mem_cons.1 hz with rfl | hz
        · simp; omega
        · have := (List.pairwise_cons.1 h).1 z hz
          simp; omega
      rw [e]
      simp only [List.take_zero, List.drop_zero, List.not_mem_nil, List.mem_cons]
      refine ⟨fun _ hh => hh.elim, fun z hz => ?_⟩
      rcases hz with rfl | hz
      · omega
      · have := (List.pairwise_cons.1 h).1 z hz
        omega
theorem pos_mem {l : List Int} {x : Int} (h : Rises l) (hx : x ∈ l) : ∃ hp : pos l x < l.length, l[pos l x] = x := by
  obtain ⟨h1, h2⟩ := pos_parts l x h
  rw [← List.take_append_drop (pos l x) l, List.mem_append] at hx
  have hd : x ∈ l.drop (pos l x) := hx.elim (fun hh => by have := h1 x hh; omega) id
  have hp : pos l x < l.length := by
    rcases Nat.lt_or_ge (pos l x) l.length with hh | hh
    · exact hh
    · rw [List.drop_of_length_le hh] at hd; cases hd
  refine ⟨hp, ?_⟩
  rw [List.drop_eq_getElem_cons hp] at hd
  rcases List.mem_cons.1 hd with e | hd
  · exact e.symm
  · have hr : Rises (l.drop (pos l x)) := List.Pairwise.sublist (List.drop_sublist _ _) h
    rw [List.drop_eq_getElem_cons hp] at hr h2
    have a := (List.pairwise_cons.1 hr).1 x hd
    have b := h2 _ List.mem_cons_self
    omega

/-- With a thing more. -/
def put (x : Int) (l : List Int) : List Int := norm (x :: l)
/-- Without a thing. -/
def del (x : Int) (l : List Int) : List Int := l.filter fun y => decide (y ≠ x)
/-- With all of another list. -/
def join (l m : List Int) : List Int := norm (l ++ m)
/-- Without all of another list. -/
def less (l m : List Int) : List Int := l.filter fun y => decide (y ∉ m)
theorem mem_put {x y : Int} {l : List Int} : y ∈ put x l ↔ y = x ∨ y ∈ l := by simp [put, mem_norm]
theorem mem_del {x y : Int} {l : List Int} : y ∈ del x l ↔ y ∈ l ∧ y ≠ x := by simp [del]
theorem mem_join {y : Int} {l m : List Int} : y ∈ join l m ↔ y ∈ l ∨ y ∈ m := by simp [join, mem_norm]
theorem mem_less {y : Int} {l m : List Int} : y ∈ less l m ↔ y ∈ l ∧ y ∉ m := by simp [less]
theorem put_rises (x : Int) (l : List Int) : Rises (put x l) := norm_rises _
theorem del_rises {x : Int} {l : List Int} (h : Rises l) : Rises (del x l) := h.filter _
theorem join_rises (l m : List Int) : Rises (join l m) := norm_rises _
theorem less_rises {l m : List Int} (h : Rises l) : Rises (less l m) := h.filter _
theorem put_len (x : Int) (l : List Int) : (put x l).length ≤ l.length + 1 := norm_len _
theorem del_len (x : Int) (l : List Int) : (del x l).length ≤ l.length := List.length_filter_le _ _
theorem join_len (l m : List Int) : (join l m).length ≤ l.length + m.length := by
  have := norm_len (l ++ m)
  rw [List.length_append] at this
  exact this
theorem less_len (l m : List Int) : (less l m).length ≤ l.length := List.length_filter_le _ _
theorem put_in {x : Int} {l : List Int} (h : Rises l) (hx : x ∈ l) : put x l = l := ext _ _ (put_rises _ _) h fun y => by
  rw [mem_put]
  exact ⟨fun hh => hh.elim (fun e => e ▸ hx) id, Or.inr⟩
theorem put_out {x : Int} {l : List Int} (h : Rises l) (hx : x ∉ l) : put x l = l.take (pos l x) ++ x :: l.drop (pos l x) := by
  obtain ⟨h1, h2⟩ := pos_parts l x h
  have hm : ∀ z, z ∈ l.take (pos l x) ∨ z ∈ l.drop (pos l x) ↔ z ∈ l := fun z => by rw [← List.mem_append, List.take_append_drop]
  refine ext _ _ (put_rises _ _) ?_ fun y => ?_
  · refine List.pairwise_append.2 ⟨List.Pairwise.sublist (List.take_sublist _ _) h, List.pairwise_cons.2 ⟨fun z hz => ?_, List.Pairwise.sublist (List.drop_sublist _ _) h⟩, fun a ha b hb => ?_⟩
    · have := h2 z hz
      have hne : z ≠ x := fun e => hx (e ▸ (hm z).1 (Or.inr hz))
      omega
    · have := h1 a ha
      rcases List.mem_cons.1 hb with e | hb
      · omega
      · have := h2 b hb
        omega
  · rw [mem_put, List.mem_append, List.mem_cons, ← hm y]
    constructor
    · rintro (e | e | e)
      · exact Or.inr (Or.inl e)
      · exact Or.inl e
      · exact Or.inr (Or.inr e)
    · rintro (e | e | e)
      · exact Or.inr (Or.inl e)
      · exact Or.inl e
      · exact Or.inr (Or.inr e)
theorem del_out {x : Int} {l : List Int} (hx : x ∉ l) : del x l = l := by
  unfold del
  rw [List.filter_eq_self]
  intro y hy
  have : y ≠ x := fun e => hx (e ▸ hy)
  simpa using this
theorem del_in {x : Int} {l : List Int} (h : Rises l) (hx : x ∈ l) : del x l = l.take (pos l x) ++ l.drop (pos l x + 1) := by
  obtain ⟨hp, e⟩ := pos_mem h hx
  obtain ⟨h1, _⟩ := pos_parts l x h
  have hr : Rises (l.drop (pos l x)) := List.Pairwise.sublist (List.drop_sublist _ _) h
  rw [List.drop_eq_getElem_cons hp, e] at hr
  have h3 := (List.pairwise_cons.1 hr).1
  have hl : l = l.take (pos l x) ++ x :: l.drop (pos l x + 1) := by
    conv => lhs; rw [← List.take_append_drop (pos l x) l, List.drop_eq_getElem_cons hp, e]
  unfold del
  conv => lhs; rw [hl]
  rw [List.filter_append, List.filter_cons, List.filter_eq_self.2 (fun y hy => by have := h1 y hy; simp; omega), List.filter_eq_self.2 (fun y hy => by have := h3 y hy; simp; omega)]
  simp

/-- The least one that isn't below x. -/
def fst (l : List Int) (x : Int) : Option Int := l[pos l x]?
theorem fst_some {l : List Int} {x y : Int} (h : Rises l) : fst l x = some y ↔ y ∈ l ∧ x ≤ y ∧ ∀ z ∈ l, x ≤ z → y ≤ z := by
  obtain ⟨h1, h2⟩ := pos_parts l x h
  have hm : ∀ z, z ∈ l.take (pos l x) ∨ z ∈ l.drop (pos l x) ↔ z ∈ l := fun z => by rw [← List.mem_append, List.take_append_drop]
  unfold fst
  have hr : Rises (l.drop (pos l x)) := List.Pairwise.sublist (List.drop_sublist _ _) h
  constructor
  · intro e
    obtain ⟨hp, e⟩ := List.getElem?_eq_some_iff.1 e
    rw [List.drop_eq_getElem_cons hp, e] at h2 hr hm
    refine ⟨(hm y).1 (Or.inr List.mem_cons_self), h2 y List.mem_cons_self, fun z hz hx => ?_⟩
    rcases (hm z).2 hz with hz | hz
    · have := h1 z hz; omega
    · rcases List.mem_cons.1 hz with e | hz
      · omega
      · have := (List.pairwise_cons.1 hr).1 z hz
        omega
  · rintro ⟨hy, hx, hle⟩
    have hd : y ∈ l.drop (pos l x) := ((hm y).2 hy).elim (fun hh => by have := h1 y hh; omega) id
    have hp : pos l x < l.length := by
      rcases Nat.lt_or_ge (pos l x) l.length with hh | hh
      · exact hh
      · rw [List.drop_of_length_le hh] at hd; cases hd
    rw [List.getElem?_eq_getElem hp]
    rw [List.drop_eq_getElem_cons hp] at h2 hr hd hm
    have a := h2 _ List.mem_cons_self
    have b := hle _ ((hm _).1 (Or.inr List.mem_cons_self)) a
    rcases List.mem_cons.1 hd with e | hd
    · rw [e]
    · have := (List.pairwise_cons.1 hr).1 y hd
      omega
theorem fst_none {l : List Int} {x : Int} (h : Rises l) : fst l x = none ↔ ∀ z ∈ l, z < x := by
  obtain ⟨h1, h2⟩ := pos_parts l x h
  have hm : ∀ z, z ∈ l.take (pos l x) ∨ z ∈ l.drop (pos l x) ↔ z ∈ l := fun z => by rw [← List.mem_append, List.take_append_drop]
  unfold fst
  constructor
  · intro e z hz
    have hp := List.getElem?_eq_none_iff.1 e
    rcases (hm z).2 hz with hz | hz
    · exact h1 z hz
    · rw [List.drop_of_length_le hp] at hz; cases hz
  · intro hall
    rw [List.getElem?_eq_none_iff]
    rcases Nat.lt_or_ge (pos l x) l.length with hp | hp
    · rw [List.drop_eq_getElem_cons hp] at h2 hm
      have a := h2 _ List.mem_cons_self
      have b := hall _ ((hm _).1 (Or.inr List.mem_cons_self))
      omega
    · exact hp
theorem fst_self {l : List Int} {x : Int} (h : Rises l) (hx : x ∈ l) : fst l x = some x := (fst_some h).2 ⟨hx, Int.le_refl _, fun _ _ hh => hh⟩
/-- What First tells. -/
def fstV (l : List Int) (x : Int) : Int := (fst l x).getD 0
def fstB (l : List Int) (x : Int) : Bool := (fst l x).isSome
theorem pos_eq {l : List Int} {x : Int} : pos l x < l.length ↔ fstB l x = true := by
  unfold fstB fst
  simp
theorem fstV_at {l : List Int} {x : Int} (h : pos l x < l.length) : fstV l x = l[pos l x] := by
  unfold fstV fst
  rw [List.getElem?_eq_getElem h]
  rfl
theorem fstV_no {l : List Int} {x : Int} (h : ¬ pos l x < l.length) : fstV l x = 0 := by
  unfold fstV fst
  rw [List.getElem?_eq_none (by omega)]
  rfl
end BG
end Go.Proofs.Ytomjaieplpjcpaa
