/- Contract of slices.DeleteFunc over parts, and of remove. -/
import Derived.Test.YteencfldehcbbaaDoorBpDel
namespace Go.Proofs.YteencfldehcbbaaDoor
open Go.RowKit Go.Sort BP
set_option linter.unusedVariables false

theorem flatP_take (l : List (Nat × Nat)) (m : Nat) : (flatP l).take (m * 2) = flatP (l.take m) := by
  induction l generalizing m with
  | nil => simp [flatP]
  | cons x l ih =>
    cases m with
    | zero => simp [flatP]
    | succ m =>
      have e : ∀ l', flatP (x :: l') = .int .i64 (x.1 : Nat) :: .int .i64 (x.2 : Nat) :: flatP l' := fun _ => rfl
      rw [e, List.take_succ_cons, e, show (m + 1) * 2 = m * 2 + 1 + 1 by omega, List.take_succ_cons, List.take_succ_cons, ih]
theorem flatP_set (l : List (Nat × Nat)) (i : Nat) (x : Nat × Nat) : flatP (l.set i x) = ((flatP l).set (i * 2) (.int .i64 (x.1 : Nat))).set (i * 2 + 1) (.int .i64 (x.2 : Nat)) := by
  induction l generalizing i with
  | nil => simp [flatP]
  | cons y l ih =>
    have e : ∀ z l', flatP (z :: l') = .int .i64 (z.1 : Nat) :: .int .i64 (z.2 : Nat) :: flatP l' := fun _ _ => rfl
    cases i with
    | zero => simp [e]
    | succ i => rw [List.set_cons_succ, e, ih, e, show (i + 1) * 2 = i * 2 + 1 + 1 by omega, List.set_cons_succ, List.set_cons_succ, List.set_cons_succ, List.set_cons_succ]
section
variable {w w' : World} {base g n cap : Nat} {l : List (Nat × Nat)}
theorem PR.open_ (h : PR w base (.slice (some ⟨g, 0, none⟩) n cap) l) : n = l.length ∧ base ≤ g ∧ n ≤ cap ∧ cap ≤ maxLen ∧ ∃ cur, Whole w g 77 cur ∧ cur.size = cap * 2 ∧ cur.toList.take (l.length * 2) = flatP l := by
  rcases h.2 with ⟨e, _⟩ | ⟨g', cap', cur, e, hB, hh, hn, hm, hcur, htake⟩
  · cases e
  · injection e with e1 e2 e3
    injection e1 with e1
    injection e1 with e1
    subst e1 e2 e3
    exact ⟨rfl, hB, hn, hm, cur, hh, hcur, htake⟩
theorem PR.mk_ (hn : l.length ≤ cap) (hB : base ≤ g) (hm : cap ≤ maxLen) {cur : Array Value} (hw : Whole w g 77 cur) (hc : cur.size = cap * 2) (ht : cur.toList.take (l.length * 2) = flatP l) : PR w base (.slice (some ⟨g, 0, none⟩) l.length cap) l :=
  ⟨flatP_len l, .inr ⟨g, cap, cur, rfl, hB, hw, hn, hm, hc, ht⟩⟩
theorem PR.cut (h : PR w base (.slice (some ⟨g, 0, none⟩) n cap) l) (m : Nat) (hm : m ≤ l.length) : PR w base (.slice (some ⟨g, 0, none⟩) m cap) (l.take m) := by
  obtain ⟨h1, h2, h3, h4, cur, h5, h6, h7⟩ := h.open_
  have e : (l.take m).length = m := by rw [List.length_take]; omega
  have := PR.mk_ (l := l.take m) (w := w) (base := base) (g := g) (cap := cap) (by omega) h2 h4 h5 h6 (by rw [e, ← flatP_take, ← h7, List.take_take, Nat.min_eq_left (by omega)])
  rwa [e] at this
theorem PR.setFar (h : PR w base (.slice (some ⟨g, 0, none⟩) n cap) l) (q : Nat) (u : Value) (hq : l.length * 2 ≤ q) : PR (w.setCell ⟨g, q, none⟩ u) base (.slice (some ⟨g, 0, none⟩) n cap) l := by
  obtain ⟨h1, h2, h3, h4, cur, h5, h6, h7⟩ := h.open_
  subst h1
  refine PR.mk_ h3 h2 h4 (h5.set q u) (by simp [h6]) ?_
  rw [Array.toList_setIfInBounds, List.take_set_of_le hq]
  exact h7
theorem PR.setsFar : ∀ (vs : List Value) {w : World} (q : Nat), PR w base (.slice (some ⟨g, 0, none⟩) n cap) l → l.length * 2 ≤ q → PR (w.setCells g q vs) base (.slice (some ⟨g, 0, none⟩) n cap) l
  | [], _, _, h, _ => h
  | v :: vs, w, q, h, hq => PR.setsFar vs (q + 1) (h.setFar q v hq) (by omega)
theorem PR.set_ (h : PR w base (.slice (some ⟨g, 0, none⟩) n cap) l) (i : Nat) (x : Nat × Nat) (hi : i < l.length) : PR ((w.setCell ⟨g, i * 2, none⟩ (.int .i64 (x.1 : Nat))).setCell ⟨g, i * 2 + 1, none⟩ (.int .i64 (x.2 : Nat))) base (.slice (some ⟨g, 0, none⟩) n cap) (l.set i x) := by
  obtain ⟨h1, h2, h3, h4, cur, h5, h6, h7⟩ := h.open_
  subst h1
  have e : (l.set i x).length = l.length := List.length_set
  have := PR.mk_ (l := l.set i x) (base := base) (g := g) (cap := cap) (by omega) h2 h4 ((h5.set (i * 2) (.int .i64 (x.1 : Nat))).set (i * 2 + 1) (.int .i64 (x.2 : Nat))) (by simp [h6]) (by
    rw [e, flatP_set, ← h7, Array.toList_setIfInBounds, Array.toList_setIfInBounds, List.take_set, List.take_set])
  rwa [e] at this
end
theorem zerosP (n : Nat) : ∀ u ∈ (Builtin.zeroCells #[.int .i64 0, .int .i64 0] n).toList, u = .int .i64 0 := by
  intro u hu
  simp [Builtin.zeroCells] at hu
  obtain ⟨i, hi, e⟩ := hu
  rcases Nat.mod_two_eq_zero_or_one i with h | h
  · rw [← e]; simp [h]
  · rw [← e]; simp [h]
theorem clearP (w : World) (ty : TypeId) (g o n c : Nat) (hn : 0 < n) (hc : ∀ j, j < n * 2 → (w.cell? ⟨g, o + j, none⟩).isSome = true) (hf : ∀ j, j < n * 2 → w.frozen? ⟨g, o + j, none⟩ = false) :
    ∃ vs, (Builtin.clear_ #[75] ty #[.slice (some ⟨g, o, none⟩) n c]).run Tryd.prog w = .ok (.tuple #[]) (w.setCells g o vs) := by
  have hl : (Builtin.zeroCells #[.int .i64 0, .int .i64 0] n).toList.length = n * 2 := by simp [Builtin.zeroCells]
  have hst := run_storeCells_cells (P := Tryd.prog) g o (Builtin.zeroCells #[.int .i64 0, .int .i64 0] n).toList 0 w (by rw [hl]; simpa using hc) (by rw [hl]; simpa using hf) (by intro v hv; rw [zerosP n v hv]; rfl)
  simp only [Nat.add_zero] at hst
  refine ⟨(Builtin.zeroCells #[.int .i64 0, .int .i64 0] n).toList, ?_⟩
  have hz := Tryd.zeroValue77
  have ht := Tryd.underlying75
  obtain ⟨m, rfl⟩ : ∃ m, n = m + 1 := ⟨n - 1, by omega⟩
  simp [Builtin.clear_, run_underlying ht, hz, Value.cells]
  rw [hst]
  rfl
/-- What is left of the first j, then what was. -/
def keptP (q : Nat × Nat → Bool) (P : List (Nat × Nat)) (i j : Nat) : List (Nat × Nat) := (P.take j).filter (fun x => !q x) ++ P.drop i
structure KI (q : Nat × Nat → Bool) (P : List (Nat × Nat)) (i j : Nat) : Prop where
  len : ((P.take j).filter fun x => !q x).length = i
  lt : i < j
  le : j ≤ P.length
theorem KI.plen {q : Nat × Nat → Bool} {P : List (Nat × Nat)} {i j : Nat} (h : KI q P i j) : (keptP q P i j).length = P.length := by
  unfold keptP
  have := h.lt
  have := h.le
  rw [List.length_append, h.len, List.length_drop]
  omega
theorem KI.get {q : Nat × Nat → Bool} {P : List (Nat × Nat)} {i j k : Nat} (h : KI q P i j) (hk : i ≤ k) : (keptP q P i j)[k]? = P[k]? := by
  unfold keptP
  rw [List.getElem?_append_right (by rw [h.len]; exact hk), h.len, List.getElem?_drop]
  congr 1
  omega
theorem filter_all {q : Nat × Nat → Bool} : ∀ {l : List (Nat × Nat)}, (∀ (i : Nat) (x : Nat × Nat), l[i]? = some x → q x = false) → (l.filter fun x => !q x) = l := fun {l} h => List.filter_eq_self.2 fun x hx => by
  obtain ⟨i, hi⟩ := List.mem_iff_getElem?.1 hx
  simp [h i x hi]
theorem KI.start {q : Nat × Nat → Bool} {P : List (Nat × Nat)} {k : Nat} (hk : k < P.length) (h1 : ∀ x, P[k]? = some x → q x = true) (h2 : ∀ (i : Nat) (x : Nat × Nat), i < k → P[i]? = some x → q x = false) : KI q P k (k + 1) ∧ keptP q P k (k + 1) = P := by
  have e : (P.take (k + 1)).filter (fun x => !q x) = P.take k := by
    rw [List.take_add_one, List.getElem?_eq_getElem hk, List.filter_append]
    have := h1 _ (List.getElem?_eq_getElem hk)
    rw [filter_all fun i x hx => by
      rw [List.getElem?_take] at hx
      split at hx
      · exact h2 i x (by omega) hx
      · cases hx]
    simp [this]
  refine ⟨⟨by rw [e, List.length_take]; omega, by omega, hk⟩, ?_⟩
  unfold keptP
  rw [e, List.take_append_drop]
theorem KI.skip {q : Nat × Nat → Bool} {P : List (Nat × Nat)} {i j : Nat} {x : Nat × Nat} (h : KI q P i j) (hx : P[j]? = some x) (hq : q x = true) : KI q P i (j + 1) ∧ keptP q P i (j + 1) = keptP q P i j := by
  have hj : j < P.length := (List.getElem?_eq_some_iff.1 hx).1
  have e : (P.take (j + 1)).filter (fun x => !q x) = (P.take j).filter (fun x => !q x) := by
    rw [List.take_add_one, hx, List.filter_append]
    simp [hq]
  refine ⟨⟨by rw [e]; exact h.len, by have := h.lt; omega, hj⟩, ?_⟩
  unfold keptP
  rw [e]
theorem KI.keep {q : Nat × Nat → Bool} {P : List (Nat × Nat)} {i j : Nat} {x : Nat × Nat} (h : KI q P i j) (hx : P[j]? = some x) (hq : q x = false) : KI q P (i + 1) (j + 1) ∧ keptP q P (i + 1) (j + 1) = (keptP q P i j).set i x := by
  have hj : j < P.length := (List.getElem?_eq_some_iff.1 hx).1
  have hi := h.lt
  have e : (P.take (j + 1)).filter (fun x => !q x) = (P.take j).filter (fun x => !q x) ++ [x] := by
    rw [List.take_add_one, hx, List.filter_append]
    simp [hq]
  refine ⟨⟨by rw [e, List.length_append, h.len]; rfl, by omega, hj⟩, ?_⟩
  unfold keptP
  rw [e, List.set_append_right _ _ (by rw [h.len]; exact Nat.le_refl _), h.len, Nat.sub_self]
  rw [List.drop_eq_getElem_cons (show i < P.length by omega), List.set_cons_zero, List.append_assoc]
  rfl
end Go.Proofs.YteencfldehcbbaaDoor
