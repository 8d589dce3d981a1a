/- Rows of references of a call's own. -/
import Derived.Test.YtehkcflbdmkjpaaRsKey
import Derived.Lib.OwnBridge
import Derived.Laws.AppendOwn
import Derived.Maps.AppendAt
namespace Go.Proofs.Ytehkcflbdmkjpaa
open Go.RowKit Go.Sort

/-- A reference's two cells. -/
def encT (x : RM.R) : List Value := [.int .i64 x.1, .int .i64 x.2]
theorem encT_len (x : RM.R) : (encT x).length = 2 := rfl
theorem encT_one (x : RM.R) (v : Value) (h : v ∈ encT x) : v.oneCell' = true := by
  simp [encT] at h
  rcases h with rfl | rfl <;> rfl
/-- The cells of a list of references. -/
def flatT (l : List RM.R) : List Value := l.flatMap encT
theorem flatT_len (l : List RM.R) : (flatT l).length = l.length * 2 := by
  induction l with
  | nil => rfl
  | cons x l ih => simp [flatT, encT] at *; omega
theorem flatT_app (xs ys : List RM.R) : flatT (xs ++ ys) = flatT xs ++ flatT ys := by simp [flatT]
theorem flatT_get : ∀ (l : List RM.R) (j : Nat) (x : RM.R), l[j]? = some x → (flatT l)[j * 2]? = some (.int .i64 x.1) ∧ (flatT l)[j * 2 + 1]? = some (.int .i64 x.2)
  | [], j, x, h => by simp at h
  | y :: l, 0, x, h => by
    simp at h
    subst h
    exact ⟨rfl, rfl⟩
  | y :: l, j + 1, x, h => by
    have ih := flatT_get l j x (by simpa using h)
    have e : flatT (y :: l) = .int .i64 y.1 :: .int .i64 y.2 :: flatT l := rfl
    rw [e, show (j + 1) * 2 = j * 2 + 1 + 1 by omega]
    exact ⟨ih.1, ih.2⟩
theorem infoRef : ∃ i, Try.prog.info? 24 = some i ∧ i.zero = some (.agg #[.int .i64 0, .int .i64 0]) ∧ i.size = 2 ∧ i.bytes = 16 := by
  have h : (Try.prog.info? 24).map (fun i => (i.zero, i.size, i.bytes)) = some (some (.agg #[.int .i64 0, .int .i64 0]), 2, 16) := by kernel_rfl
  cases hh : Try.prog.info? 24 with
  | none => rw [hh] at h; cases h
  | some i =>
    rw [hh] at h
    simp at h
    exact ⟨i, rfl, h.1, h.2.1, h.2.2⟩

/-- A row of references, its memory from block base on. -/
def NewT (base : Nat) (w : World) (v : Value) (l : List RM.R) : Prop := w.ownsRow base 24 2 v l.length (flatT l)
section
variable {w w' : World} {base b : Nat} {v : Value} {l : List RM.R} {S : List Nat}
theorem NewT.own (h : NewT base w v l) : w.ownsRow base 24 2 v l.length (flatT l) := h
theorem NewT.nil (base : Nat) (w : World) : NewT base w (.slice none 0 0) [] := World.ownsRow_nil _ _ _ _
theorem NewT.keep (h : NewT base w v l) (e : ∀ g, v.ownBlock = some g → base ≤ g → (∃ cs, Whole w g 24 cs) → w'.heap[g]? = w.heap[g]?) : NewT base w' v l := by
  rcases h with ⟨h1, h2⟩
  refine ⟨h1, ?_⟩
  rcases h2 with h2 | ⟨g, cap, cur, rfl, hg, hh, r⟩
  · exact .inl h2
  · exact .inr ⟨g, cap, cur, rfl, hg, (e g rfl hg ⟨cur, hh⟩).trans hh, r⟩
theorem NewT.below (h : NewT base w v l) (k : Below w.heap.size w w') : NewT base w' v l := h.keep fun g _ _ ⟨_, hg⟩ => k.block g hg.lt
theorem NewT.drewN (h : NewT base w v l) (m : Nat) : NewT base (w.drewN m) v l := h.keep fun _ _ _ _ => rfl
/-- A call that writes maps alone leaves the row as it is. -/
theorem NewT.aft (h : NewT base w v l) (k : Aft S w w') (hS : ∀ x ∈ S, MapB w x) : NewT base w' v l := h.keep fun g _ _ ⟨_, hg⟩ =>
  k.block g hg.lt fun hx => (hS g hx).ne hg rfl
theorem NewT.far (h : NewT base w v l) (k : Aft S w w') (hS : ∀ s ∈ S, s < base) : NewT base w' v l := h.keep fun g _ hg ⟨_, hw⟩ =>
  k.block g hw.lt fun hs => by have := hS g hs; omega
theorem NewT.less (h : NewT base w v l) {base' : Nat} (hb : base' ≤ base) : NewT base' w v l := World.ownsRow.mono h hb
theorem NewT.slice (h : NewT base w v l) : ∃ A c, v = .slice A l.length c ∧ l.length ≤ c := by
  rcases h.2 with ⟨rfl, h0⟩ | ⟨g, cap, cur, rfl, _, _, hn, _⟩
  · exact ⟨none, 0, by rw [h0], by omega⟩
  · exact ⟨_, cap, rfl, hn⟩
theorem NewT.cell (h : NewT base w v l) {k : Nat} (hk : k < l.length) : ∃ g cap, v = .slice (some ⟨g, 0, none⟩) l.length cap ∧ base ≤ g ∧ g < w.heap.size ∧ w.cell? ⟨g, k * 2, none⟩ = some (.int .i64 l[k].1) ∧ w.cell? ⟨g, k * 2 + 1, none⟩ = some (.int .i64 l[k].2) := by
  rcases h.2 with ⟨rfl, h0⟩ | ⟨g, cap, cur, rfl, hg, hh, hn, hm, hs, ht⟩
  · omega
  · have hq := flatT_get l k l[k] (List.getElem?_eq_getElem hk)
    have hc : ∀ q, q < l.length * 2 → cur[q]? = (flatT l)[q]? := fun q hq => by
      rw [← ht, List.getElem?_take, if_pos hq]
      simp
    refine ⟨g, cap, rfl, hg, (Array.getElem?_eq_some_iff.1 hh).1, ?_, ?_⟩
    · simp [World.cell?, hh, hc (k * 2) (by omega), hq.1]
    · simp [World.cell?, hh, hc (k * 2 + 1) (by omega), hq.2]
theorem NewT.ne (h : NewT base w v l) {t : TypeId} {cs : Array Value} (hb : Whole w b t cs) (ht : t ≠ 24) : ∀ g, v.ownBlock = some g → g ≠ b := by
  intro g hg e
  rcases h.2 with ⟨rfl, h0⟩ | ⟨g', cap, cur, rfl, _, hh, _⟩
  · simp [Value.ownBlock] at hg
  · simp [Value.ownBlock] at hg
    subst hg e
    unfold Whole at hb
    rw [hb] at hh
    injection hh with hh
    injection hh with _ hh
    exact ht hh
end
theorem take_putCellsV (cur : Array Value) (ts : List Value) (h : ts.length ≤ cur.size) : (putCells id 0 ts.toArray cur).toList.take ts.length = ts := by
  apply List.ext_getElem?
  intro j
  by_cases hj : j < ts.length
  · rw [List.getElem?_take_of_lt hj, Array.getElem?_toList]
    simp [putCells, hj, show j < cur.size by omega]
  · rw [List.getElem?_take_eq_none (by omega), List.getElem?_eq_none (by omega)]
end Go.Proofs.Ytehkcflbdmkjpaa
