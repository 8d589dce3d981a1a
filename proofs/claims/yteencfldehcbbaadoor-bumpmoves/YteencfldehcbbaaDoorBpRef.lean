/- The document's spaces: rows of their parts, their state; New, Room. -/
import Derived.Test.YteencfldehcbbaaDoorBpRead
namespace Go.Proofs.YteencfldehcbbaaDoor
open Go.RowKit Go.Sort BP
set_option linter.unusedVariables false

/-- A part's three cells. -/
def encR (x : Nat × Nat) : List Value := [.int .i64 (x.1 : Nat), .int .i64 (x.2 : Nat), .bool (decide (1 < x.2))]
theorem encR_one (x : Nat × Nat) (v : Value) (h : v ∈ encR x) : v.oneCell' = true := by
  simp [encR] at h
  rcases h with rfl | rfl | rfl <;> rfl
def flatR (l : List (Nat × Nat)) : List Value := l.flatMap encR
theorem flatR_len (l : List (Nat × Nat)) : (flatR l).length = l.length * 3 := by
  induction l with
  | nil => rfl
  | cons x l ih => simp [flatR, encR] at *; omega
theorem flatR_app (xs ys : List (Nat × Nat)) : flatR (xs ++ ys) = flatR xs ++ flatR ys := by simp [flatR]
theorem flatR_one (l : List (Nat × Nat)) : ∀ u ∈ flatR l, u.oneCell' = true := by
  intro u hu
  obtain ⟨x, _, hx⟩ := List.mem_flatMap.1 hu
  exact encR_one x u hx
theorem flatR_get : ∀ (l : List (Nat × Nat)) (j : Nat) (x : Nat × Nat), l[j]? = some x → (flatR l)[j * 3]? = some (.int .i64 (x.1 : Nat)) ∧ (flatR l)[j * 3 + 1]? = some (.int .i64 (x.2 : Nat)) ∧ (flatR l)[j * 3 + 2]? = some (.bool (decide (1 < x.2)))
  | [], j, x, h => by simp at h
  | y :: l, 0, x, h => by
    simp at h
    subst h
    exact ⟨rfl, rfl, rfl⟩
  | y :: l, j + 1, x, h => by
    have ih := flatR_get l j x (by simpa using h)
    have e : flatR (y :: l) = .int .i64 (y.1 : Nat) :: .int .i64 (y.2 : Nat) :: .bool (decide (1 < y.2)) :: flatR l := rfl
    rw [e, show (j + 1) * 3 = j * 3 + 1 + 1 + 1 by omega]
    exact ⟨ih.1, ih.2.1, ih.2.2⟩
theorem infoRPart : ∃ i, Tryd.prog.info? 81 = some i ∧ i.zero = some (.agg #[.int .i64 0, .int .i64 0, .bool false]) ∧ i.size = 3 ∧ i.bytes = 24 := by
  have h : (Tryd.prog.info? 81).map (fun i => (i.zero, i.size, i.bytes)) = some (some (.agg #[.int .i64 0, .int .i64 0, .bool false]), 3, 24) := by kernel_rfl
  cases hh : Tryd.prog.info? 81 with
  | none => rw [hh] at h; cases h
  | some i =>
    rw [hh] at h
    simp at h
    exact ⟨i, rfl, h.1, h.2.1, h.2.2⟩
/-- A row of the document's parts. -/
def RR (w : World) (base : Nat) (v : Value) (l : List (Nat × Nat)) : Prop := w.ownsRow base 81 3 v l.length (flatR l)
section
variable {w w' : World} {base : Nat} {v : Value} {l : List (Nat × Nat)}
theorem RR.keep (h : RR w base v l) (e : ∀ g, v.ownBlock = some g → w'.heap[g]? = w.heap[g]?) : RR w' base v l := own_keep h e
theorem RR.lt (h : RR w base v l) : ∀ g, v.ownBlock = some g → base ≤ g ∧ g < w.heap.size := World.ownsRow.lt h
theorem RR.nil (w : World) (base : Nat) : RR w base (.slice none 0 0) [] := World.ownsRow_nil _ _ _ _
theorem RR.rd (h : RR w base v l) : ∃ A c, v = .slice A l.length c ∧ l.length ≤ c ∧ ∀ k x, l[k]? = some x → ∃ g, A = some ⟨g, 0, none⟩ ∧ base ≤ g ∧ g < w.heap.size ∧ w.cell? ⟨g, k * 3, none⟩ = some (.int .i64 (x.1 : Nat)) ∧ w.cell? ⟨g, k * 3 + 1, none⟩ = some (.int .i64 (x.2 : Nat)) ∧ w.cell? ⟨g, k * 3 + 2, none⟩ = some (.bool (decide (1 < x.2))) := by
  rcases h.2 with ⟨rfl, h0⟩ | ⟨g, cap, cur, rfl, hg, hh, hn, hm, hs, ht⟩
  · have : l = [] := List.length_eq_zero_iff.1 h0
    subst this
    exact ⟨none, 0, rfl, by simp, fun k x hx => by simp at hx⟩
  · refine ⟨_, cap, rfl, hn, fun k x hx => ⟨g, rfl, hg, (Array.getElem?_eq_some_iff.1 hh).1, ?_⟩⟩
    have hk : k < l.length := (List.getElem?_eq_some_iff.1 hx).1
    obtain ⟨q0, q1, q2⟩ := flatR_get l k x hx
    have hc : ∀ q, q < l.length * 3 → cur[q]? = (flatR l)[q]? := fun q hq => by
      rw [← ht, List.getElem?_take, if_pos hq]
      simp
    exact ⟨by simp [World.cell?, hh, hc (k * 3) (by omega), q0], by simp [World.cell?, hh, hc (k * 3 + 1) (by omega), q1], by simp [World.cell?, hh, hc (k * 3 + 2) (by omega), q2]⟩
end
/-- The present chunk, as the document has it. -/
def prI (x : Nat × Nat) : Int := if x = (0, 0) then -1 else (x.1 : Int)
/-- A space of the document's: its box p, its parts' slice v, z: what stands for filled. -/
structure RSp (w : World) (base p : Nat) (v : Value) (m o : Nat) (S : Sp) : Prop where
  box : ∃ z : Nat, (S.pr ≠ (0, 0) → z = S.fl) ∧ Whole w p 69 #[.pointer (some ⟨m, 0, none⟩), .int .i64 (o : Nat), v, .int .i64 (prI S.pr), .int .i64 (z : Nat)]
  row : RR w base v S.parts
  lo : base ≤ p
section
variable {w w' : World} {base p m o K : Nat} {v : Value} {S : Sp}
theorem RSp.lt (h : RSp w base p v m o S) : p < w.heap.size := by
  obtain ⟨z, _, hb⟩ := h.box
  exact hb.lt
theorem RSp.keep (h : RSp w base p v m o S) (e : ∀ k, k = p ∨ v.ownBlock = some k → w'.heap[k]? = w.heap[k]?) : RSp w' base p v m o S := by
  obtain ⟨z, hz, hb⟩ := h.box
  exact ⟨⟨z, hz, (e p (.inl rfl)).trans hb⟩, h.row.keep fun g hg => e g (.inr hg), h.lo⟩
theorem RSp.later (h : RSp w base p v m o S) (hb : Below w.heap.size w w') : RSp w' base p v m o S := h.keep fun k hk => hb.block k (by
  rcases hk with rfl | hk
  · exact h.lt
  · exact (h.row.lt k hk).2)
theorem RSp.ne (h : RSp w base p v m o S) : v.ownBlock ≠ some p := by
  obtain ⟨z, hz, hb⟩ := h.box
  exact own_ne h.row hb (by decide)
theorem RSp.c0 (h : RSp w base p v m o S) : w.cell? ⟨p, 0, none⟩ = some (.pointer (some ⟨m, 0, none⟩)) := by obtain ⟨z, hz, hb⟩ := h.box; exact (hb.cell 0).trans rfl
theorem RSp.c1 (h : RSp w base p v m o S) : w.cell? ⟨p, 1, none⟩ = some (.int .i64 (o : Nat)) := by obtain ⟨z, hz, hb⟩ := h.box; exact (hb.cell 1).trans rfl
theorem RSp.c2 (h : RSp w base p v m o S) : w.cell? ⟨p, 2, none⟩ = some v := by obtain ⟨z, hz, hb⟩ := h.box; exact (hb.cell 2).trans rfl
theorem RSp.c3 (h : RSp w base p v m o S) : w.cell? ⟨p, 3, none⟩ = some (.int .i64 (prI S.pr)) := by obtain ⟨z, hz, hb⟩ := h.box; exact (hb.cell 3).trans rfl
theorem RSp.c4 (h : RSp w base p v m o S) (hp : S.pr ≠ (0, 0)) : w.cell? ⟨p, 4, none⟩ = some (.int .i64 (S.fl : Nat)) := by obtain ⟨z, hz, hb⟩ := h.box; rw [← hz hp]; exact (hb.cell 4).trans rfl
/-- What New leaves. -/
def RBNewPost (m o : Nat) (w : World) (e : Ending) (w' : World) : Prop :=
  ∃ p, e = .returned (.pointer (some ⟨p, 0, none⟩)) ∧ RSp w' w.heap.size p (.slice none 0 0) m o ⟨[], (0, 0), 0⟩ ∧ Below w.heap.size w w'
theorem rbnew_ok (w : World) (m o : Nat) : Calls Tryd.prog 13 #[.pointer (some ⟨m, 0, none⟩), .int .i64 (o : Nat)] w (RBNewPost m o w) := by
  have hb := (Below.refl w.heap.size w).alloc (Nat.le_refl _) (.cells #[.pointer (some ⟨m, 0, none⟩), .int .i64 (o : Nat), .slice none 0 0, .int .i64 (-1), .int .i64 0] 69)
  have HB := Lib.hid hb
  clear hb
  go_enter Tryd.func13, Tryd.ntmps13
  go_wp2
  go_ret
  exact ⟨w.heap.size, rfl, ⟨⟨0, fun h => absurd rfl h, Whole.fresh w _ _⟩, RR.nil _ _, Nat.le_refl _⟩, HB.out⟩
set_option maxHeartbeats 1000000 in
theorem rroom_any (h : RSp w base p v m o S) (h1 : w.cell? ⟨m, 1, none⟩ = some (.int .i64 K)) (hK : K ≤ 1024) (hf : S.fl ≤ K) : Calls Tryd.prog 19 #[.pointer (some ⟨p, 0, none⟩)] w fun e w' => e = .returned (.int .i64 (room K S : Nat)) ∧ Below w.heap.size w w' := by
  have c0 := h.c0
  have c3 := h.c3
  unfold room
  by_cases hz : S.pr = (0, 0)
  · rw [if_pos hz]
    unfold prI at c3
    rw [if_pos hz] at c3
    go_enter Tryd.func19, Tryd.ntmps19
    go_wp2
    go_ret
    exact ⟨rfl, Below.refl _ _⟩
  · rw [if_neg hz]
    unfold prI at c3
    rw [if_neg hz] at c3
    have c4 := h.c4 hz
    have e1 := Lib.hid (show ((K - S.fl : Nat) : Int) = (K : Int) - (S.fl : Int) by omega)
    have y1 := wrapOk ((K : Int) - (S.fl : Int)) (by omega) (by omega)
    generalize S.pr.1 = a at *
    generalize S.fl = fl at *
    have HB := Lib.hid (Below.refl w.heap.size w)
    clear h hz
    go_enter Tryd.func19, Tryd.ntmps19
    go_wp2
    go_quiet (fail)
    go_wp2
    go_ret
    exact ⟨ret_int e1.out.symm, below_drewN HB.out _⟩
end
end Go.Proofs.YteencfldehcbbaaDoor
