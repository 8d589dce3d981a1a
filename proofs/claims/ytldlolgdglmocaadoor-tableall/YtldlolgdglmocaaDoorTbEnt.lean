/- Rows of entries of a law's own. -/
import Derived.Test.YtldlolgdglmocaaDoorTbGrown
import Derived.Test.YtldlolgdglmocaaDoorTbSetM
namespace Go.Proofs.YtldlolgdglmocaaDoor
open Go.RowKit

def encE (x : En) : List Value := [.int .i64 x.a, .int .i64 x.r, .bool x.h, .bool x.p]
def flatE (l : List En) : List Value := l.flatMap encE
theorem flatE_len (l : List En) : (flatE l).length = l.length * 4 := by
  induction l with
  | nil => rfl
  | cons x l ih => simp [flatE, encE] at *; omega
theorem flatE_app (xs ys : List En) : flatE (xs ++ ys) = flatE xs ++ flatE ys := by simp [flatE]
theorem flatE_one (l : List En) : ∀ u ∈ flatE l, u.oneCell' = true := by
  intro u hu
  obtain ⟨x, _, hx⟩ := List.mem_flatMap.1 hu
  simp [encE] at hx
  rcases hx with rfl | rfl | rfl | rfl <;> rfl
theorem flatE_get : ∀ (l : List En) (j : Nat) (x : En), l[j]? = some x → (flatE l)[j * 4]? = some (.int .i64 x.a) ∧ (flatE l)[j * 4 + 1]? = some (.int .i64 x.r) ∧ (flatE l)[j * 4 + 2]? = some (.bool x.h) ∧ (flatE l)[j * 4 + 3]? = some (.bool x.p)
  | [], j, x, h => by simp at h
  | y :: l, 0, x, h => by
    simp at h
    subst h
    exact ⟨rfl, rfl, rfl, rfl⟩
  | y :: l, j + 1, x, h => by
    have ih := flatE_get l j x (by simpa using h)
    have e : flatE (y :: l) = .int .i64 y.a :: .int .i64 y.r :: .bool y.h :: .bool y.p :: flatE l := rfl
    rw [e, show (j + 1) * 4 = j * 4 + 1 + 1 + 1 + 1 by omega]
    exact ⟨ih.1, ih.2.1, ih.2.2.1, ih.2.2.2⟩
theorem infoEnt_parts : ∃ i, Tryd.prog.info? 35 = some i ∧ i.zero = some (.agg #[.int .i64 0, .int .i64 0, .bool false, .bool false]) ∧ i.size = 4 ∧ i.bytes = 24 := by
  have h : (Tryd.prog.info? 35).map (fun i => (i.zero, i.size, i.bytes)) = some (some (.agg #[.int .i64 0, .int .i64 0, .bool false, .bool false]), 4, 24) := by kernel_rfl
  cases hh : Tryd.prog.info? 35 with
  | none => rw [hh] at h; cases h
  | some i =>
    rw [hh] at h
    simp at h
    exact ⟨i, rfl, h.1, h.2.1, h.2.2⟩
/-- A row of entries, its memory from block base on. -/
def ER (w : World) (base : Nat) (v : Value) (l : List En) : Prop := w.ownsRow base 35 4 v l.length (flatE l)
section
variable {w w' : World} {base : Nat} {v : Value} {l : List En}
theorem ER.keep (h : ER w base v l) (e : ∀ g, base ≤ g → g < w.heap.size → w'.heap[g]? = w.heap[g]?) : ER w' base v l := by
  refine ⟨h.1, ?_⟩
  rcases h.2 with h0 | ⟨g, cap, cur, rfl, hg, hh, hn, hm, hs, ht⟩
  · exact .inl h0
  · exact .inr ⟨g, cap, cur, rfl, hg, (e g hg (Array.getElem?_eq_some_iff.1 hh).1).trans hh, hn, hm, hs, ht⟩
theorem ER.below (h : ER w base v l) (hb : Below w.heap.size w w') : ER w' base v l := h.keep fun g _ hl => hb.block g hl
theorem ER.aft {L : List Nat} (h : ER w base v l) (hb : Aft L w w') (hl : ∀ x ∈ L, x < base) : ER w' base v l := h.keep fun g hg hlt => hb.block g hlt (fun hx => by have := hl g hx; omega)
theorem ER.nil (w : World) (base : Nat) : ER w base (.slice none 0 0) [] := World.ownsRow_nil _ _ _ _
theorem ER.at_ (h : ER w base v l) {k : Nat} (hk : k < l.length) : ∃ g cap, v = .slice (some ⟨g, 0, none⟩) l.length cap ∧ base ≤ g ∧ g < w.heap.size ∧ w.cell? ⟨g, k * 4, none⟩ = some (.int .i64 l[k].a) ∧ w.cell? ⟨g, k * 4 + 1, none⟩ = some (.int .i64 l[k].r) ∧ w.cell? ⟨g, k * 4 + 2, none⟩ = some (.bool l[k].h) ∧ w.cell? ⟨g, k * 4 + 3, none⟩ = some (.bool l[k].p) := by
  rcases h.2 with ⟨rfl, h0⟩ | ⟨g, cap, cur, rfl, hg, hh, hn, hm, hs, ht⟩
  · omega
  · have hq := flatE_get l k l[k] (List.getElem?_eq_getElem hk)
    have hc : ∀ q, q < l.length * 4 → cur[q]? = (flatE l)[q]? := fun q hq => by
      rw [← ht, List.getElem?_take, if_pos hq]
      simp
    refine ⟨g, cap, rfl, hg, (Array.getElem?_eq_some_iff.1 hh).1, ?_, ?_, ?_, ?_⟩
    · simp [World.cell?, hh, hc (k * 4) (by omega), hq.1]
    · simp [World.cell?, hh, hc (k * 4 + 1) (by omega), hq.2.1]
    · simp [World.cell?, hh, hc (k * 4 + 2) (by omega), hq.2.2.1]
    · simp [World.cell?, hh, hc (k * 4 + 3) (by omega), hq.2.2.2]
end
set_option maxRecDepth 10000 in
/-- 'was = append(was, z)': z in a block of its own. -/
theorem append_ent (w : World) {ops : Array Oper} {rest : List Oper} {o : Oper} {a : Act} {Q : Exit → Act → World → Prop} (hgd : o.guard = none) (s x : Operand)
    (ho : o.op = .call { callee := .builtin .append, args := #[s, x], argTypes := #[60, 60] })
    (base : Nat) (v : Value) (l : List En) (hs : a.eval s = v) (hown : ER w base v l)
    (g : Nat) (t : TypeId) (z : En) (hx : a.eval x = .slice (some ⟨g, 0, none⟩) 1 1) (hw : Whole w g t #[.int .i64 z.a, .int .i64 z.r, .bool z.h, .bool z.p])
    (h63 : l.length ≤ 1000000) (hbase : base ≤ w.heap.size)
    (h : ∀ v' w', ER w' base v' (l ++ [z]) → w.grownBy w' v.ownBlock → wpList Tryd.prog ops Q rest (a.put o.dst v') w') : wpList Tryd.prog ops Q (o :: rest) a w := by
  obtain ⟨i0, hi0, hz0, hz1, hz2⟩ := infoEnt_parts
  obtain ⟨k0, k1, k2, k3⟩ := hw.four
  refine wpList_append_own_at w hgd s x 60 ho base 35 i0 _ 4 24 Tryd.underlying60 hi0 hz0 hz1 hz2 rfl (by decide) v l.length (flatE l) hs hown ⟨g, 0, none⟩ 1 1 (flatE [z]) hx (by rw [flatE_len]; rfl) ?_ (flatE_one _) (by unfold maxLen; omega) (by omega) hbase ?_
  · intro j u hu
    have hj : j < 4 := by
      have := (List.getElem?_eq_some_iff.1 hu).1
      rw [flatE_len] at this
      simpa using this
    match j, hj with
    | 0, _ => simp [flatE, encE] at hu; subst hu; exact k0
    | 1, _ => simp [flatE, encE] at hu; subst hu; exact k1
    | 2, _ => simp [flatE, encE] at hu; subst hu; exact k2
    | 3, _ => simp [flatE, encE] at hu; subst hu; exact k3
  · intro v' w' h1 h2 _ _
    refine h v' w' ?_ h2
    unfold ER
    rw [flatE_app, List.length_append]
    exact h1
end Go.Proofs.YtldlolgdglmocaaDoor
