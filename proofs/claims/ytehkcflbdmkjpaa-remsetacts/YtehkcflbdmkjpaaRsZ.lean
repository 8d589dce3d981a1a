/- Rows of numbers of a law's own; what each act's reference goes to. -/
import Derived.Test.YtehkcflbdmkjpaaRsAct
import Derived.BigQuiet
namespace Go.Proofs.Ytehkcflbdmkjpaa
open Go.RowKit Go.Maps Go.Sort

theorem infoInt : ∃ i, Try.prog.info? 3 = some i ∧ i.zero = some (.int .i64 0) ∧ i.size = 1 ∧ i.bytes = 8 := by
  have h : (Try.prog.info? 3).map (fun i => (i.zero, i.size, i.bytes)) = some (some (.int .i64 0), 1, 8) := by kernel_rfl
  cases hh : Try.prog.info? 3 with
  | none => rw [hh] at h; cases h
  | some i =>
    rw [hh] at h
    simp at h
    exact ⟨i, rfl, h.1, h.2.1, h.2.2⟩
/-- A row of numbers, its memory from block base on. -/
def NewZ (base : Nat) (w : World) (v : Value) (l : List Int) : Prop := w.ownsRow base 3 1 v l.length (l.map (Value.int .i64))
section
variable {w w' : World} {base : Nat} {v : Value} {l : List Int} {S : List Nat}
theorem NewZ.own (h : NewZ base w v l) : w.ownsRow base 3 1 v l.length (l.map (Value.int .i64)) := h
theorem NewZ.nil (base : Nat) (w : World) : NewZ base w (.slice none 0 0) [] := World.ownsRow_nil _ _ _ _
theorem NewZ.keep (h : NewZ base w v l) (e : ∀ g, v.ownBlock = some g → base ≤ g → (∃ cs, Whole w g 3 cs) → w'.heap[g]? = w.heap[g]?) : NewZ base w' v l := by
  rcases h with ⟨h1, h2⟩
  refine ⟨h1, ?_⟩
  rcases h2 with h2 | ⟨g, cap, cur, rfl, hg, hh, r⟩
  · exact .inl h2
  · exact .inr ⟨g, cap, cur, rfl, hg, (e g rfl hg ⟨cur, hh⟩).trans hh, r⟩
theorem NewZ.md (h : NewZ base w v l) (k : Md w w') : NewZ base w' v l := h.keep fun g _ _ ⟨_, hg⟩ => k.block g hg.lt (whole_notmap hg)
theorem NewZ.below (h : NewZ base w v l) (k : Below w.heap.size w w') : NewZ base w' v l := h.md (Md.of_below k)
theorem NewZ.slice (h : NewZ base w v l) : ∃ A c, v = .slice A l.length c ∧ l.length ≤ c := by
  rcases h.2 with ⟨rfl, h0⟩ | ⟨g, cap, cur, rfl, _, _, hn, _⟩
  · exact ⟨none, 0, by rw [h0], by omega⟩
  · exact ⟨_, cap, rfl, hn⟩
theorem NewZ.cell (h : NewZ base w v l) {k : Nat} (hk : k < l.length) : ∃ g cap, v = .slice (some ⟨g, 0, none⟩) l.length cap ∧ base ≤ g ∧ g < w.heap.size ∧ w.cell? ⟨g, k, none⟩ = some (.int .i64 l[k]) := by
  rcases h.2 with ⟨rfl, h0⟩ | ⟨g, cap, cur, rfl, hg, hh, hn, hm, hs, ht⟩
  · omega
  · refine ⟨g, cap, rfl, hg, (Array.getElem?_eq_some_iff.1 hh).1, ?_⟩
    have hc : cur[k]? = (l.map (Value.int .i64))[k]? := by
      rw [← ht, List.getElem?_take, if_pos (by omega)]
      simp
    simp [World.cell?, hh, hc, hk]
theorem NewZ.snoc {x : Int} (h : w.ownsRow base 3 1 v (l.length + 1) (l.map (Value.int .i64) ++ [.int .i64 x])) : NewZ base w v (l ++ [x]) := by
  unfold NewZ
  rw [List.map_append, List.length_append]
  exact h
end
/-- What the acts' references go to. -/
def goesTo (L : RM.L) (l : List RM.Act) : List Int := l.map fun a => RM.toV L a.r
theorem goesTo_len (L : RM.L) (l : List RM.Act) : (goesTo L l).length = l.length := by simp [goesTo]
theorem goesTo_take (L : RM.L) {l : List RM.Act} {k : Nat} (h : k < l.length) : goesTo L (l.take (k + 1)) = goesTo L (l.take k) ++ [RM.toV L l[k].r] := by
  unfold goesTo
  rw [List.take_succ_eq_append_getElem h, List.map_append]
  rfl
theorem goesTo_at (L : RM.L) {l : List RM.Act} {k : Nat} (h : k < (goesTo L l).length) : (goesTo L l)[k] = RM.toV L (l[k]'(by rw [goesTo_len] at h; exact h)).r := by simp [goesTo]
/-- An act's box. -/
def ActB (a : RM.Act) : Obj := .cells #[.int .i64 a.k, .int .i64 a.s, .int .i64 a.p, .int .i64 a.n] 42
end Go.Proofs.Ytehkcflbdmkjpaa
