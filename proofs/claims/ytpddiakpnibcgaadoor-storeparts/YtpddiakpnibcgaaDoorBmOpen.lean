/- How the laws' arguments are opened: slices of acts, arrays of ints. -/
import Derived.Test.YtpddiakpnibcgaaDoorBmLaid
import Derived.Deep.Slices
import Derived.Deep.Fields
import Derived.ChangeSame
import Derived.Test.YtpddiakpnibcgaaDoorBmAct
namespace Go.Proofs.YtpddiakpnibcgaaDoor
open Go.ChangeShapes Go.WideShapes Go.ChangeAt Go.RowKit Go.Joins Go.Deep

section
variable {H : Type} {enc : TypeId × Value → H} {w : World} {spare : Nat → Bool} {held : Bool}
theorem addr_plain {a : Addr} {i : Nat} {v : Value} (h : w.cell? (a.add i) = some v) : a.add i = ⟨a.block, a.off + i, none⟩ := by
  have hs := World.cell?_spot h
  obtain ⟨b, off, spot⟩ := a
  unfold Addr.add at hs ⊢
  by_cases hi : i = 0
  · subst hi
    simp at hs
    simp [hs]
  · simp [hi]
theorem cell_lt {a : Addr} {v : Value} (h : w.cell? a = some v) : a.block < w.heap.size := by
  rcases Nat.lt_or_ge a.block w.heap.size with hl | hg
  · exact hl
  · simp [World.cell?, Array.getElem?_eq_none hg] at h

/-- One cell of a struct's row. -/
theorem one_field {cs : List Value} {a : Addr} {i j : Nat} {v : Value} (hc : ∀ j, j < 4 → w.cell? ((a.add (i * 4)).add j) = cs[j]?) (hj : j < 4) (h : (cs.drop j).take 1 = [v]) :
    w.cell? ⟨a.block, a.off + i * 4 + j, none⟩ = some v := by
  have h0 : cs[j]? = some v := by
    have : ((cs.drop j).take 1)[0]? = some v := by rw [h]; rfl
    simpa using this
  have h1 := hc j hj
  rw [h0, add_add] at h1
  rw [addr_plain h1] at h1
  rw [Nat.add_assoc]
  exact h1

theorem open_arr2 {r : Reach} {b0 base : Nat} {t e : TypeId} {k : IntKind} {P : Program} {v : Value} {d : DataW H} {p : List MemPlace} (ht : P.underlying t = some (.array 2 e)) (he : P.underlying e = some (.int k)) (ce : P.cellsOf e = 1) (ct : P.cellsOf t = 2)
    (hv : Value.okWide P w r b0 t v) (h : DataW.Trod enc P w base spare held t v d p) : ∃ x y, v = .agg #[.int k x, .int k y] ∧ (Lit.int k x).wf = true ∧ (Lit.int k y).wf = true := by
  simp only [Value.okWide, ht] at hv
  obtain ⟨⟨l⟩, rfl, hsz, _⟩ := hv
  match l, hsz.trans ct with
  | [c0, c1], _ =>
    obtain ⟨fuel, hf⟩ := h
    obtain ⟨xs, m, _, _, _, hlen, hg⟩ := DataW.trod_array ht hf
    match xs, hlen with
    | [y0, y1], _ =>
      have g0 := hg 0 (by omega)
      have g1 := hg 1 (by omega)
      simp [ce, Value.cells] at g0 g1
      obtain ⟨x, ex, _, wx⟩ := DataW.trod_int he g0
      obtain ⟨y, ey, _, wy⟩ := DataW.trod_int he g1
      simp at ex ey
      subst ex ey
      exact ⟨x, y, rfl, wx, wy⟩
theorem open_arr3 {r : Reach} {b0 base : Nat} {t e : TypeId} {k : IntKind} {P : Program} {v : Value} {d : DataW H} {p : List MemPlace} (ht : P.underlying t = some (.array 3 e)) (he : P.underlying e = some (.int k)) (ce : P.cellsOf e = 1) (ct : P.cellsOf t = 3)
    (hv : Value.okWide P w r b0 t v) (h : DataW.Trod enc P w base spare held t v d p) : ∃ x y z, v = .agg #[.int k x, .int k y, .int k z] ∧ (Lit.int k x).wf = true ∧ (Lit.int k y).wf = true ∧ (Lit.int k z).wf = true := by
  simp only [Value.okWide, ht] at hv
  obtain ⟨⟨l⟩, rfl, hsz, _⟩ := hv
  match l, hsz.trans ct with
  | [c0, c1, c2], _ =>
    obtain ⟨fuel, hf⟩ := h
    obtain ⟨xs, m, _, _, _, hlen, hg⟩ := DataW.trod_array ht hf
    match xs, hlen with
    | [y0, y1, y2], _ =>
      have g0 := hg 0 (by omega)
      have g1 := hg 1 (by omega)
      have g2 := hg 2 (by omega)
      simp [ce, Value.cells] at g0 g1 g2
      obtain ⟨x, ex, _, wx⟩ := DataW.trod_int he g0
      obtain ⟨y, ey, _, wy⟩ := DataW.trod_int he g1
      obtain ⟨z, ez, _, wz⟩ := DataW.trod_int he g2
      simp at ex ey ez
      subst ex ey ez
      exact ⟨x, y, z, rfl, wx, wy, wz⟩
end
end Go.Proofs.YtpddiakpnibcgaaDoor
