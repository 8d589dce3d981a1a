/- How the laws' arguments are opened: slices of numbers, slices of edges. -/
import Derived.Test.YtmmclccghlmfmaaGrRow
import Derived.Test.YtmmclccghlmfmaaSl
namespace Go.Proofs.Ytmmclccghlmfmaa
open Go.ChangeShapes Go.WideShapes Go.ChangeAt Go.RowKit Go.Joins Go.Deep

theorem cellsEdge : Try.prog.cellsOf 37 = 2 := by kernel_rfl
theorem cellsIntZ : Try.prog.cellsOf 3 = 1 := by kernel_rfl
/-- Ints. -/
def ZI (xs : List Int) : Prop := ∀ x ∈ xs, I64 x
/-- The edges are of ints. -/
def EI (es : List (Int × Int)) : Prop := ∀ e ∈ es, I64 e.1 ∧ I64 e.2
section
variable {H : Type} {enc : TypeId × Value → H} {w : World} {spare : Nat → Bool} {held : Bool}
theorem open_zs {A : Option Addr} {n c : Nat} {d : DataW H} {p : List MemPlace} (h : DataW.Trod enc Try.prog w 0 spare held 22 (.slice A n c) d p) : ∃ xs, ZS w A n xs ∧ ZI xs ∧ n ≤ c := by
  obtain ⟨xs, ⟨h1, h2, h3⟩, hc⟩ := open_nums (k := .i64) Try.underlying22 Try.underlying3 cellsIntZ h
  refine ⟨xs, ⟨h1, fun hn => ?_⟩, fun x hx => bounds_i64 (h2 x hx), hc⟩
  obtain ⟨b, off, e, hb, hc⟩ := h3 hn
  exact ⟨b, off, e, hb, fun j hj => hc j _ (List.getElem?_eq_getElem hj)⟩
theorem open_es {A : Option Addr} {n c : Nat} {d : DataW H} {p : List MemPlace} (h : DataW.Trod enc Try.prog w 0 spare held 23 (.slice A n c) d p) : ∃ es, ES w A n es ∧ EI es ∧ n ≤ c := by
  obtain ⟨fuel, hf⟩ := h
  rcases open_slice_pairs Try.underlying23 Try.underlying37 cellsEdge rfl rfl cellsIntZ cellsIntZ hf with ⟨hcs, _⟩ | ⟨a, len, cap, m, n', V0, V1, D0, D1, P0, P1, hcs, _, hl, hm, hmm, _, hi⟩
  · simp [Value.cells] at hcs
    obtain ⟨rfl, rfl, rfl⟩ := hcs
    have hn : EI [] := fun _ h => nomatch h
    exact ⟨[], ES.nil _ _, hn, Nat.le_refl _⟩
  · simp [Value.cells] at hcs
    obtain ⟨rfl, rfl, rfl⟩ := hcs
    have hlm : n ≤ m := by rw [hmm]; split <;> omega
    have hg : ∀ i, i < n → ∃ f : Int × Int, w.cell? ⟨a.block, a.off + i * 2, none⟩ = some (.int .i64 f.1) ∧ w.cell? ⟨a.block, a.off + i * 2 + 1, none⟩ = some (.int .i64 f.2) ∧ I64 f.1 ∧ I64 f.2 := by
      intro i hin
      obtain ⟨h0, h1, g0, g1⟩ := hi i (by omega)
      obtain ⟨x, ex, _, wx⟩ := DataW.trod_int Try.underlying3 g0
      obtain ⟨y, ey, _, wy⟩ := DataW.trod_int Try.underlying3 g1
      simp at ex ey
      rw [ex, addr_plain h0] at h0
      rw [ey, addr_plain h1, ← Nat.add_assoc] at h1
      exact ⟨(x, y), h0, h1, bounds_i64 wx, bounds_i64 wy⟩
    obtain ⟨q, hq⟩ := choose_lt hg
    refine ⟨(List.range n).map q, ⟨by simp, fun hn => ?_⟩, fun f hf => ?_, hl⟩
    · obtain ⟨h0, _⟩ := hi 0 (by omega)
      rw [Nat.zero_mul] at h0
      refine ⟨a.block, a.off, by rw [← addr_zero h0], ?_, fun j hj => ?_⟩
      · have := cell_lt h0
        rw [addr_plain h0] at this
        exact this
      · have hjn : j < n := by simpa using hj
        simp only [List.getElem_map, List.getElem_range]
        exact ⟨(hq j hjn).1, (hq j hjn).2.1⟩
    · obtain ⟨j, hj, rfl⟩ := List.mem_map.1 hf
      exact (hq j (List.mem_range.1 hj)).2.2
end
end Go.Proofs.Ytmmclccghlmfmaa
