/- How the laws' arguments are opened: slices of acts. -/
import Derived.Test.YtmdcpeikjchbgaaTrAny
import Derived.Test.YtmdcpeikjchbgaaSl
namespace Go.Proofs.Ytmdcpeikjchbgaa
open Go.ChangeShapes Go.WideShapes Go.ChangeAt Go.RowKit Go.Joins Go.Deep

/-- A slice of acts (kind, number) that reads as the list ls. -/
def AcS (w : World) (B : Nat) (A : Option Addr) (n : Nat) (ls : List (Int × Int)) : Prop := FS w B A n ls ∧ ∀ f ∈ ls, I64 f.1 ∧ I64 f.2
theorem AcS.below {w w' : World} {B n : Nat} {A : Option Addr} {ls : List (Int × Int)} (h : AcS w B A n ls) (hb : Below B w w') : AcS w' B A n ls := ⟨h.1.below hb, h.2⟩
theorem AcS.at_ {w : World} {B n k : Nat} {A : Option Addr} {ls : List (Int × Int)} (h : AcS w B A n ls) (hk : k < n) : ∃ b off a c, A = some ⟨b, off, none⟩ ∧ b < B ∧ I64 a ∧ I64 c ∧
    w.cell? ⟨b, off + k * 2, none⟩ = some (.int .i64 a) ∧ w.cell? ⟨b, off + k * 2 + 1, none⟩ = some (.int .i64 c) := by
  obtain ⟨b, off, a, c, e, hb, hd, h1, h2⟩ := h.1.at_ hk
  have hm : (a, c) ∈ ls := List.mem_of_mem_drop (i := k) (by rw [hd]; simp)
  exact ⟨b, off, a, c, e, hb, (h.2 _ hm).1, (h.2 _ hm).2, h1, h2⟩
theorem cellsAct : Try.prog.cellsOf 37 = 2 := by kernel_rfl
section
variable {H : Type} {enc : TypeId × Value → H} {P : Program} {w : World} {spare : Nat → Bool} {held : Bool}
theorem open_acts10 {t e u : TypeId} {f0 f1 : Field} {A : Option Addr} {n c : Nat} {d : DataW H} {p : List MemPlace} (ht : P.underlying t = some (.slice e)) (he : P.underlying e = some (.struct #[f0, f1])) (hu : P.underlying u = some (.int .i64))
    (t0 : f0.type = u) (t1 : f1.type = u) (ce : P.cellsOf e = 2) (o0 : f0.offset = 0) (o1 : f1.offset = 1) (cu : P.cellsOf u = 1)
    (h : DataW.Trod enc P w 0 spare held t (.slice A n c) d p) : ∃ fs, AcS w w.heap.size A n fs ∧ n ≤ c := by
  obtain ⟨fuel, hf⟩ := h
  rcases open_slice_pairs ht he ce o0 o1 (by rw [t0]; exact cu) (by rw [t1]; exact cu) hf with ⟨hcs, _⟩ | ⟨a, len, cap, m, n', V0, V1, D0, D1, P0, P1, hcs, _, hl, hm, hmm, _, hi⟩
  · simp [Value.cells] at hcs
    obtain ⟨rfl, rfl, rfl⟩ := hcs
    exact ⟨[], ⟨⟨rfl, fun h => absurd h (by omega)⟩, by simp⟩, Nat.le_refl _⟩
  · simp [Value.cells] at hcs
    obtain ⟨rfl, rfl, rfl⟩ := hcs
    have hlm : n ≤ m := by rw [hmm]; split <;> omega
    have hg : ∀ i, i < n → ∃ f : Int × Int, w.cell? ⟨a.block, a.off + i * 2, none⟩ = some (.int .i64 f.1) ∧ w.cell? ⟨a.block, a.off + i * 2 + 1, none⟩ = some (.int .i64 f.2) ∧ I64 f.1 ∧ I64 f.2 := by
      intro i hin
      obtain ⟨h0, h1, g0, g1⟩ := hi i (by omega)
      rw [t0] at g0
      rw [t1] at g1
      obtain ⟨x, ex, _, wx⟩ := DataW.trod_int hu g0
      obtain ⟨y, ey, _, wy⟩ := DataW.trod_int hu g1
      simp at ex ey
      rw [ex, addr_plain h0] at h0
      rw [ey, addr_plain h1, ← Nat.add_assoc] at h1
      exact ⟨(x, y), h0, h1, bounds_i64 wx, bounds_i64 wy⟩
    obtain ⟨q, hq⟩ := choose_lt hg
    refine ⟨(List.range n).map q, ⟨⟨by simp, fun hn => ?_⟩, fun f hf => ?_⟩, hl⟩
    · obtain ⟨h0, _⟩ := hi 0 (by omega)
      rw [Nat.zero_mul] at h0
      refine ⟨a.block, a.off, by rw [← addr_zero h0], ?_, fun i f hif => ?_⟩
      · have := cell_lt h0
        rw [addr_plain h0] at this
        exact this
      · simp only [List.getElem?_map, Option.map_eq_some_iff] at hif
        obtain ⟨j, hj, rfl⟩ := hif
        have hjn : i < n := by
          rcases Nat.lt_or_ge i n with h | h
          · exact h
          · rw [List.getElem?_eq_none (by simpa using h)] at hj; cases hj
        rw [List.getElem?_range hjn] at hj
        injection hj with hj
        subst hj
        exact ⟨(hq i hjn).1, (hq i hjn).2.1⟩
    · obtain ⟨j, hj, rfl⟩ := List.mem_map.1 hf
      exact (hq j (List.mem_range.1 hj)).2.2
end
end Go.Proofs.Ytmdcpeikjchbgaa
