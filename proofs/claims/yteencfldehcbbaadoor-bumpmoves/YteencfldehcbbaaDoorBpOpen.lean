/- How the laws' arguments are opened: slices of acts. -/
import Derived.Test.YteencfldehcbbaaDoorBmLaid
import Derived.Deep.Slices
import Derived.Deep.Fields
import Derived.ChangeSame
import Derived.Test.YteencfldehcbbaaDoorBmAct
namespace Go.Proofs.YteencfldehcbbaaDoor
open Go.ChangeShapes Go.WideShapes Go.ChangeAt Go.RowKit Go.Joins Go.Deep

section
variable {H : Type} {enc : TypeId × Value → H} {w : World} {spare : Nat → Bool} {held : Bool}
theorem addr_plain {a : Addr} {i : Nat} {v : Value} (h : w.cell? (a.add i) = some v) : a.add i = ⟨a.block, a.off + i, none⟩ := by
  have hs := World.cell?_spot h
  obtain ⟨b, off, spot⟩ := a
  unfold Addr.add at hs ⊢
  by_cases hi : i = 0
  · subst hi
    simp at hs
    simp [hs]
  · simp [hi]
theorem cell_lt {a : Addr} {v : Value} (h : w.cell? a = some v) : a.block < w.heap.size := by
  rcases Nat.lt_or_ge a.block w.heap.size with hl | hg
  · exact hl
  · simp [World.cell?, Array.getElem?_eq_none hg] at h

/-- One cell of a struct's row. -/
theorem one_field {cs : List Value} {a : Addr} {i j : Nat} {v : Value} (hc : ∀ j, j < 4 → w.cell? ((a.add (i * 4)).add j) = cs[j]?) (hj : j < 4) (h : (cs.drop j).take 1 = [v]) :
    w.cell? ⟨a.block, a.off + i * 4 + j, none⟩ = some v := by
  have h0 : cs[j]? = some v := by
    have : ((cs.drop j).take 1)[0]? = some v := by rw [h]; rfl
    simpa using this
  have h1 := hc j hj
  rw [h0, add_add] at h1
  rw [addr_plain h1] at h1
  rw [Nat.add_assoc]
  exact h1

theorem open_acts {A : Option Addr} {n c : Nat} {d : DataW H} {p : List MemPlace} (h : DataW.Trod enc Tryd.prog w 0 spare held 22 (.slice A n c) d p) : ∃ l, FA w w.heap.size A n l ∧ n ≤ c := by
  obtain ⟨fuel, hf⟩ := h
  rcases open_slice Tryd.underlying22 hf with ⟨hcs, _⟩ | ⟨a, len, cap, m, k, D, Pl, hcs, _, hl, _, hmm, _, hi⟩
  · simp [Value.cells] at hcs
    obtain ⟨rfl, rfl, rfl⟩ := hcs
    exact ⟨[], ⟨rfl, fun h => absurd h (by omega), by simp⟩, Nat.le_refl _⟩
  · simp [Value.cells] at hcs
    obtain ⟨rfl, rfl, rfl⟩ := hcs
    have hlm : n ≤ m := by rw [hmm]; split <;> omega
    have c4 : Tryd.prog.cellsOf 36 = 4 := by kernel_rfl
    have c1 : Tryd.prog.cellsOf 3 = 1 := by kernel_rfl
    have cb : Tryd.prog.cellsOf 4 = 1 := by kernel_rfl
    rw [c4] at hi
    have hg : ∀ i, i < n → ∃ f : Int × Int × Int × Bool, ActAt w a.block (a.off + i * 4) f ∧ ActOk f := by
      intro i hin
      obtain ⟨cs, hc, ht⟩ := hi i (by omega)
      obtain ⟨ys, k', _, _, _, hyl, hfl⟩ := DataW.trod_struct Tryd.underlying36 ht
      obtain ⟨_, _, hat⟩ := World.cells?_some hc
      have hyl4 : ys.length = 4 := hyl
      obtain ⟨y0, hy0⟩ : ∃ y, ys[0]? = some y := ⟨ys[0]'(by omega), List.getElem?_eq_getElem (by omega)⟩
      obtain ⟨y1, hy1⟩ : ∃ y, ys[1]? = some y := ⟨ys[1]'(by omega), List.getElem?_eq_getElem (by omega)⟩
      obtain ⟨y2, hy2⟩ : ∃ y, ys[2]? = some y := ⟨ys[2]'(by omega), List.getElem?_eq_getElem (by omega)⟩
      obtain ⟨y3, hy3⟩ : ∃ y, ys[3]? = some y := ⟨ys[3]'(by omega), List.getElem?_eq_getElem (by omega)⟩
      have g0 : DataW.trod enc Tryd.prog w 0 spare held k' 3 ((cs.drop 0).take (Tryd.prog.cellsOf 3)) = ys[0]? := hfl 0 _ rfl
      have g1 : DataW.trod enc Tryd.prog w 0 spare held k' 3 ((cs.drop 1).take (Tryd.prog.cellsOf 3)) = ys[1]? := hfl 1 _ rfl
      have g2 : DataW.trod enc Tryd.prog w 0 spare held k' 3 ((cs.drop 2).take (Tryd.prog.cellsOf 3)) = ys[2]? := hfl 2 _ rfl
      have g3 : DataW.trod enc Tryd.prog w 0 spare held k' 4 ((cs.drop 3).take (Tryd.prog.cellsOf 4)) = ys[3]? := hfl 3 _ rfl
      rw [c1, hy0] at g0
      rw [c1, hy1] at g1
      rw [c1, hy2] at g2
      rw [cb, hy3] at g3
      obtain ⟨x0, e0, _, w0⟩ := DataW.trod_int Tryd.underlying3 g0
      obtain ⟨x1, e1, _, w1⟩ := DataW.trod_int Tryd.underlying3 g1
      obtain ⟨x2, e2, _, w2⟩ := DataW.trod_int Tryd.underlying3 g2
      obtain ⟨x3, e3, _⟩ := DataW.trod_bool Tryd.underlying4 g3
      exact ⟨(x0, x1, x2, x3), ⟨one_field hat (by omega) e0, one_field hat (by omega) e1, one_field hat (by omega) e2, one_field hat (by omega) e3⟩, bounds_i64 w0, bounds_i64 w1, bounds_i64 w2⟩
    obtain ⟨q, hq⟩ := choose_lt hg
    refine ⟨(List.range n).map q, ⟨by simp, fun hn => ?_, fun x hx => ?_⟩, hl⟩
    · have h0 := (hq 0 hn).1.1
      have hsp : a = ⟨a.block, a.off, none⟩ := by
        obtain ⟨cs, hc, ht⟩ := hi 0 (by omega)
        obtain ⟨_, hlen, hat⟩ := World.cells?_some hc
        have h1 := hat 0 (by omega)
        rw [List.getElem?_eq_getElem (show 0 < cs.length by omega), add_add] at h1
        have := addr_plain h1
        simpa [Addr.add] using this
      refine ⟨a.block, a.off, by rw [← hsp], cell_lt (a := ⟨a.block, a.off + 0 * 4 + 0, none⟩) h0, fun i f hif => ?_⟩
      simp only [List.getElem?_map, Option.map_eq_some_iff] at hif
      obtain ⟨j, hj, rfl⟩ := hif
      have hjn : i < n := by
        rcases Nat.lt_or_ge i n with h | h
        · exact h
        · rw [List.getElem?_eq_none (by simpa using h)] at hj; cases hj
      rw [List.getElem?_range hjn] at hj
      injection hj with hj
      subst hj
      exact (hq i hjn).1
    · obtain ⟨j, hj, rfl⟩ := List.mem_map.1 hx
      exact (hq j (List.mem_range.1 hj)).2
end
end Go.Proofs.YteencfldehcbbaaDoor
