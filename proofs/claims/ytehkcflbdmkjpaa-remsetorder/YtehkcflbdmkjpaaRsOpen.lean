/- How the laws' arguments are opened: references, slices of acts. -/
import Derived.Test.YtehkcflbdmkjpaaRsAct
import Derived.Test.YtehkcflbdmkjpaaSl
import Derived.ChangeMaps5
namespace Go.Proofs.Ytehkcflbdmkjpaa
open Go.ChangeShapes Go.WideShapes Go.ChangeAt Go.RowKit Go.Joins Go.Deep

section
variable {H : Type} {enc : TypeId × Value → H} {w : World} {spare : Nat → Bool} {held : Bool} {base : Nat}
set_option maxRecDepth 100000 in
theorem open_ref {r : Reach} {b0 : Nat} {v : Value} {d : DataW H} {p : List MemPlace} (hv : Value.okWide Try.prog w r b0 24 v) (h : DataW.Trod enc Try.prog w base spare held 24 v d p) :
    ∃ a b, v = .agg #[.int .i64 a, .int .i64 b] ∧ RefOk (a, b) := by
  obtain ⟨v0, v1, y0, y1, nn, rfl, _, _, h0, h1⟩ := open_agg2 Try.underlying24 (by kernel_rfl) (by kernel_rfl) hv h
  obtain ⟨a, e0, _, w0⟩ := DataW.trod_int Try.underlying3 h0
  obtain ⟨b, e1, _, w1⟩ := DataW.trod_int Try.underlying3 h1
  simp at e0 e1
  subst e0 e1
  exact ⟨a, b, rfl, w0, w1⟩
theorem add_add4 (a : Addr) (i j : Nat) : (a.add i).add j = a.add (i + j) := by
  unfold Addr.add
  by_cases hi : i = 0
  · subst hi; simp
  · by_cases hj : j = 0
    · subst hj; simp
    · simp [hi, hj, Nat.add_assoc]
theorem one_field4 {cs : List Value} {a : Addr} {i j : Nat} {v : Value} (hc : ∀ j, j < 4 → w.cell? ((a.add (i * 4)).add j) = cs[j]?) (hj : j < 4) (h0 : cs[j]? = some v) :
    w.cell? ⟨a.block, a.off + i * 4 + j, none⟩ = some v := by
  have h1 := hc j hj
  rw [h0, add_add4] at h1
  rw [addr_plain h1] at h1
  rw [Nat.add_assoc]
  exact h1
theorem ref_cells {fuel : Nat} {c0 c1 : Value} {x : DataW H × List MemPlace} (h : DataW.trod enc Try.prog w base spare held fuel 24 [c0, c1] = some x) : ∃ a b, c0 = .int .i64 a ∧ c1 = .int .i64 b ∧ I64ok a ∧ I64ok b := by
  obtain ⟨z0, z1, m, _, _, g0, g1⟩ := trod_struct2 Try.underlying24 h
  have k0 : Try.prog.cellsOf 3 = 1 := by kernel_rfl
  simp [k0] at g0 g1
  obtain ⟨a, e0, _, w0⟩ := DataW.trod_int Try.underlying3 g0
  obtain ⟨b, e1, _, w1⟩ := DataW.trod_int Try.underlying3 g1
  simp at e0 e1
  exact ⟨a, b, e0, e1, w0, w1⟩
set_option maxRecDepth 20000 in
theorem open_acts11 {A : Option Addr} {n c : Nat} {d : DataW H} {p : List MemPlace} (h : DataW.Trod enc Try.prog w 0 spare held 22 (.slice A n c) d p) : ∃ ls, ActS w w.heap.size A n ls := by
  obtain ⟨fuel, hf⟩ := h
  rcases open_slice Try.underlying22 hf with ⟨hcs, _⟩ | ⟨a, len, cap, m, k, D, Pl, hcs, _, hl, _, hmm, _, hi⟩
  · simp [Value.cells] at hcs
    obtain ⟨rfl, rfl, rfl⟩ := hcs
    exact ⟨[], rfl, by simp, fun h => absurd h (by omega)⟩
  · simp [Value.cells] at hcs
    obtain ⟨rfl, rfl, rfl⟩ := hcs
    have hlm : n ≤ m := by rw [hmm]; split <;> omega
    have c4 : Try.prog.cellsOf 42 = 4 := by kernel_rfl
    have c1 : Try.prog.cellsOf 3 = 1 := by kernel_rfl
    have c2 : Try.prog.cellsOf 24 = 2 := by kernel_rfl
    rw [c4] at hi
    have hg : ∀ i, i < n → ∃ l : RM.Act, ActAt w a.block (a.off + i * 4) l ∧ ActOk l := by
      intro i hin
      obtain ⟨cs, hc, ht⟩ := hi i (by omega)
      obtain ⟨ys, k', _, _, _, hyl, hfl⟩ := DataW.trod_struct Try.underlying42 ht
      obtain ⟨_, hl4, hat⟩ := World.cells?_some hc
      have hyl3 : ys.length = 3 := hyl
      obtain ⟨y0, hy0⟩ : ∃ y, ys[0]? = some y := ⟨ys[0]'(by omega), List.getElem?_eq_getElem (by omega)⟩
      obtain ⟨y1, hy1⟩ : ∃ y, ys[1]? = some y := ⟨ys[1]'(by omega), List.getElem?_eq_getElem (by omega)⟩
      obtain ⟨y2, hy2⟩ : ∃ y, ys[2]? = some y := ⟨ys[2]'(by omega), List.getElem?_eq_getElem (by omega)⟩
      have g0 : DataW.trod enc Try.prog w 0 spare held k' 3 ((cs.drop 0).take (Try.prog.cellsOf 3)) = ys[0]? := hfl 0 _ rfl
      have g1 : DataW.trod enc Try.prog w 0 spare held k' 24 ((cs.drop 1).take (Try.prog.cellsOf 24)) = ys[1]? := hfl 1 _ rfl
      have g2 : DataW.trod enc Try.prog w 0 spare held k' 3 ((cs.drop 3).take (Try.prog.cellsOf 3)) = ys[2]? := hfl 2 _ rfl
      rw [c1, hy0] at g0
      rw [c2, hy1] at g1
      rw [c1, hy2] at g2
      have hl4' : cs.length = 4 := hl4
      obtain ⟨q0, q1, q2, q3, rfl⟩ : ∃ q0 q1 q2 q3, cs = [q0, q1, q2, q3] := by
        match cs, hl4' with
        | [q0, q1, q2, q3], _ => exact ⟨q0, q1, q2, q3, rfl⟩
      simp at g0 g1 g2
      obtain ⟨K, e0, _, w0⟩ := DataW.trod_int Try.underlying3 g0
      obtain ⟨s, p, e1, e2, w1, w2⟩ := ref_cells g1
      obtain ⟨N, e3, _, w3⟩ := DataW.trod_int Try.underlying3 g2
      simp at e0 e3
      subst e0 e1 e2 e3
      exact ⟨⟨K, s, p, N⟩, ⟨one_field4 hat (j := 0) (by omega) rfl, one_field4 hat (j := 1) (by omega) rfl, one_field4 hat (j := 2) (by omega) rfl, one_field4 hat (j := 3) (by omega) rfl⟩, w0, w1, w2, w3⟩
    haveI : Inhabited RM.Act := ⟨⟨0, 0, 0, 0⟩⟩
    obtain ⟨q, hq⟩ := choose_lt hg
    refine ⟨(List.range n).map q, by simp, fun x hx => ?_, fun hn => ?_⟩
    · obtain ⟨j, hj, rfl⟩ := List.mem_map.1 hx
      exact (hq j (List.mem_range.1 hj)).2
    · have h0 := (hq 0 hn).1.1
      have hsp : a = ⟨a.block, a.off, none⟩ := by
        obtain ⟨cs, hc, ht⟩ := hi 0 (by omega)
        obtain ⟨_, hlen, hat⟩ := World.cells?_some hc
        have h1 := hat 0 (by omega)
        rw [List.getElem?_eq_getElem (show 0 < cs.length by omega), add_add4] at h1
        have := addr_plain h1
        simpa [Addr.add] using this
      refine ⟨a.block, a.off, by rw [← hsp], cell_lt (a := ⟨a.block, a.off + 0 * 4, none⟩) h0, fun i f hif => ?_⟩
      simp only [List.getElem?_map, Option.map_eq_some_iff] at hif
      obtain ⟨j', hj', rfl⟩ := hif
      have hjn : i < n := by
        rcases Nat.lt_or_ge i n with h | h
        · exact h
        · rw [List.getElem?_eq_none (by simpa using h)] at hj'; cases hj'
      rw [List.getElem?_range hjn] at hj'
      injection hj' with hj'
      subst hj'
      exact (hq i hjn).1
end
end Go.Proofs.Ytehkcflbdmkjpaa
