/- How gray's laws' arguments are opened: slices of the document's edges, and of acts. -/
import Derived.Test.YtomjaieplpjcpaaGrOpen
namespace Go.Proofs.Ytomjaieplpjcpaa
open Go.ChangeShapes Go.WideShapes Go.ChangeAt Go.RowKit Go.Joins Go.Deep

theorem cellsEdgeF : Try.prog.cellsOf 48 = 2 := by kernel_rfl
/-- An act: its kind, its number, its slice, and what that reads. -/
structure Ac where
  K : Int
  X : Int
  A : Option Addr
  n : Nat
  c : Nat
  xs : List Int
def Ac.vals (a : Ac) : List Value := [.int .i64 a.K, .int .i64 a.X, .slice a.A a.n a.c]
/-- A slice of acts that reads as the list ls. -/
def AS (w : World) (A : Option Addr) (n : Nat) (ls : List Ac) : Prop :=
  ls.length = n ∧ (0 < n → ∃ b off, A = some ⟨b, off, none⟩ ∧ b < w.heap.size ∧ ∀ i l j, ls[i]? = some l → j < 3 → w.cell? ⟨b, off + i * 3 + j, none⟩ = l.vals[j]?) ∧ ∀ l ∈ ls, (ZS w l.A l.n l.xs ∧ I64 l.X ∧ ZI l.xs)
theorem AS.below {w w' : World} {A : Option Addr} {n : Nat} {ls : List Ac} (h : AS w A n ls) (hb : Below w.heap.size w w') : AS w' A n ls := by
  refine ⟨h.1, fun hn => ?_, fun l hl => ⟨(h.2.2 l hl).1.below hb, (h.2.2 l hl).2⟩⟩
  obtain ⟨b, off, e, hlt, hc⟩ := h.2.1 hn
  exact ⟨b, off, e, Nat.lt_of_lt_of_le hlt hb.size, fun i l j hi hj => (hb.cell (p := ⟨b, _, none⟩) hlt).trans (hc i l j hi hj)⟩
theorem AS.at_ {w : World} {n k : Nat} {A : Option Addr} {ls : List Ac} (h : AS w A n ls) (hk : k < n) : ∃ b off, ∃ hl : k < ls.length, A = some ⟨b, off, none⟩ ∧ b < w.heap.size ∧
    w.cell? ⟨b, off + k * 3, none⟩ = some (.int .i64 ls[k].K) ∧ w.cell? ⟨b, off + k * 3 + 1, none⟩ = some (.int .i64 ls[k].X) ∧ w.cell? ⟨b, off + k * 3 + 2, none⟩ = some (.slice ls[k].A ls[k].n ls[k].c) ∧ ZS w ls[k].A ls[k].n ls[k].xs ∧ I64 ls[k].X ∧ ZI ls[k].xs := by
  obtain ⟨b, off, e, hlt, hc⟩ := h.2.1 (by omega)
  have hl : k < ls.length := by have := h.1; omega
  have hi : ls[k]? = some ls[k] := List.getElem?_eq_getElem hl
  exact ⟨b, off, hl, e, hlt, hc k _ 0 hi (by omega), hc k _ 1 hi (by omega), hc k _ 2 hi (by omega), h.2.2 _ (List.getElem_mem hl)⟩

section
variable {H : Type} {enc : TypeId × Value → H} {w : World} {spare : Nat → Bool} {held : Bool}
theorem open_fs {A : Option Addr} {n c : Nat} {d : DataW H} {p : List MemPlace} (h : DataW.Trod enc Try.prog w 0 spare held 46 (.slice A n c) d p) : ∃ es, ES w A n es ∧ EI es ∧ n ≤ c := by
  obtain ⟨fuel, hf⟩ := h
  rcases open_slice_pairs Try.underlying46 Try.underlying48 cellsEdgeF rfl rfl cellsIntZ cellsIntZ hf with ⟨hcs, _⟩ | ⟨a, len, cap, m, n', V0, V1, D0, D1, P0, P1, hcs, _, hl, hm, hmm, _, hi⟩
  · simp [Value.cells] at hcs
    obtain ⟨rfl, rfl, rfl⟩ := hcs
    have hn : EI [] := fun _ h => nomatch h
    exact ⟨[], ES.nil _ _, hn, Nat.le_refl _⟩
  · simp [Value.cells] at hcs
    obtain ⟨rfl, rfl, rfl⟩ := hcs
    have hlm : n ≤ m := by rw [hmm]; split <;> omega
    have hg : ∀ i, i < n → ∃ f : Int × Int, w.cell? ⟨a.block, a.off + i * 2, none⟩ = some (.int .i64 f.1) ∧ w.cell? ⟨a.block, a.off + i * 2 + 1, none⟩ = some (.int .i64 f.2) ∧ I64 f.1 ∧ I64 f.2 := by
      intro i hin
      obtain ⟨h0, h1, g0, g1⟩ := hi i (by omega)
      obtain ⟨x, ex, _, wx⟩ := DataW.trod_int Try.underlying3 g0
      obtain ⟨y, ey, _, wy⟩ := DataW.trod_int Try.underlying3 g1
      simp at ex ey
      rw [ex, addr_plain h0] at h0
      rw [ey, addr_plain h1, ← Nat.add_assoc] at h1
      exact ⟨(x, y), h0, h1, bounds_i64 wx, bounds_i64 wy⟩
    obtain ⟨q, hq⟩ := choose_lt hg
    refine ⟨(List.range n).map q, ⟨by simp, fun hn => ?_⟩, fun f hf => ?_, hl⟩
    · obtain ⟨h0, _⟩ := hi 0 (by omega)
      rw [Nat.zero_mul] at h0
      refine ⟨a.block, a.off, by rw [← addr_zero h0], ?_, fun j hj => ?_⟩
      · have := cell_lt h0
        rw [addr_plain h0] at this
        exact this
      · have hjn : j < n := by simpa using hj
        simp only [List.getElem_map, List.getElem_range]
        exact ⟨(hq j hjn).1, (hq j hjn).2.1⟩
    · obtain ⟨j, hj, rfl⟩ := List.mem_map.1 hf
      exact (hq j (List.mem_range.1 hj)).2.2
theorem in_i64 {x : Int} (h : (Lit.int .i64 x).wf = true) : I64 x := by have := bounds_i64 h; unfold I64; omega
theorem open_nz {fuel : Nat} {v : Value} {x : DataW H × List MemPlace} (h : DataW.trod enc Try.prog w 0 spare held fuel 33 [v] = some x) : ∃ A n c xs, v = .slice A n c ∧ ZS w A n xs ∧ ZI xs := by
  rcases open_ints Try.underlying33 Try.underlying3 (by kernel_rfl) h with ⟨hcs, _⟩ | ⟨a, n, c, zs, hcs, _⟩
  · simp at hcs
    subst hcs
    exact ⟨none, 0, 0, [], rfl, ZS.nil _ _, by intro x hx; cases hx⟩
  · simp at hcs
    subst hcs
    obtain ⟨d, p⟩ := x
    obtain ⟨xs, h1, h2, _⟩ := open_zs (A := some a) (n := n) (c := c) ⟨fuel, h⟩
    exact ⟨some a, n, c, xs, rfl, h1, h2⟩
theorem add_add3 (a : Addr) (i j : Nat) : (a.add i).add j = a.add (i + j) := by
  unfold Addr.add
  by_cases hi : i = 0
  · subst hi; simp
  · by_cases hj : j = 0
    · subst hj; simp
    · simp [hi, hj, Nat.add_assoc]
theorem one_field3 {cs : List Value} {a : Addr} {i j : Nat} {v : Value} (hc : ∀ j, j < 3 → w.cell? ((a.add (i * 3)).add j) = cs[j]?) (hj : j < 3) (h : (cs.drop j).take 1 = [v]) :
    w.cell? ⟨a.block, a.off + i * 3 + j, none⟩ = some v := by
  have h0 : cs[j]? = some v := by
    have : ((cs.drop j).take 1)[0]? = some v := by rw [h]; rfl
    simpa using this
  have h1 := hc j hj
  rw [h0, add_add3] at h1
  rw [addr_plain h1] at h1
  rw [Nat.add_assoc]
  exact h1
set_option maxRecDepth 20000 in
theorem open_acts {A : Option Addr} {n c : Nat} {d : DataW H} {p : List MemPlace} (h : DataW.Trod enc Try.prog w 0 spare held 22 (.slice A n c) d p) : ∃ ls, AS w A n ls := by
  obtain ⟨fuel, hf⟩ := h
  rcases open_slice Try.underlying22 hf with ⟨hcs, _⟩ | ⟨a, len, cap, m, k, D, Pl, hcs, _, hl, _, hmm, _, hi⟩
  · simp [Value.cells] at hcs
    obtain ⟨rfl, rfl, rfl⟩ := hcs
    exact ⟨[], rfl, fun h => absurd h (by omega), by simp⟩
  · simp [Value.cells] at hcs
    obtain ⟨rfl, rfl, rfl⟩ := hcs
    have hlm : n ≤ m := by rw [hmm]; split <;> omega
    have c3 : Try.prog.cellsOf 40 = 3 := by kernel_rfl
    have c1 : Try.prog.cellsOf 3 = 1 := by kernel_rfl
    have cs1 : Try.prog.cellsOf 33 = 1 := by kernel_rfl
    rw [c3] at hi
    have hg : ∀ i, i < n → ∃ l : Ac, (∀ j, j < 3 → w.cell? ⟨a.block, a.off + i * 3 + j, none⟩ = l.vals[j]?) ∧ ZS w l.A l.n l.xs ∧ I64 l.X ∧ ZI l.xs := by
      intro i hin
      obtain ⟨cs, hc, ht⟩ := hi i (by omega)
      obtain ⟨ys, k', _, _, _, hyl, hfl⟩ := DataW.trod_struct Try.underlying40 ht
      obtain ⟨_, hl3, hat⟩ := World.cells?_some hc
      have hyl3 : ys.length = 3 := hyl
      obtain ⟨y0, hy0⟩ : ∃ y, ys[0]? = some y := ⟨ys[0]'(by omega), List.getElem?_eq_getElem (by omega)⟩
      obtain ⟨y1, hy1⟩ : ∃ y, ys[1]? = some y := ⟨ys[1]'(by omega), List.getElem?_eq_getElem (by omega)⟩
      obtain ⟨y2, hy2⟩ : ∃ y, ys[2]? = some y := ⟨ys[2]'(by omega), List.getElem?_eq_getElem (by omega)⟩
      have g0 : DataW.trod enc Try.prog w 0 spare held k' 3 ((cs.drop 0).take (Try.prog.cellsOf 3)) = ys[0]? := hfl 0 _ rfl
      have g1 : DataW.trod enc Try.prog w 0 spare held k' 3 ((cs.drop 1).take (Try.prog.cellsOf 3)) = ys[1]? := hfl 1 _ rfl
      have g2 : DataW.trod enc Try.prog w 0 spare held k' 33 ((cs.drop 2).take (Try.prog.cellsOf 33)) = ys[2]? := hfl 2 _ rfl
      rw [c1, hy0] at g0
      rw [c1, hy1] at g1
      rw [cs1, hy2] at g2
      obtain ⟨F, e0, _, w0⟩ := DataW.trod_int Try.underlying3 g0
      obtain ⟨R, e1, _, w1⟩ := DataW.trod_int Try.underlying3 g1
      obtain ⟨v2, e2⟩ : ∃ v, (cs.drop 2).take 1 = [v] := by
        have hl4 : cs.length = 3 := hl3
        match cs, hl4 with
        | [_, _, b], _ => exact ⟨b, rfl⟩
      rw [e2] at g2
      obtain ⟨A, nn, cc, xs, rfl, hx, hz⟩ := open_nz g2
      refine ⟨⟨F, R, A, nn, cc, xs⟩, fun j hj => ?_, hx, in_i64 w1, hz⟩
      match j, hj with
      | 0, _ => exact one_field3 hat (by omega) e0
      | 1, _ => exact one_field3 hat (by omega) e1
      | 2, _ => exact one_field3 hat (by omega) e2
    haveI : Inhabited Ac := ⟨⟨0, 0, Option.none, 0, 0, []⟩⟩
    obtain ⟨q, hq⟩ := choose_lt hg
    refine ⟨(List.range n).map q, by simp, fun hn => ?_, fun x hx => ?_⟩
    · have h0 : w.cell? ⟨a.block, a.off + 0 * 3 + 0, none⟩ = some (.int .i64 (q 0).K) := (hq 0 hn).1 0 (by omega)
      have hsp : a = ⟨a.block, a.off, none⟩ := by
        obtain ⟨cs, hc, ht⟩ := hi 0 (by omega)
        obtain ⟨_, hlen, hat⟩ := World.cells?_some hc
        have h1 := hat 0 (by omega)
        rw [List.getElem?_eq_getElem (show 0 < cs.length by omega), add_add3] at h1
        have := addr_plain h1
        simpa [Addr.add] using this
      refine ⟨a.block, a.off, by rw [← hsp], cell_lt (a := ⟨a.block, a.off + 0 * 3 + 0, none⟩) h0, fun i f j hif hj => ?_⟩
      simp only [List.getElem?_map, Option.map_eq_some_iff] at hif
      obtain ⟨j', hj', rfl⟩ := hif
      have hjn : i < n := by
        rcases Nat.lt_or_ge i n with h | h
        · exact h
        · rw [List.getElem?_eq_none (by simpa using h)] at hj'; cases hj'
      rw [List.getElem?_range hjn] at hj'
      injection hj' with hj'
      subst hj'
      exact (hq i hjn).1 j hj
    · obtain ⟨j, hj, rfl⟩ := List.mem_map.1 hx
      exact (hq j (List.mem_range.1 hj)).2
end
end Go.Proofs.Ytomjaieplpjcpaa
