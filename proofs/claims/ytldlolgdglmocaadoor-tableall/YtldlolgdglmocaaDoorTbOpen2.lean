/- How slices of acts among the laws' arguments are opened. -/
import Derived.Test.YtldlolgdglmocaaDoorTbOpen
import Derived.Test.YtldlolgdglmocaaDoorTbAct
namespace Go.Proofs.YtldlolgdglmocaaDoor
open Go.ChangeShapes Go.WideShapes Go.ChangeAt Go.RowKit Go.Joins Go.Deep

section
variable {H : Type} {enc : TypeId × Value → H} {w : World} {spare : Nat → Bool} {held : Bool}
theorem addr_plain {a : Addr} {i : Nat} {v : Value} (h : w.cell? (a.add i) = some v) : a.add i = ⟨a.block, a.off + i, none⟩ := by
  have hs := World.cell?_spot h
  obtain ⟨b, off, spot⟩ := a
  unfold Addr.add at hs ⊢
  by_cases hi : i = 0
  · subst hi
    simp at hs
    simp [hs]
  · simp [hi]
/-- One cell of a struct's row. -/
theorem nine_field {cs : List Value} {a : Addr} {i j : Nat} {v : Value} (hc : ∀ j, j < 9 → w.cell? ((a.add (i * 9)).add j) = cs[j]?) (hj : j < 9) (h0 : cs[j]? = some v) :
    w.cell? ⟨a.block, a.off + i * 9 + j, none⟩ = some v := by
  have h1 := hc j hj
  rw [h0, add_add] at h1
  rw [addr_plain h1] at h1
  rw [Nat.add_assoc]
  exact h1
theorem take_one {cs : List Value} {j : Nat} {v : Value} (h : (cs.drop j).take 1 = [v]) : cs[j]? = some v := by
  have : ((cs.drop j).take 1)[0]? = some v := by rw [h]; rfl
  simpa using this
set_option maxRecDepth 100000 in
theorem open_tacts {A : Option Addr} {n c : Nat} {d : DataW H} {p : List MemPlace} (h : DataW.Trod enc Tryd.prog w 0 spare held 22 (.slice A n c) d p) : ∃ l, TA w w.heap.size A n l := by
  obtain ⟨fuel, hf⟩ := h
  rcases open_slice Tryd.underlying22 hf with ⟨hcs, _⟩ | ⟨a, len, cap, m, k, D, Pl, hcs, _, hl, _, hmm, _, hi⟩
  · simp [Value.cells] at hcs
    obtain ⟨rfl, rfl, rfl⟩ := hcs
    exact ⟨[], ⟨rfl, fun h => absurd h (by omega)⟩⟩
  · simp [Value.cells] at hcs
    obtain ⟨rfl, rfl, rfl⟩ := hcs
    have hlm : n ≤ m := by rw [hmm]; split <;> omega
    have c9 : Tryd.prog.cellsOf 37 = 9 := by kernel_rfl
    have c1 : Tryd.prog.cellsOf 3 = 1 := by kernel_rfl
    have cb : Tryd.prog.cellsOf 4 = 1 := by kernel_rfl
    have c2 : Tryd.prog.cellsOf 33 = 2 := by kernel_rfl
    have c4 : Tryd.prog.cellsOf 35 = 4 := by kernel_rfl
    rw [c9] at hi
    have hg : ∀ i, i < n → ∃ f : Ac, AcAt w a.block (a.off + i * 9) f := by
      intro i hin
      obtain ⟨cs, hc, ht⟩ := hi i (by omega)
      obtain ⟨ys, k', _, _, _, hyl, hfl⟩ := DataW.trod_struct Tryd.underlying37 ht
      obtain ⟨_, _, hat⟩ := World.cells?_some hc
      have hyl5 : ys.length = 5 := hyl
      obtain ⟨y0, hy0⟩ : ∃ y, ys[0]? = some y := ⟨ys[0]'(by omega), List.getElem?_eq_getElem (by omega)⟩
      obtain ⟨y1, hy1⟩ : ∃ y, ys[1]? = some y := ⟨ys[1]'(by omega), List.getElem?_eq_getElem (by omega)⟩
      obtain ⟨y2, hy2⟩ : ∃ y, ys[2]? = some y := ⟨ys[2]'(by omega), List.getElem?_eq_getElem (by omega)⟩
      obtain ⟨y3, hy3⟩ : ∃ y, ys[3]? = some y := ⟨ys[3]'(by omega), List.getElem?_eq_getElem (by omega)⟩
      obtain ⟨y4, hy4⟩ : ∃ y, ys[4]? = some y := ⟨ys[4]'(by omega), List.getElem?_eq_getElem (by omega)⟩
      have g0 : DataW.trod enc Tryd.prog w 0 spare held k' 3 ((cs.drop 0).take (Tryd.prog.cellsOf 3)) = ys[0]? := hfl 0 _ rfl
      have g1 : DataW.trod enc Tryd.prog w 0 spare held k' 3 ((cs.drop 1).take (Tryd.prog.cellsOf 3)) = ys[1]? := hfl 1 _ rfl
      have g2 : DataW.trod enc Tryd.prog w 0 spare held k' 4 ((cs.drop 2).take (Tryd.prog.cellsOf 4)) = ys[2]? := hfl 2 _ rfl
      have g3 : DataW.trod enc Tryd.prog w 0 spare held k' 33 ((cs.drop 3).take (Tryd.prog.cellsOf 33)) = ys[3]? := hfl 3 _ rfl
      have g4 : DataW.trod enc Tryd.prog w 0 spare held k' 35 ((cs.drop 5).take (Tryd.prog.cellsOf 35)) = ys[4]? := hfl 4 _ rfl
      rw [c1, hy0] at g0
      rw [c1, hy1] at g1
      rw [cb, hy2] at g2
      rw [c2, hy3] at g3
      rw [c4, hy4] at g4
      obtain ⟨x0, e0, _, _⟩ := DataW.trod_int Tryd.underlying3 g0
      obtain ⟨x1, e1, _, _⟩ := DataW.trod_int Tryd.underlying3 g1
      obtain ⟨x2, e2, _⟩ := DataW.trod_bool Tryd.underlying4 g2
      obtain ⟨zs, k3, _, _, _, zl, zf⟩ := DataW.trod_struct Tryd.underlying33 g3
      have zl2 : zs.length = 2 := zl
      obtain ⟨z0, hz0⟩ : ∃ y, zs[0]? = some y := ⟨zs[0]'(by omega), List.getElem?_eq_getElem (by omega)⟩
      obtain ⟨z1, hz1⟩ : ∃ y, zs[1]? = some y := ⟨zs[1]'(by omega), List.getElem?_eq_getElem (by omega)⟩
      have t0 : DataW.trod enc Tryd.prog w 0 spare held k3 3 ((((cs.drop 3).take 2).drop 0).take (Tryd.prog.cellsOf 3)) = zs[0]? := zf 0 _ rfl
      have t1 : DataW.trod enc Tryd.prog w 0 spare held k3 3 ((((cs.drop 3).take 2).drop 1).take (Tryd.prog.cellsOf 3)) = zs[1]? := zf 1 _ rfl
      rw [c1, hz0] at t0
      rw [c1, hz1] at t1
      obtain ⟨x3, e3, _, _⟩ := DataW.trod_int Tryd.underlying3 t0
      obtain ⟨x4, e4, _, _⟩ := DataW.trod_int Tryd.underlying3 t1
      obtain ⟨us, k4, _, _, _, ul, uf⟩ := DataW.trod_struct Tryd.underlying35 g4
      have ul4 : us.length = 4 := ul
      obtain ⟨u0, hu0⟩ : ∃ y, us[0]? = some y := ⟨us[0]'(by omega), List.getElem?_eq_getElem (by omega)⟩
      obtain ⟨u1, hu1⟩ : ∃ y, us[1]? = some y := ⟨us[1]'(by omega), List.getElem?_eq_getElem (by omega)⟩
      obtain ⟨u2, hu2⟩ : ∃ y, us[2]? = some y := ⟨us[2]'(by omega), List.getElem?_eq_getElem (by omega)⟩
      obtain ⟨u3, hu3⟩ : ∃ y, us[3]? = some y := ⟨us[3]'(by omega), List.getElem?_eq_getElem (by omega)⟩
      have v0 : DataW.trod enc Tryd.prog w 0 spare held k4 3 ((((cs.drop 5).take 4).drop 0).take (Tryd.prog.cellsOf 3)) = us[0]? := uf 0 _ rfl
      have v1 : DataW.trod enc Tryd.prog w 0 spare held k4 3 ((((cs.drop 5).take 4).drop 1).take (Tryd.prog.cellsOf 3)) = us[1]? := uf 1 _ rfl
      have v2 : DataW.trod enc Tryd.prog w 0 spare held k4 4 ((((cs.drop 5).take 4).drop 2).take (Tryd.prog.cellsOf 4)) = us[2]? := uf 2 _ rfl
      have v3 : DataW.trod enc Tryd.prog w 0 spare held k4 4 ((((cs.drop 5).take 4).drop 3).take (Tryd.prog.cellsOf 4)) = us[3]? := uf 3 _ rfl
      rw [c1, hu0] at v0
      rw [c1, hu1] at v1
      rw [cb, hu2] at v2
      rw [cb, hu3] at v3
      obtain ⟨x5, e5, _, _⟩ := DataW.trod_int Tryd.underlying3 v0
      obtain ⟨x6, e6, _, _⟩ := DataW.trod_int Tryd.underlying3 v1
      obtain ⟨x7, e7, _⟩ := DataW.trod_bool Tryd.underlying4 v2
      obtain ⟨x8, e8, _⟩ := DataW.trod_bool Tryd.underlying4 v3
      have sub : ∀ {s q j : Nat} {v : Value}, j < q → ((((cs.drop s).take q).drop j).take 1) = [v] → cs[s + j]? = some v := by
        intro s q j v hj h
        have h1 := take_one h
        rw [List.getElem?_take, if_pos hj, List.getElem?_drop] at h1
        exact h1
      exact ⟨⟨x0, x1, x2, x3, x4, ⟨x5, x6, x7, x8⟩⟩, nine_field hat (by omega) (take_one e0), nine_field hat (by omega) (take_one e1), nine_field hat (by omega) (take_one e2), nine_field hat (by omega) (sub (by omega) e3), nine_field hat (by omega) (sub (by omega) e4),
        nine_field hat (by omega) (sub (by omega) e5), nine_field hat (by omega) (sub (by omega) e6), nine_field hat (by omega) (sub (by omega) e7), nine_field hat (by omega) (sub (by omega) e8)⟩
    haveI : Inhabited Ac := ⟨⟨0, 0, false, 0, 0, En.zero⟩⟩
    obtain ⟨q, hq⟩ := choose_lt hg
    refine ⟨(List.range n).map q, ⟨by simp, fun hn => ?_⟩⟩
    have h0 := (hq 0 hn).1
    have hsp : a = ⟨a.block, a.off, none⟩ := by
      obtain ⟨cs, hc, ht⟩ := hi 0 (by omega)
      obtain ⟨_, hlen, hat⟩ := World.cells?_some hc
      have h1 := hat 0 (by omega)
      rw [List.getElem?_eq_getElem (show 0 < cs.length by omega), add_add] at h1
      have := addr_plain h1
      simpa [Addr.add] using this
    refine ⟨a.block, a.off, by rw [← hsp], cell_in (a := ⟨a.block, a.off + 0 * 9 + 0, none⟩) h0, fun i f hif => ?_⟩
    simp only [List.getElem?_map, Option.map_eq_some_iff] at hif
    obtain ⟨j, hj, rfl⟩ := hif
    have hjn : i < n := by
      rcases Nat.lt_or_ge i n with h | h
      · exact h
      · rw [List.getElem?_eq_none (by simpa using h)] at hj; cases hj
    rw [List.getElem?_range hjn] at hj
    injection hj with hj
    subst hj
    exact hq i hjn
end
end Go.Proofs.YtldlolgdglmocaaDoor
