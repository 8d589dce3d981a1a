/- How entries among the laws' arguments are opened. -/
import Derived.Test.YtldlolgdglmocaaDoorBmLaid
import Derived.Deep.Slices
import Derived.Deep.Fields
import Derived.ChangeSame
namespace Go.Proofs.YtldlolgdglmocaaDoor
open Go.ChangeShapes Go.WideShapes Go.ChangeAt Go.RowKit Go.Joins Go.Deep

section
variable {H : Type} {enc : TypeId × Value → H} {w : World} {spare : Nat → Bool} {held : Bool} {base : Nat}
set_option maxRecDepth 100000 in
theorem open_entry {r : Reach} {b0 : Nat} {v : Value} {d : DataW H} {p : List MemPlace} (hv : Value.okWide Tryd.prog w r b0 35 v) (h : DataW.Trod enc Tryd.prog w base spare held 35 v d p) :
    ∃ a r' b c, v = .agg #[.int .i64 a, .int .i64 r', .bool b, .bool c] := by
  have c1 : Tryd.prog.cellsOf 3 = 1 := by kernel_rfl
  have cb : Tryd.prog.cellsOf 4 = 1 := by kernel_rfl
  have ct : Tryd.prog.cellsOf 35 = 4 := by kernel_rfl
  simp only [Value.okWide, Tryd.underlying35] at hv
  obtain ⟨⟨l⟩, rfl, hsz, _⟩ := hv
  match l, hsz.trans ct with
  | [x0, x1, x2, x3], _ =>
    obtain ⟨fuel, hf⟩ := h
    obtain ⟨ys, k', _, _, _, hyl, hfl⟩ := DataW.trod_struct Tryd.underlying35 hf
    have hyl4 : ys.length = 4 := hyl
    obtain ⟨y0, hy0⟩ : ∃ y, ys[0]? = some y := ⟨ys[0]'(by omega), List.getElem?_eq_getElem (by omega)⟩
    obtain ⟨y1, hy1⟩ : ∃ y, ys[1]? = some y := ⟨ys[1]'(by omega), List.getElem?_eq_getElem (by omega)⟩
    obtain ⟨y2, hy2⟩ : ∃ y, ys[2]? = some y := ⟨ys[2]'(by omega), List.getElem?_eq_getElem (by omega)⟩
    obtain ⟨y3, hy3⟩ : ∃ y, ys[3]? = some y := ⟨ys[3]'(by omega), List.getElem?_eq_getElem (by omega)⟩
    have g0 := hfl 0 _ rfl
    have g1 := hfl 1 _ rfl
    have g2 := hfl 2 _ rfl
    have g3 := hfl 3 _ rfl
    simp [Value.cells, c1, cb, hy0, hy1, hy2, hy3] at g0 g1 g2 g3
    obtain ⟨a, e0, _, _⟩ := DataW.trod_int Tryd.underlying3 g0
    obtain ⟨b, e1, _, _⟩ := DataW.trod_int Tryd.underlying3 g1
    obtain ⟨c, e2, _⟩ := DataW.trod_bool Tryd.underlying4 g2
    obtain ⟨d', e3, _⟩ := DataW.trod_bool Tryd.underlying4 g3
    simp at e0 e1 e2 e3
    subst e0 e1 e2 e3
    exact ⟨a, b, c, d', rfl⟩
end
end Go.Proofs.YtldlolgdglmocaaDoor
