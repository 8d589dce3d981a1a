/- How the laws' arguments are opened: slices of numbers, slices of edges. -/
import Derived.Test.YtomjaieplpjcpaaGrRow
import Derived.Test.YtomjaieplpjcpaaSl
namespace Go.Proofs.Ytomjaieplpjcpaa
open Go.ChangeShapes Go.WideShapes Go.ChangeAt Go.RowKit Go.Joins Go.Deep

theorem cellsIntZ : Try.prog.cellsOf 3 = 1 := by kernel_rfl
/-- Ints. -/
def ZI (xs : List Int) : Prop := ∀ x ∈ xs, I64 x
/-- The edges are of ints. -/
def EI (es : List (Int × Int)) : Prop := ∀ e ∈ es, I64 e.1 ∧ I64 e.2
section
variable {H : Type} {enc : TypeId × Value → H} {w : World} {spare : Nat → Bool} {held : Bool}
theorem open_zs {A : Option Addr} {n c : Nat} {d : DataW H} {p : List MemPlace} (h : DataW.Trod enc Try.prog w 0 spare held 33 (.slice A n c) d p) : ∃ xs, ZS w A n xs ∧ ZI xs ∧ n ≤ c := by
  obtain ⟨xs, ⟨h1, h2, h3⟩, hc⟩ := open_nums (k := .i64) Try.underlying33 Try.underlying3 cellsIntZ h
  refine ⟨xs, ⟨h1, fun hn => ?_⟩, fun x hx => bounds_i64 (h2 x hx), hc⟩
  obtain ⟨b, off, e, hb, hc⟩ := h3 hn
  exact ⟨b, off, e, hb, fun j hj => hc j _ (List.getElem?_eq_getElem hj)⟩
end
end Go.Proofs.Ytomjaieplpjcpaa
