/- How tokens, texts and slices of tokens among the laws' arguments are opened. -/
import Derived.Test.YtlmiiapmanklpaaDoorTkLaid
import Derived.ChangeMaps5
namespace Go.Proofs.YtlmiiapmanklpaaDoor
open Go.ChangeShapes Go.WideShapes Go.ChangeAt Go.RowKit Go.Joins Go.Deep

section
variable {H : Type} {enc : TypeId × Value → H} {w : World} {spare : Nat → Bool} {held : Bool} {base : Nat}
set_option maxRecDepth 100000 in
theorem open_token {r : Reach} {b0 : Nat} {v : Value} {d : DataW H} {p : List MemPlace} (hv : Value.okWide Tryd.prog w r b0 23 v) (h : DataW.Trod enc Tryd.prog w base spare held 23 v d p) :
    ∃ a b, v = .agg #[.int .i64 a, .int .i64 b] := by
  obtain ⟨v0, v1, y0, y1, nn, rfl, _, _, h0, h1⟩ := open_agg2 Tryd.underlying23 (by kernel_rfl) (by kernel_rfl) hv h
  obtain ⟨a, e0, _, _⟩ := DataW.trod_int Tryd.underlying3 h0
  obtain ⟨b, e1, _, _⟩ := DataW.trod_int Tryd.underlying3 h1
  simp at e0 e1
  subst e0 e1
  exact ⟨a, b, rfl⟩
set_option maxRecDepth 100000 in
theorem open_tokens {A : Option Addr} {n c : Nat} {d : DataW H} {p : List MemPlace} (h : DataW.Trod enc Tryd.prog w 0 spare held 37 (.slice A n c) d p) : ∃ l, TS w w.heap.size A n c l := by
  obtain ⟨l, hf, hn⟩ := open_fields Tryd.underlying37 Tryd.underlying23 Tryd.underlying3 rfl rfl (by kernel_rfl) rfl rfl (by kernel_rfl) h
  refine ⟨l, hf, fun e => ?_, hn⟩
  subst e
  obtain ⟨fuel, hf'⟩ := h
  rcases open_slice_pairs Tryd.underlying37 Tryd.underlying23 (by kernel_rfl) rfl rfl (by kernel_rfl) (by kernel_rfl) hf' with ⟨hcs, _⟩ | ⟨a, len, cap, m, n', V0, V1, D0, D1, P0, P1, hcs, _⟩
  · simp [Value.cells] at hcs
    exact hcs.2
  · simp [Value.cells] at hcs
end
end Go.Proofs.YtlmiiapmanklpaaDoor
