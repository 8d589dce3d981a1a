/- Words for a slice of acts that reads as a list, nil let in. -/
import Derived.WalkKit
import Derived.Below
namespace Go.Proofs.YteencfldehcbbaaDoor
open Go.RowKit

/-- The four cells of an act. -/
def ActAt (w : World) (b o : Nat) (f : Int × Int × Int × Bool) : Prop :=
  w.cell? ⟨b, o + 0, none⟩ = some (.int .i64 f.1) ∧ w.cell? ⟨b, o + 1, none⟩ = some (.int .i64 f.2.1) ∧ w.cell? ⟨b, o + 2, none⟩ = some (.int .i64 f.2.2.1) ∧ w.cell? ⟨b, o + 3, none⟩ = some (.bool f.2.2.2)
/-- Its numbers are ints. -/
def ActOk (f : Int × Int × Int × Bool) : Prop :=
  (-9223372036854775808 ≤ f.1 ∧ f.1 ≤ 9223372036854775807) ∧ (-9223372036854775808 ≤ f.2.1 ∧ f.2.1 ≤ 9223372036854775807) ∧ (-9223372036854775808 ≤ f.2.2.1 ∧ f.2.2.1 ≤ 9223372036854775807)
/-- A slice of acts that reads as the list l, its memory below block B. -/
def FA (w : World) (B : Nat) (A : Option Addr) (n : Nat) (l : List (Int × Int × Int × Bool)) : Prop :=
  l.length = n ∧ (0 < n → ∃ b off, A = some ⟨b, off, none⟩ ∧ b < B ∧ ∀ i f, l[i]? = some f → ActAt w b (off + i * 4) f) ∧ ∀ f ∈ l, ActOk f
theorem FA.below {w w' : World} {B n : Nat} {A : Option Addr} {l : List (Int × Int × Int × Bool)} (h : FA w B A n l) (hb : Below B w w') : FA w' B A n l := by
  refine ⟨h.1, fun hn => ?_, h.2.2⟩
  obtain ⟨b, off, e, hlt, hc⟩ := h.2.1 hn
  refine ⟨b, off, e, hlt, fun i f hi => ?_⟩
  obtain ⟨h0, h1, h2, h3⟩ := hc i f hi
  exact ⟨(hb.cell (p := ⟨b, _, none⟩) hlt).trans h0, (hb.cell (p := ⟨b, _, none⟩) hlt).trans h1, (hb.cell (p := ⟨b, _, none⟩) hlt).trans h2, (hb.cell (p := ⟨b, _, none⟩) hlt).trans h3⟩
theorem FA.more {w : World} {B B' n : Nat} {A : Option Addr} {l : List (Int × Int × Int × Bool)} (h : FA w B A n l) (hB : B ≤ B') : FA w B' A n l := by
  refine ⟨h.1, fun hn => ?_, h.2.2⟩
  obtain ⟨b, off, e, hlt, hc⟩ := h.2.1 hn
  exact ⟨b, off, e, by omega, hc⟩
theorem FA.at_ {w : World} {B n k : Nat} {A : Option Addr} {l : List (Int × Int × Int × Bool)} (h : FA w B A n l) (hk : k < n) : ∃ b off x0 x1 x2 x3, A = some ⟨b, off, none⟩ ∧ b < B ∧
    w.cell? ⟨b, off + k * 4, none⟩ = some (.int .i64 x0) ∧ w.cell? ⟨b, off + k * 4 + 1, none⟩ = some (.int .i64 x1) ∧ w.cell? ⟨b, off + k * 4 + 2, none⟩ = some (.int .i64 x2) ∧ w.cell? ⟨b, off + k * 4 + 3, none⟩ = some (.bool x3) ∧ ActOk (x0, x1, x2, x3) := by
  obtain ⟨b, off, e, hlt, hc⟩ := h.2.1 (by omega)
  have hl : k < l.length := by have := h.1; omega
  obtain ⟨h0, h1, h2, h3⟩ := hc k l[k] (List.getElem?_eq_getElem hl)
  exact ⟨b, off, l[k].1, l[k].2.1, l[k].2.2.1, l[k].2.2.2, e, hlt, h0, h1, h2, h3, h.2.2 _ (List.getElem_mem hl)⟩
end Go.Proofs.YteencfldehcbbaaDoor
