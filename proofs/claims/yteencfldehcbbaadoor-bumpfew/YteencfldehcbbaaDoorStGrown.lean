/- The contracts of the law package's made and grown. -/
import Derived.Test.YteencfldehcbbaaDoorStDo2
import Derived.Deep.DeepCutAuto
namespace Go.Proofs.YteencfldehcbbaaDoor
open Go.RowKit

/-- The five cells of an act. -/
def SActAt (w : World) (b o : Nat) (f : Int × Int × Int × Int × Nat) : Prop :=
  w.cell? ⟨b, o + 0, none⟩ = some (.int .i64 f.1) ∧ w.cell? ⟨b, o + 1, none⟩ = some (.int .i64 f.2.1) ∧ w.cell? ⟨b, o + 2, none⟩ = some (.int .i64 f.2.2.1) ∧ w.cell? ⟨b, o + 3, none⟩ = some (.int .i64 f.2.2.2.1) ∧ w.cell? ⟨b, o + 4, none⟩ = some (.int .u64 f.2.2.2.2)
/-- Its numbers are what their types allow. -/
def SActOk (f : Int × Int × Int × Int × Nat) : Prop := I64 f.2.1 ∧ I64 f.2.2.1 ∧ f.2.2.2.2 < 18446744073709551616
/-- A slice of acts that reads as the list l, its memory below block B. -/
def SA (w : World) (B : Nat) (A : Option Addr) (n : Nat) (l : List (Int × Int × Int × Int × Nat)) : Prop :=
  l.length = n ∧ (0 < n → ∃ b off, A = some ⟨b, off, none⟩ ∧ b < B ∧ ∀ i f, l[i]? = some f → SActAt w b (off + i * 5) f) ∧ ∀ f ∈ l, SActOk f
theorem SA.below {w w' : World} {B n : Nat} {A : Option Addr} {l : List (Int × Int × Int × Int × Nat)} (h : SA w B A n l) (hb : Below B w w') : SA w' B A n l := by
  refine ⟨h.1, fun hn => ?_, h.2.2⟩
  obtain ⟨b, off, e, hlt, hc⟩ := h.2.1 hn
  refine ⟨b, off, e, hlt, fun i f hi => ?_⟩
  obtain ⟨h0, h1, h2, h3, h4⟩ := hc i f hi
  exact ⟨(hb.cell (p := ⟨b, _, none⟩) hlt).trans h0, (hb.cell (p := ⟨b, _, none⟩) hlt).trans h1, (hb.cell (p := ⟨b, _, none⟩) hlt).trans h2, (hb.cell (p := ⟨b, _, none⟩) hlt).trans h3, (hb.cell (p := ⟨b, _, none⟩) hlt).trans h4⟩
theorem SA.more {w : World} {B B' n : Nat} {A : Option Addr} {l : List (Int × Int × Int × Int × Nat)} (h : SA w B A n l) (hB : B ≤ B') : SA w B' A n l := by
  refine ⟨h.1, fun hn => ?_, h.2.2⟩
  obtain ⟨b, off, e, hlt, hc⟩ := h.2.1 hn
  exact ⟨b, off, e, by omega, hc⟩
theorem SA.at_ {w : World} {B n k : Nat} {A : Option Addr} {l : List (Int × Int × Int × Int × Nat)} (h : SA w B A n l) (hk : k < n) : ∃ (b off : Nat) (x0 x1 x2 x3 : Int) (x4 : Nat), A = some ⟨b, off, none⟩ ∧ b < B ∧
    w.cell? ⟨b, off + k * 5, none⟩ = some (.int .i64 x0) ∧ w.cell? ⟨b, off + k * 5 + 1, none⟩ = some (.int .i64 x1) ∧ w.cell? ⟨b, off + k * 5 + 2, none⟩ = some (.int .i64 x2) ∧ w.cell? ⟨b, off + k * 5 + 3, none⟩ = some (.int .i64 x3) ∧ w.cell? ⟨b, off + k * 5 + 4, none⟩ = some (.int .u64 x4) ∧ I64 x1 ∧ I64 x2 ∧ x4 < 18446744073709551616 := by
  obtain ⟨b, off, e, hlt, hc⟩ := h.2.1 (by omega)
  have hl : k < l.length := by have := h.1; omega
  obtain ⟨h0, h1, h2, h3, h4⟩ := hc k l[k] (List.getElem?_eq_getElem hl)
  have hok := h.2.2 _ (List.getElem_mem hl)
  exact ⟨b, off, l[k].1, l[k].2.1, l[k].2.2.1, l[k].2.2.2.1, l[k].2.2.2.2, e, hlt, h0, h1, h2, h3, h4, hok.1, hok.2.1, hok.2.2⟩

theorem size12 (n : Int) : ∃ N : Nat, 1 ≤ N ∧ N ≤ 12 ∧ 1 + (if n < 0 then 0 else n) % 12 = (N : Int) := by
  refine ⟨(1 + (if n < 0 then 0 else n) % 12).toNat, ?_⟩
  split <;> omega

section
variable {w0 w w1 w' : World} {B : SB} {R : RB} {C K : Nat} {own wd : Nat → Nat}
theorem Pair.base (h : Pair w1 w' B R C K own wd) (hb : Below w.heap.size w w1) : Pair w w' B R C K own wd := by
  have hs := hb.size
  obtain ⟨⟨a1, a2⟩, ⟨b1, b2⟩, ⟨c1, c2⟩, ⟨d1, d2⟩, e1, e2⟩ := h.held.win
  obtain ⟨⟨f1, f2⟩, ⟨g1, g2⟩, h1, h2⟩ := h.rwin
  exact ⟨⟨h.held.st, hb.trans (h.held.bel.mono hs), ⟨⟨by omega, a2⟩, ⟨by omega, b2⟩, ⟨by omega, c2⟩, ⟨by omega, d2⟩, by omega, e2⟩, h.held.tab⟩, h.rf, ⟨⟨by omega, f2⟩, ⟨by omega, g2⟩, by omega, h2⟩, h.ap⟩
end
/-- What made leaves. -/
def MadePost (w : World) (e : Ending) (w' : World) : Prop :=
  ∃ (B : SB) (R : RB) (C K : Nat), e = .returned (.tuple #[.pointer (some ⟨B.s, 0, none⟩), .pointer (some ⟨R.m, 0, none⟩)]) ∧ (C ≤ 12 ∧ K ≤ 12) ∧ Pair w w' B R C K (fun _ => 0) (fun _ => 0)
/-- What grown leaves. -/
def GrownPost (n : Nat) (w : World) (e : Ending) (w' : World) : Prop :=
  (80 < n ∧ e = .returned (.tuple #[.pointer none, .pointer none]) ∧ Below w.heap.size w w') ∨
  (n ≤ 80 ∧ ∃ (B : SB) (R : RB) (C K : Nat) (own wd : Nat → Nat), e = .returned (.tuple #[.pointer (some ⟨B.s, 0, none⟩), .pointer (some ⟨R.m, 0, none⟩)]) ∧ (C ≤ 12 ∧ K ≤ 12) ∧ Pair w w' B R C K own wd)
def GrownAt (w : World) (B : SB) (R : RB) (C K n : Nat) (x : Value) (wr : World) : Prop :=
  ∃ (k : Nat) (own wd : Nat → Nat), k ≤ n ∧ x = .int .i64 k ∧ Pair w wr B R C K own wd
end Go.Proofs.YteencfldehcbbaaDoor
