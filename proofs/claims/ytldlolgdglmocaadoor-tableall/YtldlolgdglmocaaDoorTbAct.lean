/- A slice of acts that reads as a list; the token of which an act speaks. -/
import Derived.Test.YtldlolgdglmocaaDoorTbRow
import Derived.Deep.DeepCutAuto
namespace Go.Proofs.YtldlolgdglmocaaDoor
open Go.RowKit

/-- An act. -/
structure Ac where
  kind : Int
  which : Int
  raw : Bool
  ti : Int
  tg : Int
  e : En
def Ac.cells (f : Ac) : Array Value := #[.int .i64 f.kind, .int .i64 f.which, .bool f.raw, .int .i64 f.ti, .int .i64 f.tg, .int .i64 f.e.a, .int .i64 f.e.r, .bool f.e.h, .bool f.e.p]
/-- The nine cells of an act. -/
def AcAt (w : World) (b o : Nat) (f : Ac) : Prop :=
  w.cell? ⟨b, o + 0, none⟩ = some (.int .i64 f.kind) ∧ w.cell? ⟨b, o + 1, none⟩ = some (.int .i64 f.which) ∧ w.cell? ⟨b, o + 2, none⟩ = some (.bool f.raw) ∧ w.cell? ⟨b, o + 3, none⟩ = some (.int .i64 f.ti) ∧ w.cell? ⟨b, o + 4, none⟩ = some (.int .i64 f.tg) ∧
  w.cell? ⟨b, o + 5, none⟩ = some (.int .i64 f.e.a) ∧ w.cell? ⟨b, o + 6, none⟩ = some (.int .i64 f.e.r) ∧ w.cell? ⟨b, o + 7, none⟩ = some (.bool f.e.h) ∧ w.cell? ⟨b, o + 8, none⟩ = some (.bool f.e.p)
/-- A slice of acts that reads as the list l, its memory below block B. -/
def TA (w : World) (B : Nat) (A : Option Addr) (n : Nat) (l : List Ac) : Prop :=
  l.length = n ∧ (0 < n → ∃ b off, A = some ⟨b, off, none⟩ ∧ b < B ∧ ∀ i f, l[i]? = some f → AcAt w b (off + i * 9) f)
theorem TA.below {w w' : World} {B n : Nat} {A : Option Addr} {l : List Ac} (h : TA w B A n l) (hb : Below B w w') : TA w' B A n l := by
  refine ⟨h.1, fun hn => ?_⟩
  obtain ⟨b, off, e, hlt, hc⟩ := h.2 hn
  refine ⟨b, off, e, hlt, fun i f hi => ?_⟩
  obtain ⟨h0, h1, h2, h3, h4, h5, h6, h7, h8⟩ := hc i f hi
  have k : ∀ o, w'.cell? ⟨b, o, none⟩ = w.cell? ⟨b, o, none⟩ := fun o => hb.cell (p := ⟨b, o, none⟩) hlt
  exact ⟨(k _).trans h0, (k _).trans h1, (k _).trans h2, (k _).trans h3, (k _).trans h4, (k _).trans h5, (k _).trans h6, (k _).trans h7, (k _).trans h8⟩
theorem TA.at_ {w : World} {B n k : Nat} {A : Option Addr} {l : List Ac} (h : TA w B A n l) (hk : k < n) : ∃ (b off : Nat) (f : Ac), A = some ⟨b, off, none⟩ ∧ b < B ∧ AcAt w b (off + k * 9) f := by
  obtain ⟨b, off, e, hlt, hc⟩ := h.2 (by omega)
  have hl : k < l.length := by have := h.1; omega
  exact ⟨b, off, l[k], e, hlt, hc k l[k] (List.getElem?_eq_getElem hl)⟩

theorem uint_mod (c : Int) (C : Nat) (hC : 1 ≤ C) (hC2 : C ≤ 1000) : ∃ q : Nat, q < C ∧ RowKit.wrap64 ((IntKind.u64.wrap c).tmod (C : Int)) = (q : Int) := by
  refine ⟨((c % 18446744073709551616) % (C : Int)).toNat, ?_, ?_⟩
  · have := Int.emod_nonneg (c % 18446744073709551616) (b := (C : Int)) (by omega)
    have := Int.emod_lt_of_pos (c % 18446744073709551616) (b := (C : Int)) (by omega)
    omega
  · rw [IntKind.wrap_u64, Int.tmod_eq_emod_of_nonneg (Int.emod_nonneg _ (by decide))]
    have := Int.emod_nonneg (c % 18446744073709551616) (b := (C : Int)) (by omega)
    have := Int.emod_lt_of_pos (c % 18446744073709551616) (b := (C : Int)) (by omega)
    unfold RowKit.wrap64
    omega
/-- The token of which an act speaks: one of those told, or its own. -/
def Speaks (f : Ac) (l : List (Int × Int)) (x : Int × Int) : Prop := (x = (f.ti, f.tg) ∧ (f.raw = true ∨ l = [])) ∨ (f.raw = false ∧ x ∈ l)
def TokPost (f : Ac) (l : List (Int × Int)) (w : World) (e : Ending) (w' : World) : Prop :=
  ∃ x : Int × Int, e = .returned (.agg #[.int .i64 x.1, .int .i64 x.2]) ∧ Speaks f l x ∧ Below w.heap.size w w'
set_option maxRecDepth 100000 in
set_option maxHeartbeats 2000000 in
theorem token_of (f : Ac) (v : Value) (l : List (Int × Int)) (base : Nat) (w : World) (h : TR w base v l) (hl : l.length ≤ 1000) :
    Calls Tryd.prog 23 #[.agg f.cells, v] w (TokPost f l w) := by
  obtain ⟨kd, wh, rw, ti, tg, ⟨ea, er, eh, ep⟩⟩ := f
  unfold Ac.cells
  dsimp only
  have hb0 := ((Below.refl w.heap.size w).alloc (Nat.le_refl _) (.cells #[.int .i64 kd, .int .i64 wh, .bool rw, .int .i64 ti, .int .i64 tg, .int .i64 ea, .int .i64 er, .bool eh, .bool ep] 37)).alloc (by simp) (.cells #[.int .i64 0, .int .i64 0] 33)
  have HB := Lib.hid hb0
  obtain ⟨A, c, rfl⟩ := h.slice
  cases rw
  · by_cases h0 : l.length = 0
    · have hz : l = [] := List.length_eq_zero_iff.1 h0
      subst hz
      clear h h0 hb0
      go_enter Tryd.func23, Tryd.ntmps23
      go_wp2
      refine bodyPost_ret (v := .agg #[.int .i64 ti, .int .i64 tg]) (by simp [results, Tryd.results23, go_sem]) rfl ⟨(ti, tg), rfl, .inl ⟨rfl, .inr rfl⟩, ?_⟩
      exact ((Below.refl w.heap.size w).alloc (Nat.le_refl _) _).alloc (by simp) _
    · obtain ⟨q, q1, q2⟩ := uint_mod wh l.length (by omega) hl
      obtain ⟨g, cap, e, hg, hlt, c0, c1⟩ := h.at_ q1
      injection e with e1 e2 e3
      subst e1 e3
      have k0 := (hb0.cell (p := ⟨g, q * 2, none⟩) hlt).trans c0
      have k1 := (hb0.cell (p := ⟨g, q * 2 + 1, none⟩) hlt).trans c1
      have hmem : l[q] ∈ l := List.getElem_mem q1
      have HM := Lib.hid hmem
      clear h c0 c1 hb0 hmem
      generalize l[q] = x at *
      generalize l.length = n at *
      have d0 : ((n : Int) == 0) = false := by simp; omega
      have d1 : (n : Int) ≠ 0 := by omega
      have u0 : IntKind.u64.wrap (n : Int) = (n : Int) := by rw [IntKind.wrap_u64]; omega
      have u1 : (q : Int) < (n : Int) := by omega
      go_enter Tryd.func23, Tryd.ntmps23
      go_wp2
      refine bodyPost_ret (v := .agg #[.int .i64 x.1, .int .i64 x.2]) (by simp [results, Tryd.results23, go_sem]) rfl ⟨x, rfl, .inr ⟨rfl, HM.out⟩, ?_⟩
      exact ((Below.refl w.heap.size w).alloc (Nat.le_refl _) _).alloc (by simp) _
  · clear h hb0
    go_enter Tryd.func23, Tryd.ntmps23
    go_wp2
    refine bodyPost_ret (v := .agg #[.int .i64 ti, .int .i64 tg]) (by simp [results, Tryd.results23, go_sem]) rfl ⟨(ti, tg), rfl, .inl ⟨rfl, .inl rfl⟩, ?_⟩
    exact ((Below.refl w.heap.size w).alloc (Nat.le_refl _) _).alloc (by simp) _
end Go.Proofs.YtldlolgdglmocaaDoor
