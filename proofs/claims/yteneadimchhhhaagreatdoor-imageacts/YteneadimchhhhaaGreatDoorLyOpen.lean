/- How a layout among the laws' arguments is opened; a layout in a law's box, and the calls upon it. -/
import Derived.Test.YteneadimchhhhaaGreatDoorLyAlive
namespace Go.Proofs.YteneadimchhhhaaGreatDoor
open Go.ChangeShapes Go.WideShapes Go.ChangeAt Go.RowKit Go.Joins Go.Deep

section
variable {H : Type} {enc : TypeId × Value → H} {w : World} {spare : Nat → Bool} {held : Bool}
theorem open_ni {fuel : Nat} {v : Value} {x : DataW H × List MemPlace} (h : DataW.trod enc Tryz.prog w 0 spare held fuel 42 [v] = some x) : ∃ A n c xs, v = .slice A n c ∧ NI w 0 w.heap.size A n c xs := by
  rcases open_ints Tryz.underlying42 Tryz.underlying3 (by kernel_rfl) h with ⟨hcs, _⟩ | ⟨a, n, c, zs, hcs, _, hl, hm, hz, _, hcell, hwz⟩
  · simp at hcs
    subst hcs
    exact ⟨none, 0, 0, [], rfl, ⟨rfl, by simp, fun h => absurd h (by omega)⟩, (fun a e => by cases e), fun _ => rfl⟩
  · simp at hcs
    subst hcs
    have hlm : n ≤ zs.length := by rw [hz]; split <;> omega
    refine ⟨some a, n, c, zs.take n, rfl, ⟨by simp; omega, fun x hx => hwz x (List.mem_of_mem_take hx), fun hn => ?_⟩, (fun a e => Nat.zero_le _), (fun e => by cases e)⟩
    have h0 := hcell 0 (by omega)
    refine ⟨a.block, a.off, by rw [← addr_zero h0], ?_, fun i x hx => ?_⟩
    · have := cell_lt h0
      rw [addr_plain h0] at this
      exact this
    · rw [List.getElem?_take] at hx
      split at hx
      · have hil : i < zs.length := by omega
        have hi := hcell i hil
        rw [addr_plain hi] at hi
        rw [List.getElem?_eq_getElem hil] at hx
        injection hx with hx
        simpa [List.getElem?_eq_getElem hil, hx] using hi
      · cases hx
set_option maxRecDepth 100000 in
set_option linter.constructorNameAsVariable false in
theorem open_layout {r : Reach} {b0 : Nat} {v : Value} {d : DataW H} {p : List MemPlace} (hv : Value.okWide Tryz.prog w r b0 70 v) (h : DataW.Trod enc Tryz.prog w 0 spare held 70 v d p) :
    ∃ F R A n c xs D m k ys, v = .agg #[.int .i64 F, .slice A n c, .int .i64 R, .slice D m k] ∧ I64 F ∧ I64 R ∧ Lists w 0 w.heap.size A n c xs D m k ys := by
  obtain ⟨v0, v1, v2, v3, y0, y1, y2, y3, nn, rfl, _, _, h0, h1, h2, h3⟩ := open_agg4 Tryz.underlying70 (by kernel_rfl) (by kernel_rfl) hv h
  obtain ⟨F, e0, _, w0⟩ := DataW.trod_int Tryz.underlying3 h0
  obtain ⟨R, e2, _, w2⟩ := DataW.trod_int Tryz.underlying3 h2
  obtain ⟨A, n, c, xs, rfl, hx⟩ := open_ni h1
  obtain ⟨D, m, k, ys, rfl, hy⟩ := open_ni h3
  simp at e0 e2
  subst e0 e2
  have := bounds_i64 w0
  have := bounds_i64 w2
  exact ⟨F, R, A, n, c, xs, D, m, k, ys, rfl, ⟨by omega, by omega⟩, ⟨by omega, by omega⟩, hx, hy⟩
end

/-- A layout in a law's box, its lists below it, all that was there when the law began as it was. -/
structure LayK (w : World) (F R : Int) (A : Option Addr) (n c : Nat) (xs : List Int) (D : Option Addr) (m d : Nat) (ys : List Int) (W : World) : Prop where
  box : Whole W w.heap.size 70 #[.int .i64 F, .slice A n c, .int .i64 R, .slice D m d]
  lists : Lists W 0 w.heap.size A n c xs D m d ys
  bel : Below w.heap.size w W
  hF : I64 F
  hR : I64 R
  hn : n ≤ 1000000
  hm : m ≤ 1000000

section
variable {w : World} {F R : Int} {A : Option Addr} {n c : Nat} {xs : List Int} {D : Option Addr} {m d : Nat} {ys : List Int} {W W' : World}
theorem LayK.first (h : Lists w 0 w.heap.size A n c xs D m d ys) (hF : I64 F) (hR : I64 R) (hn : n ≤ 1000000) (hm : m ≤ 1000000) : LayK w F R A n c xs D m d ys (w.alloc (.cells #[.int .i64 F, .slice A n c, .int .i64 R, .slice D m d] 70)) :=
  ⟨Whole.fresh _ _ _, h.kept ((Kept.refl _ _ _).alloc (Nat.le_refl _) _), (Below.refl _ _).alloc (Nat.le_refl _) _, hF, hR, hn, hm⟩
theorem LayK.size (h : LayK w F R A n c xs D m d ys W) : w.heap.size < W.heap.size := h.box.lt
theorem LayK.later (h : LayK w F R A n c xs D m d ys W) (hb : Below W.heap.size W W') : LayK w F R A n c xs D m d ys W' := by
  have hs := h.size
  exact ⟨h.box.below hb hs, h.lists.kept (Kept.of_below hb (by omega)), h.bel.trans (hb.mono (by omega)), h.hF, h.hR, h.hn, h.hm⟩
theorem LayK.grow (h : LayK w F R A n c xs D m d ys W) (hb : Below (w.heap.size + 1) W W') : LayK w F R A n c xs D m d ys W' :=
  ⟨h.box.below hb (by omega), h.lists.kept (Kept.of_below hb (by omega)), h.bel.trans (hb.mono (by omega)), h.hF, h.hR, h.hn, h.hm⟩
theorem LayK.still (h : LayK w F R A n c xs D m d ys W) (e1 : W'.os = W.os) (e2 : W'.tape = W.tape) (e3 : W'.output = W.output) (e4 : W'.heap = W.heap) : LayK w F R A n c xs D m d ys W' :=
  h.later ⟨e1, e2, e3, by rw [e4]; exact Nat.le_refl _, fun k _ => by rw [e4]⟩
theorem LayK.cells (h : LayK w F R A n c xs D m d ys W) : W.cell? ⟨w.heap.size, 0, none⟩ = some (.int .i64 F) ∧ W.cell? ⟨w.heap.size, 1, none⟩ = some (.slice A n c) ∧ W.cell? ⟨w.heap.size, 2, none⟩ = some (.int .i64 R) ∧ W.cell? ⟨w.heap.size, 3, none⟩ = some (.slice D m d) :=
  ⟨h.box.cell 0, h.box.cell 1, h.box.cell 2, h.box.cell 3⟩

/-- The answer is v; the layout is as it was. -/
def KPost (w : World) (F R : Int) (A : Option Addr) (n c : Nat) (xs : List Int) (D : Option Addr) (m d : Nat) (ys : List Int) (W : World) (v : Value) (e : Ending) (W' : World) : Prop := e = .returned v ∧ Below W.heap.size W W' ∧ LayK w F R A n c xs D m d ys W'
/-- The answer is a slice that reads as zs. -/
def KRow (w : World) (F R : Int) (A : Option Addr) (n c : Nat) (xs : List Int) (D : Option Addr) (m d : Nat) (ys : List Int) (W : World) (zs : List Int) (e : Ending) (W' : World) : Prop := ∃ A' c', e = .returned (.slice A' zs.length c') ∧ NS .i64 W' W'.heap.size A' zs.length zs ∧ Below W.heap.size W W' ∧ LayK w F R A n c xs D m d ys W'

theorem LayK.sizeK (h : LayK w F R A n c xs D m d ys W) (C : Int) (hC : I64 C) : Calls Tryz.prog 70 #[.agg #[.int .i64 F, .slice A n c, .int .i64 R, .slice D m d], .int .i64 C] W (KPost w F R A n c xs D m d ys W (.tuple #[.int .i64 (LM.size F R xs ys C), .int .i64 (LM.code F R xs ys C)])) :=
  (lsize_any F R A n c xs D m d ys C w.heap.size W (Nat.le_of_lt h.size) h.hn h.hm h.hF h.hR h.lists.fst.ns h.lists.snd.ns hC).mono fun _ _ ⟨a, b⟩ => ⟨a, b, h.later b⟩
theorem LayK.refSizeK (h : LayK w F R A n c xs D m d ys W) (C : Int) (hC : I64 C) : Calls Tryz.prog 69 #[.agg #[.int .i64 F, .slice A n c, .int .i64 R, .slice D m d], .int .i64 C] W (KPost w F R A n c xs D m d ys W (.tuple #[.int .i64 (LM.size F R xs ys C), .int .i64 (LM.code F R xs ys C)])) :=
  (refSize_any F R A n c xs D m d ys C w.heap.size W (Nat.le_of_lt h.size) h.hn h.hm h.hF h.hR h.lists.fst.ns h.lists.snd.ns hC).mono fun _ _ ⟨a, b⟩ => ⟨a, b, h.later b⟩
theorem LayK.rightK (h : LayK w F R A n c xs D m d ys W) : Calls Tryz.prog 56 #[.agg #[.int .i64 F, .slice A n c, .int .i64 R, .slice D m d]] W (KPost w F R A n c xs D m d ys W (.bool (LM.right F R xs ys))) :=
  (lright_any F R A n c xs D m d ys w.heap.size W (Nat.le_of_lt h.size) h.hn h.hm h.hF h.hR h.lists.fst.ns h.lists.snd.ns).mono fun _ _ ⟨a, b⟩ => ⟨a, by rw [← b]; exact (Below.refl _ _).alloc (Nat.le_refl _) _, by rw [← b]; exact h.later ((Below.refl _ _).alloc (Nat.le_refl _) _)⟩
theorem LayK.refRightK (h : LayK w F R A n c xs D m d ys W) : Calls Tryz.prog 24 #[.agg #[.int .i64 F, .slice A n c, .int .i64 R, .slice D m d]] W (KPost w F R A n c xs D m d ys W (.bool (LM.right F R xs ys))) :=
  (refRight_any F R A n c xs D m d ys w.heap.size W (Nat.le_of_lt h.size) h.hn h.hm h.hF h.hR h.lists.fst.ns h.lists.snd.ns).mono fun _ _ ⟨a, b⟩ => ⟨a, by rw [← b]; exact (Below.refl _ _).alloc (Nat.le_refl _) _, by rw [← b]; exact h.later ((Below.refl _ _).alloc (Nat.le_refl _) _)⟩
theorem LayK.isRefErrK (h : LayK w F R A n c xs D m d ys W) (C p : Int) (hC : I64 C) (hc : LM.code F R xs ys C ≠ 0) : Calls Tryz.prog 90 #[.agg #[.int .i64 F, .slice A n c, .int .i64 R, .slice D m d], .int .i64 C, .int .i64 p] W (KPost w F R A n c xs D m d ys W (.tuple #[.bool false, .int .i64 (LM.code F R xs ys C)])) :=
  (isRef_err F R A n c xs D m d ys C p w.heap.size W (Nat.le_of_lt h.size) h.hn h.hm h.hF h.hR h.lists.fst.ns h.lists.snd.ns hC hc).mono fun _ _ ⟨a, b⟩ => ⟨a, b, h.later b⟩
theorem LayK.isRefOutK (h : LayK w F R A n c xs D m d ys W) (C p : Int) (hC : I64 C) (hc : LM.code F R xs ys C = 0) (hp : p < 0 ∨ LM.size F R xs ys C ≤ p) : Calls Tryz.prog 90 #[.agg #[.int .i64 F, .slice A n c, .int .i64 R, .slice D m d], .int .i64 C, .int .i64 p] W (KPost w F R A n c xs D m d ys W (.tuple #[.bool false, .int .i64 3])) :=
  (isRef_out F R A n c xs D m d ys C p w.heap.size W (Nat.le_of_lt h.size) h.hn h.hm h.hF h.hR h.lists.fst.ns h.lists.snd.ns hC hc (by rw [← LM.size_ok hc]; exact hp)).mono fun _ _ ⟨a, b⟩ => ⟨a, b, h.later b⟩
theorem LayK.isRefK (h : LayK w F R A n c xs D m d ys W) (C p : Int) (hC : I64 C) (hc : LM.code F R xs ys C = 0) (h0 : 0 ≤ p) (h1 : p < LM.size F R xs ys C) : Calls Tryz.prog 90 #[.agg #[.int .i64 F, .slice A n c, .int .i64 R, .slice D m d], .int .i64 C, .int .i64 p] W (KPost w F R A n c xs D m d ys W (.tuple #[.bool (LM.isRef F R xs ys p), .int .i64 0])) :=
  (isRef_ok F R A n c xs D m d ys C p w.heap.size W (Nat.le_of_lt h.size) h.hn h.hm h.hF h.hR h.lists.fst.ns h.lists.snd.ns hC hc h0 (by rw [← LM.size_ok hc]; exact h1)).mono fun _ _ ⟨a, b⟩ => ⟨a, b, h.later b⟩
theorem LayK.refIsRefK (h : LayK w F R A n c xs D m d ys W) (C p : Int) (hc : LM.code F R xs ys C = 0) (h0 : 0 ≤ p) (h1 : p < LM.size F R xs ys C) : Calls Tryz.prog 75 #[.agg #[.int .i64 F, .slice A n c, .int .i64 R, .slice D m d], .int .i64 p] W (KPost w F R A n c xs D m d ys W (.bool (LM.isRef F R xs ys p))) := by
  obtain ⟨hr, ⟨k1, k2, k3⟩, k4⟩ := LM.code_zero hc
  obtain ⟨⟨g1, g2, g3, g4, g5⟩, -, -⟩ := LM.right_parts hr
  have hs := LM.size_bd F R xs ys C
  refine (refIsRef_any F R A n c xs D m d ys p w.heap.size W (Nat.le_of_lt h.size) h.hn h.hm h.hR h.lists.fst.ns h.lists.snd.ns g1 g2 h0 (by omega) ?_).mono fun _ _ ⟨a, b⟩ => ⟨a, b, h.later b⟩
  by_cases hR0 : 0 < R
  · exact .inr hR0
  · have hz : R = 0 := by omega
    have := k3 hz
    subst this
    rw [LM.size_ok hc] at h1
    simp at h1
    exact .inl h1
theorem LayK.refSlotsK (h : LayK w F R A n c xs D m d ys W) (C : Int) (hC : I64 C) : Calls Tryz.prog 45 #[.agg #[.int .i64 F, .slice A n c, .int .i64 R, .slice D m d], .int .i64 C] W (KRow w F R A n c xs D m d ys W (LM.told F R xs ys C)) :=
  (refSlots_any F R A n c xs D m d ys C w.heap.size W (Nat.le_of_lt h.size) h.hn h.hm h.hF h.hR h.lists.fst.ns h.lists.snd.ns hC).mono fun _ _ ⟨v, a, ho, b⟩ => by
    obtain ⟨A', c', rfl, hN⟩ := ns_owns ho (told_wf F R xs ys C)
    exact ⟨A', c', a, hN, b, h.later b⟩
end
end Go.Proofs.YteneadimchhhhaaGreatDoor
