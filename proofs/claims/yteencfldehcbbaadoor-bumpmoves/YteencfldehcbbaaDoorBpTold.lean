/- What both halves tell of themselves. -/
import Derived.Test.YteencfldehcbbaaDoorBpLs
import Derived.Test.YteencfldehcbbaaDoorBpFewM
namespace Go.Proofs.YteencfldehcbbaaDoor
open Go.RowKit Go.Sort BP
set_option linter.unusedVariables false

theorem RowPost.rd {xs : List Nat} {w w' : World} {e : Ending} (h : RowPost xs w e w') : ∃ A c, e = .returned (.slice A xs.length c) ∧ IS w' (.slice A xs.length c) xs ∧ Below w.heap.size w w' ∧ ∀ W, Below w'.heap.size w' W → IS W (.slice A xs.length c) xs := by
  obtain ⟨A, c, he, hI, hb, ha⟩ := h.got
  exact ⟨A, c, he, hI, hb, fun W hW => hI.below hW fun g off n c' e => by injection e with e; exact (ha _ e).2⟩
theorem is_heap {w W : World} {v : Value} {xs : List Nat} (h : IS w v xs) (e : W.heap = w.heap) : IS W v xs := by
  obtain ⟨A, c, rfl, hc⟩ := h
  refine ⟨A, c, rfl, fun i x hx => ?_⟩
  obtain ⟨g, off, rfl, h1⟩ := hc i x hx
  exact ⟨g, off, rfl, (World.cell?_of_block (by rw [e])).trans h1⟩
theorem same_below {w W : World} (e1 : W.heap = w.heap) (e2 : W.os = w.os) (e3 : W.tape = w.tape) (e4 : W.output = w.output) : Below w.heap.size w W := ⟨e2, e3, e4, by rw [e1]; exact Nat.le_refl _, fun k _ => by rw [e1]⟩
theorem bthru {w a b : World} (h : Below w.heap.size w a) (k : Below a.heap.size a b) : Below w.heap.size w b := h.trans (k.mono h.size)
theorem bback {w W b : World} (k : Below W.heap.size W b) (e1 : W.heap = w.heap) (e2 : W.os = w.os) (e3 : W.tape = w.tape) (e4 : W.output = w.output) : Below w.heap.size w b := bthru (same_below e1 e2 e3 e4) k
theorem bto {w a W : World} (h : Below w.heap.size w a) (e1 : W.heap = a.heap) (e2 : W.os = a.os) (e3 : W.tape = a.tape) (e4 : W.output = a.output) : Below w.heap.size w W := bthru h (same_below e1 e2 e3 e4)
section
variable {w w1 w2 : World} {B : SB} {R : RB} {K p p' r r' bx cx : Nat} {D D' : Dt}
theorem LS.told (h : LS w w1 B R K p p' r r' bx cx D) (hT : Tab w) (i : Nat) (hi : i < 2) : ∃ (q q' : Nat) (xs : List Nat) (rm : Nat), xs.length ≤ 16 ∧ w1.cell? ⟨bx, i, none⟩ = some (.pointer (some ⟨q, 0, none⟩)) ∧ w1.cell? ⟨cx, i, none⟩ = some (.pointer (some ⟨q', 0, none⟩)) ∧ bx < w1.heap.size ∧ cx < w1.heap.size ∧
    Hid (∀ W, Below w1.heap.size w1 W → Calls Tryd.prog 16 #[.pointer (some ⟨q, 0, none⟩)] W (RowPost xs W)) ∧ Hid (∀ W, Below w1.heap.size w1 W → Calls Tryd.prog 17 #[.pointer (some ⟨q', 0, none⟩)] W (RowPost xs W)) ∧
    Hid (∀ W, Below w1.heap.size w1 W → Calls Tryd.prog 18 #[.pointer (some ⟨q, 0, none⟩)] W fun e w' => e = .returned (.int .i64 (rm : Nat)) ∧ Below W.heap.size W w') ∧ Hid (∀ W, Below w1.heap.size w1 W → Calls Tryd.prog 19 #[.pointer (some ⟨q', 0, none⟩)] W fun e w' => e = .returned (.int .i64 (rm : Nat)) ∧ Below W.heap.size W w') := by
  have hG := h.good
  have hK := h.kb
  have : i = 0 ∨ i = 1 := by omega
  rcases this with rfl | rfl
  · refine ⟨p, r, chunks D.S.parts, BP.room K D.S, hG.a.clen, h.x.p0, h.y.p0, h.x.lt, h.y.lt, Lib.hid fun W hW => ?_, Lib.hid fun W hW => ?_, Lib.hid fun W hW => ?_, Lib.hid fun W hW => ?_⟩
    · obtain ⟨s, s', hc⟩ := (h.later hT hW).co; exact hc.chunks hG.a
    · obtain ⟨s, s', hc⟩ := (h.later hT hW).ro; exact hc.chunks hG.a
    · obtain ⟨s, s', hc⟩ := (h.later hT hW).co; exact hc.room hG.a.fl
    · obtain ⟨s, s', hc⟩ := (h.later hT hW).ro; exact rroom_any hc.a hc.rf.size hK.2 hG.a.fl
  · refine ⟨p', r', chunks D.T.parts, BP.room K D.T, hG.b.clen, h.x.p1, h.y.p1, h.x.lt, h.y.lt, Lib.hid fun W hW => ?_, Lib.hid fun W hW => ?_, Lib.hid fun W hW => ?_, Lib.hid fun W hW => ?_⟩
    · obtain ⟨s, s', hc⟩ := (h.later hT hW).co; exact hc.swap.chunks hG.b
    · obtain ⟨s, s', hc⟩ := (h.later hT hW).ro; exact hc.swap.chunks hG.b
    · obtain ⟨s, s', hc⟩ := (h.later hT hW).co; exact hc.swap.room hG.b.fl
    · obtain ⟨s, s', hc⟩ := (h.later hT hW).ro; exact rroom_any hc.b hc.rf.size hK.2 hG.b.fl
/-- What is told of a chunk. -/
theorem LS.chunk (h : LS w w1 B R K p p' r r' bx cx D) (hT : Tab w) (c : Nat) (hc : c < 16) : ∃ (o : Nat) (b1 b2 : Bool), o < 9223372036854775808 ∧ w1.cell? ⟨R.m, 2, none⟩ = some (.slice (some ⟨R.q, 0, none⟩) 16 16) ∧ w1.cell? ⟨R.q, c, none⟩ = some (.int .i64 (o : Nat)) ∧ R.m < w1.heap.size ∧ R.q < w1.heap.size ∧
    Hid (∀ W, Below w1.heap.size w1 W → Calls Tryd.prog 20 #[.pointer (some ⟨B.s, 0, none⟩), .int .i64 (c : Nat)] W fun e w' => e = .returned (.int .i64 (o : Nat)) ∧ W = w') ∧
    Hid (∀ W, Below w1.heap.size w1 W → Calls Tryd.prog 21 #[.pointer (some ⟨p, 0, none⟩), .int .i64 (c : Nat)] W fun e w' => e = .returned (.bool b1) ∧ Below W.heap.size W w') ∧ Hid (∀ W, Below w1.heap.size w1 W → Calls Tryd.prog 22 #[.pointer (some ⟨r, 0, none⟩), .int .i64 (c : Nat)] W fun e w' => e = .returned (.bool b1) ∧ Below W.heap.size W w') ∧
    Hid (∀ W, Below w1.heap.size w1 W → Calls Tryd.prog 21 #[.pointer (some ⟨p', 0, none⟩), .int .i64 (c : Nat)] W fun e w' => e = .returned (.bool b2) ∧ Below W.heap.size W w') ∧ Hid (∀ W, Below w1.heap.size w1 W → Calls Tryd.prog 22 #[.pointer (some ⟨r', 0, none⟩), .int .i64 (c : Nat)] W fun e w' => e = .returned (.bool b2) ∧ Below W.heap.size W w') := by
  have hG := h.good
  obtain ⟨t, t', hro⟩ := h.ro
  obtain ⟨hle, hl⟩ := parts_le hG.a (by decide)
  obtain ⟨hle', hl'⟩ := parts_le hG.b (by decide)
  obtain ⟨s, s', hco⟩ := h.co
  have hm := hro.rwin.mem (x := R.m) (by simp [RB.bl])
  have hq := hro.rwin.mem (x := R.q) (by simp [RB.bl])
  refine ⟨D.own c, isBig D.S.parts c, isBig D.T.parts c, hco.held.st.olt c, hro.rf.owners, hro.rf.orow.cell c hc, hm.2, hq.2, Lib.hid fun W hW => ?_, Lib.hid fun W hW => ?_, Lib.hid fun W hW => ?_, Lib.hid fun W hW => ?_, Lib.hid fun W hW => ?_⟩
  · obtain ⟨s, s', hc'⟩ := (h.later hT hW).co
    have := owner_any hc'.held.st (c : Int)
    rw [ownerOf_in hc] at this
    exact this
  · obtain ⟨s, s', hc'⟩ := (h.later hT hW).co; exact hc'.big hG.a _ (by omega)
  · obtain ⟨s, s', hc'⟩ := (h.later hT hW).ro; exact rbig_any hc'.a hle hl _
  · obtain ⟨s, s', hc'⟩ := (h.later hT hW).co; exact hc'.swap.big hG.b _ (by omega)
  · obtain ⟨s, s', hc'⟩ := (h.later hT hW).ro; exact rbig_any hc'.b hle' hl' _
end
end Go.Proofs.YteencfldehcbbaaDoor
