/- The contract of the law package's do: one call of both, the same answer. -/
import Derived.Test.YtpddiakpnibcgaaDoorStAll
import Derived.Deep.RegionHeld3
namespace Go.Proofs.YtpddiakpnibcgaaDoor
open Go.RowKit

/-- What do leaves. -/
def DoPost (w0 : World) (B : SB) (R : RB) (C K : Nat) (e : Ending) (w' : World) : Prop :=
  e = .returned (.bool true) ∧ ∃ own' wd', Pair w0 w' B R C K own' wd'

section
variable {w0 w w' : World} {B : SB} {R : RB} {C K : Nat} {own wd : Nat → Nat}
theorem Pair.still (h : Pair w0 w B R C K own wd) (e1 : w'.os = w.os) (e2 : w'.tape = w.tape) (e3 : w'.output = w.output) (e4 : w'.heap = w.heap) : Pair w0 w' B R C K own wd := by
  have e5 : w'.heap.size = w.heap.size := by rw [e4]
  exact ⟨⟨h.held.st.heap e4, ⟨e1.trans h.held.bel.os, e2.trans h.held.bel.tape, e3.trans h.held.bel.output, by rw [e5]; exact h.held.bel.size, fun k hk => by rw [e4]; exact h.held.bel.block k hk⟩, by rw [e5]; exact h.held.win, fun k hk => (World.cell?_of_block (by rw [e4])).trans (h.held.tab k hk)⟩, h.rf.heap e4, by rw [e5]; exact h.rwin, h.ap⟩
/-- The act's own box is none of the store's blocks. -/
theorem Pair.far (h : Pair w0 w B R C K own wd) : w.heap.size ∉ [B.o, B.c, B.v] := by
  obtain ⟨⟨a1, a2⟩, ⟨b1, b2⟩, ⟨c1, c2⟩, ⟨d1, d2⟩, e1, e2⟩ := h.held.win
  simp
  omega

set_option maxRecDepth 100000 in
set_option maxHeartbeats 4000000 in
theorem do_0 (h : Pair w0 w B R C K own wd) (hT : Tab w0) (a b c : Int) (x : Nat) (ha : I64 a) :
    Calls Tryd.prog 12 #[.agg #[.int .i64 0, .int .i64 a, .int .i64 b, .int .i64 c, .int .u64 x], .pointer (some ⟨B.s, 0, none⟩), .pointer (some ⟨R.m, 0, none⟩)] w (DoPost w0 B R C K) := by
  have hb0 := (Below.refl w.heap.size w).alloc (Nat.le_refl _) (.cells #[.int .i64 0, .int .i64 a, .int .i64 b, .int .i64 c, .int .u64 x] 32)
  have hP := h.later hT hb0
  have hX := Whole.fresh w 32 #[.int .i64 0, .int .i64 a, .int .i64 b, .int .i64 c, .int .u64 x]
  have hf := h.far
  have F1 := take1_all hP.held.st hP.held.tab a ha
  have HF1 := Lib.hid F1
  have HX := Lib.hid hX
  have HP := Lib.hid hP
  have HF := Lib.hid hf
  have HH := Lib.hid (fun w2 ho2 => rtake_all (w := w2) (hP.half ho2).1 a 1 ha (by unfold I64; omega))
  clear hb0 hP hX hf F1 h
  go_enter Tryd.func12, Tryd.ntmps12
  go_wp2_with fail
  refine HF1.out.mono ?_
  rintro e w2 ⟨rfl, ho2, hs2⟩
  have hx2 : Whole w2 w.heap.size 32 #[.int .i64 0, .int .i64 a, .int .i64 b, .int .i64 c, .int .u64 x] := (ho2.block _ HF.out).trans HX.out
  have e1 := (hx2.cell 1).trans rfl
  have HS2 := Lib.hid hs2
  have G := HH.out w2 ho2
  have HG := Lib.hid G
  clear hs2 hx2 HF1 G
  go_wp2_with fail
  refine HG.out.mono ?_
  rintro e w3 ⟨rfl, w2', hb3, ho3, hr3⟩
  have P3 := Lib.hid (HP.out.both hT ho2 HS2.out hb3 ho3 hr3)
  clear hr3 ho3 hb3 HG HH HS2
  generalize tkP own C a 1 = p at *
  generalize tkE own C a 1 = y at *
  go_wp2
  go_ret
  exact ⟨ret_bool (by simp), _, _, P3.out⟩
set_option maxRecDepth 100000 in
set_option maxHeartbeats 4000000 in
theorem do_1 (h : Pair w0 w B R C K own wd) (hT : Tab w0) (a b c : Int) (x : Nat) (ha : I64 a) (hbb : I64 b) :
    Calls Tryd.prog 12 #[.agg #[.int .i64 1, .int .i64 a, .int .i64 b, .int .i64 c, .int .u64 x], .pointer (some ⟨B.s, 0, none⟩), .pointer (some ⟨R.m, 0, none⟩)] w (DoPost w0 B R C K) := by
  have hb0 := (Below.refl w.heap.size w).alloc (Nat.le_refl _) (.cells #[.int .i64 1, .int .i64 a, .int .i64 b, .int .i64 c, .int .u64 x] 32)
  have hP := h.later hT hb0
  have hX := Whole.fresh w 32 #[.int .i64 1, .int .i64 a, .int .i64 b, .int .i64 c, .int .u64 x]
  have hf := h.far
  have F1 := take_all hP.held.st hP.held.tab a b ha hbb
  have HF1 := Lib.hid F1
  have HX := Lib.hid hX
  have HP := Lib.hid hP
  have HF := Lib.hid hf
  have HH := Lib.hid (fun w2 ho2 => rtake_all (w := w2) (hP.half ho2).1 a b ha hbb)
  clear hb0 hP hX hf F1 h
  go_enter Tryd.func12, Tryd.ntmps12
  go_wp2_with fail
  refine HF1.out.mono ?_
  rintro e w2 ⟨rfl, ho2, hs2⟩
  have hx2 : Whole w2 w.heap.size 32 #[.int .i64 1, .int .i64 a, .int .i64 b, .int .i64 c, .int .u64 x] := (ho2.block _ HF.out).trans HX.out
  have e1 := (hx2.cell 1).trans rfl
  have e2 := (hx2.cell 2).trans rfl
  have HS2 := Lib.hid hs2
  have G := HH.out w2 ho2
  have HG := Lib.hid G
  clear hs2 hx2 HF1 G
  go_wp2_with fail
  refine HG.out.mono ?_
  rintro e w3 ⟨rfl, w2', hb3, ho3, hr3⟩
  have P3 := Lib.hid (HP.out.both hT ho2 HS2.out hb3 ho3 hr3)
  clear hr3 ho3 hb3 HG HH HS2
  generalize tkP own C a b = p at *
  generalize tkE own C a b = y at *
  go_wp2
  go_ret
  exact ⟨ret_bool (by simp), _, _, P3.out⟩
end
end Go.Proofs.YtpddiakpnibcgaaDoor
