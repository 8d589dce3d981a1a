/- The contract of the law package's alive: the document's example holds. -/
import Derived.Test.YtbgoopjkoelobaaHdEnc2
import Derived.Test.YtbgoopjkoelobaaHdRef2
namespace Go.Proofs.Ytbgoopjkoelobaa
open Go.RowKit

set_option maxHeartbeats 1000000 in
theorem halive_any (w : World) : Calls Try.prog 14 #[] w fun e w' => e = .returned (.bool true) ∧ Below w.heap.size w w' := by
  have C1 := hencode_any 2 3 4
  rw [show HM.eW 2 3 4 = 11889503024848240644 by decide, show HM.eE 2 3 4 = 0 by decide] at C1
  have C2 := hword_any 2 7 1
  rw [show HM.wW 2 7 1 = 4294967305 by decide, show HM.wE 2 7 1 = 0 by decide] at C2
  have H1 := Lib.hid C1
  have H2 := Lib.hid C2
  clear C1 C2
  go_enter Try.func14, Try.ntmps14
  go_wp2_with fail
  refine (H1.out _).mono ?_
  rintro e w1 ⟨rfl, hb1⟩
  go_wp2_with fail
  refine (H2.out _).mono ?_
  rintro e w2 ⟨rfl, hb2⟩
  go_wp2_with fail
  go_ret
  exact ⟨rfl, hb1.trans (hb2.mono hb1.size)⟩

/-- A box of the law's own, with three numbers in it, and all that was there when the law began as it was. -/
structure Box (w : World) (g : Nat) (t : TypeId) (a b c : Int) (W : World) : Prop where
  box : Whole W g t #[.int .i64 a, .int .i64 b, .int .i64 c]
  bel : Below w.heap.size w W
theorem Box.step {w : World} {g : Nat} {t : TypeId} {a b c : Int} {W W' : World} (h : Box w g t a b c W) (hb : Below W.heap.size W W') : Box w g t a b c W' :=
  ⟨h.box.below hb h.box.lt, h.bel.trans (hb.mono h.bel.size)⟩
theorem Box.alloc {w : World} {g : Nat} {t : TypeId} {a b c : Int} {W : World} (h : Box w g t a b c W) (o : Obj) : Box w g t a b c (W.alloc o) :=
  ⟨h.box.alloc o, h.bel.alloc h.bel.size o⟩
theorem Box.first (w : World) (t : TypeId) (a b c : Int) : Box w w.heap.size t a b c (w.alloc (.cells #[.int .i64 a, .int .i64 b, .int .i64 c] t)) :=
  ⟨Whole.fresh _ _ _, (Below.refl _ _).alloc (Nat.le_refl _) _⟩
theorem Box.next {w W : World} (h : Below w.heap.size w W) (t : TypeId) (a b c : Int) : Box w W.heap.size t a b c (W.alloc (.cells #[.int .i64 a, .int .i64 b, .int .i64 c] t)) :=
  ⟨Whole.fresh _ _ _, h.alloc h.size _⟩
theorem Box.lt {w : World} {g : Nat} {t : TypeId} {a b c : Int} {W : World} (h : Box w g t a b c W) : g < W.heap.size := h.box.lt
theorem Box.cells {w : World} {g : Nat} {t : TypeId} {a b c : Int} {W : World} (h : Box w g t a b c W) : W.cell? ⟨g, 0, none⟩ = some (.int .i64 a) ∧ W.cell? ⟨g, 1, none⟩ = some (.int .i64 b) ∧ W.cell? ⟨g, 2, none⟩ = some (.int .i64 c) := h.box.cells3

def IsBool (b : Bool) (w : World) (e : Ending) (w' : World) : Prop := e = .returned (.bool b) ∧ Below w.heap.size w w'
def IsWord (x : Int) (w : World) (e : Ending) (w' : World) : Prop := e = .returned (.int .u64 x) ∧ Below w.heap.size w w'
theorem rmay_b (L C S : Int) (w : World) : Calls Try.prog 10 #[.agg #[.int .i64 L, .int .i64 C, .int .i64 S]] w (IsBool (HM.may L C S) w) :=
  (rmay_any L C S w).mono fun e w' ⟨h, hw⟩ => ⟨h, by subst hw; exact (Below.refl _ _).alloc (Nat.le_refl _) _⟩
theorem rencode_b (L C S : Int) (h : HM.may L C S = true) (w : World) : Calls Try.prog 11 #[.agg #[.int .i64 L, .int .i64 C, .int .i64 S]] w (IsWord (HM.word L C S) w) :=
  (rencode_any L C S h w).mono fun e w' ⟨h, hw⟩ => ⟨h, by subst hw; exact (Below.refl _ _).alloc (Nat.le_refl _) _⟩
theorem rmayLink_b (L C S : Int) (w : World) : Calls Try.prog 16 #[.agg #[.int .i64 L, .int .i64 C, .int .i64 S]] w (IsBool (HM.lmay L C S) w) :=
  (rmayLink_any L C S w).mono fun e w' ⟨h, hw⟩ => ⟨h, by subst hw; exact (Below.refl _ _).alloc (Nat.le_refl _) _⟩
theorem rword_b (L C S : Int) (h : HM.lmay L C S = true) (w : World) : Calls Try.prog 17 #[.agg #[.int .i64 L, .int .i64 C, .int .i64 S]] w (IsWord (HM.lword L C S) w) :=
  (rword_any L C S h w).mono fun e w' ⟨h, hw⟩ => ⟨h, by subst hw; exact (Below.refl _ _).alloc (Nat.le_refl _) _⟩
end Go.Proofs.Ytbgoopjkoelobaa
