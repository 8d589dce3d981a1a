/- RemsetMoves, walked. -/
import Derived.Test.YtehkcflbdmkjpaaRsMovesA
import Derived.Test.YtehkcflbdmkjpaaRsMovesB
import Derived.Test.YtehkcflbdmkjpaaRsMovesC
namespace Go.Proofs.Ytehkcflbdmkjpaa
open Go.RowKit Go.Maps Go.Sort

set_option maxHeartbeats 4000000 in
set_option maxRecDepth 100000 in
theorem moves_big (A : Option Addr) (n c : Nat) (r1 r2 t : Int) (w : World) (hn : 100 < n) :
    Calls Try.prog 5 #[.slice A n c, .agg #[.int .i64 r1, .int .i64 r2], .int .i64 t] w fun e w' => e = .returned (.bool true) ∧ Below w.heap.size w w' := by
  have HB0 := Lib.hid ((Below.refl w.heap.size w).alloc (Nat.le_refl _) (.cells #[.int .i64 r1, .int .i64 r2] 24))
  go_enter Try.func5, Try.ntmps5
  go_wp2_with fail
  refine (grown_big A n c _ hn).mono ?_
  rintro e w1 ⟨rfl, hb1⟩
  have HB1 := Lib.hid (HB0.out.trans (hb1.mono (by simp)))
  clear hb1
  go_wp2_with fail
  refine (alive_any w1).mono ?_
  rintro e w2 ⟨rfl, hb2⟩
  have HB2 := Lib.hid (HB1.out.trans (hb2.mono HB1.out.size))
  clear hb2
  go_wp2_with fail
  refine (alive_any w2).mono ?_
  rintro e w3 ⟨rfl, hb3⟩
  have HB3 := Lib.hid (HB2.out.trans (hb3.mono HB2.out.size))
  clear hb3
  go_wp2
  go_ret
  exact ⟨ret_bool (by simp; omega), HB3.out⟩
theorem moves_any (A : Option Addr) (n c : Nat) (ls : List RM.Act) (r1 r2 t : Int) (w : World) (h : ActS w w.heap.size A n ls) (hr : RefOk (r1, r2)) (ht : I64ok t) :
    Calls Try.prog 5 #[.slice A n c, .agg #[.int .i64 r1, .int .i64 r2], .int .i64 t] w fun e w' => e = .returned (.bool true) ∧ Below w.heap.size w w' := by
  by_cases hn : n ≤ 100
  · cases hv : RM.has (RM.run ls) (r1, r2)
    · exact moves_A A n c ls r1 r2 t w h hr ht hn hv
    · by_cases hto : RM.toV (RM.run ls) (r1, r2) = t
      · exact moves_B A n c ls r1 r2 t w h hr ht hn hv hto
      · exact moves_C A n c ls r1 r2 t w h hr ht hn hv hto
  · exact moves_big A n c r1 r2 t w (by omega)
end Go.Proofs.Ytehkcflbdmkjpaa
