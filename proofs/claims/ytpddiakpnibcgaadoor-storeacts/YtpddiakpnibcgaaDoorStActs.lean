/- The law StoreActs: of any row of calls each answer is the document's, and, in the end, all owners and all words. -/
import Derived.Test.YtpddiakpnibcgaaDoorStSame
namespace Go.Proofs.YtpddiakpnibcgaaDoor
open Go.RowKit

set_option maxRecDepth 100000 in
set_option maxHeartbeats 4000000 in
theorem acts_walk (c k : Int) (A : Option Addr) (n c0 : Nat) (l : List (Int × Int × Int × Int × Nat)) (w : World) (hl : SA w w.heap.size A n l) (hT : Tab w) :
    Calls Tryd.prog 3 #[.agg #[.int .i64 c, .int .i64 k], .slice A n c0] w fun e w' => e = .returned (.bool true) ∧ Below w.heap.size w w' := by
  have HL := Lib.hid hl
  have hb0 := (Below.refl w.heap.size w).alloc (Nat.le_refl _) (.cells #[.int .i64 c, .int .i64 k] 23)
  have HM := Lib.hid (made_any c k _ (hT.below hb0 hT.pos))
  have HB0 := Lib.hid hb0
  clear hl hb0
  go_enter Tryd.func3, Tryd.ntmps3
  go_wp2_with fail
  refine HM.out.mono ?_
  rintro e w1 ⟨B, R, C, K, rfl, hCK, hP⟩
  have hP1 := hP.base HB0.out
  have HA := Lib.hid (alive_any w1 hP1.held.tab)
  have HP1 := Lib.hid hP1
  clear hP HM HB0 hP1
  go_wp2_with fail
  refine HA.out.mono ?_
  rintro e w2 ⟨rfl, hb2⟩
  have hP2 := HP1.out.later hT hb2
  have HP2 := Lib.hid hP2
  have HA2 := Lib.hid (alive_any w2 hP2.held.tab)
  clear hP2 HA HP1
  by_cases h80 : 80 < n
  · have d : (80 : Int) < (n : Int) := by omega
    go_wp2_with fail
    refine HA2.out.mono ?_
    rintro e w3 ⟨rfl, hb3⟩
    go_wp2
    go_ret
    exact ⟨rfl, (HP2.out.later hT hb3).held.bel⟩
  · have d : decide ((80 : Int) < (n : Int)) = false := by simp; omega
    clear HA2
    go_wp2_with fail
    go_loopw [32] (GrownAt w B R C K n) (fun x _ => n - (intOf x).toNat)
    case atStart => exact ⟨0, _, _, Nat.zero_le _, rfl, HP2.out⟩
    case round =>
      obtain ⟨i, own, wd, hi, rfl, hp⟩ := hrel
      by_cases hlt : i < n
      · obtain ⟨ba, oa, x0, x1, x2, x3, x4, rfl, hba, a0, a1, a2, a3, a4, i1, i2, i4⟩ := (HL.out.below hp.held.bel).at_ hlt
        have hb2 := (Below.refl wr.heap.size wr).alloc (Nat.le_refl _) (.cells #[.int .i64 x0, .int .i64 x1, .int .i64 x2, .int .i64 x3, .int .u64 x4] 32)
        have HD := Lib.hid (do_any (hp.later hT hb2) hT x0 x1 x2 x3 x4 i1 i2 i4)
        clear hp hb2
        go_wp2_with fail
        refine HD.out.mono ?_
        rintro e w3 ⟨rfl, own', wd', hp3⟩
        have HP3 := Lib.hid hp3
        clear hp3 HD
        go_wp2
        go_roundw
        case rel => exact ⟨i + 1, own', wd', by omega, by go_num, HP3.out⟩
        case measure => simp [intOf]; omega
      · have HQ := Lib.hid hp
        have HS := Lib.hid (sames_any hp hT)
        clear hp
        go_wp2_with fail
        refine HS.out.mono ?_
        rintro e w3 ⟨rfl, hb3⟩
        have hp3 := HQ.out.later hT hb3
        have F1 := owned_any hp3.held.st 0 hp3.held.win
        rw [hers_none own 0 (by omega)] at F1
        have HF1 := Lib.hid F1
        have HP3 := Lib.hid hp3
        clear F1 hp3 HS hb3
        go_wp2_with fail
        refine HF1.out.mono ?_
        intro e w4 hp4
        obtain ⟨A4, ca4, rfl, _, hb4, _⟩ := hp4.use
        have hp5 := HP3.out.later hT hb4
        have F2 : Calls Tryd.prog 15 #[.pointer (some ⟨B.s, 0, none⟩), .int .i64 (-1)] w4 fun e w' => e = .returned (.int .i64 0) ∧ w4 = w' := owner_any hp5.held.st (-1)
        have F3 := owner_any hp5.held.st (C : Int)
        rw [show ownerOf own C (C : Int) = 0 by unfold ownerOf; rw [if_neg (by omega)]] at F3
        have HF2 := Lib.hid F2
        have HF3 := Lib.hid F3
        have m2 := hp5.rf.owners
        have hC := hp5.rf.C2
        have HB := Lib.hid hp5.held.bel
        clear F2 F3 hp4 hp5 hb4 HF1 HP3 HQ
        go_wp2_with (first
          | (go_at_call 15; first | (with_reducible refine HF2.out.mono ?_; rintro e w' ⟨rfl, rfl⟩) | (with_reducible refine HF3.out.mono ?_; rintro e w' ⟨rfl, rfl⟩)))
        go_ret
        exact ⟨rfl, HB.out⟩
end Go.Proofs.YtpddiakpnibcgaaDoor
