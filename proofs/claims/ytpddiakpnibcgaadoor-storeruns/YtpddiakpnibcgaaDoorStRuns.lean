/- The law StoreRuns: a run that is taken was free, no earlier one was. -/
import Derived.Test.YtpddiakpnibcgaaDoorStMath3
namespace Go.Proofs.YtpddiakpnibcgaaDoor
open Go.RowKit

/-- A row that holds which are free. -/
def FreeCells (w : World) (g C : Nat) (own : Nat → Nat) : Prop := ∀ j, j < C → w.cell? ⟨g, j, none⟩ = some (.bool (!busy own j))
def RunAtC (own : Nat → Nat) (C Z : Nat) (y x : Value) : Prop := ∃ f c : Int, y = .int .i64 f ∧ x = .int .i64 c ∧ (-1 ≤ c ∨ c = (C : Int) - (Z : Int)) ∧ c < (C + 1 : Int) - Z ∧ (-1 ≤ f ∧ f ≤ 12) ∧ RF own C Z c f

set_option maxRecDepth 100000 in
set_option maxHeartbeats 4000000 in
theorem runs_walk (c k : Int) (A : Option Addr) (n c0 : Nat) (l : List (Int × Int × Int × Int × Nat)) (kk : Int) (w : World) (hl : SA w w.heap.size A n l) (_hk : -9223372036854775808 ≤ kk ∧ kk ≤ 9223372036854775807) (hT : Tab w) :
    Calls Tryd.prog 8 #[.agg #[.int .i64 c, .int .i64 k], .slice A n c0, .int .i64 kk] w fun e w' => e = .returned (.bool true) ∧ Below w.heap.size w w' := by
  obtain ⟨i0, hi, hz0, hz1, hz2⟩ := info_parts infoBool
  have hb0 := (Below.refl w.heap.size w).alloc (Nat.le_refl _) (.cells #[.int .i64 c, .int .i64 k] 23)
  have HG := Lib.hid (grown_any c k A n c0 l _ ((hl.below hb0).more (by simp)) (hT.below hb0 hT.pos))
  have HB0 := Lib.hid hb0
  clear hl hb0
  go_enter Tryd.func8, Tryd.ntmps8
  go_wp2_with fail
  refine HG.out.mono ?_
  rintro e w1 hgp
  rcases hgp with ⟨h80, rfl, hb1⟩ | ⟨h80, B, R, C, K, own, wd, rfl, hCK, hP⟩
  · have B1 := HB0.out.trans (hb1.mono HB0.out.size)
    have T1 := hT.below B1 hT.pos
    have HA := Lib.hid (fun (W : World) (hb : Below w1.heap.size w1 W) => alive_any W (T1.below hb T1.pos))
    have HB1 := Lib.hid B1
    clear HB0 HG hb1 B1 T1
    have d : (80 : Int) < (n : Int) := by omega
    go_wp2_with fail
    refine (HA.out _ (Below.refl _ _)).mono ?_
    rintro e w2 ⟨rfl, hb2⟩
    go_wp2_with fail
    refine (HA.out _ hb2).mono ?_
    rintro e w3 ⟨rfl, hb3⟩
    go_wp2
    go_ret
    exact ⟨rfl, HB1.out.trans ((hb2.trans (hb3.mono hb2.size)).mono HB1.out.size)⟩
  · have hP1 := hP.base HB0.out
    have HA := Lib.hid (alive_any w1 hP1.held.tab)
    have HP1 := Lib.hid hP1
    clear hP hP1 HB0 HG
    go_wp2_with fail
    refine HA.out.mono ?_
    rintro e w2 ⟨rfl, hb2⟩
    have hP2 := HP1.out.later hT hb2
    have m1 := hP2.rf.size
    have m2 := hP2.rf.owners
    have hC1 := hP2.rf.C1
    have hK1 := hP2.rf.K1
    have hmlt := hP2.rwin.1.2
    have HFARR := Lib.hid (show R.m ∉ [B.o, B.c, B.v] by
      have e2 := hP2.ap B.v (by simp)
      have e3 := hP2.ap B.o (by simp)
      have e5 := hP2.ap B.c (by simp)
      simp
      exact ⟨Ne.symm e3.1, Ne.symm e5.1, Ne.symm e2.1⟩)
    have HH2 := Lib.hid hP2.held
    clear hP2 hb2 HA HP1
    obtain ⟨Z, Z1, Z2, hZ⟩ := size6 kk
    have HZ := Lib.hid hZ
    clear hZ
    go_upto_region 4 with (fail)
    go_cut [2] (fun s wc => s = .int .i64 (Z : Nat) ∧ w2 = wc)
    case first =>
      go_wp2
      all_goals go_meet
      all_goals
        refine ⟨congrArg (Value.int .i64) ?_, rfl⟩
        have := HZ.out
        split at this <;> omega
    case rest =>
      obtain ⟨rfl, rfl⟩ := hcut
      clear HZ
      go_wp2_with fail
      go_loopw [10, 50] (fun u x wr => ∃ j : Nat, j ≤ C ∧ x = .int .i64 j ∧ wr.ownsRow w2.heap.size 4 1 u j (bvals own j) ∧ Below w2.heap.size w2 wr) (fun _ x _ => C - (intOf x).toNat)
      case atStart => exact ⟨0, Nat.zero_le _, rfl, World.ownsRow_nil _ _ _ _, Below.refl _ _⟩
      case round =>
        obtain ⟨i, hk, rfl, hown, hbw⟩ := hrel
        by_cases hlt : i < C
        · have F1 := owner_any (HH2.out.later hT hbw).st (i : Int)
          rw [ownerOf_in hlt] at F1
          have HF1 := Lib.hid F1
          have hs := hbw.size
          have HO := Lib.hid hown
          have hub := Lib.hid hown.lt
          have HS := Lib.hid (bvals_snoc own i)
          have hbb := beq_busy own i
          generalize busy own i = bb at *
          generalize own i = x at *
          clear F1 hown
          go_wp2_with (first
            | (go_at_call 15; refine HF1.out.mono ?_; rintro e w' ⟨rfl, rfl⟩)
            | (at_builtin; refine wpList_append_own _ rfl _ _ 58 rfl w2.heap.size 4 i0 _ 1 1 Tryd.underlying58 hi hz0 hz1 hz2 rfl (by decide) _ _ _ rfl (HO.out.alloc _) ⟨wr.heap.size, 0, none⟩ 1 1 [.bool (!bb)] rfl rfl (cell_one_new _ _ _) (by simp [Value.oneCell']) (by unfold maxLen; omega) (by omega) (by simp; omega) ?_; intro v' w1 hown' hgrow _; have HO2 := Lib.hid hown'; have HG := Lib.hid hgrow; clear hown' hgrow))
          go_roundw
          case rel => exact ⟨i + 1, by omega, by go_num, by rw [HS.out]; exact HO2.out, (hbw.alloc hs _).grown HG.out (by simp; omega) (fun g hg => (hub.out g hg).1)⟩
          case measure => simp [intOf]; omega
        · obtain rfl : C = i := by omega
          obtain ⟨g, cap, rfl, hg1, hg2, hgc⟩ := owns_cells hown (bvals_len own C) (by omega)
          have hH := HH2.out.later hT hbw
          have m1w := (hbw.cell (p := ⟨R.m, 1, none⟩) hmlt).trans m1
          have HGC := Lib.hid (show FreeCells wr g C own from fun j hj => hgc j _ (bvals_at own C j hj))
          have HH := Lib.hid hH
          have HF1 := Lib.hid (free_any hH.st)
          clear hown hgc hH HH2 hk hlt m1 m2 hmlt
          have hfl := frees_le own C
          go_wp2_with fail
          go_loop [12, 13] (RunAtC own C Z) (fun _ x => ((intOf x) + 1).toNat)
          case atStart => exact ⟨-1, _, rfl, rfl, .inr rfl, by omega, by omega, rf_start own C Z⟩
          case round =>
            obtain ⟨f, c, rfl, rfl, hc1, hc2, hf12, hrf⟩ := hrel
            by_cases hc : 0 ≤ c
            · obtain ⟨a, rfl⟩ := Int.eq_ofNat_of_zero_le hc
              have HRF := Lib.hid hrf
              clear hrf hc hc1
              go_wp2_with fail
              go_loop [14, 69] (fun s x => ∃ j : Nat, j ≤ Z ∧ x = .int .i64 j ∧ s = .bool (BM.runAt (busy own) j a)) (fun _ x => Z - (intOf x).toNat)
              case atStart => exact ⟨0, Nat.zero_le _, rfl, by rw [runAt_zero]⟩
              case round =>
                obtain ⟨j, hj, rfl, rfl⟩ := hrel
                by_cases hl2 : j < Z
                · have b1 := HGC.out (a + j) (by omega)
                  have HS := Lib.hid (runAt_succ (busy own) j a)
                  have y3 : ((a : Int) + (j : Int)).toNat = a + j := by omega
                  generalize busy own (a + j) = bb at *
                  cases hrr : BM.runAt (busy own) j a
                  · rw [hrr] at HS
                    clear hrr
                    go_wp2
                    go_round
                    case rel => exact ⟨j + 1, by omega, by go_num, by rw [HS.out]; rfl⟩
                    case measure => simp [intOf]; omega
                  · rw [hrr] at HS
                    clear hrr
                    go_wp2
                    go_round
                    case rel => exact ⟨j + 1, by omega, by go_num, by rw [HS.out]; simp⟩
                    case measure => simp [intOf]; omega
                · obtain rfl : Z = j := by omega
                  cases hrr : BM.runAt (busy own) Z a
                  · have HN := Lib.hid (rf_no hrr HRF.out)
                    clear hrr
                    go_wp2
                    go_round
                    case rel => exact ⟨f, (a : Int) - 1, rfl, by go_num, by omega, by omega, hf12, HN.out⟩
                    case measure => simp [intOf]
                  · have HN := Lib.hid (rf_yes (by omega) hrr HRF.out)
                    clear hrr
                    go_wp2
                    go_round
                    case rel => exact ⟨(a : Int), (a : Int) - 1, rfl, by go_num, by omega, by omega, by omega, HN.out⟩
                    case measure => simp [intOf]
            · have hend := rf_end (by omega) hrf
              have HEND := Lib.hid hend
              clear hend hrf
              go_wp2_with fail
              refine HF1.out.mono ?_
              rintro e w' ⟨rfl, mm, hmm⟩
              have HH3 := Lib.hid (HH.out.heap ⟨mm, hmm⟩)
              have m13 : w'.cell? ⟨R.m, 1, none⟩ = some (.int .i64 K) := by subst hmm; exact m1w
              clear hmm HGC HH HF1 m1w
              have TK := take_all HH3.out.st HH3.out.tab 7 (Z : Int) (by unfold I64; omega) (by unfold I64; omega)
              rcases HEND.out with ⟨rfl, hr⟩ | ⟨p, rfl, hr, hp⟩
              · obtain ⟨e1, e2, e3, e4⟩ := tkZ_no (own := own) (wd := wd) (C := C) (K := K) Z1 hr
                rw [e1, e2, e3, e4] at TK
                have HTK := Lib.hid TK
                clear TK e1 e2 e3 e4 hr HEND
                generalize hFF : frees own C = F at *
                have HFF := Lib.hid hFF
                clear hFF
                have d3 : ((F : Int) == (F : Int)) = true := by simp
                go_wp2_with fail
                refine HTK.out.mono ?_
                rintro e w5 ⟨rfl, ho5, hs5⟩
                have hH5 := HH3.out.step hT ho5 hs5
                have F5 := free_any hH5.st
                rw [HFF.out] at F5
                have HF5 := Lib.hid F5
                have HH5 := Lib.hid hH5
                clear F5 hH5 hs5 ho5 HTK
                go_wp2_with fail
                refine HF5.out.mono ?_
                rintro e w6 ⟨rfl, mm, hmm⟩
                have HB := Lib.hid (HH5.out.heap ⟨mm, hmm⟩).bel
                clear hmm
                go_wp2
                go_ret
                exact ⟨ret_bool (by simp), HB.out⟩
              · obtain ⟨e1, e2, e3, e4⟩ := tkZ_yes (own := own) (wd := wd) (C := C) (K := K) Z1 hr hp
                rw [e1, e2, e3, e4] at TK
                obtain ⟨hfr, hfz⟩ := frees_run hr hp
                have HTK := Lib.hid TK
                have HFR := Lib.hid hfr
                clear TK e1 e2 e3 e4 hr HEND hfr
                generalize hFF : frees own C = F at *
                have HFF := Lib.hid hFF
                clear hFF
                have d1 : decide ((p : Int) < 0) = false := by simp
                have d2 : ((p : Int) != (p : Int)) = false := by simp
                have d3 : (((F - Z : Nat) : Int) != (F : Int) - (Z : Int)) = false := by simp; omega
                go_wp2_with fail
                refine HTK.out.mono ?_
                rintro e w5 ⟨rfl, ho5, hs5⟩
                have hH5 := HH3.out.step hT ho5 hs5
                have m15 := (ho5.cell (p := ⟨R.m, 1, none⟩) HFARR.out).trans m13
                have F5 := free_any hH5.st
                rw [HFR.out] at F5
                have HF5 := Lib.hid F5
                have HH5 := Lib.hid hH5
                clear F5 hH5 hs5 ho5 HTK m13
                go_wp2_with fail
                refine HF5.out.mono ?_
                rintro e w6 ⟨rfl, mm, hmm⟩
                have HH6 := Lib.hid (HH5.out.heap ⟨mm, hmm⟩)
                have m16 : w6.cell? ⟨R.m, 1, none⟩ = some (.int .i64 K) := by subst hmm; exact m15
                clear hmm HF5 HH5 m15
                have em : (p : Int) * (K : Int) = ((p * K : Nat) : Int) := by simp
                have ez : (Z : Int) * (K : Int) = ((Z * K : Nat) : Int) := by simp
                have hpk : p * K ≤ 144 := by
                  have := Nat.mul_le_mul (show p ≤ 12 by omega) hCK.2
                  omega
                have hzk : Z * K ≤ 72 := by
                  have := Nat.mul_le_mul Z2 hCK.2
                  omega
                have HRW := Lib.hid (fun i (hi : i < Z * K) => run_word (own := own) (wd := wd) (C := C) hp hi)
                generalize hzz : Z * K = zk at *
                clear hzz
                go_wp2_with fail
                go_loop [127] (fun x => ∃ j : Nat, j ≤ zk ∧ x = .int .i64 j) (fun x => zk - (intOf x).toNat)
                case atStart => exact ⟨0, Nat.zero_le _, rfl⟩
                case round =>
                  obtain ⟨j, hj, rfl⟩ := hrel
                  by_cases hl2 : j < zk
                  · obtain ⟨g1, g2, g3⟩ := HRW.out j hl2
                    have R1 := read_any HH6.out.st ((p * K + j : Nat) : Int)
                    rw [g2, g3] at R1
                    rw [show ((p * K + j : Nat) : Int) = ((p * K : Nat) : Int) + (j : Int) by omega] at R1
                    have HR1 := Lib.hid R1
                    clear R1 g1 g2 g3 HRW
                    generalize p * K = a at *
                    go_wp2_with (first
                      | (go_at_call 18; refine HR1.out.mono ?_; rintro e w' ⟨rfl, rfl⟩))
                    go_round
                    case rel => exact ⟨j + 1, by omega, by go_num⟩
                    case measure => simp [intOf]; omega
                  · have HB := Lib.hid HH6.out.bel
                    go_wp2
                    go_ret
                    exact ⟨rfl, HB.out⟩
end Go.Proofs.YtpddiakpnibcgaaDoor
