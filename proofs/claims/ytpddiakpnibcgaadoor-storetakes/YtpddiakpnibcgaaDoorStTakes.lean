/- The law StoreTakes: what is taken was free, the least one, and is 0; nothing else changes. -/
import Derived.Test.YtpddiakpnibcgaaDoorStMath
namespace Go.Proofs.YtpddiakpnibcgaaDoor
open Go.RowKit

/-- A row that holds these owners. -/
def OwnCells (w : World) (g C : Nat) (own : Nat → Nat) : Prop := ∀ j, j < C → w.cell? ⟨g, j, none⟩ = some (.int .i64 (own j : Nat))

set_option maxRecDepth 100000 in
set_option maxHeartbeats 4000000 in
theorem takes_walk (c k : Int) (A : Option Addr) (n c0 : Nat) (l : List (Int × Int × Int × Int × Nat)) (o : Int) (w : World) (hl : SA w w.heap.size A n l) (_ho : -9223372036854775808 ≤ o ∧ o ≤ 9223372036854775807) (hT : Tab w) :
    Calls Tryd.prog 5 #[.agg #[.int .i64 c, .int .i64 k], .slice A n c0, .int .i64 o] w fun e w' => e = .returned (.bool true) ∧ Below w.heap.size w w' := by
  obtain ⟨i0, hi, hz0, hz1, hz2⟩ := info_parts infoInt
  have hb0 := (Below.refl w.heap.size w).alloc (Nat.le_refl _) (.cells #[.int .i64 c, .int .i64 k] 23)
  have HG := Lib.hid (grown_any c k A n c0 l _ ((hl.below hb0).more (by simp)) (hT.below hb0 hT.pos))
  have HB0 := Lib.hid hb0
  clear hl hb0
  go_enter Tryd.func5, Tryd.ntmps5
  go_wp2_with fail
  refine HG.out.mono ?_
  rintro e w1 hgp
  rcases hgp with ⟨h80, rfl, hb1⟩ | ⟨h80, B, R, C, K, own, wd, rfl, hCK, hP⟩
  · have B1 := HB0.out.trans (hb1.mono HB0.out.size)
    have T1 := hT.below B1 hT.pos
    have HA := Lib.hid (fun (W : World) (hb : Below w1.heap.size w1 W) => alive_any W (T1.below hb T1.pos))
    have HB1 := Lib.hid B1
    clear HB0 HG hb1 B1 T1
    have d : (80 : Int) < (n : Int) := by omega
    go_wp2_with fail
    refine (HA.out _ (Below.refl _ _)).mono ?_
    rintro e w2 ⟨rfl, hb2⟩
    go_wp2_with fail
    refine (HA.out _ hb2).mono ?_
    rintro e w3 ⟨rfl, hb3⟩
    go_wp2
    go_ret
    exact ⟨rfl, HB1.out.trans ((hb2.trans (hb3.mono hb2.size)).mono HB1.out.size)⟩
  · have hP1 := hP.base HB0.out
    have HA := Lib.hid (alive_any w1 hP1.held.tab)
    have HP1 := Lib.hid hP1
    clear hP hP1 HB0 HG
    go_wp2_with fail
    refine HA.out.mono ?_
    rintro e w2 ⟨rfl, hb2⟩
    have hP2 := HP1.out.later hT hb2
    have m1 := hP2.rf.size
    have m2 := hP2.rf.owners
    have hC1 := hP2.rf.C1
    have hK1 := hP2.rf.K1
    have HH2 := Lib.hid hP2.held
    clear hP2 hb2 HA HP1
    go_wp2_with fail
    go_quiet (fail)
    go_wp2_with fail
    go_loopw [11, 48] (fun u x wr => ∃ k : Nat, k ≤ C ∧ x = .int .i64 k ∧ wr.ownsRow w2.heap.size 3 1 u k (ovals own k) ∧ Below w2.heap.size w2 wr) (fun _ x _ => C - (intOf x).toNat)
    case atStart => exact ⟨0, Nat.zero_le _, rfl, World.ownsRow_nil _ _ _ _, below_drewN (Below.refl _ _) _⟩
    case round =>
      obtain ⟨i, hk, rfl, hown, hbw⟩ := hrel
      by_cases hlt : i < C
      · have F1 := owner_any (HH2.out.later hT hbw).st (i : Int)
        rw [ownerOf_in hlt] at F1
        have HF1 := Lib.hid F1
        have hs := hbw.size
        have HO := Lib.hid hown
        have hub := Lib.hid hown.lt
        have HS := Lib.hid (ovals_snoc own i)
        generalize own i = x at *
        clear F1 hown
        go_wp2_with (first
          | (go_at_call 15; refine HF1.out.mono ?_; rintro e w' ⟨rfl, rfl⟩)
          | (at_builtin; refine wpList_append_own _ rfl _ _ 34 rfl w2.heap.size 3 i0 _ 1 8 Tryd.underlying34 hi hz0 hz1 hz2 rfl (by decide) _ _ _ rfl (HO.out.alloc _) ⟨wr.heap.size, 0, none⟩ 1 1 [.int .i64 (x : Nat)] rfl rfl (cell_one_new _ _ _) (by simp [Value.oneCell']) (by unfold maxLen; omega) (by omega) (by simp; omega) ?_; intro v' w1 hown' hgrow _; have HO2 := Lib.hid hown'; have HG := Lib.hid hgrow; clear hown' hgrow))
        go_roundw
        case rel => exact ⟨i + 1, by omega, by go_num, by rw [HS.out]; exact HO2.out, (hbw.alloc hs _).grown HG.out (by simp; omega) (fun g hg => (hub.out g hg).1)⟩
        case measure => simp [intOf]; omega
      · obtain rfl : C = i := by omega
        obtain ⟨g, cap, rfl, hg1, hg2, hgc⟩ := owns_cells hown (ovals_len own C) (by omega)
        have hH := HH2.out.later hT hbw
        have hfar : g ∉ [B.o, B.c, B.v] := by
          obtain ⟨⟨a1, a2⟩, ⟨b1, b2⟩, ⟨c1, c2⟩, ⟨d1, d2⟩, e1, e2⟩ := HH2.out.win
          simp
          omega
        have HFAR := Lib.hid hfar
        have HGC := Lib.hid (fun j (hj : j < C) => hgc j _ (ovals_at own C j hj))
        have F1 := Lib.hid (free_any hH.st)
        have HH := Lib.hid hH
        clear hown hgc hfar hH HH2 hk hlt
        have hfl := frees_le own C
        go_wp2_with fail
        refine F1.out.mono ?_
        rintro e w' ⟨rfl, mm, hmm⟩
        have HH3 := Lib.hid (HH.out.heap ⟨mm, hmm⟩)
        have HGC3 := Lib.hid (fun j (hj : j < C) => show w'.cell? ⟨g, j, none⟩ = some (.int .i64 (own j : Nat)) by subst hmm; exact HGC.out j hj)
        clear hmm HGC HH F1
        obtain ⟨Y, Y1, Y2, hY⟩ := size1000 o
        have HY := Lib.hid hY
        clear hY
        go_upto_region 12 with (fail)
        go_cut [14, 15] (fun s t wc => s = .int .i64 (tkP own C Y 1 : Nat) ∧ t = .int .i64 (tkE own C Y 1) ∧ OnlyIn [B.o, B.c, B.v] w' wc ∧ StAt wc B C K (tkOwnA own C Y 1) (tkWdA own wd C K Y 1))
        case first =>
          have HTK := Lib.hid (take1_at HH3.out.st HH3.out.tab (Y : Int) (by unfold I64; omega))
          go_wp2_with fail
          all_goals
            refine (HTK.out _ (by have := HY.out; split at this <;> omega)).mono ?_
            rintro e w4 ⟨rfl, ho4, hs4⟩
            have HS4 := Lib.hid hs4
            clear hs4
            go_wp2
            go_meet
            exact ⟨rfl, rfl, ho4, HS4.out⟩
        case rest =>
          obtain ⟨rfl, rfl, ho4, hs4⟩ := hcut
          clear HY
          have hH4 := HH3.out.step hT ho4 hs4
          by_cases hz : frees own C = 0
          · obtain ⟨e1, e2⟩ := tk1_full (own := own) (C := C) (y := (Y : Int)) (by omega) hz
            rw [e1, e2, hz]
            have HB := Lib.hid hH4.bel
            clear hH4 hs4 e1 e2 hz hfl
            go_wp2
            go_ret
            exact ⟨rfl, HB.out⟩
          · obtain ⟨p, hp, hop, hlow, e1, e2, e3, e4⟩ := tk1_free (y := Y) Y1 hz
            rw [e2, e1]
            rw [e3, e4] at hH4
            have HGC4 := Lib.hid (fun j (hj : j < C) => (ho4.cell (p := ⟨g, j, none⟩) HFAR.out).trans (HGC3.out j hj))
            have F2 := free_any hH4.st
            obtain ⟨hfr, hF1⟩ := frees_tk1 own C p Y (by omega) hp hop
            have b3 := HGC4.out p hp
            rw [hop] at b3
            rw [hfr] at F2
            have HREL := Lib.hid (rel_tk1 own C p Y (by omega) hp hop)
            have HNZ := Lib.hid (tk1_self own p Y)
            have HOP := Lib.hid hop
            have HLOW := Lib.hid hlow
            have HF2 := Lib.hid F2
            have HH4 := Lib.hid hH4
            clear F2 hfr hop hlow hH4 hs4 e1 e2 e3 e4 ho4 HH3 HGC3
            generalize hFF : frees own C = F at *
            have HFF := Lib.hid hFF
            clear hFF hz
            have d1 : decide ((C : Int) ≤ (p : Int)) = false := by simp; omega
            have d1b : decide (C ≤ p) = false := by simp; omega
            have d1c : decide ((p : Int) < 0) = false := by simp
            have d2 : ((F : Int) == 0) = false := by simp; omega
            have d3 : (((F - 1 : Nat) : Int) != (F : Int) - 1) = false := by simp; omega
            go_wp2_with fail
            refine HF2.out.mono ?_
            rintro e w5 ⟨rfl, mm, hmm⟩
            have HH5 := Lib.hid (HH4.out.heap ⟨mm, hmm⟩)
            have HGC5 := Lib.hid (fun j (hj : j < C) => show w5.cell? ⟨g, j, none⟩ = some (.int .i64 (own j : Nat)) by subst hmm; exact HGC4.out j hj)
            clear hmm HGC4 HH4 HF2 b3
            go_wp2_with fail
            have em : (p : Int) * (K : Int) = ((p * K : Nat) : Int) := by simp
            have hpk : p * K ≤ 144 := by
              have := Nat.mul_le_mul (show p ≤ 12 by omega) hCK.2
              omega
            go_loop [103] (fun x => ∃ j : Nat, j ≤ K ∧ x = .int .i64 j) (fun x => K - (intOf x).toNat)
            case atStart => exact ⟨0, Nat.zero_le _, rfl⟩
            case round =>
              obtain ⟨j, hj, rfl⟩ := hrel
              by_cases hl2 : j < K
              · have hlt3 := mul_at_lt hp hl2
                have R1 := read_any HH5.out.st ((p * K + j : Nat) : Int)
                rw [addrE_in hlt3, readV_in hlt3, mul_div_at hl2, if_neg (by rw [HNZ.out]; omega), if_neg (by rw [HNZ.out]; omega)] at R1
                rw [tkWd1_at wd K p j hl2] at R1
                rw [show ((p * K + j : Nat) : Int) = ((p * K : Nat) : Int) + (j : Int) by omega] at R1
                have HR1 := Lib.hid R1
                clear R1 hlt3
                generalize p * K = a at *
                go_wp2_with (first
                  | (go_at_call 18; refine HR1.out.mono ?_; rintro e w' ⟨rfl, rfl⟩))
                go_round
                case rel => exact ⟨j + 1, by omega, by go_num⟩
                case measure => simp [intOf]; omega
              · go_wp2_with fail
                go_loopw [124] (fun x wr => ∃ j : Nat, j ≤ C ∧ x = .int .i64 j ∧ Held w wr B C K (tkOwn own p 1 Y) (tkWd wd K p 1) ∧ OwnCells wr g C own) (fun x _ => C - (intOf x).toNat)
                case atStart => exact ⟨0, Nat.zero_le _, rfl, HH5.out, HGC5.out⟩
                case round =>
                  obtain ⟨q, hq, rfl, hHr, hcr⟩ := hrel
                  have HHR := Lib.hid hHr
                  have HCR := Lib.hid hcr
                  clear hHr hcr
                  by_cases hl3 : q < C
                  · have b1 := HCR.out q hl3
                    have O1 := Lib.hid (fun (W : World) (hW : W.heap = wr.heap) => owner_any (HHR.out.st.heap hW) (q : Int))
                    rw [ownerOf_in hl3] at O1
                    have dq : (q : Int) < (C : Int) := by omega
                    by_cases g1 : q < p
                    · have x1 := HLOW.out q g1
                      rw [tk1_other own p Y q (by omega)] at O1
                      generalize own q = z at *
                      have y1 : decide ((q : Int) < (p : Int)) = true := by simp; omega
                      have y1' : (q : Int) < (p : Int) := by omega
                      have y2 : ((z : Int) == 0) = false := by simp; omega
                      have y3 : ((q : Int) != (p : Int)) = true := by simp; omega
                      have y4 : ((z : Int) != (z : Int)) = false := by simp
                      go_wp2_with fail
                      go_quiet ((go_at_call 15; exact Calls.quiet_of_same ((O1.out _ (by exact rfl)).mono fun _ _ ⟨he, hw⟩ => ⟨he, hw.symm⟩)))
                      go_wp2
                      go_roundw
                      case rel => exact ⟨q + 1, by omega, by go_num, HHR.out.heap ⟨_, rfl⟩, HCR.out⟩
                      case measure => simp [intOf]; omega
                    · by_cases g2 : q = p
                      · subst g2
                        have y1 : decide ((q : Int) < (q : Int)) = false := by simp
                        have y3 : ((q : Int) != (q : Int)) = false := by simp
                        go_wp2_with fail
                        go_quiet ((go_at_call 15; exact Calls.quiet_of_same ((O1.out _ (by exact rfl)).mono fun _ _ ⟨he, hw⟩ => ⟨he, hw.symm⟩)))
                        go_wp2
                        go_roundw
                        case rel => exact ⟨q + 1, by omega, by go_num, HHR.out.heap ⟨_, rfl⟩, HCR.out⟩
                        case measure => simp [intOf]; omega
                      · rw [tk1_other own p Y q (by omega)] at O1
                        generalize own q = z at *
                        have y1 : decide ((q : Int) < (p : Int)) = false := by simp; omega
                        have y3 : ((q : Int) != (p : Int)) = true := by simp; omega
                        have y4 : ((z : Int) != (z : Int)) = false := by simp
                        go_wp2_with fail
                        go_quiet ((go_at_call 15; exact Calls.quiet_of_same ((O1.out _ (by exact rfl)).mono fun _ _ ⟨he, hw⟩ => ⟨he, hw.symm⟩)))
                        go_wp2
                        go_roundw
                        case rel => exact ⟨q + 1, by omega, by go_num, HHR.out.heap ⟨_, rfl⟩, HCR.out⟩
                        case measure => simp [intOf]; omega
                  · have hH6 := HHR.out
                    have R1 := release_all hH6.st (p : Int)
                    rw [HREL.out, chunkE_in hp, if_neg (by rw [HNZ.out]; omega)] at R1
                    have HR1 := Lib.hid R1
                    have HH6 := Lib.hid hH6
                    clear R1 hH6
                    go_wp2_with fail
                    refine HR1.out.mono ?_
                    rintro e w7 ⟨rfl, ho7, hs7⟩
                    have hH7 := HH6.out.step hT ho7 hs7
                    have O1 := owner_any hH7.st (p : Int)
                    rw [ownerOf_in hp, HOP.out] at O1
                    have HO1 := Lib.hid O1
                    have F7 := free_any hH7.st
                    rw [HFF.out] at F7
                    have HF7 := Lib.hid F7
                    have HH7 := Lib.hid hH7
                    have R2 := Lib.hid (fun (W : World) (hW : W.heap = w7.heap) => release_all (hH7.st.heap hW) (p : Int))
                    rw [chunkE_in hp, if_pos HOP.out] at R2
                    clear O1 F7 hH7 hs7 ho7 HR1 HH6
                    go_wp2_with fail
                    refine HO1.out.mono ?_
                    rintro e w' ⟨rfl, rfl⟩
                    go_wp2_with fail
                    refine HF7.out.mono ?_
                    rintro e w8 ⟨rfl, mm8, hmm8⟩
                    have HH8 := Lib.hid (HH7.out.heap ⟨mm8, hmm8⟩)
                    have R3 := Lib.hid (R2.out w8 (by subst hmm8; rfl))
                    clear hmm8 R2 HF7 HO1
                    go_wp2_with fail
                    refine R3.out.mono ?_
                    rintro e w9 ⟨rfl, ho9, hs9⟩
                    have HB := Lib.hid (HH8.out.step hT ho9 hs9).bel
                    clear hs9 ho9
                    go_wp2
                    go_ret
                    exact ⟨ret_bool (by simp), HB.out⟩
end Go.Proofs.YtpddiakpnibcgaaDoor
