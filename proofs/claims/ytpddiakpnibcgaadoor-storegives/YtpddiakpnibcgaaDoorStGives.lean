/- The law StoreGives: a chunk that is given is the other one's, with its words. -/
import Derived.Test.YtpddiakpnibcgaaDoorStMath2
namespace Go.Proofs.YtpddiakpnibcgaaDoor
open Go.RowKit

set_option maxRecDepth 100000 in
set_option maxHeartbeats 4000000 in
theorem gives_walk (c k : Int) (A : Option Addr) (n c0 : Nat) (l : List (Int × Int × Int × Int × Nat)) (ch o : Int) (w : World) (hl : SA w w.heap.size A n l) (_hch : -9223372036854775808 ≤ ch ∧ ch ≤ 9223372036854775807) (_ho : -9223372036854775808 ≤ o ∧ o ≤ 9223372036854775807) (hT : Tab w) :
    Calls Tryd.prog 7 #[.agg #[.int .i64 c, .int .i64 k], .slice A n c0, .agg #[.int .i64 ch, .int .i64 o]] w fun e w' => e = .returned (.bool true) ∧ Below w.heap.size w w' := by
  obtain ⟨i0, hi, hz0, hz1, hz2⟩ := info_parts infoU64
  have hb0 := ((Below.refl w.heap.size w).alloc (Nat.le_refl _) (.cells #[.int .i64 c, .int .i64 k] 23)).alloc (by simp) (.cells #[.int .i64 ch, .int .i64 o] 61)
  have HG := Lib.hid (fun (W : World) (hb : Below w.heap.size w W) => grown_any c k A n c0 l W ((hl.below hb).more hb.size) (hT.below hb hT.pos))
  have HB0 := Lib.hid hb0
  clear hl hb0
  go_enter Tryd.func7, Tryd.ntmps7
  go_wp2_with fail
  go_quiet (fail)
  go_wp2_with fail
  refine (HG.out _ (below_drewN HB0.out _)).mono ?_
  rintro e w1 hgp
  have HB00 := Lib.hid (below_drewN HB0.out nq)
  clear HB0
  rcases hgp with ⟨h80, rfl, hb1⟩ | ⟨h80, B, R, C, K, own, wd, rfl, hCK, hP⟩
  · have B1 := HB00.out.trans (hb1.mono HB00.out.size)
    have T1 := hT.below B1 hT.pos
    have HA := Lib.hid (fun (W : World) (hb : Below w1.heap.size w1 W) => alive_any W (T1.below hb T1.pos))
    have HB1 := Lib.hid B1
    clear HB00 HG hb1 B1 T1
    have d : (80 : Int) < (n : Int) := by omega
    go_wp2_with fail
    refine (HA.out _ (Below.refl _ _)).mono ?_
    rintro e w2 ⟨rfl, hb2⟩
    go_wp2_with fail
    refine (HA.out _ hb2).mono ?_
    rintro e w3 ⟨rfl, hb3⟩
    go_wp2
    go_ret
    exact ⟨rfl, HB1.out.trans ((hb2.trans (hb3.mono hb2.size)).mono HB1.out.size)⟩
  · have hP1 := hP.base HB00.out
    have HA := Lib.hid (alive_any w1 hP1.held.tab)
    have HP1 := Lib.hid hP1
    clear hP hP1 HB00 HG
    go_wp2_with fail
    refine HA.out.mono ?_
    rintro e w2 ⟨rfl, hb2⟩
    have hP2 := HP1.out.later hT hb2
    have m1 := hP2.rf.size
    have m2 := hP2.rf.owners
    have hC1 := hP2.rf.C1
    have hK1 := hP2.rf.K1
    have hmlt := hP2.rwin.1.2
    have HFARR := Lib.hid (show R.m ∉ [B.o, B.c, B.v] by
      have e2 := hP2.ap B.v (by simp)
      have e3 := hP2.ap B.o (by simp)
      have e5 := hP2.ap B.c (by simp)
      simp
      exact ⟨Ne.symm e3.1, Ne.symm e5.1, Ne.symm e2.1⟩)
    have HH2 := Lib.hid hP2.held
    clear hP2 hb2 HA HP1
    obtain ⟨Y, Y1, Y2, hY⟩ := size1000 o
    obtain ⟨q, q1, hq⟩ := uint_mod ch C hC1
    have HY := Lib.hid hY
    have HQ := Lib.hid hq
    clear hY hq
    go_upto_region 5 with (fail)
    go_cut [11, 12] (fun s t wc => s = .int .i64 (q : Nat) ∧ t = .int .i64 (Y : Nat) ∧ w2 = wc)
    case first =>
      have dz : ((C : Int) == 0) = false := by simp; omega
      go_wp2
      all_goals go_meet
      all_goals
        refine ⟨congrArg (Value.int .i64) ?_, congrArg (Value.int .i64) ?_, rfl⟩
        · rw [IntKind.wrap_u64, Int.tmod_eq_emod_of_nonneg (Int.emod_nonneg _ (by decide)), HQ.out]
          unfold RowKit.wrap64
          omega
        · have := HY.out
          split at this <;> omega
    case rest =>
      obtain ⟨rfl, rfl, rfl⟩ := hcut
      clear HY HQ
      have O1 := owner_any HH2.out.st (q : Int)
      rw [ownerOf_in q1] at O1
      have HO1 := Lib.hid O1
      have HF1 := Lib.hid (free_any HH2.out.st)
      clear O1
      go_wp2_with fail
      refine HO1.out.mono ?_
      rintro e w' ⟨rfl, rfl⟩
      go_wp2_with fail
      refine HF1.out.mono ?_
      rintro e w3 ⟨rfl, mm, hmm⟩
      have HH3 := Lib.hid (HH2.out.heap ⟨mm, hmm⟩)
      have m1' : w3.cell? ⟨R.m, 1, none⟩ = some (.int .i64 K) := by subst hmm; exact m1
      have hmlt' : R.m < w3.heap.size := by subst hmm; exact hmlt
      clear hmm m1 m2 hmlt HH2 HO1 HF1
      have em : (q : Int) * (K : Int) = ((q * K : Nat) : Int) := by simp
      have hqk : q * K ≤ 144 := by
        have := Nat.mul_le_mul (show q ≤ 12 by omega) hCK.2
        omega
      go_wp2_with fail
      go_loopw [15, 74] (fun u x wr => ∃ j : Nat, j ≤ K ∧ x = .int .i64 j ∧ wr.ownsRow w3.heap.size 30 1 u j (wvals (rdw own wd K q) 0 j) ∧ Below w3.heap.size w3 wr) (fun _ x _ => K - (intOf x).toNat)
      case atStart => exact ⟨0, Nat.zero_le _, rfl, World.ownsRow_nil _ _ _ _, Below.refl _ _⟩
      case round =>
        obtain ⟨j, hk, rfl, hown, hbw⟩ := hrel
        have m1w := (hbw.cell (p := ⟨R.m, 1, none⟩) hmlt').trans m1'
        by_cases hlt : j < K
        · have R1 := read_any (HH3.out.later hT hbw).st ((q * K + j : Nat) : Int)
          rw [rd_in q1 hlt] at R1
          rw [show ((q * K + j : Nat) : Int) = ((q * K : Nat) : Int) + (j : Int) by omega] at R1
          have HS := Lib.hid (wvals_snoc (rdw own wd K q) 0 j)
          rw [Nat.zero_add] at HS
          generalize rdw own wd K q j = x at *
          generalize addrE own C K (((q * K : Nat) : Int) + (j : Int)) = y at *
          have HR1 := Lib.hid R1
          have hs := hbw.size
          have HO := Lib.hid hown
          have hub := Lib.hid hown.lt
          clear R1 hown
          generalize q * K = a at *
          go_wp2_with (first
            | (go_at_call 18; refine HR1.out.mono ?_; rintro e w' ⟨rfl, rfl⟩)
            | (at_builtin; refine wpList_append_own _ rfl _ _ 37 rfl w3.heap.size 30 i0 _ 1 8 Tryd.underlying37 hi hz0 hz1 hz2 rfl (by decide) _ _ _ rfl (HO.out.alloc _) ⟨wr.heap.size, 0, none⟩ 1 1 [.int .u64 (x : Nat)] rfl rfl (cell_one_new _ _ _) (by simp [Value.oneCell']) (by unfold maxLen; omega) (by omega) (by simp; omega) ?_; intro v' w1 hown' hgrow _; have HO2 := Lib.hid hown'; have HG := Lib.hid hgrow; clear hown' hgrow))
          go_roundw
          case rel => exact ⟨j + 1, by omega, by go_num, by rw [HS.out]; exact HO2.out, (hbw.alloc hs _).grown HG.out (by simp; omega) (fun g hg => (hub.out g hg).1)⟩
          case measure => simp [intOf]; omega
        · obtain rfl : K = j := by omega
          obtain ⟨g, cap, rfl, hg1, hg2, hgc⟩ := owns_cells hown (wvals_len _ 0 K) (by omega)
          have hH := HH3.out.later hT hbw
          have hfar : g ∉ [B.o, B.c, B.v] := by
            obtain ⟨⟨a1, a2⟩, ⟨b1, b2⟩, ⟨c1, c2⟩, ⟨d1, d2⟩, e1, e2⟩ := HH3.out.win
            simp
            omega
          have HFAR := Lib.hid hfar
          have HGC := Lib.hid (fun j (hj : j < K) => hgc j _ (wvals_at _ 0 K j hj))
          have G1 := give_all hH.st (q : Int) (Y : Int) (by unfold I64; omega)
          rw [give_in q1 Y1] at G1
          have HH := Lib.hid hH
          clear hown hgc hfar hH HH3 hk hlt
          by_cases hz : own q = 0
          · rw [if_pos hz, givOwn_no q1 Y1 hz] at G1
            have HG1 := Lib.hid G1
            have HZ := Lib.hid hz
            rw [hz]
            clear G1 hz
            go_wp2_with fail
            refine HG1.out.mono ?_
            rintro e w5 ⟨rfl, ho5, hs5⟩
            have hH5 := HH.out.step hT ho5 hs5
            have O1 := owner_any hH5.st (q : Int)
            rw [ownerOf_in q1, HZ.out] at O1
            have HO1 := Lib.hid O1
            have HB := Lib.hid hH5.bel
            clear O1 hH5 hs5 ho5 HG1
            go_wp2_with fail
            refine HO1.out.mono ?_
            rintro e w' ⟨rfl, rfl⟩
            go_wp2
            go_ret
            exact ⟨rfl, HB.out⟩
          · rw [if_neg hz, givOwn_yes q1 Y1 hz] at G1
            have HG1 := Lib.hid G1
            have HZ := Lib.hid hz
            have HFV := Lib.hid (frees_gv own C q Y hz Y1)
            generalize hFF : frees own C = F at *
            generalize hFo : own q = fo at *
            have d1 : ((fo : Int) == 0) = false := by simp; omega
            have HFo := Lib.hid hFo
            have hfo := HZ.out
            clear G1 hz hFF hFo
            go_wp2_with fail
            refine HG1.out.mono ?_
            rintro e w5 ⟨rfl, ho5, hs5⟩
            have hH5 := HH.out.step hT ho5 hs5
            have m1v := (ho5.cell (p := ⟨R.m, 1, none⟩) HFARR.out).trans m1w
            have O1 := owner_any hH5.st (q : Int)
            rw [ownerOf_in q1, gv_self] at O1
            have HO1 := Lib.hid O1
            have F1 := free_any hH5.st
            rw [HFV.out] at F1
            have HF1 := Lib.hid F1
            have HGC5 := Lib.hid (fun j (hj : j < K) => (ho5.cell (p := ⟨g, j, none⟩) HFAR.out).trans (HGC.out j hj))
            have HH5 := Lib.hid hH5
            have d2 : ((Y : Int) != (Y : Int)) = false := by simp
            have d3 : ((F : Int) != (F : Int)) = false := by simp
            clear O1 F1 hH5 hs5 ho5 HG1 HGC HH HFAR m1w HFARR
            go_wp2_with fail
            refine HO1.out.mono ?_
            rintro e w' ⟨rfl, rfl⟩
            go_wp2_with fail
            refine HF1.out.mono ?_
            rintro e w6 ⟨rfl, mm, hmm⟩
            have HH6 := Lib.hid (HH5.out.heap ⟨mm, hmm⟩)
            have m16 : w6.cell? ⟨R.m, 1, none⟩ = some (.int .i64 K) := by subst hmm; exact m1v
            have HGC6 := Lib.hid (fun j (hj : j < K) => show w6.cell? ⟨g, j, none⟩ = some (.int .u64 (rdw own wd K q (0 + j) : Nat)) by subst hmm; exact HGC5.out j hj)
            clear hmm HGC5 HH5 HF1 HO1 m1v
            go_wp2_with fail
            go_loop [126] (fun x => ∃ j : Nat, j ≤ K ∧ x = .int .i64 j) (fun x => K - (intOf x).toNat)
            case atStart => exact ⟨0, Nat.zero_le _, rfl⟩
            case round =>
              obtain ⟨j, hj, rfl⟩ := hrel
              by_cases hl2 : j < K
              · have hlt3 := mul_at_lt q1 hl2
                have b1 := HGC6.out j hl2
                rw [Nat.zero_add] at b1
                have R1 := read_any HH6.out.st ((q * K + j : Nat) : Int)
                rw [addrE_in hlt3, rd_in q1 hl2, mul_div_at hl2, gv_self, if_neg (by omega)] at R1
                rw [show rdw (gvOwn own q Y) wd K q j = rdw own wd K q j by unfold rdw; rw [gv_self, if_neg (by omega), HFo.out, if_neg HZ.out]] at R1
                rw [show ((q * K + j : Nat) : Int) = ((q * K : Nat) : Int) + (j : Int) by omega] at R1
                have HR1 := Lib.hid R1
                clear R1 hlt3
                generalize q * K = a at *
                generalize rdw own wd K q j = z at *
                have dz : ((z : Int) != (z : Int)) = false := by simp
                go_wp2_with (first
                  | (go_at_call 18; refine HR1.out.mono ?_; rintro e w' ⟨rfl, rfl⟩))
                go_round
                case rel => exact ⟨j + 1, by omega, by go_num⟩
                case measure => simp [intOf]; omega
              · have hH6 := HH6.out
                have O2 := owned_any hH6.st (Y : Int) hH6.win
                have hmem : q ∈ BM.ons (hers (gvOwn own q Y) (Y : Int)) C := mem_hers.2 ⟨q1, by omega, by rw [gv_self]⟩
                have HMEM := Lib.hid hmem
                have HO2 := Lib.hid O2
                have hlen : (BM.ons (hers (gvOwn own q Y) (Y : Int)) C).length ≤ 12 := by rw [BM.ons_len]; have := BM.cnt_le (hers (gvOwn own q Y) (Y : Int)) C; omega
                generalize BM.ons (hers (gvOwn own q Y) (Y : Int)) C = xs at *
                clear O2 hH6 hmem HGC6
                go_wp2_with fail
                refine HO2.out.mono ?_
                intro e w7 hp7
                obtain ⟨A7, ca7, rfl, his7, hb7, hA7⟩ := hp7.use
                obtain ⟨A8, c8, e8, hcells⟩ := his7
                cases e8
                have HC7 := Lib.hid hcells
                have HH7 := Lib.hid (HH6.out.later hT hb7)
                clear hp7 hcells hA7 HO2
                go_wp2_with fail
                go_loop [24, 156] (fun h x => ∃ j : Nat, j ≤ xs.length ∧ x = .int .i64 j ∧ h = .bool (decide (q ∈ xs.take j))) (fun _ x => xs.length - (intOf x).toNat)
                case atStart => exact ⟨0, Nat.zero_le _, rfl, by simp⟩
                case round =>
                  obtain ⟨j, hj, rfl, rfl⟩ := hrel
                  by_cases hl2 : j < xs.length
                  · obtain ⟨x, hx⟩ : ∃ x, xs[j]? = some x := ⟨xs[j]'hl2, by simp⟩
                    obtain ⟨g7, o7, rfl, b7⟩ := HC7.out j x hx
                    have HT7 := Lib.hid (mem_take_succ (q := q) hx)
                    clear hx
                    by_cases hm : q ∈ xs.take j
                    · have e9 := Lib.hid (show decide (q ∈ xs.take (j + 1)) = true from decide_eq_true (HT7.out.2 (.inl hm)))
                      rw [show decide (q ∈ xs.take j) = true from decide_eq_true hm]
                      clear hm
                      go_wp2
                      go_round
                      case rel => exact ⟨j + 1, by omega, by go_num, by rw [e9.out]⟩
                      case measure => simp [intOf]; omega
                    · rw [show decide (q ∈ xs.take j) = false from decide_eq_false hm]
                      by_cases hxq : x = q
                      · have e9 := Lib.hid (show decide (q ∈ xs.take (j + 1)) = true from decide_eq_true (HT7.out.2 (.inr hxq)))
                        subst hxq
                        have dd : ((x : Int) == (x : Int)) = true := by simp
                        clear hm
                        go_wp2
                        go_round
                        case rel => exact ⟨j + 1, by omega, by go_num, by rw [e9.out]⟩
                        case measure => simp [intOf]; omega
                      · have e9 := Lib.hid (show decide (q ∈ xs.take (j + 1)) = false from decide_eq_false (fun h => by rcases HT7.out.1 h with h | h; exact hm h; exact hxq h))
                        have dd : ((x : Int) == (q : Int)) = false := by simp; omega
                        clear hm
                        go_wp2
                        go_round
                        case rel => exact ⟨j + 1, by omega, by go_num, by rw [e9.out]⟩
                        case measure => simp [intOf]; omega
                  · have e9 : decide (q ∈ xs.take j) = true := by
                      rw [List.take_of_length_le (by omega)]
                      exact decide_eq_true HMEM.out
                    rw [e9]
                    have O3 := owned_any HH7.out.st (fo : Int) HH7.out.win
                    have hlen3 : (BM.ons (hers (gvOwn own q Y) (fo : Int)) C).length ≤ 12 := by rw [BM.ons_len]; have := BM.cnt_le (hers (gvOwn own q Y) (fo : Int)) C; omega
                    have hnot : fo ≠ Y → q ∉ BM.ons (hers (gvOwn own q Y) (fo : Int)) C := fun hne h => by
                      have := (mem_hers.1 h).2.2
                      rw [gv_self] at this
                      omega
                    have HNOT := Lib.hid hnot
                    have HO3 := Lib.hid O3
                    generalize BM.ons (hers (gvOwn own q Y) (fo : Int)) C = ys at *
                    clear O3 hnot e9
                    go_wp2_with fail
                    refine HO3.out.mono ?_
                    intro e w8 hp8
                    obtain ⟨A9, ca9, rfl, his9, hb9, hA9⟩ := hp8.use
                    obtain ⟨A10, c10, e10, hcells9⟩ := his9
                    cases e10
                    have HC9 := Lib.hid hcells9
                    have HB := Lib.hid (HH7.out.later hT hb9).bel
                    clear hp8 hcells9 hA9 HO3
                    go_wp2_with fail
                    go_loop [171] (fun x => ∃ j : Nat, j ≤ ys.length ∧ x = .int .i64 j) (fun x => ys.length - (intOf x).toNat)
                    case atStart => exact ⟨0, Nat.zero_le _, rfl⟩
                    case round =>
                      obtain ⟨j, hj, rfl⟩ := hrel
                      by_cases hl4 : j < ys.length
                      · obtain ⟨x, hx⟩ : ∃ x, ys[j]? = some x := ⟨ys[j]'hl4, by simp⟩
                        obtain ⟨g9, o9, rfl, b9⟩ := HC9.out j x hx
                        by_cases hfy : fo = Y
                        · subst hfy
                          clear hx
                          have dd2 : ((fo : Int) != (fo : Int)) = false := by simp
                          by_cases hxq : x = q
                          · subst hxq
                            go_wp2
                            go_round
                            case rel => exact ⟨j + 1, by omega, by go_num⟩
                            case measure => simp [intOf]; omega
                          · have dd : ((x : Int) == (q : Int)) = false := by simp; omega
                            go_wp2
                            go_round
                            case rel => exact ⟨j + 1, by omega, by go_num⟩
                            case measure => simp [intOf]; omega
                        · have hxq : x ≠ q := fun e => HNOT.out hfy (e ▸ List.mem_of_getElem? hx)
                          have dd : ((x : Int) == (q : Int)) = false := by simp; omega
                          clear hx
                          go_wp2
                          go_round
                          case rel => exact ⟨j + 1, by omega, by go_num⟩
                          case measure => simp [intOf]; omega
                      · go_wp2
                        go_ret
                        exact ⟨rfl, HB.out⟩
end Go.Proofs.YtpddiakpnibcgaaDoor
