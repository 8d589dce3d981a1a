/- The law StoreCopies: what is copied is what was there, however both lie; all other words are as they were. -/
import Derived.Test.YtpddiakpnibcgaaDoorStMath4
namespace Go.Proofs.YtpddiakpnibcgaaDoor
open Go.RowKit

/-- A row that holds the words, and one that holds which are told. -/
def WordCells (w : World) (g M : Nat) (r : Nat → Nat) : Prop := ∀ j, j < M → w.cell? ⟨g, j, none⟩ = some (.int .u64 (r j : Nat))
def OkCells (w : World) (g M : Nat) (b : Nat → Bool) : Prop := ∀ j, j < M → w.cell? ⟨g, j, none⟩ = some (.bool (b j))

set_option maxRecDepth 100000 in
set_option maxHeartbeats 4000000 in
theorem copies_walk (c k : Int) (A : Option Addr) (n c0 : Nat) (l : List (Int × Int × Int × Int × Nat)) (z0 z1 z2 : Int) (w : World) (hl : SA w w.heap.size A n l) (_h0 : -9223372036854775808 ≤ z0 ∧ z0 ≤ 9223372036854775807) (_h1 : -9223372036854775808 ≤ z1 ∧ z1 ≤ 9223372036854775807) (_h2 : -9223372036854775808 ≤ z2 ∧ z2 ≤ 9223372036854775807) (hT : Tab w) :
    Calls Tryd.prog 6 #[.agg #[.int .i64 c, .int .i64 k], .slice A n c0, .agg #[.int .i64 z0, .int .i64 z1, .int .i64 z2]] w fun e w' => e = .returned (.bool true) ∧ Below w.heap.size w w' := by
  obtain ⟨i0, hi, hz0, hz1, hz2⟩ := info_parts infoU64
  obtain ⟨i1, hi', hz0', hz1', hz2'⟩ := info_parts infoBool
  have hb0 := ((Below.refl w.heap.size w).alloc (Nat.le_refl _) (.cells #[.int .i64 c, .int .i64 k] 23)).alloc (by simp) (.cells #[.int .i64 z0, .int .i64 z1, .int .i64 z2] 57)
  have hx := Whole.fresh (w.alloc (.cells #[.int .i64 c, .int .i64 k] 23)) 57 #[.int .i64 z0, .int .i64 z1, .int .i64 z2]
  rw [World.size_alloc] at hx
  have HG := Lib.hid (grown_any c k A n c0 l _ ((hl.below hb0).more hb0.size) (hT.below hb0 hT.pos))
  have HB0 := Lib.hid hb0
  have HX := Lib.hid hx
  clear hl hb0 hx
  go_enter Tryd.func6, Tryd.ntmps6
  go_wp2_with fail
  refine HG.out.mono ?_
  rintro e w1 hgp
  rcases hgp with ⟨h80, rfl, hb1⟩ | ⟨h80, B, R, C, K, own, wd, rfl, hCK, hP⟩
  · have B1 := HB0.out.trans (hb1.mono HB0.out.size)
    have T1 := hT.below B1 hT.pos
    have HA := Lib.hid (fun (W : World) (hb : Below w1.heap.size w1 W) => alive_any W (T1.below hb T1.pos))
    have HB1 := Lib.hid B1
    clear HB0 HG hb1 B1 T1
    have d : (80 : Int) < (n : Int) := by omega
    go_wp2_with fail
    refine (HA.out _ (Below.refl _ _)).mono ?_
    rintro e w2 ⟨rfl, hb2⟩
    go_wp2_with fail
    refine (HA.out _ hb2).mono ?_
    rintro e w3 ⟨rfl, hb3⟩
    go_wp2
    go_ret
    exact ⟨rfl, HB1.out.trans ((hb2.trans (hb3.mono hb2.size)).mono HB1.out.size)⟩
  · have hx1 := HX.out.below hP.held.bel HX.out.lt
    have hP1 := hP.base HB0.out
    have HA := Lib.hid (alive_any w1 hP1.held.tab)
    have HP1 := Lib.hid hP1
    have hbs : w.heap.size + 1 < B.s ∧ w.heap.size + 1 < B.v ∧ w.heap.size + 1 < B.o ∧ w.heap.size + 1 < B.b ∧ w.heap.size + 1 < B.c := by
      have := hP.held.win
      obtain ⟨⟨a1, a2⟩, ⟨b1, b2⟩, ⟨c1, c2⟩, ⟨d1, d2⟩, e1, e2⟩ := this
      simp at a1 b1 c1 d1 e1
      omega
    clear hP hP1 HB0 HG HX
    go_wp2_with fail
    refine HA.out.mono ?_
    rintro e w2 ⟨rfl, hb2⟩
    have hx2 := hx1.below hb2 hx1.lt
    have hP2 := HP1.out.later hT hb2
    have m0 := hP2.rf.words
    have hC1 := hP2.rf.C1
    have hK1 := hP2.rf.K1
    have hM2 : C * K ≤ 144 := Nat.mul_le_mul hCK.1 hCK.2
    have hM1 : 1 ≤ C * K := Nat.mul_pos hC1 hK1
    have HH2 := Lib.hid hP2.held
    have HX2 := Lib.hid hx2
    have hxl := hx2.lt
    clear hP2 hb2 HA HP1 hx1 hx2
    have HRD := Lib.hid (fun (W : World) (hb : Below w2.heap.size w2 W) (i : Nat) (hi : i < C * K) => show Calls Tryd.prog 18 #[.pointer (some ⟨B.s, 0, none⟩), .int .i64 (i : Nat)] W fun e w' => e = .returned (.tuple #[.int .u64 (rva own wd K i : Nat), .int .i64 (addrE own C K (i : Int))]) ∧ W = w' by
      rw [← read_in (wd := wd) hi]; exact read_any (HH2.out.later hT hb).st (i : Int))
    have HOK := Lib.hid (fun i (hi : i < C * K) => addr_ok (own := own) hi)
    generalize hMM : C * K = M at *
    have HMM := Lib.hid hMM
    clear hMM
    go_wp2_with fail
    go_loopw [10, 11, 49] (fun u v x wr => ∃ j : Nat, j ≤ M ∧ x = .int .i64 j ∧ Twin w2 w2.heap.size 30 4 u j (wvals (rva own wd K) 0 j) v j (okvals own K j) wr) (fun _ _ x _ => M - (intOf x).toNat)
    case atStart => exact ⟨0, Nat.zero_le _, rfl, World.ownsRow_nil _ _ _ _, World.ownsRow_nil _ _ _ _, fun g h => by simp [Value.ownBlock] at h, Below.refl _ _, Nat.le_refl _⟩
    case round =>
      obtain ⟨i, hk, rfl, htw⟩ := hrel
      by_cases hlt : i < M
      · have F1 := HRD.out wr htw.2.2.2.1 i hlt
        have HF1 := Lib.hid F1
        have hok := HOK.out i hlt
        have HS1 := Lib.hid (wvals_snoc (rva own wd K) 0 i)
        rw [Nat.zero_add] at HS1
        have HS2 := Lib.hid (okvals_snoc own K i)
        have HTW := Lib.hid htw
        have hsz := htw.2.2.2.2
        generalize rva own wd K i = x at *
        generalize oka own K i = bb at *
        generalize addrE own C K (i : Int) = y at *
        clear F1 htw
        go_wp2_with (first
          | (go_at_call 18; refine HF1.out.mono ?_; rintro e w' ⟨rfl, rfl⟩)
          | (at_builtin; refine wpList_append_own_at _ rfl _ _ 37 rfl w2.heap.size 30 i0 _ 1 8 Tryd.underlying37 hi hz0 hz1 hz2 rfl (by decide) _ _ _ rfl (HTW.out.alloc _).1 ⟨wr.heap.size, 0, none⟩ 1 1 [.int .u64 (x : Nat)] rfl rfl (cell_one_new _ _ _) (by simp [Value.oneCell']) (by unfold maxLen; omega) (by omega) (by simp; omega) ?_; intro v' w1 hown' hgrow _ hat; have HT2 := Lib.hid ((HTW.out.alloc _).first hown' hgrow hat); clear hown' hgrow hat)
          | (at_builtin; refine wpList_append_own_at _ rfl _ _ 58 rfl w2.heap.size 4 i1 _ 1 1 Tryd.underlying58 hi' hz0' hz1' hz2' rfl (by decide) _ _ _ rfl (HT2.out.alloc _).2.1 ⟨w1.heap.size, 0, none⟩ 1 1 [.bool bb] rfl rfl (cell_one_new _ _ _) (by simp [Value.oneCell']) (by unfold maxLen; omega) (by omega) (by simp; have := HT2.out.2.2.2.2; omega) ?_; intro v2 w3 hown2 hgrow2 _ hat2; have HT3 := Lib.hid ((HT2.out.alloc _).second hown2 hgrow2 hat2); clear hown2 hgrow2 hat2))
        go_roundw
        case rel => exact ⟨i + 1, by omega, by go_num, by rw [HS1.out, HS2.out]; exact HT3.out⟩
        case measure => simp [intOf]; omega
      · obtain rfl : M = i := by omega
        obtain ⟨g1, cap1, rfl, ga1, ga2, gac⟩ := owns_cells htw.1 (wvals_len _ 0 M) (by omega)
        obtain ⟨g2, cap2, rfl, gb1, gb2, gbc⟩ := owns_cells htw.2.1 (okvals_len own K M) (by omega)
        have hH := HH2.out.later hT htw.2.2.2.1
        have hx3 := HX2.out.below htw.2.2.2.1 hxl
        have y0 := (hx3.cell 0).trans rfl
        have y1 := (hx3.cell 1).trans rfl
        have y2 := (hx3.cell 2).trans rfl
        have HW := Lib.hid (show WordCells wr g1 M (rva own wd K) from fun j hj => by have := gac j _ (wvals_at _ 0 M j hj); rw [Nat.zero_add] at this; exact this)
        have HO := Lib.hid (show OkCells wr g2 M (oka own K) from fun j hj => gbc j _ (okvals_at own K M j hj))
        have HFA := Lib.hid (show g1 ∉ [B.o, B.c, B.v] ∧ g2 ∉ [B.o, B.c, B.v] by
          obtain ⟨⟨a1, a2⟩, ⟨b1, b2⟩, ⟨c1, c2⟩, ⟨d1, d2⟩, e1, e2⟩ := HH2.out.win
          simp
          omega)
        have HH := Lib.hid hH
        clear htw gac gbc hx3 hH HH2 HX2 HRD HOK hk hlt m0
        obtain ⟨T, hT1, hT2⟩ := uint_modS z0 M hM1 (by omega)
        obtain ⟨F, hF1, hF2⟩ := uint_modS z1 M hM1 (by omega)
        have HT2 := Lib.hid hT2
        have HF2 := Lib.hid hF2
        clear hT2 hF2
        go_upto_region 13 with (fail)
        go_cut [15, 16] (fun s t wc => s = .int .i64 (T : Nat) ∧ t = .int .i64 (F : Nat) ∧ Held w wc B C K own wd ∧ WordCells wc g1 M (rva own wd K) ∧ OkCells wc g2 M (oka own K) ∧ wc.cell? ⟨w.heap.size + 1, 2, none⟩ = some (.int .i64 z2))
        case first =>
          have dz : ((M : Int) == 0) = false := by simp; omega
          have yM : IntKind.u64.wrap (M : Int) = (M : Int) := by rw [IntKind.wrap_u64]; omega
          have yM0 : ¬ (M : Int) = 0 := by omega
          have yM1 : ¬ M = 0 := by omega
          go_quiet (fail)
          go_wp2
          go_meet
          refine ⟨congrArg (Value.int .i64) ?_, congrArg (Value.int .i64) ?_, HH.out.heap ⟨_, rfl⟩, HW.out, HO.out, y2⟩
          · exact HT2.out
          · exact HF2.out
        case rest =>
          obtain ⟨rfl, rfl, hH4, hW4, hO4, b2⟩ := hcut
          have HH4 := Lib.hid hH4
          have HW4 := Lib.hid hW4
          have HO4 := Lib.hid hO4
          clear hH4 hW4 hO4 HH HW HO HT2 HF2 y0 y1 y2
          obtain ⟨D, hD⟩ : ∃ D : Nat, D = M - max T F + 1 := ⟨_, rfl⟩
          obtain ⟨N, hN1, hN2⟩ := uint_modS z2 D (by omega) (by omega)
          have htN : T + N ≤ M := by omega
          have hfN : F + N ≤ M := by omega
          have HN2 := Lib.hid hN2
          have HD := Lib.hid hD
          clear hN2 hD hN1
          go_upto_region 14 with (fail)
          go_cut [17] (fun s wc2 => s = .int .i64 (N : Nat) ∧ wc = wc2)
          case first =>
            have dT : (((M : Int) - (T : Int) + 1) == 0) = false := by simp; omega
            have dF : (((M : Int) - (F : Int) + 1) == 0) = false := by simp; omega
            have yT : IntKind.u64.wrap ((M : Int) - (T : Int) + 1) = (M : Int) - (T : Int) + 1 := by rw [IntKind.wrap_u64]; omega
            have yF : IntKind.u64.wrap ((M : Int) - (F : Int) + 1) = (M : Int) - (F : Int) + 1 := by rw [IntKind.wrap_u64]; omega
            go_wp2
            all_goals go_meet
            all_goals
              refine ⟨congrArg (Value.int .i64) ?_, rfl⟩
              have h1 := HN2.out
              have h2 := HD.out
              first
                | (rw [show (M : Int) - (T : Int) + 1 = (D : Int) by omega]; exact h1)
                | (rw [show (M : Int) - (F : Int) + 1 = (D : Int) by omega]; exact h1)
          case rest =>
            obtain ⟨rfl, rfl⟩ := hcut
            clear HN2 HD
            go_wp2_with fail
            go_loop [18, 95] (fun s x => ∃ j : Nat, j ≤ N ∧ x = .int .i64 j ∧ s = .bool (mayB own K T F j)) (fun _ x => N - (intOf x).toNat)
            case atStart => exact ⟨0, Nat.zero_le _, rfl, by rw [mayB_zero]⟩
            case round =>
              obtain ⟨j, hj, rfl, rfl⟩ := hrel
              by_cases hl2 : j < N
              · have b3 := HO4.out (T + j) (by omega)
                have b4 := HO4.out (F + j) (by omega)
                have HS := Lib.hid (mayB_succ own K T F j)
                have x1 : ((T : Int) + (j : Int)).toNat = T + j := by omega
                have x2 : ((F : Int) + (j : Int)).toNat = F + j := by omega
                generalize mayB own K T F j = mb at *
                generalize oka own K (T + j) = o1 at *
                generalize oka own K (F + j) = o2 at *
                cases mb
                · go_wp2
                  go_round
                  case rel => exact ⟨j + 1, by omega, by go_num, by rw [HS.out]; simp⟩
                  case measure => simp [intOf]; omega
                · cases o1
                  · go_wp2
                    go_round
                    case rel => exact ⟨j + 1, by omega, by go_num, by rw [HS.out]; simp⟩
                    case measure => simp [intOf]; omega
                  · go_wp2
                    go_round
                    case rel => exact ⟨j + 1, by omega, by go_num, by rw [HS.out]; simp⟩
                    case measure => simp [intOf]; omega
              · obtain rfl : N = j := by omega
                have CP := copy_all HH4.out.st (T : Int) (F : Int) (N : Int)
                have htN' : T + N ≤ C * K := by rw [HMM.out]; exact htN
                have hfN' : F + N ≤ C * K := by rw [HMM.out]; exact hfN
                rw [copy_may htN' hfN'] at CP
                cases hmay : mayB own K T F N
                · rw [hmay, cpA_not htN' hfN' hmay, if_neg (by simp)] at CP
                  have HCP := Lib.hid CP
                  clear CP hmay htN' hfN'
                  go_wp2_with fail
                  refine HCP.out.mono ?_
                  rintro e w5 ⟨rfl, ho5, hs5⟩
                  have hH5 := HH4.out.step hT ho5 hs5
                  have HH5 := Lib.hid hH5
                  have HW5 := Lib.hid (show WordCells w5 g1 M (rva own wd K) from fun j hj => (ho5.cell (p := ⟨g1, j, none⟩) HFA.out.1).trans (HW4.out j hj))
                  have HO5 := Lib.hid (show OkCells w5 g2 M (oka own K) from fun j hj => (ho5.cell (p := ⟨g2, j, none⟩) HFA.out.2).trans (HO4.out j hj))
                  clear hH5 hs5 ho5 HCP HW4 HO4 HH4
                  go_wp2_with fail
                  go_loop [134] (fun x => ∃ i : Nat, i ≤ M ∧ x = .int .i64 i) (fun x => M - (intOf x).toNat)
                  case atStart => exact ⟨0, Nat.zero_le _, rfl⟩
                  case round =>
                    obtain ⟨i, hi3, rfl⟩ := hrel
                    by_cases hl3 : i < M
                    · have b5 := HW5.out i hl3
                      have b6 := HO5.out i hl3
                      have hiM : i < C * K := by rw [HMM.out]; exact hl3
                      have R1 := read_any HH5.out.st (i : Int)
                      rw [read_in hiM] at R1
                      have hok := addr_ok (own := own) hiM
                      have HR1 := Lib.hid R1
                      clear R1 hiM
                      generalize rva own wd K i = x at *
                      generalize oka own K i = bb at *
                      generalize addrE own C K (i : Int) = y at *
                      have dx : ((x : Int) != (x : Int)) = false := by simp
                      have db : (bb != bb) = false := by simp
                      go_wp2_with (first
                        | (go_at_call 18; refine HR1.out.mono ?_; rintro e w' ⟨rfl, rfl⟩))
                      go_round
                      case rel => exact ⟨i + 1, by omega, by go_num⟩
                      case measure => simp [intOf]; omega
                    · have HB := Lib.hid HH5.out.bel
                      go_wp2
                      go_ret
                      exact ⟨rfl, HB.out⟩
                · rw [hmay, cpA_may htN' hfN' hmay, if_pos rfl] at CP
                  have HCP := Lib.hid CP
                  have HMAY := Lib.hid hmay
                  clear CP hmay htN' hfN'
                  go_wp2_with fail
                  refine HCP.out.mono ?_
                  rintro e w5 ⟨rfl, ho5, hs5⟩
                  have hH5 := HH4.out.step hT ho5 hs5
                  have HH5 := Lib.hid hH5
                  have HW5 := Lib.hid (show WordCells w5 g1 M (rva own wd K) from fun j hj => (ho5.cell (p := ⟨g1, j, none⟩) HFA.out.1).trans (HW4.out j hj))
                  have HO5 := Lib.hid (show OkCells w5 g2 M (oka own K) from fun j hj => (ho5.cell (p := ⟨g2, j, none⟩) HFA.out.2).trans (HO4.out j hj))
                  clear hH5 hs5 ho5 HCP HW4 HO4 HH4
                  go_wp2_with fail
                  go_loop [134] (fun x => ∃ i : Nat, i ≤ M ∧ x = .int .i64 i) (fun x => M - (intOf x).toNat)
                  case atStart => exact ⟨0, Nat.zero_le _, rfl⟩
                  case round =>
                    obtain ⟨i, hi3, rfl⟩ := hrel
                    by_cases hl3 : i < M
                    · have b5 := HW5.out i hl3
                      have b6 := HO5.out i hl3
                      have hiM : i < C * K := by rw [HMM.out]; exact hl3
                      have R1 := read_any HH5.out.st (i : Int)
                      rw [read_in hiM] at R1
                      have hok := addr_ok (own := own) hiM
                      clear hiM
                      by_cases g3 : T ≤ i
                      · by_cases g4 : i < T + N
                        · rw [rva_copied HMAY.out g3 g4] at R1
                          have b7 := HW5.out (F + (i - T)) (by omega)
                          have x3 : ((F : Int) + (i : Int) - (T : Int)).toNat = F + (i - T) := by omega
                          have x4 : (F : Int) + (i : Int) - (T : Int) = ((F + (i - T) : Nat) : Int) := by omega
                          have HR1 := Lib.hid R1
                          clear R1
                          generalize rva own wd K (F + (i - T)) = x at *
                          generalize rva own wd K i = x9 at *
                          generalize oka own K i = bb at *
                          generalize addrE own C K (i : Int) = y at *
                          have dx : ((x : Int) != (x : Int)) = false := by simp
                          have db : (bb != bb) = false := by simp
                          have y1 : decide ((T : Int) ≤ (i : Int)) = true := by simp; omega
                          have y2 : decide ((i : Int) < (T : Int) + (N : Int)) = true := by simp; omega
                          go_wp2_with (first
                            | (go_at_call 18; refine HR1.out.mono ?_; rintro e w' ⟨rfl, rfl⟩))
                          go_round
                          case rel => exact ⟨i + 1, by omega, by go_num⟩
                          case measure => simp [intOf]; omega
                        · rw [rva_else (by omega)] at R1
                          have HR1 := Lib.hid R1
                          clear R1
                          generalize rva own wd K i = x at *
                          generalize oka own K i = bb at *
                          generalize addrE own C K (i : Int) = y at *
                          have dx : ((x : Int) != (x : Int)) = false := by simp
                          have db : (bb != bb) = false := by simp
                          have y1 : decide ((T : Int) ≤ (i : Int)) = true := by simp; omega
                          have y2 : decide ((i : Int) < (T : Int) + (N : Int)) = false := by simp; omega
                          go_wp2_with (first
                            | (go_at_call 18; refine HR1.out.mono ?_; rintro e w' ⟨rfl, rfl⟩))
                          go_round
                          case rel => exact ⟨i + 1, by omega, by go_num⟩
                          case measure => simp [intOf]; omega
                      · rw [rva_else (by omega)] at R1
                        have HR1 := Lib.hid R1
                        clear R1
                        generalize rva own wd K i = x at *
                        generalize oka own K i = bb at *
                        generalize addrE own C K (i : Int) = y at *
                        have dx : ((x : Int) != (x : Int)) = false := by simp
                        have db : (bb != bb) = false := by simp
                        have y1 : decide ((T : Int) ≤ (i : Int)) = false := by simp; omega
                        go_wp2_with (first
                          | (go_at_call 18; refine HR1.out.mono ?_; rintro e w' ⟨rfl, rfl⟩))
                        go_round
                        case rel => exact ⟨i + 1, by omega, by go_num⟩
                        case measure => simp [intOf]; omega
                    · have HB := Lib.hid HH5.out.bel
                      go_wp2
                      go_ret
                      exact ⟨rfl, HB.out⟩
end Go.Proofs.YtpddiakpnibcgaaDoor
