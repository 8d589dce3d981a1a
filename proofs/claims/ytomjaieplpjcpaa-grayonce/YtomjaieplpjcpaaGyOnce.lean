/- The law GrayOnce. -/
import Derived.Test.YtomjaieplpjcpaaGyOnceM
import Derived.Test.YtomjaieplpjcpaaGrApp
import Derived.Deep.DeepCutAuto
namespace Go.Proofs.Ytomjaieplpjcpaa
open Go.RowKit Go.Lib Go.Sort Go.Maps
set_option linter.unusedVariables false

set_option maxHeartbeats 8000000 in
set_option maxRecDepth 100000 in
theorem once_walk (A : Option Addr) (n c : Nat) (xs : List Int) (B : Option Addr) (m d : Nat) (ys : List Int) (w : World) (hz : ZS w A n xs ∧ ZI xs ∧ n ≤ c) (he : ZS w B m ys ∧ ZI ys ∧ m ≤ d) :
    Calls Try.prog 4 #[.slice A n c, .slice B m d] w fun e w' => e = .returned (.bool true) ∧ Below w.heap.size w w' := by
  obtain ⟨hz1, hzi, hnc⟩ := hz
  obtain ⟨he1, hei, hmd⟩ := he
  obtain ⟨i0, hi0, hz0, hzz1, hz2⟩ := info_parts infoZ
  obtain ⟨M, hM1, hM2, hM3⟩ := gy_cut n 100
  obtain ⟨N, hN1, hN2, hN3⟩ := gy_cut m 50
  have HX := Lib.hid (hz1.take hM1)
  have HY := Lib.hid (he1.take hN1)
  have HXI : Hid (ZI (xs.take M)) := Lib.hid fun x hx => hzi x (List.mem_of_mem_take hx)
  have HYI : Hid (ZI (ys.take N)) := Lib.hid fun x hx => hei x (List.mem_of_mem_take hx)
  have q1 : min (n : Int) 100 = (M : Int) := by omega
  have q2 : min (m : Int) 50 = (N : Int) := by omega
  clear hM3 hN3 hz1 he1 hzi hei
  generalize xs.take M = ls at HX HXI
  generalize ys.take N = ps at HY HYI
  have HLL : Hid (ls.length = M) := Lib.hid HX.out.len
  have HPL : Hid (ps.length = N) := Lib.hid HY.out.len
  go_enter Try.func4, Try.ntmps4
  go_upto_region 1 with (fail)
  go_cut [0, 1] from 16 to 25 (fun s t wc => s = .slice A M c ∧ t = .slice B N d ∧ Hid (Below w.heap.size w wc))
  case first =>
    have q3 : (M : Int) ≤ c := by omega
    have q4 : (N : Int) ≤ d := by omega
    have q5 : (0 : Int) ≤ M := by omega
    have q6 : (0 : Int) ≤ N := by omega
    go_region
    go_wp2
    go_meet
    exact ⟨rfl, rfl, Lib.hid (Below.refl _ w).drew⟩
  case rest =>
    obtain ⟨rfl, rfl, HB0⟩ := hcut
    have hMc : M ≤ c := by omega
    have hNd : N ≤ d := by omega
    clear q1 q2 hM1 hN1 hnc hmd
    rename World => w0
    go_wp2_with fail
    refine (lnew_any HB0.out).mono ?_
    rintro e w1 ⟨b, rfl, h1, _⟩
    have G1 := Lib.hid h1
    clear h1 HB0
    go_wp2_with fail
    refine (galive_any _).mono ?_
    rintro e w2 ⟨rfl, hb2⟩
    have G2 := Lib.hid (G1.out.below hb2)
    clear G1 hb2
    have hP := lput_any (c := c) G2.out (G2.out.zs HX.out) HXI.out (by simp [GY.num, GY.S.nil]; omega)
    rw [GY.puts_nil_at, ← GY.pst_nil] at hP
    obtain ⟨U, hU⟩ : ∃ U, U = GM.adds [] ls := ⟨_, rfl⟩
    have hUl : U.length ≤ 100 := by have h1 := GM.adds_len [] ls; have h2 := HLL.out; simp at h1; rw [hU]; omega
    rw [← hU] at hP
    have HUE := Lib.hid hU
    have HP := Lib.hid hP
    clear hP hU G2
    go_wp2_with fail
    refine HP.out.mono ?_
    rintro e w3 ⟨rfl, h3, _⟩
    have G3 := Lib.hid h3
    clear h3 HP
    go_wp2_with fail
    go_loopw [38] (fun i wr => ∃ k : Nat, k ≤ N ∧ i = .int .i64 k ∧ Hid (Gl w wr b (GY.pst U (ps.take k)))) (fun i _ => N - (intOf i).toNat)
    case atStart => exact ⟨0, Nat.zero_le _, rfl, G3⟩
    case round =>
      obtain ⟨k, hk, rfl, HG⟩ := hrel
      by_cases hlt : k < N
      · obtain ⟨r, off, rfl, hb, c0⟩ := HY.out.at_ hlt
        have d0 := (HG.out.bel.cell (p := ⟨r, _, none⟩) hb).trans c0
        have hkl : k < ps.length := by rw [HPL.out]; exact hlt
        have hst := GY.pst_take U hkl
        have hxi := HYI.out _ (List.getElem_mem hkl)
        obtain ⟨x, hx⟩ : ∃ x, x = ps[k]'hkl := ⟨_, rfl⟩
        rw [← hx] at d0 hst hxi
        have hnum := GY.pst_num U (ps.take k)
        rw [List.length_take] at hnum
        have hA := lpaint_any HG.out hxi (by omega)
        rw [hst] at hA
        have HA := Lib.hid hA
        clear c0 hx hst hxi hnum hA HG
        generalize decide (GY.col (GY.pst U (ps.take k)) x ≠ 2) = y at HA
        go_wp2_with fail
        refine HA.out.mono ?_
        rintro e w4 ⟨rfl, h4, _⟩
        have H4 := Lib.hid h4
        clear HA h4
        go_wp2
        go_roundw
        case rel => exact ⟨k + 1, by omega, by go_num, H4⟩
        case measure => simp [intOf]; omega
      · obtain rfl : N = k := by omega
        have hg := HG.out
        rw [List.take_of_length_le (by rw [HPL.out]; omega)] at hg
        have G4 := Lib.hid hg
        clear hg HG
        go_wp2_with fail
        go_loopw [8, 48] (fun u i wr => ∃ j : Nat, j ≤ M ∧ i = .int .i64 j ∧ Hid (NewZ w.heap.size wr u (GM.out ps (GM.adds [] (ls.take j)))) ∧ Hid (Gl w wr b (GY.pst U ps))) (fun _ i _ => M - (intOf i).toNat)
        case atStart => exact ⟨0, Nat.zero_le _, rfl, Lib.hid (NewZ.nil _ _), G4⟩
        case round =>
          obtain ⟨i, hi, rfl, HU, HG⟩ := hrel
          by_cases hlt : i < M
          · obtain ⟨r, off, rfl, hb, c0⟩ := HX.out.at_ hlt
            have d0 := (HG.out.bel.cell (p := ⟨r, _, none⟩) hb).trans c0
            have hil : i < ls.length := by rw [HLL.out]; exact hlt
            have hst := GY.want_take (ls := ls) (ps := ps) (i := i) (List.getElem?_eq_getElem hil)
            obtain ⟨x, hx⟩ : ∃ x, x = ls[i]'hil := ⟨_, rfl⟩
            rw [← hx] at d0 hst
            have hL : (GM.out ps (GM.adds [] (ls.take i))).length ≤ 100 := by
              have h1 := GM.out_len ps (GM.adds [] (ls.take i))
              have h2 := GM.adds_len [] (ls.take i)
              rw [List.length_take] at h2
              simp at h2
              omega
            obtain ⟨L, hLe⟩ : ∃ L, L = GM.out ps (GM.adds [] (ls.take i)) := ⟨_, rfl⟩
            rw [← hLe] at hL hst HU
            have hsz := HG.out.bel.size
            have hZ1 := (HX.out.below HG.out.bel).take (Nat.le_of_lt hlt)
            have HH1 := Lib.hid (has_any (c := c) hZ1 (by omega) x)
            have HH2 := Lib.hid (has_any (c := d) (HY.out.below HG.out.bel) (by omega) x)
            have hi3 : (i : Int) ≤ (c : Int) := by omega
            have hi4 : (0 : Int) ≤ (i : Int) := by omega
            clear c0 hx hLe hZ1
            by_cases hin : x ∈ ls.take i
            · rw [if_pos (.inl hin)] at hst
              rw [decide_eq_true hin] at HH1
              have HST := Lib.hid hst
              clear hst hin HH2
              go_wp2_with fail
              refine HH1.out.mono ?_
              rintro e w5 ⟨rfl, rfl⟩
              clear HH1
              go_wp2
              go_roundw
              case rel => exact ⟨i + 1, by omega, by go_num, by rw [HST.out]; exact HU, HG⟩
              case measure => simp [intOf]; omega
            · rw [decide_eq_false hin] at HH1
              by_cases hin2 : x ∈ ps
              · rw [if_pos (.inr hin2)] at hst
                rw [decide_eq_true hin2] at HH2
                have HST := Lib.hid hst
                clear hst hin hin2
                go_wp2_with fail
                refine HH1.out.mono ?_
                rintro e w5 ⟨rfl, rfl⟩
                clear HH1
                go_wp2_with fail
                refine HH2.out.mono ?_
                rintro e w5 ⟨rfl, rfl⟩
                clear HH2
                go_wp2
                go_roundw
                case rel => exact ⟨i + 1, by omega, by go_num, by rw [HST.out]; exact HU, HG⟩
                case measure => simp [intOf]; omega
              · rw [if_neg (fun k => k.elim hin hin2)] at hst
                rw [decide_eq_false hin2] at HH2
                have HST := Lib.hid hst
                clear hst hin hin2
                go_wp2_with fail
                refine HH1.out.mono ?_
                rintro e w5 ⟨rfl, rfl⟩
                clear HH1
                go_wp2_with fail
                refine HH2.out.mono ?_
                rintro e w5 ⟨rfl, rfl⟩
                clear HH2
                go_wp2_with (first
                  | (at_builtin; refine wpList_append_own _ rfl _ _ 33 rfl w.heap.size 3 i0 _ 1 8 Try.underlying33 hi0 hz0 hzz1 hz2 rfl (by decide) _ _ _ rfl (HU.out.own.alloc _) ⟨wr.heap.size, 0, none⟩ 1 1 [.int .i64 x] rfl rfl (cell_one_new _ _ _) (by simp [Value.oneCell']) (by unfold maxLen; omega) (by omega) (by simp; omega) ?_; intro v' w6 hown' hgrow _; have HO := Lib.hid hown'; have HG3 := Lib.hid hgrow; clear hown' hgrow))
                go_roundw
                case rel => exact ⟨i + 1, by omega, by go_num, by rw [HST.out]; exact Lib.hid (NewZ.snoc HO.out), Lib.hid ((HG.out.alloc (.cells #[.int .i64 x] 3)).grown (HU.out.alloc (.cells #[.int .i64 x] 3)) HG3.out)⟩
                case measure => simp [intOf]; omega
          · obtain rfl : i = M := by omega
            have hu := HU.out
            rw [List.take_of_length_le (by rw [HLL.out]; omega), ← HUE.out] at hu
            obtain ⟨W, hW⟩ : ∃ W, W = GM.out ps U := ⟨_, rfl⟩
            obtain ⟨D0, hD0⟩ : ∃ D0, D0 = GM.adds [] ps := ⟨_, rfl⟩
            have hpst : GY.pst U ps = GY.told D0 W 0 := by rw [GY.told_0, hW, hD0]; rfl
            rw [← hW] at hu
            have hWl : W.length ≤ i := by
              have h1 := GM.out_len ps U
              have h2 := GM.adds_len [] ls
              have h3 := HLL.out
              rw [← HUE.out] at h2
              simp at h2
              rw [hW]
              omega
            have hDl : D0.length ≤ 50 := by
              have h2 := GM.adds_len [] ps
              have h3 := HPL.out
              simp at h2
              rw [hD0]
              omega
            have hfin : ∀ z, z ∈ D0 ++ W ↔ z ∈ ls ++ ps := fun z => by
              rw [List.mem_append, List.mem_append, hD0, hW, GM.mem_out, GM.mem_adds, HUE.out, GM.mem_adds]
              simp
              constructor
              · rintro (h | ⟨h, _⟩)
                · exact .inr h
                · exact .inl h
              · intro h
                by_cases hp : z ∈ ps
                · exact .inl hp
                · exact .inr ⟨h.elim id (fun k => absurd k hp), hp⟩
            have HFIN := Lib.hid hfin
            rw [hpst] at HG
            obtain ⟨A3, n3, c3, rfl, hn3, hz3⟩ := hu.op
            obtain ⟨K, hK⟩ : ∃ K, K = wr.heap.size := ⟨_, rfl⟩
            have HLT : Hid (∀ g, (Value.slice A3 n3 c3).ownBlock = some g → g < K) := Lib.hid (fun g hg => by rw [hK]; exact (hu.own.lt g hg).2)
            have HKl : Hid (K ≤ wr.heap.size) := Lib.hid (by omega)
            have HKw : Hid (w.heap.size ≤ K) := Lib.hid (by rw [hK]; exact HG.out.bel.size)
            have HU5 := Lib.hid hu
            have HL := Lib.hid (glen_any HG.out.gy)
            have hlen0 : (GY.told D0 W 0).W.length = n3 := by rw [GY.told_0]; exact hn3
            rw [hlen0] at HL
            have HN3 := Lib.hid hn3
            have hn3b : n3 ≤ i := by omega
            have hlp : ls.length + ps.length ≤ 150 := by have := HLL.out; have := HPL.out; omega
            clear hu hW hD0 hpst hfin hz3 HU hlen0 hn3 hK
            go_wp2_with fail
            refine HL.out.mono ?_
            rintro e w5 ⟨rfl, rfl⟩
            clear HL
            go_wp2_with fail
            go_loopw [9, 77] (fun u iv wk => ∃ k : Nat, k ≤ i ∧ iv = .int .i64 k ∧ Hid (NewZ K wk u (W.take k)) ∧ Hid (NewZ w.heap.size wk (.slice A3 n3 c3) W) ∧ Hid (Gl w wk b (GY.told D0 W k)) ∧ Hid (K ≤ wk.heap.size)) (fun _ iv _ => i - (intOf iv).toNat)
            case atStart => exact ⟨0, Nat.zero_le _, rfl, Lib.hid (NewZ.nil _ _), HU5, HG, HKl⟩
            case round =>
              obtain ⟨k, hk, rfl, HR, HU, HG, HK⟩ := hrel
              have hnum := GY.told_num D0 W k
              have hN := lnext_any HG.out (by omega)
              clear hnum
              by_cases hlt : k < i
              · rcases Nat.lt_or_ge k W.length with hkW | hkW
                · obtain ⟨x, hx⟩ : ∃ x, W[k]? = some x := ⟨_, List.getElem?_eq_getElem hkW⟩
                  obtain ⟨t1, t2, t3⟩ := GY.told_next (D0 := D0) hx
                  rw [GY.hd_cons t1, t2, t1, decide_eq_true (show x :: W.drop (k + 1) ≠ [] by simp)] at hN
                  have HN := Lib.hid hN
                  have hst : W.take (k + 1) = W.take k ++ [x] := by rw [List.take_succ_eq_append_getElem hkW, (List.getElem?_eq_some_iff.1 hx).2]
                  have HST := Lib.hid hst
                  have HT3 := Lib.hid t3
                  have hL : (W.take k).length ≤ 100 := by rw [List.length_take]; omega
                  clear hN hx t1 t2 t3 hst
                  go_wp2_with fail
                  refine HN.out.mono ?_
                  rintro e w6 ⟨rfl, h6, g6⟩
                  have H6 := Lib.hid h6
                  have HR6 := Lib.hid (HR.out.gt g6)
                  have HU6 := Lib.hid (HU.out.gt g6)
                  have hsz : K ≤ w6.heap.size := Nat.le_trans HK.out g6.size
                  clear HN h6 g6 HR HU HG HK
                  obtain ⟨T, hT⟩ : ∃ T, T = W.take k := ⟨_, rfl⟩
                  rw [← hT] at hL HR6 HST
                  clear hT
                  go_wp2_with (first
                    | (at_builtin; refine wpList_append_own _ rfl _ _ 33 rfl K 3 i0 _ 1 8 Try.underlying33 hi0 hz0 hzz1 hz2 rfl (by decide) _ _ _ rfl (HR6.out.own.alloc _) ⟨w6.heap.size, 0, none⟩ 1 1 [.int .i64 x] rfl rfl (cell_one_new _ _ _) (by simp [Value.oneCell']) (by unfold maxLen; omega) (by omega) (by simp; omega) ?_; intro v' w7 hown' hgrow _; have HO := Lib.hid hown'; have HG3 := Lib.hid hgrow; clear hown' hgrow))
                  have hv7 := NewZ.snoc HO.out
                  rw [← HST.out] at hv7
                  have HR7 := Lib.hid hv7
                  have HU7 := Lib.hid ((HU6.out.alloc (.cells #[.int .i64 x] 3)).grown HG3.out (NewZ.apart HLT.out (HR6.out.alloc (.cells #[.int .i64 x] 3))))
                  have h7 := (H6.out.alloc (.cells #[.int .i64 x] 3)).grown ((HR6.out.alloc (.cells #[.int .i64 x] 3)).less HKw.out) HG3.out
                  have hcx : GY.col (GY.told D0 W (k + 1)) x ≠ 0 := by rw [GY.col_d h7.good HT3.out]; decide
                  have hP := lput_one (x := x) h7 (h7.ok hcx) (by rw [GY.told_num]; omega)
                  rw [if_neg hcx, GY.put_no hcx] at hP
                  have HP := Lib.hid hP
                  have HK7 : Hid (K ≤ w7.heap.size) := Lib.hid (Nat.le_trans (Nat.le_trans hsz (by simp)) HG3.out.size)
                  clear HO HG3 hv7 h7 hcx hP HR6 HU6 H6 HST HT3 hsz
                  go_wp2_with fail
                  refine HP.out.mono ?_
                  rintro e w8 ⟨rfl, h8, g8⟩
                  have H8 := Lib.hid h8
                  have HR8 := Lib.hid (HR7.out.gt g8)
                  have HU8 := Lib.hid (HU7.out.gt g8)
                  have HK8 : Hid (K ≤ w8.heap.size) := Lib.hid (Nat.le_trans HK7.out g8.size)
                  clear HP h8 g8 HR7 HU7 HK7
                  go_wp2
                  go_roundw
                  case rel => exact ⟨k + 1, by omega, by go_num, HR8, HU8, H8, HK8⟩
                  case measure => simp [intOf]; omega
                · have hte := GY.told_end (D0 := D0) hkW
                  have hte1 := GY.told_end (D0 := D0) (k := k + 1) (Nat.le_succ_of_le hkW)
                  rw [hte, GY.hd_nil rfl, GY.next_nil rfl, decide_eq_false (show ¬ ((⟨[], D0 ++ W⟩ : GY.S).W ≠ []) by simp)] at hN
                  rw [List.take_of_length_le hkW] at HR
                  have e2 : W.take (k + 1) = W := List.take_of_length_le (Nat.le_succ_of_le hkW)
                  have HN := Lib.hid hN
                  have HT1 := Lib.hid hte1
                  have HE2 := Lib.hid e2
                  clear hN hte hte1 e2 HG
                  go_wp2_with fail
                  refine HN.out.mono ?_
                  rintro e w6 ⟨rfl, h6, g6⟩
                  have H6 := Lib.hid h6
                  have HR6 := Lib.hid (HR.out.gt g6)
                  have HU6 := Lib.hid (HU.out.gt g6)
                  have HK6 : Hid (K ≤ w6.heap.size) := Lib.hid (Nat.le_trans HK.out g6.size)
                  clear HN h6 g6 HR HU HK
                  go_wp2
                  go_roundw
                  case rel => exact ⟨k + 1, by omega, by go_num, by rw [HE2.out]; exact HR6, HU6, by rw [HT1.out]; exact H6, HK6⟩
                  case measure => simp [intOf]; omega
              · obtain rfl : k = i := by omega
                rw [GY.told_end hWl, GY.hd_nil rfl, GY.next_nil rfl, decide_eq_false (show ¬ ((⟨[], D0 ++ W⟩ : GY.S).W ≠ []) by simp)] at hN
                rw [List.take_of_length_le hWl] at HR
                have HN := Lib.hid hN
                clear hN HG
                go_wp2_with fail
                refine HN.out.mono ?_
                rintro e w6 ⟨rfl, h6, g6⟩
                have H6 := Lib.hid h6
                have HR6 := Lib.hid (HR.out.gt g6)
                have HU6 := Lib.hid (HU.out.gt g6)
                have hL0 := glen_any h6.gy
                rw [show ((((⟨[], D0 ++ W⟩ : GY.S).W.length : Nat)) : Int) = 0 from rfl] at hL0
                have HL0 := Lib.hid hL0
                clear HN h6 g6 HR HU HK hL0
                obtain ⟨A4, n4, c4, rfl, hn4, hz4⟩ := HR6.out.op
                have HS4 := Lib.hid (same_any (c := c4) (d := c3) hz4 HU6.out.zs (by omega))
                clear hz4 HR6 HU6 hn4
                go_wp2_with fail
                refine HL0.out.mono ?_
                rintro e w7 ⟨rfl, rfl⟩
                clear HL0
                go_wp2_with fail
                refine HS4.out.mono ?_
                rintro e w8 ⟨rfl, q, rfl⟩
                have H8 := Lib.hid (H6.out.drewN q)
                clear HS4
                have hdn := gdone_any H8.out.gy (by have := GY.told_num D0 W k; simp [GY.num] at this ⊢; omega)
                rw [show BG.row (⟨[], D0 ++ W⟩ : GY.S).D = BG.norm (ls ++ ps) from GY.row_is H8.out.good.d HFIN.out] at hdn
                have HD := Lib.hid hdn
                clear hdn
                go_wp2_with fail
                refine HD.out.mono ?_
                rintro e w9 ⟨v1, rfl, hv1, hb9⟩
                obtain ⟨A1, n1, c1, rfl, hn1, _⟩ := hv1.op
                have HV1 := Lib.hid hv1
                have B9 := Lib.hid (H8.out.bel.trans (hb9.mono H8.out.bel.size))
                have HE0 := Lib.hid (NewZ.empty w9)
                have BA := Lib.hid ((Below.refl w9.heap.size w9).alloc (Nat.le_refl _) (.cells #[] 3))
                have HX9 := Lib.hid (HX.out.below (B9.out.trans (BA.out.mono B9.out.size)))
                have hn1' : n1 ≤ 150 := by have := BG.norm_len (ls ++ ps); rw [List.length_append] at this; omega
                clear hv1 hb9 HD H8 H6 hn1
                go_wp2_with (first
                  | (at_builtin; refine wpList_append_zsw (by rfl) _ _ rfl w9.heap.size ls ps v2 B N d rfl rfl HR1.out HY10.out (by omega) B10.out.size ?_; intro v3 w11 hr2 hg2; have B11 := Lib.hid (B10.out.grown hg2 B10.out.size (fun g hg => (HR1.out.own.lt g hg).1)); obtain ⟨A5, n5, c5, e5, hn5, hs5⟩ := hr2.op; subst e5; have hn5' : n5 ≤ 150 := (by rw [List.length_append] at hn5; omega); have HZ5 := Lib.hid hs5; clear hr2 hg2 hs5 hn5)
                  | (at_builtin; (refine wpList_append_zsw (by rfl) _ _ rfl w9.heap.size [] ls (.slice (some ⟨w9.heap.size, 0, none⟩) 0 0) A k c rfl rfl HE0.out HX9.out (by simp; omega) (by simp) ?_; intro v2 w10 hr1 hg1; rw [List.nil_append] at hr1; have HR1 := Lib.hid hr1; have B10 := Lib.hid (BA.out.grown hg1 (by simp) (fun g hg => (HE0.out.own.lt g hg).1)); have HY10 := Lib.hid (HY.out.below (B9.out.trans (B10.out.mono B9.out.size))); clear hr1 hg1)))
                refine (sorted_any (c := c5) HZ5.out (by omega)).mono ?_
                rintro e w12 ⟨v6, rfl, hv6, hb12⟩
                obtain ⟨A6, n6, c6, rfl, hn6, hz6⟩ := hv6.op
                have B12 := Lib.hid (B11.out.trans (hb12.mono B11.out.size))
                have HS := Lib.hid (same_any (c := c1) (d := c6) (HV1.out.below B12.out).zs hz6 (by omega))
                have B13 := Lib.hid (B9.out.trans (B12.out.mono B9.out.size))
                clear hv6 hb12 hz6
                go_wp2_with fail
                refine HS.out.mono ?_
                rintro e w13 ⟨rfl, q2, rfl⟩
                go_wp2
                go_ret
                exact ⟨rfl, bdrewN B13.out q2⟩
end Go.Proofs.Ytomjaieplpjcpaa
