/- The law GrayPaints. -/
import Derived.Test.YtomjaieplpjcpaaGyOnceM
import Derived.Deep.DeepCutAuto
namespace Go.Proofs.Ytomjaieplpjcpaa
open Go.RowKit Go.Lib Go.Sort Go.Maps
set_option linter.unusedVariables false

set_option maxHeartbeats 8000000 in
set_option maxRecDepth 100000 in
theorem paints_walk (A : Option Addr) (n c : Nat) (xs : List Int) (x : Int) (w : World) (hz : ZS w A n xs ∧ ZI xs ∧ n ≤ c) (hxi : I64 x) :
    Calls Try.prog 7 #[.slice A n c, .int .i64 x] w fun e w' => e = .returned (.bool true) ∧ Below w.heap.size w w' := by
  obtain ⟨hz1, hzi, hnc⟩ := hz
  obtain ⟨i0, hi0, hz0, hzz1, hz2⟩ := info_parts infoZ
  obtain ⟨M, hM1, hM2, hM3⟩ := gy_cut n 100
  have HX := Lib.hid (hz1.take hM1)
  have HXI : Hid (ZI (xs.take M)) := Lib.hid fun x hx => hzi x (List.mem_of_mem_take hx)
  have HM3 := Lib.hid hM3
  clear hM3 hz1 hzi
  generalize xs.take M = ls at HX HXI
  have HLL : Hid (ls.length = M) := Lib.hid HX.out.len
  have HXX := Lib.hid hxi
  go_enter Try.func7, Try.ntmps7
  go_wp2_with fail
  refine (lnew_any (Below.refl _ w)).mono ?_
  rintro e w1 ⟨b, rfl, h1, _⟩
  have G1 := Lib.hid h1
  clear h1 hxi
  go_upto_region 2 with (fail)
  go_cut [0] from 18 to 22 (fun s wc => s = .slice A M c ∧ w1 = wc)
  case first =>
    rcases HM3.out with ⟨h1, h2⟩ | ⟨h1, h2⟩
    · subst h2
      have hn' : ¬ (100 : Int) < (M : Int) := by omega
      go_wp2
      go_meet
      exact ⟨by congr 1; omega, rfl⟩
    · subst h2
      have hn' : (100 : Int) < (n : Int) := by omega
      go_wp2
      go_meet
      exact ⟨by congr 1; omega, rfl⟩
  case rest =>
    obtain ⟨rfl, rfl⟩ := hcut
    have hMc : M ≤ c := by omega
    clear HM3 hM1 hnc
    go_wp2_with fail
    refine (galive_any _).mono ?_
    rintro e w2 ⟨rfl, hb2⟩
    have G2 := Lib.hid (G1.out.below hb2)
    clear G1 hb2
    have hP := lput_any (c := c) G2.out (G2.out.zs HX.out) HXI.out (by simp [GY.num, GY.S.nil]; omega)
    rw [GY.puts_nil_at, ← GY.pst_nil] at hP
    obtain ⟨U, hU⟩ : ∃ U, U = GM.adds [] ls := ⟨_, rfl⟩
    have hUl : U.length ≤ 100 := by have h1 := GM.adds_len [] ls; have h2 := HLL.out; simp at h1; rw [hU]; omega
    have hUm : x ∈ U ↔ x ∈ ls := by rw [hU, GM.mem_adds]; simp
    have hUn : U.Nodup := by rw [hU]; exact GM.adds_nodup List.nodup_nil
    rw [← hU] at hP
    have HUE := Lib.hid hU
    have HP := Lib.hid hP
    have HUM := Lib.hid hUm
    have HUN := Lib.hid hUn
    clear hP hU G2 hUm hUn
    go_wp2_with fail
    refine HP.out.mono ?_
    rintro e w3 ⟨rfl, h3, _⟩
    have hH := has_any (c := c) (HX.out.below h3.bel) (by omega) x
    have hLn := glen_any h3.gy
    rw [show (GY.pst U []).W = U by rw [GY.pst_nil]; rfl] at hLn
    have hA := lpaint_any h3 HXX.out (by have := GY.pst_num U []; simp at this; omega)
    rw [GY.pst_snoc, List.nil_append, decide_eq_true (show GY.col (GY.pst U []) x ≠ 2 from fun k => by have := (GY.d_col k).1; cases this)] at hA
    have HH := Lib.hid hH
    have HLn := Lib.hid hLn
    have HA := Lib.hid hA
    clear h3 HP hH hLn hA
    go_wp2_with fail
    refine HH.out.mono ?_
    rintro e w4 ⟨rfl, rfl⟩
    clear HH
    go_wp2_with fail
    refine HLn.out.mono ?_
    rintro e w4 ⟨rfl, rfl⟩
    clear HLn
    go_wp2_with fail
    refine HA.out.mono ?_
    rintro e w5 ⟨rfl, h5, _⟩
    clear HA
    have hcx : GY.col (GY.pst U [x]) x = 2 := GY.col_d h5.good (GM.mem_adds.2 (.inr (by simp)))
    have hC := gcolor_any h5.gy HXX.out
    rw [hcx] at hC
    have HC := Lib.hid hC
    have hWe : (GY.pst U [x]).W = GY.out U x := by
      show GM.out [x] U = _
      have := GY.out_out U [] x
      rw [List.nil_append] at this
      rw [this]
      congr 1
      exact List.filter_eq_self.2 fun z _ => by simp
    have hL2 := glen_any h5.gy
    have hlen : (x ∈ ls → (((GY.pst U [x]).W.length : Nat) : Int) = (U.length : Int) - 1) ∧ (x ∉ ls → (((GY.pst U [x]).W.length : Nat) : Int) = (U.length : Int)) := by
      rw [hWe]
      constructor
      · intro h
        have := GY.out_len HUN.out (HUM.out.2 h)
        omega
      · intro h
        rw [GY.out_no (fun k => h (HUM.out.1 k))]
    have hUlen : 0 ≤ (U.length : Int) ∧ (U.length : Int) ≤ 100 := ⟨by omega, by omega⟩
    have HL2 := Lib.hid hL2
    have G5 := Lib.hid h5
    obtain ⟨p, hp⟩ : ∃ p : Int, p = (((GY.pst U [x]).W.length : Nat) : Int) := ⟨_, rfl⟩
    obtain ⟨q, hq⟩ : ∃ q : Int, q = (U.length : Int) := ⟨_, rfl⟩
    have hpW : Hid (p = (((GY.pst U [x]).W.length : Nat) : Int)) := Lib.hid hp
    rw [← hp, ← hq] at hlen
    rw [← hp] at HL2
    rw [← hq] at hUlen ⊢
    obtain ⟨hq0, hq1⟩ := hUlen
    clear h5 hcx hC hL2 hWe hp hq hUl
    go_wp2_with fail
    refine HC.out.mono ?_
    rintro e w6 ⟨rfl, rfl⟩
    clear HC
    have hor : (decide (x ∈ ls) = true ∧ p = q - 1) ∨ (decide (x ∈ ls) = false ∧ p = q) := by
      by_cases hin : x ∈ ls
      · exact .inl ⟨decide_eq_true hin, hlen.1 hin⟩
      · exact .inr ⟨decide_eq_false hin, hlen.2 hin⟩
    clear hlen hpW
    rcases hor with ⟨hd, hpq⟩ | ⟨hd, hpq⟩
    all_goals
      rw [hd]
      subst hpq
      clear hd
      go_wp2_with fail
      refine HL2.out.mono ?_
      rintro e w6 ⟨rfl, rfl⟩
      clear HL2
      go_wp2_with fail
    all_goals clear hq0 hq1
    all_goals
      go_loopw [8, 69] (fun u i wr => ∃ j : Nat, j ≤ M ∧ i = .int .i64 j ∧ Hid (NewZ w.heap.size wr u (GM.out [x] (GM.adds [] (ls.take j)))) ∧ Hid (Gl w wr b (GY.pst U [x]))) (fun _ i _ => M - (intOf i).toNat)
      case atStart => exact ⟨0, Nat.zero_le _, rfl, Lib.hid (NewZ.nil _ _), G5⟩
      case round =>
        obtain ⟨i, hi, rfl, HU, HG⟩ := hrel
        by_cases hlt : i < M
        · obtain ⟨r, off, rfl, hb, c0⟩ := HX.out.at_ hlt
          have d0 := (HG.out.bel.cell (p := ⟨r, _, none⟩) hb).trans c0
          have hil : i < ls.length := by rw [HLL.out]; exact hlt
          have hst := GY.want_take (ls := ls) (ps := [x]) (i := i) (List.getElem?_eq_getElem hil)
          obtain ⟨y, hy⟩ : ∃ y, y = ls[i]'hil := ⟨_, rfl⟩
          rw [← hy] at d0 hst
          have hL : (GM.out [x] (GM.adds [] (ls.take i))).length ≤ 100 := by
            have h1 := GM.out_len [x] (GM.adds [] (ls.take i))
            have h2 := GM.adds_len [] (ls.take i)
            rw [List.length_take] at h2
            simp at h2
            omega
          obtain ⟨L, hLe⟩ : ∃ L, L = GM.out [x] (GM.adds [] (ls.take i)) := ⟨_, rfl⟩
          rw [← hLe] at hL hst HU
          have hsz := HG.out.bel.size
          have hZ1 := (HX.out.below HG.out.bel).take (Nat.le_of_lt hlt)
          have HH1 := Lib.hid (has_any (c := c) hZ1 (by omega) y)
          have hi3 : (i : Int) ≤ (c : Int) := by omega
          have hi4 : (0 : Int) ≤ (i : Int) := by omega
          clear c0 hy hLe hZ1
          by_cases hyx : y = x
          · rw [if_pos (.inr (by simp [hyx]))] at hst
            have HST := Lib.hid hst
            subst hyx
            clear hst HH1
            go_wp2
            go_roundw
            case rel => exact ⟨i + 1, by omega, by go_num, by rw [HST.out]; exact HU, HG⟩
            case measure => simp [intOf]; omega
          · by_cases hin : y ∈ ls.take i
            · rw [if_pos (.inl hin)] at hst
              rw [decide_eq_true hin] at HH1
              have HST := Lib.hid hst
              clear hst hin
              go_wp2_with fail
              refine HH1.out.mono ?_
              rintro e w7 ⟨rfl, rfl⟩
              clear HH1
              go_wp2
              go_roundw
              case rel => exact ⟨i + 1, by omega, by go_num, by rw [HST.out]; exact HU, HG⟩
              case measure => simp [intOf]; omega
            · rw [decide_eq_false hin] at HH1
              rw [if_neg (fun k => k.elim hin (fun k => hyx (List.mem_singleton.1 k)))] at hst
              have HST := Lib.hid hst
              clear hst hin
              go_wp2_with fail
              refine HH1.out.mono ?_
              rintro e w7 ⟨rfl, rfl⟩
              clear HH1
              go_wp2_with (first
                | (at_builtin; refine wpList_append_own _ rfl _ _ 33 rfl w.heap.size 3 i0 _ 1 8 Try.underlying33 hi0 hz0 hzz1 hz2 rfl (by decide) _ _ _ rfl (HU.out.own.alloc _) ⟨wr.heap.size, 0, none⟩ 1 1 [.int .i64 y] rfl rfl (cell_one_new _ _ _) (by simp [Value.oneCell']) (by unfold maxLen; omega) (by omega) (by simp; omega) ?_; intro v' w8 hown' hgrow _; have HO := Lib.hid hown'; have HG3 := Lib.hid hgrow; clear hown' hgrow))
              go_roundw
              case rel => exact ⟨i + 1, by omega, by go_num, by rw [HST.out]; exact Lib.hid (NewZ.snoc HO.out), Lib.hid ((HG.out.alloc (.cells #[.int .i64 y] 3)).grown (HU.out.alloc (.cells #[.int .i64 y] 3)) HG3.out)⟩
              case measure => simp [intOf]; omega
        · obtain rfl : M = i := by omega
          have hu := HU.out
          rw [List.take_of_length_le (by rw [HLL.out]; omega), ← HUE.out] at hu
          obtain ⟨W, hW⟩ : ∃ W, W = GM.out [x] U := ⟨_, rfl⟩
          have hpst : GY.pst U [x] = GY.told [x] W 0 := by rw [GY.told_0, hW]; rfl
          rw [← hW] at hu
          have hWl : W.length ≤ 100 := by
            have h1 := GM.out_len [x] U
            have h2 := GM.adds_len [] ls
            have h3 := HLL.out
            rw [← HUE.out] at h2
            simp at h2
            rw [hW]
            omega
          rw [hpst] at HG
          obtain ⟨A3, n3, c3, rfl, hn3, hz3⟩ := hu.op
          have HU5 := Lib.hid hu
          have HN3 := Lib.hid hn3
          have hn3b : n3 ≤ 100 := by omega
          clear hu hW hpst hz3 HU hn3
          go_wp2_with fail
          go_loopw [92] (fun iv wk => ∃ k : Nat, k ≤ n3 ∧ iv = .int .i64 k ∧ Hid (NewZ w.heap.size wk (.slice A3 n3 c3) W) ∧ Hid (Gl w wk b (GY.told [x] W k))) (fun iv _ => n3 - (intOf iv).toNat)
          case atStart => exact ⟨0, Nat.zero_le _, rfl, HU5, HG⟩
          case round =>
            obtain ⟨k, hk, rfl, HU, HG⟩ := hrel
            have hnum := GY.told_num [x] W k
            have hN := lnext_any HG.out (by simp at hnum; omega)
            clear hnum
            by_cases hlt : k < n3
            · have hkW : k < W.length := by rw [HN3.out]; exact hlt
              obtain ⟨y, hy⟩ : ∃ y, W[k]? = some y := ⟨_, List.getElem?_eq_getElem hkW⟩
              obtain ⟨t1, t2, t3⟩ := GY.told_next (D0 := [x]) hy
              rw [GY.hd_cons t1, t2, t1, decide_eq_true (show y :: W.drop (k + 1) ≠ [] by simp)] at hN
              have HN := Lib.hid hN
              obtain ⟨g, rfl, hgk, hgn, d0⟩ := HU.out.get' hy
              clear hgk hgn
              clear hN hy t1 t2 t3 hkW
              go_wp2_with fail
              refine HN.out.mono ?_
              rintro e w8 ⟨rfl, h8, g8⟩
              have H8 := Lib.hid h8
              have HU8 := Lib.hid (HU.out.gt g8)
              clear HN h8 g8 HU HG d0
              go_wp2
              go_roundw
              case rel => exact ⟨k + 1, by omega, by go_num, HU8, H8⟩
              case measure => simp [intOf]; omega
            · obtain rfl : n3 = k := by omega
              have hWk : W.length ≤ n3 := by rw [HN3.out]; omega
              rw [GY.told_end hWk, GY.hd_nil rfl, GY.next_nil rfl, decide_eq_false (show ¬ ((⟨[], [x] ++ W⟩ : GY.S).W ≠ []) by simp)] at hN
              have HN := Lib.hid hN
              clear hN HG hWk HU
              go_wp2_with fail
              refine HN.out.mono ?_
              rintro e w8 ⟨rfl, h8, g8⟩
              have hdn := gdone_any h8.gy (by simp [GY.num]; omega)
              have HB8 := Lib.hid h8.bel
              have HD := Lib.hid hdn
              clear HN h8 g8 hdn
              go_wp2_with fail
              refine HD.out.mono ?_
              rintro e w9 ⟨v1, rfl, hv1, hb9⟩
              have hmem : x ∈ BG.row ((⟨[], [x] ++ W⟩ : GY.S).D) := (BG.row_perm _).mem_iff.2 (by simp)
              have hl1 : (BG.row ((⟨[], [x] ++ W⟩ : GY.S).D)).length ≤ 101 := by rw [BG.row_len]; simp; omega
              obtain ⟨A1, n1, c1, rfl, hn1, hz1⟩ := hv1.op
              have hn1b : n1 ≤ 101 := hn1 ▸ hl1
              have hh := has_any (c := c1) hz1 (by omega) x
              rw [decide_eq_true hmem] at hh
              have HH := Lib.hid hh
              have HB9 := Lib.hid (HB8.out.trans (hb9.mono HB8.out.size))
              clear hh hmem hl1 hz1 hn1 hv1 hb9 HD HB8
              go_wp2_with fail
              refine HH.out.mono ?_
              rintro e w10 ⟨rfl, rfl⟩
              go_wp2
              go_ret
              exact ⟨rfl, HB9.out⟩
end Go.Proofs.Ytomjaieplpjcpaa
