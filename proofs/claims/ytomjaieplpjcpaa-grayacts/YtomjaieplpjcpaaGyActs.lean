/- The law GrayActs. -/
import Derived.Test.YtomjaieplpjcpaaGyBo
import Derived.Test.YtomjaieplpjcpaaGrSort
import Derived.Deep.DeepCutAuto
import Derived.Deep.RegionHeld3
import Derived.Deep.CutBlock
namespace Go.Proofs.Ytomjaieplpjcpaa
open Go.RowKit Go.Lib Go.Sort Go.Maps
set_option linter.unusedVariables false

set_option maxHeartbeats 16000000 in
set_option maxRecDepth 100000 in
theorem acts_walk (A : Option Addr) (n c : Nat) (ls : List Ac) (x : Int) (w : World) (hz : AS w A n ls) (hxi : I64 x) :
    Calls Try.prog 3 #[.slice A n c, .int .i64 x] w fun e w' => e = .returned (.bool true) ∧ Below w.heap.size w w' := by
  have HA := Lib.hid hz
  have HX := Lib.hid hxi
  have HL : Hid (ls.length = n) := Lib.hid hz.1
  have HLX : Hid (∀ a ∈ ls, I64 a.X ∧ ZI a.xs) := Lib.hid fun a ha => (hz.2.2 a ha).2
  clear hz hxi
  go_enter Try.func3, Try.ntmps3
  go_wp2_with fail
  refine (gnext_nil w).mono ?_
  rintro e w1 ⟨rfl, rfl⟩
  go_wp2_with fail
  refine (lnew_any (Below.refl _ w)).mono ?_
  rintro e w1 ⟨b, rfl, h1, _⟩
  have G1 := Lib.hid h1
  clear h1
  go_wp2_with fail
  refine (galive_any _).mono ?_
  rintro e w2 ⟨rfl, hb2⟩
  have G2 := Lib.hid (G1.out.below hb2)
  clear G1 hb2
  go_wp2_with fail
  refine (gput_nil _ _).mono ?_
  rintro e w3 ⟨rfl, rfl⟩
  go_wp2_with fail
  refine (gagain_nil _ _).mono ?_
  rintro e w3 ⟨rfl, rfl⟩
  go_wp2_with fail
  refine (gcolor_nil _ _).mono ?_
  rintro e w3 ⟨rfl, rfl⟩
  go_wp2_with fail
  refine (glen_nil _).mono ?_
  rintro e w3 ⟨rfl, rfl⟩
  go_wp2_with fail
  refine (gdone_nil _).mono ?_
  rintro e w3 ⟨rfl, rfl⟩
  go_wp2_with fail
  refine (gpaint_nil _ _).mono ?_
  rintro e w3 ⟨rfl, rfl⟩
  have G2' := Lib.hid (G2.out.alloc (.cells #[.int .i64 1] 3))
  have HGR := Lib.hid (agreat_any (c := c) (HA.out.below G2'.out.bel))
  go_wp2_with fail
  refine HGR.out.mono ?_
  rintro e w3 ⟨gr, rfl, hgr, hb3⟩
  have G3 := Lib.hid (G2'.out.below hb3)
  clear G2 G2' HGR hb3
  cases gr with
  | true =>
    have B3 := Lib.hid G3.out.bel
    clear hgr
    go_wp2
    go_ret
    exact ⟨rfl, B3.out⟩
  | false =>
    obtain ⟨hn, hall⟩ := hgr rfl
    have HALL := Lib.hid hall
    have hnum : ∀ i, GY.num (GY.acts GY.S.nil (ls.take i)) ≤ 3280 := fun i => GY.acts_num ls i hall (by rw [HL.out]; exact hn)
    have HNUM := Lib.hid hnum
    have hask : ∀ i, (ask x (ls.take i)).length ≤ 3281 := fun i => by
      have h1 := ask_len x (ls.take i) fun a ha => hall a (List.mem_of_mem_take ha)
      rw [List.length_take, HL.out] at h1
      omega
    have HASK := Lib.hid hask
    clear hgr hall hnum hask
    go_upto_region 10 with (fail)
    have hM := bo_made G3.out x
    obtain ⟨wl, hwl⟩ : ∃ wl, wl = ((w3.alloc (.cells #[.slice none 0 0, .slice none 0 0] 38)).alloc (.cells #[.int .i64 x] 3)) := ⟨_, rfl⟩
    obtain ⟨r, hr⟩ : ∃ r, r = w3.heap.size := ⟨_, rfl⟩
    rw [← hwl, ← hr] at hM ⊢
    have HM := Lib.hid hM
    clear hM hwl hr G3
    go_wp2_with fail
    go_loopw [10, 75] (fun u i wr => ∃ k : Nat, k ≤ n ∧ i = .int .i64 k ∧ Hid (Bo w wr b r u (ask x (ls.take k)) (GY.acts GY.S.nil (ls.take k)) (GY.acts GY.S.nil (ls.take k)))) (fun _ i _ => n - (intOf i).toNat)
    case atStart => exact ⟨0, Nat.zero_le _, rfl, HM⟩
    case round =>
      obtain ⟨k, hk, rfl, HG⟩ := hrel
      obtain ⟨u, hu⟩ : ∃ u, u = u10 := ⟨_, rfl⟩
      rw [← hu] at HG ⊢
      clear hu
      have hsm := HNUM.out k
      have hLm := HASK.out k
      by_cases hlt : k < n
      · obtain ⟨p, off, hkl, rfl, hb, c0, c1, c2, hz, hxi, hzi⟩ := HA.out.at_ hlt
        have d0 := (HG.out.g.bel.cell (p := ⟨p, _, none⟩) hb).trans c0
        have d1 := (HG.out.g.bel.cell (p := ⟨p, _, none⟩) hb).trans c1
        have d2 := (HG.out.g.bel.cell (p := ⟨p, _, none⟩) hb).trans c2
        have hst := GY.acts_take (s := GY.S.nil) hkl
        have hak := ask_take x hkl
        have hl40 := HALL.out _ (List.getElem_mem hkl)
        obtain ⟨y, hy⟩ : ∃ y, y = ls[k]'hkl := ⟨_, rfl⟩
        rw [← hy] at d0 d1 d2 hz hxi hzi hst hl40 hak
        obtain ⟨s, hs⟩ : ∃ s, s = GY.acts GY.S.nil (ls.take k) := ⟨_, rfl⟩
        obtain ⟨L, hLe⟩ : ∃ L, L = ask x (ls.take k) := ⟨_, rfl⟩
        rw [← hs] at HG hst hsm
        rw [← hLe] at HG hak hLm
        clear c0 c1 c2 hy hs hLe
        obtain ⟨K, X, A', n', c', xs⟩ := y
        have hl40 : xs.length ≤ 40 := hl40
        have d0 : wr.cell? ⟨p, off + k * 3, none⟩ = some (.int .i64 K) := d0
        have d1 : wr.cell? ⟨p, off + k * 3 + 1, none⟩ = some (.int .i64 X) := d1
        have d2 : wr.cell? ⟨p, off + k * 3 + 2, none⟩ = some (.slice A' n' c') := d2
        have hz : ZS w A' n' xs := hz
        have hzi : ZI xs := hzi
        have hxi : I64 X := hxi
        have hak : ask x (ls.take (k + 1)) = L ++ [X] ++ xs := hak
        have hlen := hz.len
        have hn40 : n' ≤ 40 := by omega
        obtain ⟨t, ht⟩ : ∃ t, t = GY.act s ⟨K, X, A', n', c', xs⟩ := ⟨_, rfl⟩
        rw [← ht] at hst
        have HT := Lib.hid ht
        have HZ := Lib.hid hz
        have HZI := Lib.hid hzi
        have HXI := Lib.hid hxi
        have HST := Lib.hid hst
        have HAK := Lib.hid hak
        have HLEN := Lib.hid hlen
        have hxb := Whole.fresh wr 40 #[.int .i64 K, .int .i64 X, .slice A' n' c']
        obtain ⟨wx, hwx⟩ : ∃ wx, wx = wr.alloc (.cells #[.int .i64 K, .int .i64 X, .slice A' n' c'] 40) := ⟨_, rfl⟩
        obtain ⟨bx, hbx⟩ : ∃ bx, bx = wr.heap.size := ⟨_, rfl⟩
        have hBa : Ba w wx b r u L s s bx #[.int .i64 K, .int .i64 X, .slice A' n' c'] := ⟨by rw [hwx]; exact HG.out.alloc _, by rw [hwx, hbx]; exact hxb⟩
        have y0 := hBa.c0
        have y2 := hBa.c2
        have HB := Lib.hid hBa
        have HWX := Lib.hid hwx
        have HBX := Lib.hid hbx
        clear ht hz hzi hxi hst hak hlen hxb hwx hbx hBa HG hl40
        go_upto_region 13 with (fail)
        rw [← HWX.out, ← HBX.out]
        clear HWX HBX d0 d1 d2
        go_upto_block 2 with (fail)
        go_cut [13, 15, 16, 17, 18, 19] from 81 to 143 (fun _ _ _ _ _ _ wc => Hid (Ba w wc b r u L t t bx #[.int .i64 K, .int .i64 X, .slice A' n' c']))
        case first =>
          clear HST HAK
          by_cases h0 : K = 0
          · subst h0
            have htt := HT.out
            rw [GY.act_0 rfl] at htt
            have HT := Lib.hid htt
            clear htt
            go_wp2_with fail
            go_loopw [13, 86] (fun nn iv wj => ∃ j : Nat, j ≤ n' ∧ iv = .int .i64 j ∧ nn = .int .i64 ((GY.cnt s (xs.take j) : Nat) : Int) ∧ Hid (Ba w wj b r u L s (GY.puts s (xs.take j)) bx #[.int .i64 0, .int .i64 X, .slice A' n' c'])) (fun _ iv _ => n' - (intOf iv).toNat)
            case atStart => exact ⟨0, Nat.zero_le _, rfl, rfl, HB⟩
            case round =>
              obtain ⟨j, hj, rfl, rfl, HJ⟩ := hrel
              have hnp := GY.num_puts s (xs.take j)
              have hcl := GY.cnt_le s (xs.take j)
              rw [List.length_take] at hnp hcl
              by_cases hjl : j < n'
              · have hjx : j < xs.length := by rw [HLEN.out]; exact hjl
                obtain ⟨g, of2, rfl, hg, e0⟩ := HZ.out.at_ hjl
                have f0 := (HJ.out.o.g.bel.cell (p := ⟨g, _, none⟩) hg).trans e0
                have hct := GY.cnt_take (s := s) hjx
                have hpt := GY.puts_take (s := s) hjx
                obtain ⟨y, hy⟩ : ∃ y, y = xs[j]'hjx := ⟨_, rfl⟩
                rw [← hy] at f0 hct hpt
                have hP := ba_dput HJ.out (by omega) y
                obtain ⟨q, hq⟩ : ∃ q, q = GY.cnt s (xs.take j) := ⟨_, rfl⟩
                rw [← hq] at hct hcl ⊢
                obtain ⟨z, hzz⟩ : ∃ z, z = GY.puts s (xs.take j) := ⟨_, rfl⟩
                rw [← hzz] at hct hpt hP
                have HPT := Lib.hid hpt
                clear e0 hy hq hzz hpt hnp HJ
                by_cases hc : GY.col z y = 0
                · rw [if_pos hc] at hct
                  rw [decide_eq_true hc] at hP
                  have HP := Lib.hid hP
                  have HCT := Lib.hid hct
                  clear hP hct hc
                  go_wp2_with fail
                  refine HP.out.mono ?_
                  rintro e w4 ⟨rfl, h4⟩
                  have H4 := Lib.hid h4
                  clear h4 HP
                  go_wp2
                  go_roundw
                  case rel => exact ⟨j + 1, by omega, by go_num, by rw [HCT.out]; go_num, by rw [HPT.out]; exact H4⟩
                  case measure => simp [intOf]; omega
                · rw [if_neg hc] at hct
                  rw [decide_eq_false hc] at hP
                  have HP := Lib.hid hP
                  have HCT := Lib.hid hct
                  clear hP hct hc
                  go_wp2_with fail
                  refine HP.out.mono ?_
                  rintro e w4 ⟨rfl, h4⟩
                  have H4 := Lib.hid h4
                  clear h4 HP
                  go_wp2
                  go_roundw
                  case rel => exact ⟨j + 1, by omega, by go_num, by rw [HCT.out]; go_num, by rw [HPT.out]; exact H4⟩
                  case measure => simp [intOf]; omega
              · obtain rfl : n' = j := by omega
                have hj2 := HJ.out
                rw [List.take_of_length_le (by rw [HLEN.out]; omega)] at hj2 hcl ⊢
                have y2 := hj2.c2
                have hP := ba_put (c := c') hj2 HZ.out HZI.out (by omega)
                rw [← HT.out] at hP hj2
                obtain ⟨q, hq⟩ : ∃ q, q = GY.cnt s xs := ⟨_, rfl⟩
                rw [← hq] at hP ⊢
                have HP := Lib.hid hP
                clear hP hj2 hq hnp HJ hcl
                go_wp2_with fail
                refine HP.out.mono ?_
                rintro e w4 ⟨rfl, h4⟩
                have H4 := Lib.hid h4
                clear h4 HP
                go_wp2
                go_meet
                exact H4
          · by_cases h1 : K = 1
            · subst h1
              have htt := HT.out
              rw [GY.act_1 rfl] at htt
              have P1 : Hid (∀ W : World, W.heap = wx.heap → W.os = wx.os → W.tape = wx.tape → W.output = wx.output → Calls Try.prog 12 #[pv b, .int .i64 X] W fun e w7 => e = .returned (.bool (decide (GY.col s X = 2))) ∧ w7.cell? ⟨bx, 1, none⟩ = some (.int .i64 X) ∧ Hid (Ba w w7 b r u L t s bx #[.int .i64 1, .int .i64 X, .slice A' n' c'])) := Lib.hid (fun W g1 g2 g3 g4 => by
                refine (ba_again (HB.out.still g1 g2 g3 g4) HXI.out (by omega)).mono ?_
                rintro e w7 ⟨rfl, h7⟩
                rw [← htt] at h7
                exact ⟨rfl, h7.c1, Lib.hid h7⟩)
              have P2 : Hid (∀ W3 W : World, Hid (Ba w W3 b r u L t s bx #[.int .i64 1, .int .i64 X, .slice A' n' c']) → W.heap = W3.heap → W.os = W3.os → W.tape = W3.tape → W.output = W3.output → Calls Try.prog 19 #[pv r, .int .i64 X] W fun e w7 => e = .returned (.bool (decide (GY.col s X = 2))) ∧ w7.cell? ⟨bx, 1, none⟩ = some (.int .i64 X) ∧ Hid (Ba w w7 b r u L t t bx #[.int .i64 1, .int .i64 X, .slice A' n' c'])) := Lib.hid (fun W3 W h3 g1 g2 g3 g4 => by
                refine (ba_dagain (h3.out.still g1 g2 g3 g4) (by omega) X).mono ?_
                rintro e w7 ⟨rfl, h7⟩
                rw [← htt] at h7
                exact ⟨rfl, h7.c1, Lib.hid h7⟩)
              have s1 := HB.out.c1
              generalize decide (GY.col s X = 2) = dd at P1 P2
              clear htt HT
              go_wp2_with fail
              go_region_held3 (fun w' => w'.cell? ⟨bx, 1, none⟩ = some (.int .i64 X)) (first | exact s1 | exact k2 | exact k3 | (simp [go_sem, *]))
                (first
                  | (go_at_call 12; refine (P1.out _ (by exact rfl) (by exact rfl) (by exact rfl) (by exact rfl)).mono ?_; rintro e w7 ⟨rfl, k2, S7⟩)
                  | (go_at_call 19; refine (P2.out w7 _ S7 (by exact rfl) (by exact rfl) (by exact rfl) (by exact rfl)).mono ?_; rintro e w8 ⟨rfl, k3, S8⟩)
                  | fail)
              all_goals
                cases dd
                · go_wp2
                  go_meet
                  exact S8
                · go_wp2
                  go_meet
                  exact S8
            · by_cases h2 : K = 2
              · subst h2
                have htt := HT.out
                rw [GY.act_2 rfl] at htt
                have hgood := HB.out.o.g.good
                have P1 := ba_next HB.out (by omega)
                rw [← htt] at P1
                have P2 : Hid (∀ W : World, Ba w W b r u L t s bx #[.int .i64 2, .int .i64 X, .slice A' n' c'] → Calls Try.prog 20 #[pv r] W fun e w7 => e = .returned (.tuple #[.int .i64 (GY.hd s), .bool (decide (s.W ≠ []))]) ∧ Ba w w7 b r u L t t bx #[.int .i64 2, .int .i64 X, .slice A' n' c']) := Lib.hid (fun W h3 => by
                  have hN := ba_dnext h3 hgood (by omega)
                  rw [← htt] at hN
                  exact hN)
                generalize decide (s.W ≠ []) = dd at P1 P2
                generalize GY.hd s = hh at P1 P2
                have P1 := Lib.hid P1
                clear htt HT hgood
                go_wp2_with fail
                refine P1.out.mono ?_
                rintro e w7 ⟨rfl, h7⟩
                have P3 := Lib.hid (P2.out _ h7)
                clear h7 P1 P2
                go_wp2_with fail
                refine P3.out.mono ?_
                rintro e w8 ⟨rfl, h8⟩
                have S8 := Lib.hid h8
                clear h8 P3
                cases dd
                · go_wp2
                  go_meet
                  exact S8
                · go_wp2
                  go_meet
                  exact S8
              · by_cases h3 : K = 3
                · subst h3
                  have htt := HT.out
                  rw [GY.act_3 rfl] at htt
                  have P1 : Hid (∀ W : World, W.heap = wx.heap → W.os = wx.os → W.tape = wx.tape → W.output = wx.output → Calls Try.prog 16 #[pv b, .int .i64 X] W fun e w7 => e = .returned (.bool (decide (GY.col s X ≠ 2))) ∧ w7.cell? ⟨bx, 1, none⟩ = some (.int .i64 X) ∧ Hid (Ba w w7 b r u L t s bx #[.int .i64 3, .int .i64 X, .slice A' n' c'])) := Lib.hid (fun W g1 g2 g3 g4 => by
                    refine (ba_paint (HB.out.still g1 g2 g3 g4) HXI.out (by omega)).mono ?_
                    rintro e w7 ⟨rfl, h7⟩
                    rw [← htt] at h7
                    exact ⟨rfl, h7.c1, Lib.hid h7⟩)
                  have P2 : Hid (∀ W3 W : World, Hid (Ba w W3 b r u L t s bx #[.int .i64 3, .int .i64 X, .slice A' n' c']) → W.heap = W3.heap → W.os = W3.os → W.tape = W3.tape → W.output = W3.output → Calls Try.prog 21 #[pv r, .int .i64 X] W fun e w7 => e = .returned (.bool (decide (GY.col s X ≠ 2))) ∧ w7.cell? ⟨bx, 1, none⟩ = some (.int .i64 X) ∧ Hid (Ba w w7 b r u L t t bx #[.int .i64 3, .int .i64 X, .slice A' n' c'])) := Lib.hid (fun W3 W h3 g1 g2 g3 g4 => by
                    refine (ba_dpaint (h3.out.still g1 g2 g3 g4) (by omega) X).mono ?_
                    rintro e w7 ⟨rfl, h7⟩
                    rw [← htt] at h7
                    exact ⟨rfl, h7.c1, Lib.hid h7⟩)
                  have s1 := HB.out.c1
                  generalize decide (GY.col s X ≠ 2) = dd at P1 P2
                  clear htt HT
                  go_wp2_with fail
                  go_region_held3 (fun w' => w'.cell? ⟨bx, 1, none⟩ = some (.int .i64 X)) (first | exact s1 | exact k2 | exact k3 | (simp [go_sem, *]))
                    (first
                      | (go_at_call 16; refine (P1.out _ (by exact rfl) (by exact rfl) (by exact rfl) (by exact rfl)).mono ?_; rintro e w7 ⟨rfl, k2, S7⟩)
                      | (go_at_call 21; refine (P2.out w7 _ S7 (by exact rfl) (by exact rfl) (by exact rfl) (by exact rfl)).mono ?_; rintro e w8 ⟨rfl, k3, S8⟩)
                      | fail)
                  all_goals
                    cases dd
                    · go_wp2
                      go_meet
                      exact S8
                    · go_wp2
                      go_meet
                      exact S8
                · have htt := HT.out
                  rw [GY.act_no h0 h1 h2 h3] at htt
                  subst htt
                  clear HT
                  go_wp2
                  go_meet
                  exact HB
        case rest =>
          have HC := hcut
          clear hcut HB y0 y2
          have s1 := HC.out.c1
          have s2 := HC.out.c2
          have HF : Hid (∀ W : World, W.heap = (wc.alloc (.cells #[.int .i64 X] 3)).heap → W.os = wc.os → W.tape = wc.tape → W.output = wc.output → Ba w W b r u L t t bx #[.int .i64 K, .int .i64 X, .slice A' n' c'] ∧ ZS W (some ⟨wc.heap.size, 0, none⟩) 1 [X] ∧ w.heap.size ≤ W.heap.size) := Lib.hid (fun W g1 g2 g3 g4 => by
            have hb := HC.out.below ((Below.refl _ wc).alloc (Nat.le_refl _) (.cells #[.int .i64 X] 3))
            have hx : Whole (wc.alloc (.cells #[.int .i64 X] 3)) wc.heap.size 3 #[.int .i64 X] := Whole.fresh wc _ _
            have hs := hb.still (W := W) g1 g2 g3 g4
            refine ⟨hs, zs_block (cs := #[.int .i64 X]) (t := 3) ?_ rfl rfl, hs.o.g.bel.size⟩
            unfold Whole at hx ⊢
            rw [g1]
            exact hx)
          have s3 := (HF.out (wc.alloc (.cells #[.int .i64 X] 3)).drew rfl rfl rfl rfl).1.c1
          have s4 := (HF.out (wc.alloc (.cells #[.int .i64 X] 3)).drew rfl rfl rfl rfl).1.c2
          go_upto_region 35 with (fail)
          go_region_held3 (fun w' => w'.cell? ⟨bx, 1, none⟩ = some (.int .i64 X) ∧ w'.cell? ⟨bx, 2, none⟩ = some (.slice A' n' c')) (first | exact ⟨s1, s2⟩ | exact ⟨s3, s4⟩ | exact ⟨k1, k2⟩ | exact ⟨k3, k4⟩ | (simp [go_sem, *]))
            (first
              | (refine step_append_zs rfl (.tmp 148) (.tmp 150) rfl w.heap.size (L ++ [X]) xs v1 A' n' c' (by simp [Act.eval]) (by simp [Act.eval]) (J1.out.still (by exact rfl) (by exact rfl) (by exact rfl) (by exact rfl)).o.a (HZ.out.below (J1.out.still (by exact rfl) (by exact rfl) (by exact rfl) (by exact rfl)).o.g.bel) (by have := HLEN.out; simp; omega) (J1.out.still (by exact rfl) (by exact rfl) (by exact rfl) (by exact rfl)).o.g.bel.size ?_
                 intro v2 w7 h2 hg2 hat2
                 have J2 := Lib.hid ((J1.out.still (by exact rfl) (by exact rfl) (by exact rfl) (by exact rfl)).grown h2 hg2 hat2)
                 have k3 := J2.out.c1
                 have k4 := J2.out.c2
                 clear h2 hg2 hat2)
              | (refine step_append_zs rfl (.tmp 144) (.tmp 147) rfl w.heap.size L [X] u (some ⟨wc.heap.size, 0, none⟩) 1 1 (by simp [Act.eval]) (by simp [Act.eval]) (HF.out _ (by exact rfl) (by exact rfl) (by exact rfl) (by exact rfl)).1.o.a (HF.out _ (by exact rfl) (by exact rfl) (by exact rfl) (by exact rfl)).2.1 (by simp; omega) (HF.out _ (by exact rfl) (by exact rfl) (by exact rfl) (by exact rfl)).2.2 ?_
                 intro v1 w6 h1 hg1 hat1
                 have J1 := Lib.hid ((HF.out _ (by exact rfl) (by exact rfl) (by exact rfl) (by exact rfl)).1.grown h1 hg1 hat1)
                 have k1 := J1.out.c1
                 have k2 := J1.out.c2
                 clear h1 hg1 hat1)
              | fail)
          all_goals
            go_wp2
            go_roundw
            case rel => exact ⟨k + 1, by omega, by go_num, by rw [HAK.out, HST.out]; exact Lib.hid J2.out.o⟩
            case measure => simp [intOf]; omega
      · obtain rfl : n = k := by omega
        obtain ⟨A5, n5, c5, rfl, hn5, hz5⟩ := HG.out.a.op
        have hok := ask_ok x (ls.take n) HX.out fun a ha => HLX.out a (List.mem_of_mem_take ha)
        obtain ⟨s, hs⟩ : ∃ s, s = GY.acts GY.S.nil (ls.take n) := ⟨_, rfl⟩
        obtain ⟨L, hLe⟩ : ∃ L, L = ask x (ls.take n) := ⟨_, rfl⟩
        rw [← hs] at HG hsm
        rw [← hLe] at HG hLm hok hn5 hz5
        have hn5b : n5 ≤ 3281 := by omega
        have HOK := Lib.hid hok
        have HZ5 := Lib.hid hz5
        have HN5 := Lib.hid hn5
        have HCOL : Hid (∀ y, I64 y → Calls Try.prog 13 #[pv b, .int .i64 y] wr fun e w' => e = .returned (.int .i64 ((GY.col s y : Nat) : Int)) ∧ wr = w') := Lib.hid fun y hy => gcolor_any HG.out.g.gy hy
        have HDCO : Hid (∀ y, Calls Try.prog 22 #[pv r, .int .i64 y] wr fun e w' => e = .returned (.int .i64 ((GY.col s y : Nat) : Int)) ∧ wr = w') := Lib.hid fun y => dcolor_any HG.out.m (by omega) y
        clear hs hLe hLm hok hz5 hn5 HLX HALL HNUM HASK HA HX HL
        go_wp2_with fail
        go_loopw [155] (fun iv wk => ∃ j : Nat, j ≤ n5 ∧ iv = .int .i64 j ∧ wr = wk) (fun iv _ => n5 - (intOf iv).toNat)
        case atStart => exact ⟨0, Nat.zero_le _, rfl, rfl⟩
        case round =>
          obtain ⟨j, hj, rfl, rfl⟩ := hrel
          by_cases hjl : j < n5
          · have hjL : j < L.length := by rw [HN5.out]; exact hjl
            obtain ⟨g, of2, rfl, hg, e0⟩ := HZ5.out.at_ hjl
            have hyi := HOK.out _ (List.getElem_mem hjL)
            obtain ⟨y, hy⟩ : ∃ y, y = L[j]'hjL := ⟨_, rfl⟩
            rw [← hy] at e0 hyi
            have P1 := HCOL.out y hyi
            have P2 := HDCO.out y
            generalize ((GY.col s y : Nat) : Int) = z at P1 P2
            have P1 := Lib.hid P1
            have P2 := Lib.hid P2
            clear hy hyi hjL
            go_wp2_with fail
            refine P1.out.mono ?_
            rintro e w4 ⟨rfl, rfl⟩
            go_wp2_with fail
            refine P2.out.mono ?_
            rintro e w4 ⟨rfl, rfl⟩
            go_wp2
            go_roundw
            case rel => exact ⟨j + 1, by omega, by go_num, trivial⟩
            case measure => simp [intOf]; omega
          · obtain rfl : n5 = j := by omega
            clear HCOL HDCO HOK HZ5 HN5
            have HB0 := Lib.hid HG.out.g.bel
            have hgood := HG.out.g.good
            have hgy := HG.out.g.gy
            obtain ⟨uu, vv, hm⟩ := HG.out.m
            obtain ⟨A1, n1, c1, rfl, hn1, _⟩ := hm.wt.op
            obtain ⟨A2, n2, c2, rfl, hn2, hz2⟩ := hm.dn.op
            have hrow := GM.row_norm hgood.d
            have hsz : s.D.length ≤ 3280 := by unfold GY.num at hsm; omega
            obtain ⟨D, hD⟩ : ∃ D, D = BG.norm s.D := ⟨_, rfl⟩
            have hDl : D.length ≤ 3280 := by rw [hD]; have := BG.norm_len s.D; omega
            have HDL := Lib.hid hDl
            have HZ : Hid (∀ W : World, Below wr.heap.size wr W → W.cell? ⟨r, 0, none⟩ = some (.slice A1 n1 c1) ∧ W.cell? ⟨r, 1, none⟩ = some (.slice A2 n2 c2)) := Lib.hid fun W hW => ⟨(hm.below hW).c0, (hm.below hW).c1⟩
            have Q1 : Hid (∀ W : World, W.heap = wr.heap → W.os = wr.os → W.tape = wr.tape → W.output = wr.output → Calls Try.prog 14 #[pv b] W fun e w1 => e = .returned (.int .i64 (n1 : Nat)) ∧ (w1.cell? ⟨r, 0, none⟩ = some (.slice A1 n1 c1) ∧ w1.cell? ⟨r, 1, none⟩ = some (.slice A2 n2 c2)) ∧ Hid (Below wr.heap.size wr w1)) := Lib.hid (fun W g1 g2 g3 g4 => by
              have hW := below_eq g1 g2 g3 g4
              refine (glen_any (hgy.below hW)).mono ?_
              rintro e w1 ⟨rfl, rfl⟩
              exact ⟨by rw [hn1], HZ.out _ hW, Lib.hid hW⟩)
            have Q2 : Hid (∀ W3 W : World, Hid (Below wr.heap.size wr W3) → W.heap = W3.heap → W.os = W3.os → W.tape = W3.tape → W.output = W3.output → Calls Try.prog 15 #[pv b] W fun e w1 => ∃ A6 n6 c6, e = .returned (.slice A6 n6 c6) ∧ (w1.cell? ⟨r, 0, none⟩ = some (.slice A1 n1 c1) ∧ w1.cell? ⟨r, 1, none⟩ = some (.slice A2 n2 c2)) ∧ Hid (Below wr.heap.size wr w1 ∧ NewZ wr.heap.size w1 (.slice A6 n6 c6) D)) := Lib.hid (fun W3 W h3 g1 g2 g3 g4 => by
              have hW := h3.out.trans ((below_eq g1 g2 g3 g4).mono h3.out.size)
              refine (gdone_any (hgy.below hW) (by omega)).mono ?_
              rintro e w1 ⟨v, rfl, hv, hb⟩
              have hW1 := hW.trans (hb.mono hW.size)
              rw [hrow, ← hD] at hv
              obtain ⟨A6, n6, c6, rfl, _, _⟩ := hv.op
              exact ⟨A6, n6, c6, rfl, HZ.out _ hW1, Lib.hid ⟨hW1, hv.less hW.size⟩⟩)
            have Q3 : Hid (∀ (W3 W : World) (A6 : Option Addr) (n6 c6 : Nat), Hid (Below wr.heap.size wr W3 ∧ NewZ wr.heap.size W3 (.slice A6 n6 c6) D) → W.heap = W3.heap → W.os = W3.os → W.tape = W3.tape → W.output = W3.output → Calls Try.prog 24 #[.slice A2 n2 c2] W fun e w1 => ∃ A7 n7 c7, e = .returned (.slice A7 n7 c7) ∧ (w1.cell? ⟨r, 0, none⟩ = some (.slice A1 n1 c1) ∧ w1.cell? ⟨r, 1, none⟩ = some (.slice A2 n2 c2)) ∧ Hid (Below wr.heap.size wr w1 ∧ NewZ wr.heap.size w1 (.slice A6 n6 c6) D ∧ NewZ wr.heap.size w1 (.slice A7 n7 c7) D)) := Lib.hid (fun W3 W A6 n6 c6 h3 g1 g2 g3 g4 => by
              have hE := below_eq g1 g2 g3 g4
              have hW := h3.out.1.trans (hE.mono h3.out.1.size)
              refine (sorted_any (c := c2) (hz2.below hW) (by omega)).mono ?_
              rintro e w1 ⟨v, rfl, hv, hb⟩
              have hW1 := hW.trans (hb.mono hW.size)
              rw [← hD] at hv
              obtain ⟨A7, n7, c7, rfl, _, _⟩ := hv.op
              exact ⟨A7, n7, c7, rfl, HZ.out _ hW1, Lib.hid ⟨hW1, (h3.out.2.below hE).below hb, hv.less hW.size⟩⟩)
            have Q4 : Hid (∀ (W3 W : World) (A6 A7 : Option Addr) (n6 c6 n7 c7 : Nat), Hid (Below wr.heap.size wr W3 ∧ NewZ wr.heap.size W3 (.slice A6 n6 c6) D ∧ NewZ wr.heap.size W3 (.slice A7 n7 c7) D) → W.heap = W3.heap → W.os = W3.os → W.tape = W3.tape → W.output = W3.output → Calls Try.prog 23 #[.slice A6 n6 c6, .slice A7 n7 c7] W fun e w1 => e = .returned (.bool true) ∧ (w1.cell? ⟨r, 0, none⟩ = some (.slice A1 n1 c1) ∧ w1.cell? ⟨r, 1, none⟩ = some (.slice A2 n2 c2)) ∧ Hid (Below wr.heap.size wr w1)) := Lib.hid (fun W3 W A6 A7 n6 c6 n7 c7 h3 g1 g2 g3 g4 => by
              have hE := below_eq g1 g2 g3 g4
              have hW := h3.out.1.trans (hE.mono h3.out.1.size)
              have z6 := (h3.out.2.1.below hE).zs
              refine (same_any (c := c6) (d := c7) z6 (h3.out.2.2.below hE).zs (by have := z6.len; omega)).mono ?_
              rintro e w1 ⟨rfl, q, rfl⟩
              exact ⟨rfl, HZ.out _ (bdrewN hW q), Lib.hid (bdrewN hW q)⟩)
            have k0 := HZ.out wr (Below.refl _ _)
            clear hgood hgy hm hn1 hn2 hz2 hrow hsz hD hDl HDL HZ HG hsm
            go_wp2_with fail
            go_region_held3 (fun w' => w'.cell? ⟨r, 0, none⟩ = some (.slice A1 n1 c1) ∧ w'.cell? ⟨r, 1, none⟩ = some (.slice A2 n2 c2)) (first | exact k0 | exact k1 | exact k2 | exact k3 | exact k4 | (simp [go_sem, *]))
              (first
                | (go_at_call 14; refine (Q1.out _ (by exact rfl) (by exact rfl) (by exact rfl) (by exact rfl)).mono ?_; rintro e u1 ⟨rfl, k1, J1⟩)
                | (go_at_call 15; refine (Q2.out u1 _ J1 (by exact rfl) (by exact rfl) (by exact rfl) (by exact rfl)).mono ?_; rintro e u2 ⟨A6, n6, c6, rfl, k2, J2⟩)
                | (go_at_call 24; refine (Q3.out u2 _ A6 n6 c6 J2 (by exact rfl) (by exact rfl) (by exact rfl) (by exact rfl)).mono ?_; rintro e u3 ⟨A7, n7, c7, rfl, k3, J3⟩)
                | (go_at_call 23; refine (Q4.out u3 _ A6 A7 n6 c6 n7 c7 J3 (by exact rfl) (by exact rfl) (by exact rfl) (by exact rfl)).mono ?_; rintro e u4 ⟨rfl, k4, J4⟩)
                | fail)
            all_goals
              go_wp2
              go_ret
              exact ⟨rfl, HB0.out.trans (J4.out.mono HB0.out.size)⟩
end Go.Proofs.Ytomjaieplpjcpaa
