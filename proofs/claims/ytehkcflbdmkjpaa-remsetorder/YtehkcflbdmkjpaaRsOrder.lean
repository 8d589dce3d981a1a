/- RemsetOrder, walked. -/
import Derived.Test.YtehkcflbdmkjpaaRsOrderM
namespace Go.Proofs.Ytehkcflbdmkjpaa
open Go.RowKit Go.Maps Go.Sort

set_option maxHeartbeats 4000000 in
set_option maxRecDepth 100000 in
theorem order_big (A : Option Addr) (n c : Nat) (w : World) (hn : 100 < n) :
    Calls Try.prog 6 #[.slice A n c] w fun e w' => e = .returned (.bool true) ∧ Below w.heap.size w w' := by
  go_enter Try.func6, Try.ntmps6
  go_wp2_with fail
  refine (grown_big A n c w hn).mono ?_
  rintro e w1 ⟨rfl, hb1⟩
  have HB1 := Lib.hid hb1
  clear hb1
  go_wp2_with fail
  refine (alive_any w1).mono ?_
  rintro e w2 ⟨rfl, hb2⟩
  have HB2 := Lib.hid (HB1.out.trans (hb2.mono HB1.out.size))
  clear hb2
  go_wp2_with fail
  refine (alive_any w2).mono ?_
  rintro e w3 ⟨rfl, hb3⟩
  have HB3 := Lib.hid (HB2.out.trans (hb3.mono HB2.out.size))
  clear hb3
  go_wp2
  go_ret
  exact ⟨ret_bool (by simp; omega), HB3.out⟩
set_option maxHeartbeats 16000000 in
set_option maxRecDepth 100000 in
theorem order_few (A : Option Addr) (n c : Nat) (ls : List RM.Act) (w : World) (h : ActS w w.heap.size A n ls) (hn : n ≤ 100) (hnc : n ≤ c) :
    Calls Try.prog 6 #[.slice A n c] w fun e w' => e = .returned (.bool true) ∧ Below w.heap.size w w' := by
  have HG := Lib.hid (grown_any A n c ls w h hn)
  have HS := Lib.hid h
  have HLN := Lib.hid h.1
  have HSR := Lib.hid (srcSum_run ls)
  clear h
  go_enter Try.func6, Try.ntmps6
  go_wp2_with fail
  refine HG.out.mono ?_
  rintro e w1 ⟨p, rfl, h1⟩
  have H1 := Lib.hid h1
  clear h1 HG
  generalize RM.run ls = L at *
  go_wp2_with fail
  refine (alive_any w1).mono ?_
  rintro e w2 ⟨rfl, hb2⟩
  have h2 := H1.out.below hb2
  have hup := h2.up
  have hll := h2.len
  have H2 := Lib.hid h2
  clear hb2 h2
  go_wp2_with fail
  go_loopw [4, 30] (fun u i wr => ∃ k : Nat, k ≤ n ∧ i = .int .i64 k ∧ u = .int .i64 (srcSum L (ls.take k) : Nat) ∧ Below w2.heap.size w2 wr) (fun _ i _ => n - (intOf i).toNat)
  case atStart => exact ⟨0, Nat.zero_le _, rfl, by rw [List.take_zero, srcSum_nil]; rfl, Below.refl _ _⟩
  case round =>
    obtain ⟨k, hk, rfl, rfl, hbw⟩ := hrel
    rename World => wo
    have hm := H2.out.below hbw
    have hsl := srcSum_le L (ls.take k)
    by_cases hlt : k < n
    · obtain ⟨b, off, hl, rfl, hbl, ⟨a0, a1, a2, a3⟩, hok⟩ := (HS.out.below hm.bel).at_ hlt
      have HSY := Lib.hid (srcSum_yes L hl)
      have HSN := Lib.hid (srcSum_no L hl)
      obtain ⟨a, ha⟩ : ∃ a, a = ls[k] := ⟨_, rfl⟩
      rw [← ha] at a0 a1 a2 a3 hok HSY HSN
      obtain ⟨ak, sa, ap, an⟩ := a
      dsimp only at a0 a1 a2 a3 HSY HSN
      have hbx := (Below.refl wo.heap.size wo).alloc (Nat.le_refl _) (.cells #[.int .i64 ak, .int .i64 sa, .int .i64 ap, .int .i64 an] 42)
      have hxb := Whole.fresh wo 42 #[.int .i64 ak, .int .i64 sa, .int .i64 ap, .int .i64 an]
      obtain ⟨wb, hwb⟩ : ∃ wb, wb = wo.alloc (.cells #[.int .i64 ak, .int .i64 sa, .int .i64 ap, .int .i64 an] 42) := ⟨_, rfl⟩
      have hmb := hm.below hbx
      have hsz : wo.heap.size < wb.heap.size := by rw [hwb]; simp
      rw [← hwb] at hbx hxb hmb
      have HWB := Lib.hid hwb
      obtain ⟨ab, hab⟩ : ∃ ab, ab = wo.heap.size := ⟨_, rfl⟩
      rw [← hab] at hxb hsz
      have HAB := Lib.hid hab
      have HZ := Lib.hid (show ∀ W, Below wb.heap.size wb W → W.cell? ⟨ab, 3, none⟩ = some (.int .i64 an) ∧ W.cell? ⟨ab, 1, none⟩ = some (.int .i64 sa) from fun W hW => by
        have hx := hxb.below hW hsz
        have x3 := hx.cell 3
        have x1 := hx.cell 1
        simp only [List.getElem?_toArray, List.getElem?_cons_zero, List.getElem?_cons_succ] at x3 x1
        exact ⟨x3, x1⟩)
      have HOF := Lib.hid fun W (hW : Below wb.heap.size wb W) => cof (hmb.below hW) hok.2.2.2 (by omega)
      have HFR := Lib.hid fun W (hW : Below wb.heap.size wb W) => cfrm (hmb.below hW) hok.2.1 (by omega)
      have HMB := Lib.hid hmb
      have HB' := Lib.hid (hbw.trans (hbx.mono hbw.size))
      have HRO := Lib.hid (RM.of_up hup an)
      have HRF := Lib.hid (frm_places hup sa)
      have hlo := RM.of_len L an
      have hlf := RM.frm_len L sa
      dsimp only at HOF HFR
      generalize RM.of L an = lo at *
      generalize RM.frm L sa = lf at *
      clear hm ha hbx hok hbw hxb hbl hmb hwb hab
      go_upto_region 8 with (fail)
      rw [← HWB.out, ← HAB.out]
      go_cut [7, 8] (fun x y wc => ∃ A1 c1 A2 c2, x = .slice A1 lo.length c1 ∧ y = .slice A2 lf.length c2 ∧ Hid (NewT 0 wc (.slice A1 lo.length c1) lo ∧ NewT 0 wc (.slice A2 lf.length c2) lf ∧ Below wb.heap.size wb wc))
      case first =>
        obtain ⟨z3, z1⟩ := HZ.out wb (Below.refl _ _)
        go_wp2_with fail
        go_region_held3 (fun w' => w'.cell? ⟨ab, 3, none⟩ = some (.int .i64 an) ∧ w'.cell? ⟨ab, 1, none⟩ = some (.int .i64 sa)) (first | exact ⟨z3, z1⟩ | exact HZ.out _ J1.out | exact HZ.out _ J2.out | (simp [go_sem, *]))
          (first
            | (go_at_call 14; refine (HFR.out _ (bto J1.out (by exact rfl) (by exact rfl) (by exact rfl) (by exact rfl))).mono ?_; rintro e u2 ⟨v2, rfl, hr2, hb2⟩; obtain ⟨A2, c2, rfl, _⟩ := hr2.slice; have hb2' := bback hb2 (w := u1) rfl rfl rfl rfl; have J2 := Lib.hid (bthru J1.out hb2'); have R2 := Lib.hid (hr2.less (Nat.zero_le _)); have R1' := Lib.hid (R1.out.below hb2'); clear hr2 hb2 hb2')
            | (go_at_call 13; refine (HOF.out _ (same_below (by exact rfl) (by exact rfl) (by exact rfl) (by exact rfl))).mono ?_; rintro e u1 ⟨v1, rfl, hr1, hb1⟩; obtain ⟨A1, c1, rfl, _⟩ := hr1.slice; have J1 := Lib.hid (show Below wb.heap.size wb u1 from bback hb1 rfl rfl rfl rfl); have R1 := Lib.hid (hr1.less (Nat.zero_le _)); clear hr1 hb1)
            | fail)
        all_goals go_wp2
        all_goals go_meet
        all_goals exact ⟨A1, c1, A2, c2, rfl, rfl, Lib.hid ⟨R1'.out, R2.out, J2.out⟩⟩
      case rest =>
        obtain ⟨A1, c1, A2, c2, rfl, rfl, HC⟩ := hcut
        rename World => wc
        obtain ⟨hv1, hv2, hbc⟩ := HC.out
        have HV1 := Lib.hid hv1
        have HV2 := Lib.hid hv2
        have HBC := Lib.hid hbc
        have HX := Lib.hid (show ∀ W, Below wc.heap.size wc W → W.cell? ⟨ab, 1, none⟩ = some (.int .i64 sa) from fun W hW => (HZ.out W (hbc.trans (hW.mono hbc.size))).2)
        clear hv1 hv2 hbc HC HOF HFR HZ
        go_wp2_with fail
        go_loopw [9] (fun i wr => ∃ q : Nat, 1 ≤ q ∧ q ≤ lo.length + 1 ∧ i = .int .i64 q ∧ Below wc.heap.size wc wr) (fun i _ => lo.length + 1 - (intOf i).toNat)
        case atStart => exact ⟨1, Nat.le_refl _, by omega, rfl, Below.refl _ _⟩
        case round =>
          obtain ⟨q, hq1, hq, rfl, hbw⟩ := hrel
          rename World => wq
          by_cases hqt : q < lo.length
          · have hv := HV1.out.below hbw
            obtain ⟨g, cap, e1, _, _, c1, c2⟩ := hv.cell hqt
            injection e1 with e1 e1x e1'
            clear e1x
            subst e1 e1'
            obtain ⟨g', cap', e2, _, _, d1, d2⟩ := hv.cell (show q - 1 < lo.length by omega)
            injection e2 with e2 e2x e2'
            clear e2x
            injection e2 with e2
            injection e2 with e2 _
            subst e2 e2'
            have hr := rise_at HRO.out hq1 hqt
            obtain ⟨x, hx⟩ : ∃ x, x = lo[q - 1]'(by omega) := ⟨_, rfl⟩
            obtain ⟨y, hy⟩ : ∃ y, y = lo[q] := ⟨_, rfl⟩
            rw [← hx] at d1 d2 hr
            rw [← hy] at c1 c2 hr
            obtain ⟨x1, x2⟩ := x
            obtain ⟨y1, y2⟩ := y
            dsimp only at c1 c2 d1 d2
            have i1 : ((q : Int) - 1).toNat = q - 1 := by omega
            have p1 : (1 : Int) ≤ (q : Int) := by omega
            have p2 : (q : Int) - 1 < (lo.length : Int) := by omega
            have p3 : IntKind.i64.wrap ((q : Int) - 1) = (q : Int) - 1 := by rw [IntKind.wrap_i64]; omega
            have HB := Lib.hid hbw
            clear hv hx hy hbw
            rcases hr with hr | ⟨hr1, hr2⟩
            · have k1 : decide (y1 < x1) = false := by simp at hr ⊢; omega
              have k2 : (x1 == y1) = false := by simp at hr ⊢; omega
              clear hr
              go_wp2_with fail
              go_quiet (fail)
              go_wp2
              go_roundw
              case rel => exact ⟨q + 1, by omega, by omega, by go_num, HB.out.trans ⟨rfl, rfl, rfl, Nat.le_refl _, fun _ _ => rfl⟩⟩
              case measure => simp [intOf]; omega
            · dsimp only at hr1 hr2
              subst hr1
              have k1 : decide (x1 < x1) = false := by simp
              have k3 : decide (y2 ≤ x2) = false := by simp; omega
              clear hr2
              go_wp2_with fail
              go_quiet (fail)
              go_wp2
              go_roundw
              case rel => exact ⟨q + 1, by omega, by omega, by go_num, HB.out.trans ⟨rfl, rfl, rfl, Nat.le_refl _, fun _ _ => rfl⟩⟩
              case measure => simp [intOf]; omega
          · have HB := Lib.hid hbw
            clear hbw HRO HV1
            generalize lo.length = nlo at *
            go_wp2_with fail
            go_loopw [10] (fun i wr => ∃ q : Nat, 1 ≤ q ∧ q ≤ lf.length + 1 ∧ i = .int .i64 q ∧ Below wc.heap.size wc wr) (fun i _ => lf.length + 1 - (intOf i).toNat)
            case atStart => exact ⟨1, Nat.le_refl _, by omega, rfl, HB.out⟩
            case round =>
              clear HB
              obtain ⟨r, hr1, hr, rfl, hbw⟩ := hrel
              rename World => wz
              by_cases hrt : r < lf.length
              · have hv := HV2.out.below hbw
                obtain ⟨g, cap, e1, _, _, c1, c2⟩ := hv.cell hrt
                injection e1 with e1 e1x e1'
                clear e1x
                subst e1 e1'
                obtain ⟨g', cap', e2, _, _, d1, d2⟩ := hv.cell (show r - 1 < lf.length by omega)
                injection e2 with e2 e2x e2'
                clear e2x
                injection e2 with e2
                injection e2 with e2 _
                subst e2 e2'
                have hrr := place_at HRF.out hr1 hrt
                obtain ⟨x, hx⟩ : ∃ x, x = lf[r - 1]'(by omega) := ⟨_, rfl⟩
                obtain ⟨y, hy⟩ : ∃ y, y = lf[r] := ⟨_, rfl⟩
                rw [← hx] at d1 d2 hrr
                rw [← hy] at c1 c2 hrr
                obtain ⟨x1, x2⟩ := x
                obtain ⟨y1, y2⟩ := y
                dsimp only at c1 c2 d1 d2 hrr
                have i1 : ((r : Int) - 1).toNat = r - 1 := by omega
                have p1 : (1 : Int) ≤ (r : Int) := by omega
                have p2 : (r : Int) - 1 < (lf.length : Int) := by omega
                have p3 : IntKind.i64.wrap ((r : Int) - 1) = (r : Int) - 1 := by rw [IntKind.wrap_i64]; omega
                have k3 : decide (y2 ≤ x2) = false := by simp; omega
                have HB := Lib.hid hbw
                clear hv hx hy hbw hrr
                go_wp2_with fail
                go_quiet (fail)
                go_wp2
                go_roundw
                case rel => exact ⟨r + 1, by omega, by omega, by go_num, HB.out.trans ⟨rfl, rfl, rfl, Nat.le_refl _, fun _ _ => rfl⟩⟩
                case measure => simp [intOf]; omega
              · have HB := Lib.hid hbw
                clear hbw HRF HV2
                generalize lf.length = nlf at *
                go_wp2_with fail
                go_loopw [11, 112] (fun u i wr => ∃ j : Nat, j ≤ k ∧ i = .int .i64 j ∧ u = .bool (seen (ls.take j) sa) ∧ Below wc.heap.size wc wr) (fun _ i _ => k - (intOf i).toNat)
                case atStart => exact ⟨0, Nat.zero_le _, rfl, rfl, HB.out⟩
                case round =>
                  clear HB
                  obtain ⟨j, hj, rfl, rfl, hbw⟩ := hrel
                  rename World => wy
                  have hby := HBC.out.trans (hbw.mono HBC.out.size)
                  by_cases hjt : j < k
                  · obtain ⟨b', off', hl', e3, hbl', ⟨z0, z1, z2, z3⟩, hok'⟩ := (HS.out.below (HMB.out.below hby).bel).at_ (show j < n by omega)
                    injection e3 with e3
                    injection e3 with e3 e4
                    subst e3 e4
                    have HSE := Lib.hid (seen_take hl' sa)
                    obtain ⟨a', ha'⟩ : ∃ a', a' = ls[j] := ⟨_, rfl⟩
                    rw [← ha'] at z0 z1 z2 z3 HSE
                    obtain ⟨bk, bs, bp, bn⟩ := a'
                    dsimp only at z0 z1 z2 z3 HSE
                    have hbx := (Below.refl wy.heap.size wy).alloc (Nat.le_refl _) (.cells #[.int .i64 bk, .int .i64 bs, .int .i64 bp, .int .i64 bn] 42)
                    have HB := Lib.hid (hbw.trans (hbx.mono hbw.size))
                    have xs := HX.out _ HB.out
                    generalize seen (ls.take j) sa = sv at *
                    clear ha' hbx hbw hby hbl' hok'
                    cases sv with
                    | true =>
                      have HT : Hid (seen (ls.take (j + 1)) sa = true) := Lib.hid (by rw [HSE.out]; rfl)
                      clear HSE
                      go_wp2
                      go_roundw
                      case rel => exact ⟨j + 1, by omega, by go_num, by rw [HT.out], HB.out⟩
                      case measure => simp [intOf]; omega
                    | false =>
                      by_cases e : bs = sa
                      · have HT : Hid (seen (ls.take (j + 1)) sa = true) := Lib.hid (by rw [HSE.out, e]; simp)
                        subst e
                        clear HSE
                        go_wp2
                        go_roundw
                        case rel => exact ⟨j + 1, by omega, by go_num, by rw [HT.out], HB.out⟩
                        case measure => simp [intOf]; omega
                      · have d0 : (bs == sa) = false := by simpa using e
                        have HT : Hid (seen (ls.take (j + 1)) sa = false) := Lib.hid (by rw [HSE.out, d0]; rfl)
                        clear HSE e
                        go_wp2
                        go_roundw
                        case rel => exact ⟨j + 1, by omega, by go_num, by rw [HT.out], HB.out⟩
                        case measure => simp [intOf]; omega
                  · obtain rfl : j = k := by omega
                    have HBW := Lib.hid (HB'.out.trans (hby.mono HB'.out.size))
                    generalize srcSum L (ls.take j) = sm at *
                    generalize seen (ls.take j) sa = sv at *
                    clear hbw hby
                    cases sv with
                    | true =>
                      have HT := Lib.hid (HSY.out rfl)
                      clear HSY HSN
                      go_wp2
                      go_roundw
                      case rel => exact ⟨j + 1, by omega, by go_num, by rw [HT.out], HBW.out⟩
                      case measure => simp [intOf]; omega
                    | false =>
                      have HT := Lib.hid (HSN.out rfl)
                      clear HSY HSN
                      go_wp2
                      go_roundw
                      case rel => exact ⟨j + 1, by omega, by go_num, by rw [HT.out]; go_num, HBW.out⟩
                      case measure => simp [intOf]; omega
    · obtain rfl : k = n := by omega
      rw [List.take_of_length_le (by rw [HLN.out]; omega), HSR.out]
      have HL9 := Lib.hid (clen hm)
      have HE := Lib.hid hm.bel
      clear hm hbw hsl
      generalize L.length = nl at *
      go_wp2_with fail
      refine HL9.out.mono ?_
      rintro e w9 ⟨rfl, rfl⟩
      go_wp2
      go_ret
      exact ⟨ret_bool (by simp), HE.out⟩
theorem order_any (A : Option Addr) (n c : Nat) (ls : List RM.Act) (w : World) (h : ActS w w.heap.size A n ls) (hnc : n ≤ c) :
    Calls Try.prog 6 #[.slice A n c] w fun e w' => e = .returned (.bool true) ∧ Below w.heap.size w w' := by
  by_cases hn : n ≤ 100
  · exact order_few A n c ls w h hn hnc
  · exact order_big A n c w (by omega)
end Go.Proofs.Ytehkcflbdmkjpaa
