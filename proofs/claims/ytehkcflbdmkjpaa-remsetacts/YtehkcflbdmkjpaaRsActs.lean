/- RemsetActs, walked. -/
import Derived.Test.YtehkcflbdmkjpaaRsActsM
namespace Go.Proofs.Ytehkcflbdmkjpaa
open Go.RowKit Go.Maps Go.Sort

theorem newZ_one (w : World) (t : Int) (base : Nat) (h : base ≤ w.heap.size) : NewZ base (w.alloc (.cells #[.int .i64 t] 3)) (.slice (some ⟨w.heap.size, 0, none⟩) 1 1) [t] :=
  ⟨rfl, .inr ⟨w.heap.size, 1, _, rfl, h, World.alloc_heap_new w _, by simp, by decide, rfl, rfl⟩⟩
set_option maxHeartbeats 32000000 in
set_option maxRecDepth 100000 in
theorem acts_any (A : Option Addr) (n c : Nat) (ls : List RM.Act) (r1 r2 t : Int) (w : World) (h : ActS w w.heap.size A n ls) (hr : RefOk (r1, r2)) (ht : I64ok t) :
    Calls Try.prog 3 #[.slice A n c, .agg #[.int .i64 r1, .int .i64 r2], .int .i64 t] w fun e w' => e = .returned (.bool true) ∧ Below w.heap.size w w' := by
  obtain ⟨i0, hi, hz0, hz1, hz2⟩ := infoInt
  have HLN := Lib.hid h.1
  have HOKS := Lib.hid h.2.1
  have HS := Lib.hid h
  obtain ⟨wb, hwb⟩ : ∃ wb, wb = w.alloc (.cells #[.int .i64 r1, .int .i64 r2] 24) := ⟨_, rfl⟩
  have HSZ : Hid (wb.heap.size = w.heap.size + 1) := Lib.hid (by rw [hwb]; simp)
  have HB0 : Hid (Below w.heap.size w wb) := Lib.hid (by rw [hwb]; exact (Below.refl w.heap.size w).alloc (Nat.le_refl _) _)
  obtain ⟨rb, hrb⟩ : ∃ rb, rb = w.heap.size := ⟨_, rfl⟩
  have HX : Hid (Whole wb rb 24 #[.int .i64 r1, .int .i64 r2]) := Lib.hid (by rw [hwb, hrb]; exact Whole.fresh w _ _)
  have HRC : Hid (∀ W, Below wb.heap.size wb W → W.cell? ⟨rb, 0, none⟩ = some (.int .i64 r1) ∧ W.cell? ⟨rb, 1, none⟩ = some (.int .i64 r2)) := Lib.hid fun W hW => by
    have hx := HX.out.below hW (by rw [HSZ.out]; omega)
    have x0 := hx.cell 0
    have x1 := hx.cell 1
    simp only [List.getElem?_toArray, List.getElem?_cons_zero, List.getElem?_cons_succ] at x0 x1
    exact ⟨x0, x1⟩
  have HWB := Lib.hid hwb
  have HRB := Lib.hid hrb
  clear h hwb hrb
  obtain ⟨x0, x1⟩ := HRC.out wb (Below.refl _ _)
  go_enter Try.func3, Try.ntmps3
  go_upto_region 1 with (fail)
  rw [← HWB.out, ← HRB.out]
  go_wp2_with fail
  refine (rto_nil (r := (r1, r2)) wb).mono ?_
  rintro e w1 ⟨rfl, hb1⟩
  have HB1 := Lib.hid hb1
  clear hb1 x0 x1
  go_wp2_with fail
  refine (cnew w1).mono ?_
  rintro e w2 ⟨p, rfl, h2⟩
  have h2' := h2.since (HB0.out.trans (HB1.out.mono (by rw [HSZ.out]; omega)))
  have HC2 := Lib.hid h2'
  have HB2 := Lib.hid (HB1.out.trans (h2.bel.mono HB1.out.size))
  clear h2 h2'
  go_wp2_with fail
  refine (alive_any w2).mono ?_
  rintro e w3 ⟨rfl, hb3⟩
  have HC3 := Lib.hid (HC2.out.below hb3)
  have HB3 := Lib.hid (HB2.out.trans (hb3.mono HB2.out.size))
  obtain ⟨x0, x1⟩ := HRC.out w3 HB3.out
  clear hb3 HC2 HB2 HB1
  go_wp2_with fail
  refine (rput_nil (r1, r2) t w3).mono ?_
  rintro e w4 ⟨rfl, hb4⟩
  have HC4 := Lib.hid (HC3.out.below hb4)
  have HB4 := Lib.hid (HB3.out.trans (hb4.mono HB3.out.size))
  obtain ⟨x0, x1⟩ := HRC.out w4 HB4.out
  clear hb4 HC3 HB3
  go_wp2_with fail
  refine (rcut_nil (r1, r2) w4).mono ?_
  rintro e w5 ⟨rfl, hb5⟩
  have HC5 := Lib.hid (HC4.out.below hb5)
  have HB5 := Lib.hid (HB4.out.trans (hb5.mono HB4.out.size))
  clear hb5 HC4 HB4 x0 x1
  go_wp2_with fail
  refine (rof_nil t w5).mono ?_
  rintro e w6 ⟨rfl, rfl⟩
  go_wp2_with fail
  refine (rfrom_nil t w5).mono ?_
  rintro e w6 ⟨rfl, rfl⟩
  go_wp2_with fail
  refine (rforget_nil t w5).mono ?_
  rintro e w6 ⟨rfl, rfl⟩
  go_wp2_with fail
  refine (rlen_nil w5).mono ?_
  rintro e w6 ⟨rfl, rfl⟩
  by_cases hn : n ≤ 100
  · go_upto_region 9 with (fail)
    obtain ⟨rd, hrd⟩ : ∃ rd, rd = w5.heap.size := ⟨_, rfl⟩
    obtain ⟨wm, hwm⟩ : ∃ wm, wm = w5.alloc (.cells #[.slice none 0 0] 39) := ⟨_, rfl⟩
    have hbm : Below w5.heap.size w5 wm := by rw [hwm]; exact (Below.refl _ _).alloc (Nat.le_refl _) _
    have hdm : DocAt wm rd 0 [] := ⟨⟨_, by rw [hwm, hrd]; exact Whole.fresh w5 _ _, NewP.nil _ _⟩, RM.Up.nil⟩
    have hcm := HC5.out.below hbm
    have hpm : rd ≠ p := by
      obtain ⟨cs, hp⟩ := HC5.out.box
      have := hp.lt
      omega
    have hBm : Both w wm p rd 0 [] [] := ⟨hcm, ⟨0, hdm⟩, hpm, by rw [hrd]; exact HC5.out.bel.size⟩
    have HBM := Lib.hid hBm
    have HB6 := Lib.hid (HB5.out.trans (hbm.mono HB5.out.size))
    have HWM := Lib.hid hwm
    have HRD := Lib.hid hrd
    clear hwm hrd hbm hdm hcm hpm hBm
    rw [← HWM.out, ← HRD.out]
    go_upto_region 10 with (fail)
    obtain ⟨wl, hwl⟩ : ∃ wl, wl = wm.alloc (.cells #[.int .i64 t] 3) := ⟨_, rfl⟩
    obtain ⟨kb, hkb⟩ : ∃ kb, kb = wm.heap.size := ⟨_, rfl⟩
    have hbl : Below wm.heap.size wm wl := by rw [hwl]; exact (Below.refl _ _).alloc (Nat.le_refl _) _
    have hzl : NewZ w.heap.size wl (.slice (some ⟨kb, 0, none⟩) 1 1) [t] := by rw [hwl, hkb]; exact newZ_one wm t _ HBM.out.cs.bel.size
    have HBL := Lib.hid (HBM.out.below hbl)
    have HB7 := Lib.hid (HB6.out.trans (hbl.mono HB6.out.size))
    have HZL := Lib.hid hzl
    have HWL := Lib.hid hwl
    have HKB := Lib.hid hkb
    have HXL : Hid (Whole wl rb 24 #[.int .i64 r1, .int .i64 r2]) := Lib.hid (HX.out.below HB7.out (by rw [HSZ.out, HRB.out]; omega))
    have HRBN : Hid (rb ≠ rd) := Lib.hid (by
      have h1 := HB5.out.size
      rw [HSZ.out] at h1
      rw [HRB.out, HRD.out]
      omega)
    clear hwl hkb hbl hzl
    rw [← HWL.out, ← HKB.out]
    clear HWL HKB HWM HRD HBM HB6 HB5 HC5
    go_wp2_with fail
    go_loopw [12, 84] (fun u i wr => ∃ k : Nat, k ≤ n ∧ i = .int .i64 k ∧ Hid (NewZ w.heap.size wr u (askL t (ls.take k)) ∧ Both w wr p rd k (RM.run (ls.take k)) (RM.run (ls.take k)) ∧ Whole wr rb 24 #[.int .i64 r1, .int .i64 r2])) (fun _ i _ => n - (intOf i).toNat)
    case atStart => exact ⟨0, Nat.zero_le _, rfl, Lib.hid ⟨by simpa [askL] using HZL.out, by simpa [RM.run] using HBL.out, HXL.out⟩⟩
    case round =>
      obtain ⟨k, hk, rfl, HI⟩ := hrel
      rename World => wo
      obtain ⟨hu, hB, hmr⟩ := HI.out
      by_cases hlt : k < n
      · obtain ⟨b, off, hl, rfl, hbl, ⟨a0, a1, a2, a3⟩, hok⟩ := (HS.out.below hB.cs.bel).at_ hlt
        have HT := Lib.hid (RM.run_take hl)
        have HAK := Lib.hid (askL_take t hl)
        obtain ⟨a, ha⟩ : ∃ a, a = ls[k] := ⟨_, rfl⟩
        rw [← ha] at a0 a1 a2 a3 HT HAK hok
        obtain ⟨ak, sa, ap, an⟩ := a
        dsimp only at a0 a1 a2 a3 HAK
        have hgl : (askL t (ls.take k)).length = 1 + 2 * k := by rw [askL_len, List.length_take, HLN.out, Nat.min_eq_left hk]
        have hLl := hB.cs.len
        generalize RM.run (ls.take k) = L at *
        generalize askL t (ls.take k) = gl at *
        obtain ⟨Au, cu, rfl, _⟩ := hu.slice
        rw [hgl] at hu ⊢
        have hbx := (Below.refl wo.heap.size wo).alloc (Nat.le_refl _) (.cells #[.int .i64 ak, .int .i64 sa, .int .i64 ap, .int .i64 an] 42)
        have hxb := Whole.fresh wo 42 #[.int .i64 ak, .int .i64 sa, .int .i64 ap, .int .i64 an]
        obtain ⟨wx, hwx⟩ : ∃ wx, wx = wo.alloc (.cells #[.int .i64 ak, .int .i64 sa, .int .i64 ap, .int .i64 an] 42) := ⟨_, rfl⟩
        obtain ⟨ab, hab⟩ : ∃ ab, ab = wo.heap.size := ⟨_, rfl⟩
        rw [← hwx, ← hab] at hxb
        rw [← hwx] at hbx
        have hBx := hB.below hbx
        have hne : ab ≠ rd := by
          obtain ⟨cs, hbb⟩ := hB.box
          have := hbb.lt
          omega
        have HWX := Lib.hid hwx
        have HAB := Lib.hid hab
        have HUX := Lib.hid (hu.below hbx)
        have HBX := Lib.hid hBx
        have HMX := Lib.hid (hmr.below hbx hmr.lt)
        have HCX := Lib.hid hxb
        have HNE := Lib.hid hne
        have HOK := Lib.hid hok
        have HZ := Lib.hid (show ∀ W, Mr rd wx W → W.cell? ⟨ab, 1, none⟩ = some (.int .i64 sa) ∧ W.cell? ⟨ab, 2, none⟩ = some (.int .i64 ap) ∧ W.cell? ⟨ab, 3, none⟩ = some (.int .i64 an) from fun W hW => by
          have hx := hW.whole hxb hne
          have x1 := hx.cell 1
          have x2 := hx.cell 2
          have x3 := hx.cell 3
          simp only [List.getElem?_toArray, List.getElem?_cons_zero, List.getElem?_cons_succ] at x1 x2 x3
          exact ⟨x1, x2, x3⟩)
        have y0 := hxb.cell 0
        simp only [List.getElem?_toArray, List.getElem?_cons_zero] at y0
        have HN : Hid (∀ (W : World) (v : Value) (M : RM.L), M = RM.step L ⟨ak, sa, ap, an⟩ → Both w W p rd (k + 1) M M → Whole W rb 24 #[.int .i64 r1, .int .i64 r2] → NewZ w.heap.size W v (gl ++ [an, sa]) → NewZ w.heap.size W v (askL t (ls.take (k + 1))) ∧ Both w W p rd (k + 1) (RM.run (ls.take (k + 1))) (RM.run (ls.take (k + 1))) ∧ Whole W rb 24 #[.int .i64 r1, .int .i64 r2]) := Lib.hid fun W v M hM h1 h2 h3 => by
          rw [HAK.out, HT.out, ← hM]
          exact ⟨h3, h1, h2⟩
        clear ha hok hbx hxb hwx hab hBx hne hu hB hmr hbl HI HT HAK
        by_cases e0 : ak = 0
        · subst e0
          have HST : Hid (RM.put L (sa, ap) an = RM.step L ⟨0, sa, ap, an⟩) := Lib.hid (RM.step_put (a := ⟨0, sa, ap, an⟩) rfl).symm
          go_upto_region 13 with (fail)
          rw [← HWX.out, ← HAB.out]
          go_wp2_with fail
          go_upto_region 15 with (fail)
          go_cut [104] (fun x wc => x = .bool false ∧ Hid (Both w wc p rd (k + 1) (RM.put L (sa, ap) an) (RM.put L (sa, ap) an) ∧ Mr rd wx wc))
          case first =>
            clear HN HST HUX
            obtain ⟨z1, z2, z3⟩ := HZ.out wx (Mr.refl _ _)
            have HP := Lib.hid fun W (hW : Below wx.heap.size wx W) => bput (x := (sa, ap)) (HBX.out) HOK.out.r HOK.out.2.2.2 (by omega) hW
            have HD := Lib.hid fun u W (h : Both w u p rd (k + 1) (RM.put L (sa, ap) an) L ∧ Mr rd wx u) (hW : Below u.heap.size u W) => dput (x := (sa, ap)) (t := an) h (by omega) hW
            unfold refV at HP HD
            dsimp only at HP HD
            generalize RM.has L (sa, ap) = dv at *
            go_wp2_with fail
            go_region_held3 (fun w' => w'.cell? ⟨ab, 1, none⟩ = some (.int .i64 sa) ∧ w'.cell? ⟨ab, 2, none⟩ = some (.int .i64 ap) ∧ w'.cell? ⟨ab, 3, none⟩ = some (.int .i64 an)) (first | exact ⟨z1, z2, z3⟩ | exact HZ.out _ J1.out.2 | exact HZ.out _ J2.out.2 | (simp [go_sem, *]))
              (first
                | (go_at_call 17; refine (HD.out _ _ J1.out (same_below (by exact rfl) (by exact rfl) (by exact rfl) (by exact rfl))).mono ?_; rintro e u2 ⟨rfl, hB2, hm2⟩; have J2 := Lib.hid (And.intro hB2 hm2); clear hB2 hm2)
                | (go_at_call 11; refine (HP.out _ (same_below (by exact rfl) (by exact rfl) (by exact rfl) (by exact rfl))).mono ?_; rintro e u1 ⟨rfl, hB1, hm1⟩; have J1 := Lib.hid (And.intro hB1 hm1); clear hB1 hm1)
                | fail)
            all_goals go_wp2
            all_goals go_meet
            all_goals exact ⟨by first | rfl | simp, Lib.hid ⟨J2.out.1, J2.out.2⟩⟩
          case rest =>
            obtain ⟨rfl, HC⟩ := hcut
            rename World => wc
            have hu := HUX.out
            obtain ⟨csd, hbd⟩ := HBX.out.box
            have hu1 := hu.mr HC.out.2 hbd
            obtain ⟨z1, z2, z3⟩ := HZ.out wc HC.out.2
            have HU := Lib.hid hu1.own
            have HUN := Lib.hid hu1
            rw [hgl] at HU
            have hsz := HC.out.1.cs.bel.size
            clear hu hu1 hbd
            go_wp2_with (first
              | (at_builtin; refine wpList_append_own _ rfl _ _ 40 rfl w.heap.size 3 i0 _ 1 8 Try.underlying40 hi hz0 hz1 hz2 rfl (by decide) (.slice Au (1 + 2 * k) cu) _ _ rfl (HU.out.alloc _) ⟨wc.heap.size, 0, none⟩ 2 2 [.int .i64 an, .int .i64 sa] rfl rfl (cell_two_new _ _ _ _) (by simp [Value.oneCell']) (by unfold maxLen; omega) (by omega) (by simp; omega) ?_; intro v' w6 hown' hgrow _; have HO2 := Lib.hid hown'; have HG2 := Lib.hid hgrow; clear hown' hgrow))
            go_roundw
            case rel =>
              obtain ⟨hB6, hkeep⟩ := HC.out.1.ask HUN.out (Nat.le_refl _) HG2.out
              exact ⟨k + 1, by omega, by go_num, Lib.hid (HN.out _ _ _ HST.out hB6 (hkeep _ _ _ (HC.out.2.whole HMX.out HRBN.out) (by decide)) (NewZ.snoc2 (by rw [hgl]; exact HO2.out)))⟩
            case measure => simp [intOf]; omega
        ·
          by_cases e1 : ak = 1
          · subst e1
            have HST : Hid (RM.cut L (sa, ap) = RM.step L ⟨1, sa, ap, an⟩) := Lib.hid (RM.step_cut (a := ⟨1, sa, ap, an⟩) rfl).symm
            go_upto_region 13 with (fail)
            rw [← HWX.out, ← HAB.out]
            go_wp2_with fail
            go_upto_region 18 with (fail)
            go_cut [115] (fun x wc => x = .bool false ∧ Hid (Both w wc p rd (k + 1) (RM.cut L (sa, ap)) (RM.cut L (sa, ap)) ∧ Mr rd wx wc))
            case first =>
              clear HN HST HUX
              obtain ⟨z1, z2, z3⟩ := HZ.out wx (Mr.refl _ _)
              have HP := Lib.hid fun W (hW : Below wx.heap.size wx W) => bcut (x := (sa, ap)) (HBX.out) HOK.out.r hW
              have HD := Lib.hid fun u W (h : Both w u p rd k (RM.cut L (sa, ap)) L ∧ Mr rd wx u) (hW : Below u.heap.size u W) => dcut (x := (sa, ap)) h (by omega) hW
              unfold refV at HP HD
              dsimp only at HP HD
              generalize RM.has L (sa, ap) = dv at *
              go_wp2_with fail
              go_region_held3 (fun w' => w'.cell? ⟨ab, 1, none⟩ = some (.int .i64 sa) ∧ w'.cell? ⟨ab, 2, none⟩ = some (.int .i64 ap) ∧ w'.cell? ⟨ab, 3, none⟩ = some (.int .i64 an)) (first | exact ⟨z1, z2, z3⟩ | exact HZ.out _ J1.out.2 | exact HZ.out _ J2.out.2 | (simp [go_sem, *]))
                (first
                  | (go_at_call 18; refine (HD.out _ _ J1.out (same_below (by exact rfl) (by exact rfl) (by exact rfl) (by exact rfl))).mono ?_; rintro e u2 ⟨rfl, hB2, hm2⟩; have J2 := Lib.hid (And.intro hB2 hm2); clear hB2 hm2)
                  | (go_at_call 12; refine (HP.out _ (same_below (by exact rfl) (by exact rfl) (by exact rfl) (by exact rfl))).mono ?_; rintro e u1 ⟨rfl, hB1, hm1⟩; have J1 := Lib.hid (And.intro hB1 hm1); clear hB1 hm1)
                  | fail)
              all_goals go_wp2
              all_goals go_meet
              all_goals exact ⟨by first | rfl | simp, Lib.hid ⟨both_more J2.out.1, J2.out.2⟩⟩
            case rest =>
              obtain ⟨rfl, HC⟩ := hcut
              rename World => wc
              have hu := HUX.out
              obtain ⟨csd, hbd⟩ := HBX.out.box
              have hu1 := hu.mr HC.out.2 hbd
              obtain ⟨z1, z2, z3⟩ := HZ.out wc HC.out.2
              have HU := Lib.hid hu1.own
              have HUN := Lib.hid hu1
              rw [hgl] at HU
              have hsz := HC.out.1.cs.bel.size
              clear hu hu1 hbd
              go_wp2_with (first
                | (at_builtin; refine wpList_append_own _ rfl _ _ 40 rfl w.heap.size 3 i0 _ 1 8 Try.underlying40 hi hz0 hz1 hz2 rfl (by decide) (.slice Au (1 + 2 * k) cu) _ _ rfl (HU.out.alloc _) ⟨wc.heap.size, 0, none⟩ 2 2 [.int .i64 an, .int .i64 sa] rfl rfl (cell_two_new _ _ _ _) (by simp [Value.oneCell']) (by unfold maxLen; omega) (by omega) (by simp; omega) ?_; intro v' w6 hown' hgrow _; have HO2 := Lib.hid hown'; have HG2 := Lib.hid hgrow; clear hown' hgrow))
              go_roundw
              case rel =>
                obtain ⟨hB6, hkeep⟩ := HC.out.1.ask HUN.out (Nat.le_refl _) HG2.out
                exact ⟨k + 1, by omega, by go_num, Lib.hid (HN.out _ _ _ HST.out hB6 (hkeep _ _ _ (HC.out.2.whole HMX.out HRBN.out) (by decide)) (NewZ.snoc2 (by rw [hgl]; exact HO2.out)))⟩
              case measure => simp [intOf]; omega
          ·
            by_cases e2 : ak = 2
            · subst e2
              have HST : Hid (RM.forget L an = RM.step L ⟨2, sa, ap, an⟩) := Lib.hid (RM.step_forget (a := ⟨2, sa, ap, an⟩) rfl).symm
              go_upto_region 13 with (fail)
              rw [← HWX.out, ← HAB.out]
              go_wp2_with fail
              go_upto_region 21 with (fail)
              go_cut [126] (fun x wc => x = .bool false ∧ Hid (Both w wc p rd (k + 1) (RM.forget L an) (RM.forget L an) ∧ Mr rd wx wc))
              case first =>
                clear HN HST HUX
                obtain ⟨z1, z2, z3⟩ := HZ.out wx (Mr.refl _ _)
                have HP := Lib.hid fun W (hW : Below wx.heap.size wx W) => bforget (HBX.out) HOK.out.2.2.2 (by omega) hW
                have HD := Lib.hid fun u W (h : Both w u p rd k (RM.forget L an) L ∧ Mr rd wx u) (hW : Below u.heap.size u W) => dforget (t := an) h (by omega) hW
                generalize (RM.frm L an).length = dv at *
                go_wp2_with fail
                go_region_held3 (fun w' => w'.cell? ⟨ab, 1, none⟩ = some (.int .i64 sa) ∧ w'.cell? ⟨ab, 2, none⟩ = some (.int .i64 ap) ∧ w'.cell? ⟨ab, 3, none⟩ = some (.int .i64 an)) (first | exact ⟨z1, z2, z3⟩ | exact HZ.out _ J1.out.2 | exact HZ.out _ J2.out.2 | (simp [go_sem, *]))
                  (first
                    | (go_at_call 19; refine (HD.out _ _ J1.out (same_below (by exact rfl) (by exact rfl) (by exact rfl) (by exact rfl))).mono ?_; rintro e u2 ⟨rfl, hB2, hm2⟩; have J2 := Lib.hid (And.intro hB2 hm2); clear hB2 hm2)
                    | (go_at_call 15; refine (HP.out _ (same_below (by exact rfl) (by exact rfl) (by exact rfl) (by exact rfl))).mono ?_; rintro e u1 ⟨rfl, hB1, hm1⟩; have J1 := Lib.hid (And.intro hB1 hm1); clear hB1 hm1)
                    | fail)
                all_goals go_wp2
                all_goals go_meet
                all_goals exact ⟨by first | rfl | simp, Lib.hid ⟨both_more J2.out.1, J2.out.2⟩⟩
              case rest =>
                obtain ⟨rfl, HC⟩ := hcut
                rename World => wc
                have hu := HUX.out
                obtain ⟨csd, hbd⟩ := HBX.out.box
                have hu1 := hu.mr HC.out.2 hbd
                obtain ⟨z1, z2, z3⟩ := HZ.out wc HC.out.2
                have HU := Lib.hid hu1.own
                have HUN := Lib.hid hu1
                rw [hgl] at HU
                have hsz := HC.out.1.cs.bel.size
                clear hu hu1 hbd
                go_wp2_with (first
                  | (at_builtin; refine wpList_append_own _ rfl _ _ 40 rfl w.heap.size 3 i0 _ 1 8 Try.underlying40 hi hz0 hz1 hz2 rfl (by decide) (.slice Au (1 + 2 * k) cu) _ _ rfl (HU.out.alloc _) ⟨wc.heap.size, 0, none⟩ 2 2 [.int .i64 an, .int .i64 sa] rfl rfl (cell_two_new _ _ _ _) (by simp [Value.oneCell']) (by unfold maxLen; omega) (by omega) (by simp; omega) ?_; intro v' w6 hown' hgrow _; have HO2 := Lib.hid hown'; have HG2 := Lib.hid hgrow; clear hown' hgrow))
                go_roundw
                case rel =>
                  obtain ⟨hB6, hkeep⟩ := HC.out.1.ask HUN.out (Nat.le_refl _) HG2.out
                  exact ⟨k + 1, by omega, by go_num, Lib.hid (HN.out _ _ _ HST.out hB6 (hkeep _ _ _ (HC.out.2.whole HMX.out HRBN.out) (by decide)) (NewZ.snoc2 (by rw [hgl]; exact HO2.out)))⟩
                case measure => simp [intOf]; omega
            · have HST : Hid (L = RM.step L ⟨ak, sa, ap, an⟩) := Lib.hid (RM.step_none (a := ⟨ak, sa, ap, an⟩) e0 e1 e2).symm
              have d0 : (ak == 0) = false := by simpa using e0
              have d1 : (ak == 1) = false := by simpa using e1
              have d2 : (ak == 2) = false := by simpa using e2
              go_upto_region 13 with (fail)
              rw [← HWX.out, ← HAB.out]
              have hu := HUX.out
              obtain ⟨wc, hwc⟩ : ∃ wc, wc = wx := ⟨_, rfl⟩
              have HC : Hid (Both w wc p rd (k + 1) L L ∧ Mr rd wx wc) := Lib.hid (by rw [hwc]; exact ⟨both_more HBX.out, Mr.refl _ _⟩)
              rw [← hwc] at y0 ⊢
              clear hwc e0 e1 e2
              obtain ⟨csd, hbd⟩ := HBX.out.box
              have hu1 := hu.mr HC.out.2 hbd
              obtain ⟨z1, z2, z3⟩ := HZ.out wc HC.out.2
              have HU := Lib.hid hu1.own
              have HUN := Lib.hid hu1
              rw [hgl] at HU
              have hsz := HC.out.1.cs.bel.size
              clear hu hu1 hbd
              go_wp2_with (first
                | (at_builtin; refine wpList_append_own _ rfl _ _ 40 rfl w.heap.size 3 i0 _ 1 8 Try.underlying40 hi hz0 hz1 hz2 rfl (by decide) (.slice Au (1 + 2 * k) cu) _ _ rfl (HU.out.alloc _) ⟨wc.heap.size, 0, none⟩ 2 2 [.int .i64 an, .int .i64 sa] rfl rfl (cell_two_new _ _ _ _) (by simp [Value.oneCell']) (by unfold maxLen; omega) (by omega) (by simp; omega) ?_; intro v' w6 hown' hgrow _; have HO2 := Lib.hid hown'; have HG2 := Lib.hid hgrow; clear hown' hgrow))
              go_roundw
              case rel =>
                obtain ⟨hB6, hkeep⟩ := HC.out.1.ask HUN.out (Nat.le_refl _) HG2.out
                exact ⟨k + 1, by omega, by go_num, Lib.hid (HN.out _ _ _ HST.out hB6 (hkeep _ _ _ (HC.out.2.whole HMX.out HRBN.out) (by decide)) (NewZ.snoc2 (by rw [hgl]; exact HO2.out)))⟩
              case measure => simp [intOf]; omega
      · obtain rfl : k = n := by omega
        have hgt : (askL t (ls.take k)).length = 1 + 2 * k := by rw [askL_len, List.length_take, HLN.out, Nat.min_self]
        obtain ⟨Au, cu, rfl, _⟩ := hu.slice
        rw [hgt] at hu ⊢
        have hao : ∀ x ∈ askL t (ls.take k), I64ok x := askL_ok ht fun a ha => HOKS.out a (List.mem_of_mem_take ha)
        have hLl := hB.cs.len
        generalize askL t (ls.take k) = gl at *
        generalize RM.run (ls.take k) = L at *
        have HU := Lib.hid hu
        have HB := Lib.hid hB
        have HM := Lib.hid hmr
        have HAO := Lib.hid hao
        clear hu hB hmr hao HI
        go_wp2_with fail
        go_loopw [138] (fun i wr => ∃ j : Nat, j ≤ 1 + 2 * k ∧ i = .int .i64 j ∧ Below wo.heap.size wo wr) (fun i _ => 1 + 2 * k - (intOf i).toNat)
        case atStart => exact ⟨0, Nat.zero_le _, rfl, Below.refl _ _⟩
        case round =>
          obtain ⟨j, hj, rfl, hbw⟩ := hrel
          rename World => wy
          have hb2 := HB.out.below hbw
          by_cases hjt : j < 1 + 2 * k
          · obtain ⟨g, cap, e1, _, _, c1⟩ := (HU.out.below hbw).cell (show j < gl.length by omega)
            injection e1 with e1 e1x e1'
            clear e1x
            subst e1 e1'
            have hxo := HAO.out gl[j] (List.getElem_mem _)
            obtain ⟨x, hx⟩ : ∃ x, x = gl[j]'(by omega) := ⟨_, rfl⟩
            rw [← hx] at c1 hxo
            have HOC := Lib.hid (cof hb2.cs hxo (by omega))
            have HB2 := Lib.hid hb2
            have HXO := Lib.hid hxo
            have hol := RM.of_len L x
            have hfl := RM.frm_len L x
            have HBW := Lib.hid hbw
            clear hb2 hx hxo hbw
            go_wp2_with fail
            refine HOC.out.mono ?_
            rintro e w11 ⟨v11, rfl, hv11, hb11⟩
            obtain ⟨A11, c11, rfl, _⟩ := hv11.slice
            have hB11 := HB2.out.below hb11
            obtain ⟨lo11, hd11⟩ := hB11.doc
            have HOD := Lib.hid (dof_any hd11 (by omega) x)
            have HV11 := Lib.hid hv11
            have HB11 := Lib.hid hB11
            have HW11 := Lib.hid (HBW.out.trans (hb11.mono HBW.out.size))
            clear hv11 hb11 hB11 hd11 HB2 HBW
            go_wp2_with fail
            refine HOD.out.mono ?_
            rintro e w12 ⟨v12, rfl, hv12, hb12⟩
            obtain ⟨A12, c12, rfl, _⟩ := hv12.slice
            have HSM := Lib.hid (dsame_any (HV11.out.below hb12) hv12 (by omega) (by omega))
            have HB12 := Lib.hid (HB11.out.below hb12)
            have HW12 := Lib.hid (HW11.out.trans (hb12.mono HW11.out.size))
            rw [show decide (RM.of L x = RM.of L x) = true by simp] at HSM
            clear hv12 hb12 HV11 HB11 HW11 HOD
            go_wp2_with fail
            refine HSM.out.mono ?_
            rintro e w13 ⟨rfl, hb13⟩
            have hB13 := HB12.out.below hb13
            have HFC := Lib.hid (cfrm hB13.cs HXO.out (by omega))
            have HB13 := Lib.hid hB13
            have HW13 := Lib.hid (HW12.out.trans (hb13.mono HW12.out.size))
            clear hb13 hB13 HB12 HW12
            go_wp2_with fail
            refine HFC.out.mono ?_
            rintro e w14 ⟨v14, rfl, hv14, hb14⟩
            obtain ⟨A14, c14, rfl, _⟩ := hv14.slice
            have hB14 := HB13.out.below hb14
            obtain ⟨lo14, hd14⟩ := hB14.doc
            have HFD := Lib.hid (dfrom_any hd14 (by omega) x)
            have HV14 := Lib.hid hv14
            have HB14 := Lib.hid hB14
            have HW14 := Lib.hid (HW13.out.trans (hb14.mono HW13.out.size))
            clear hv14 hb14 hB14 hd14 HB13 HW13
            go_wp2_with fail
            refine HFD.out.mono ?_
            rintro e w15 ⟨v15, rfl, hv15, hb15⟩
            obtain ⟨A15, c15, rfl, _⟩ := hv15.slice
            have HSM2 := Lib.hid (dsame_any (HV14.out.below hb15) hv15 (by omega) (by omega))
            have HW15 := Lib.hid (HW14.out.trans (hb15.mono HW14.out.size))
            rw [show decide (RM.frm L x = RM.frm L x) = true by simp] at HSM2
            clear hv15 hb15 HV14 HB14 HW14 HFD
            go_wp2_with fail
            refine HSM2.out.mono ?_
            rintro e w16 ⟨rfl, hb16⟩
            have HW16 := Lib.hid (HW15.out.trans (hb16.mono HW15.out.size))
            clear hb16
            go_wp2
            go_roundw
            case rel => exact ⟨j + 1, by omega, by go_num, HW16.out⟩
            case measure => simp [intOf]; omega
          · obtain rfl : j = 1 + 2 * k := by omega
            have hx := HM.out.below hbw HM.out.lt
            have x0 := hx.cell 0
            have x1 := hx.cell 1
            simp only [List.getElem?_toArray, List.getElem?_cons_zero, List.getElem?_cons_succ] at x0 x1
            have HTC := Lib.hid (cto hb2.cs hr)
            have HB2 := Lib.hid hb2
            have HX2 := Lib.hid hx
            unfold refV at HTC
            clear hbw hb2 hx
            go_wp2_with fail
            refine HTC.out.mono ?_
            rintro e w11 ⟨rfl, hb11⟩
            have hB11 := HB2.out.below hb11
            obtain ⟨lo11, hd11⟩ := hB11.doc
            have HTD := Lib.hid (dto_any hd11 (by omega) (r1, r2))
            have hlx := HX2.out.lt
            have hx11 := HX2.out.below hb11 hlx
            have x0 := hx11.cell 0
            have x1 := hx11.cell 1
            simp only [List.getElem?_toArray, List.getElem?_cons_zero, List.getElem?_cons_succ] at x0 x1
            have HB11 := Lib.hid hB11
            unfold refV at HTD
            clear hb11 hB11 hd11 hx11 HB2
            go_wp2_with fail
            refine HTD.out.mono ?_
            rintro e w12 ⟨rfl, hb12⟩
            have hB12 := HB11.out.below hb12
            obtain ⟨lo12, hd12⟩ := hB12.doc
            obtain ⟨Ad, cd, z0, _, _⟩ := hd12.rd
            have HLC := Lib.hid (show ∀ n, Calls Try.prog 16 #[.pointer (some ⟨p, 0, none⟩)] (w12.drewN n) fun e w' => e = .returned (.int .i64 (L.length : Nat)) ∧ w' = w12.drewN n from fun n => (clen (hB12.cs.below (below_drewN _ n))).mono fun _ _ ⟨he, hw⟩ => ⟨he, hw.symm⟩)
            have HE := Lib.hid hB12.cs.bel
            generalize RM.toV L (r1, r2) = tv at *
            generalize L.length = nl at *
            clear hb12 hB12 hd12 HB11 x0 x1
            cases RM.has L (r1, r2)
            · go_wp2_with fail
              go_quiet ((go_at_call 16; exact Calls.quiet_of_same (HLC.out _)))
              go_wp2
              go_ret
              exact ⟨by first | rfl | simp, HE.out.trans ⟨rfl, rfl, rfl, Nat.le_refl _, fun _ _ => rfl⟩⟩
            · go_wp2_with fail
              go_quiet ((go_at_call 16; exact Calls.quiet_of_same (HLC.out _)))
              go_wp2
              go_ret
              exact ⟨by first | rfl | simp, HE.out.trans ⟨rfl, rfl, rfl, Nat.le_refl _, fun _ _ => rfl⟩⟩
  · have HE := Lib.hid HC5.out.bel
    go_wp2
    go_ret
    exact ⟨rfl, HE.out⟩
end Go.Proofs.Ytehkcflbdmkjpaa
