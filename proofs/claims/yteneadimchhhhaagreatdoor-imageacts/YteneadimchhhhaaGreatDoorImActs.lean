/- The walk of ImageActs, to its second loop. -/
import Derived.Test.YteneadimchhhhaaGreatDoorImAlive
import Derived.Test.YteneadimchhhhaaGreatDoorImGreat
import Derived.Test.YteneadimchhhhaaGreatDoorImOpen
import Derived.Test.YteneadimchhhhaaGreatDoorImAct2
import Derived.Test.YteneadimchhhhaaGreatDoorImLiM
import Derived.Test.YteneadimchhhhaaGreatDoorImActI
import Derived.Test.YteneadimchhhhaaGreatDoorImRefO
import Derived.Sort.CutIn
namespace Go.Proofs.YteneadimchhhhaaGreatDoor
open Go.RowKit Go.Shelf
attribute [local go_sem] Oper.semAt_some

set_option maxRecDepth 100000 in
set_option maxHeartbeats 8000000 in
theorem acts_walk (A : Option Addr) (n c : Nat) (ls : List LV) (A1 : Option Addr) (n1 c1 : Nat) (la : List IAc) (w : World) (hc : n ≤ c ∧ c ≤ 9223372036854775807) (hL : LS w w.heap.size A n ls) (hA : FI w w.heap.size A1 n1 la) (hT : Tab w) :
    Calls Tryz.prog 3 #[.slice A n c, .slice A1 n1 c1] w fun e w' => e = .returned (.bool true) ∧ Below w.heap.size w w' := by
  have hn : n ≤ 9223372036854775807 := by omega
  have hb0 := (Below.refl w.heap.size w).alloc (Nat.le_refl _) (.cells #[.bool false] 4)
  obtain ⟨v0, hv0⟩ : ∃ v0, v0 = w.alloc (.cells #[.bool false] 4) := ⟨_, rfl⟩
  rw [← hv0] at hb0
  have HRS := Lib.hid (show Boxed v0 w.heap.size 4 (.bool false) by rw [hv0]; exact Boxed.new _ _ _)
  have T0 := hT.below hb0 hT.pos
  have AL0 := Lib.hid (ialive_any v0 T0)
  have HL := Lib.hid (show LS v0 v0.heap.size A n ls from by
    refine ⟨hL.1, fun h0 => ?_, fun l hl => ?_⟩
    · obtain ⟨b, off, e, hlt, hcc⟩ := hL.2.1 h0
      exact ⟨b, off, e, Nat.lt_of_lt_of_le hlt hb0.size, fun i l j hi hj => (hb0.cell (p := ⟨b, _, none⟩) hlt).trans (hcc i l j hi hj)⟩
    · obtain ⟨h1, h2, h3⟩ := hL.2.2 l hl
      exact ⟨Lists.mono (Lists.kept h1 (Kept.of_below hb0 (Nat.le_refl _))) (Nat.le_refl _) hb0.size, h2, h3⟩)
  have HA := Lib.hid (hA.below hb0)
  have HT := Lib.hid T0
  have HB0 := Lib.hid hb0
  have HV0 := Lib.hid hv0
  have HC := Lib.hid hc.1
  clear hL hA hT hc hb0 hv0 T0
  refine (callsIn_wide (n := 5)).1 ?_
  refine callsIn_of_wp_marks Tryz.func3 rfl trivial ?_ rfl
  simp only [Tryz.ntmps3, List.size_toArray, List.length_cons, List.length_nil, Nat.reduceAdd, Nat.reduceSub, Array.replicate_succ, Array.replicate_zero, List.push_toArray, List.append_toArray, List.nil_append, List.cons_append]
  refine wpIn_wide.2 ?_
  go_upto_region 1 with fail
  rw [← HV0.out]
  clear HV0
  go_wp2_with fail
  refine AL0.out.mono ?_
  rintro e w1 ⟨rfl, hb1⟩
  have HL1 := Lib.hid (show LS w1 w1.heap.size A n ls from by
    refine ⟨HL.out.1, fun h0 => ?_, fun l hl => ?_⟩
    · obtain ⟨b, off, e, hlt, hcc⟩ := HL.out.2.1 h0
      exact ⟨b, off, e, Nat.lt_of_lt_of_le hlt hb1.size, fun i l j hi hj => (hb1.cell (p := ⟨b, _, none⟩) hlt).trans (hcc i l j hi hj)⟩
    · obtain ⟨h1, h2, h3⟩ := HL.out.2.2 l hl
      exact ⟨Lists.mono (Lists.kept h1 (Kept.of_below hb1 (Nat.le_refl _))) (Nat.le_refl _) hb1.size, h2, h3⟩)
  have HG := Lib.hid (great_any A n c ls w1 HL1.out hn)
  have HA1 := Lib.hid (HA.out.below (hb1.mono HB0.out.size))
  have HT1 := Lib.hid (HT.out.below hb1 HT.out.pos)
  have HB1 := Lib.hid (HB0.out.trans (hb1.mono HB0.out.size))
  have HR1 := Lib.hid ((hb1.block _ HRS.out.lt).trans HRS.out)
  clear hb1 HL HA HT AL0 HB0
  go_wp2_with fail
  refine HG.out.mono ?_
  rintro e w2 ⟨rfl, hb2⟩
  have HB2 := Lib.hid (HB1.out.trans (hb2.mono HB1.out.size))
  have HT2 := Lib.hid (HT1.out.below hb2 HT1.out.pos)
  have HR2 := Lib.hid (show Boxed w2 w.heap.size 4 (.bool false) from (hb2.block _ (Boxed.lt HR1.out)).trans HR1.out)
  by_cases hg : ls.any wide = true ∨ 60 < n1
  · have AL := Lib.hid (ialive_any w2 HT2.out)
    obtain ⟨gb, hgb⟩ : ∃ gb : Bool, gb = ls.any wide := ⟨_, rfl⟩
    rw [← hgb] at hg ⊢
    clear hgb HG hb2
    have hg2 : gb = true ∨ (gb = false ∧ 60 < n1) := by cases gb <;> simp_all
    clear hg
    rcases hg2 with rfl | ⟨rfl, hn1⟩
    · go_wp2_with fail
      refine AL.out.mono ?_
      rintro e w3 ⟨rfl, hb3⟩
      have b3 := HB2.out.trans (hb3.mono HB2.out.size)
      have bR3 : Boxed w3 w.heap.size 4 (.bool false) := (hb3.block _ HR2.out.lt).trans HR2.out
      have cR := bR3.cell
      have fR := bR3.frozen
      have HB3 := Lib.hid b3
      have HR3 := Lib.hid bR3
      clear hb3 b3 bR3
      go_wp2_with fail
      have hc1 : (w3.setCell ⟨w.heap.size, 0, none⟩ (.bool true)).cell? ⟨w.heap.size, 0, none⟩ = some (.bool true) := World.cell?_setCell_same' _ _ _ (by rw [cR]; rfl)
      refine ⟨.bool true, ?_, rfl, HB3.out.setCell (p := ⟨w.heap.size, 0, none⟩) (Nat.le_refl _) _⟩
      simp [results, Tryz.f3, go_sem, hc1]
    · have d1 : decide ((60 : Int) < (n1 : Int)) = true := by simp; omega
      go_wp2_with fail
      refine AL.out.mono ?_
      rintro e w3 ⟨rfl, hb3⟩
      have b3 := HB2.out.trans (hb3.mono HB2.out.size)
      have bR3 : Boxed w3 w.heap.size 4 (.bool false) := (hb3.block _ HR2.out.lt).trans HR2.out
      have cR := bR3.cell
      have fR := bR3.frozen
      have HB3 := Lib.hid b3
      have HR3 := Lib.hid bR3
      clear hb3 b3 bR3
      go_wp2_with fail
      have hc1 : (w3.setCell ⟨w.heap.size, 0, none⟩ (.bool true)).cell? ⟨w.heap.size, 0, none⟩ = some (.bool true) := World.cell?_setCell_same' _ _ _ (by rw [cR]; rfl)
      refine ⟨.bool true, ?_, rfl, HB3.out.setCell (p := ⟨w.heap.size, 0, none⟩) (Nat.le_refl _) _⟩
      simp [results, Tryz.f3, go_sem, hc1]
  · have hg1 : ls.any wide = false := by
      cases h : ls.any wide
      · rfl
      · exact absurd (.inl h) hg
    have hn1 : n1 ≤ 60 := by
      rcases Nat.lt_or_ge 60 n1 with h | h
      · exact absurd (.inr h) hg
      · exact h
    have hnm := not_wide hg1
    rw [hg1]
    have d1 : decide ((60 : Int) < (n1 : Int)) = false := by simp; omega
    have CM := made_any A n c ls w2 (by
      refine ⟨HL1.out.1, fun h0 => ?_, fun l hl => ?_⟩
      · obtain ⟨b, off, e, hlt, hcc⟩ := HL1.out.2.1 h0
        exact ⟨b, off, e, Nat.lt_of_lt_of_le hlt hb2.size, fun i l j hi hj => (hb2.cell (p := ⟨b, _, none⟩) hlt).trans (hcc i l j hi hj)⟩
      · obtain ⟨h1, h2, h3⟩ := HL1.out.2.2 l hl
        exact ⟨Lists.mono (Lists.kept h1 (Kept.of_below hb2 (Nat.le_refl _))) (Nat.le_refl _) hb2.size, h2, h3⟩) (fun l hl => by have := hnm l hl; omega) HC.out HT2.out
    have HCM := Lib.hid CM
    have HA2 := Lib.hid (HA1.out.below (hb2.mono HB1.out.size))
    clear hg hg1 hnm HG hb2 CM HL1 HA1 HT1 HB1
    go_wp2_with fail
    refine HCM.out.mono ?_
    rintro e w4 ⟨I, J, rfl, -, hM4⟩
    obtain ⟨Dl, hDl⟩ : ∃ Dl : List LD, Dl = (pick 6 ls).map LV.ld := ⟨_, rfl⟩
    rw [← hDl] at hM4
    have HN7 := Lib.hid (hM4.new (Nat.le_refl _))
    have HM4 := Lib.hid (hM4.later ((Below.refl _ _).alloc (Nat.le_refl _) (.cells #[.pointer (some ⟨J.m, 0, none⟩)] 28)))
    have HX7 := Lib.hid (Boxed.new w4 28 (.pointer (some ⟨J.m, 0, none⟩)))
    obtain ⟨b7, hb7⟩ : ∃ b7, b7 = w4.heap.size := ⟨_, rfl⟩
    rw [← hb7] at HN7 HX7
    have HB7 := Lib.hid hb7
    clear hM4 hDl HCM hb7
    go_upto_region 4 with fail
    rw [← HB7.out]
    go_wp2_with fail
    go_loopw [47] (fun v wr => ∃ (j : Nat) (f : Nat → Nat), j ≤ n1 ∧ v = .int .i64 j ∧ Ms w2 wr I J (cf5 Dl) f f ∧ Boxed wr b7 28 (.pointer (some ⟨J.m, 0, none⟩))) (fun v _ => n1 - (intOf v).toNat)
    case atStart => exact ⟨0, _, Nat.zero_le _, rfl, HM4.out, HX7.out⟩
    case round =>
      clear HM4 HX7 HB7
      obtain ⟨j, f, hj, rfl, hM, hX⟩ := hrel
      have HXr := Lib.hid hX
      by_cases hlt : j < n1
      · obtain ⟨ba, oa, v, rfl, hba, hjl, hvo, e0, e1, e2, e3, e4, e5, e6, e7, e8, e9⟩ := HA2.out.at_ hlt
        have hba2 : ba < w2.heap.size := by have := HB2.out.size; omega
        have c0 := (hM.bel.cell (p := ⟨ba, oa + j * 10, none⟩) hba2).trans e0
        have c1 := (hM.bel.cell (p := ⟨ba, oa + j * 10 + 1, none⟩) hba2).trans e1
        have c2 := (hM.bel.cell (p := ⟨ba, oa + j * 10 + 2, none⟩) hba2).trans e2
        have c3 := (hM.bel.cell (p := ⟨ba, oa + j * 10 + 3, none⟩) hba2).trans e3
        have c4 := (hM.bel.cell (p := ⟨ba, oa + j * 10 + 4, none⟩) hba2).trans e4
        have c5 := (hM.bel.cell (p := ⟨ba, oa + j * 10 + 5, none⟩) hba2).trans e5
        have c6 := (hM.bel.cell (p := ⟨ba, oa + j * 10 + 6, none⟩) hba2).trans e6
        have c7 := (hM.bel.cell (p := ⟨ba, oa + j * 10 + 7, none⟩) hba2).trans e7
        have c8 := (hM.bel.cell (p := ⟨ba, oa + j * 10 + 8, none⟩) hba2).trans e8
        have c9 := (hM.bel.cell (p := ⟨ba, oa + j * 10 + 9, none⟩) hba2).trans e9
        obtain ⟨wb, hwb⟩ : ∃ wb, wb = wr.alloc (.cells #[.int .i64 v.k, .int .i64 v.a, .int .i64 v.p, .int .i64 v.L, .int .i64 v.C, .int .i64 v.S, .int .u64 v.x, .int .i64 v.K, .int .i64 v.J, .int .i64 v.G] 39) := ⟨_, rfl⟩
        have hbb : Below wr.heap.size wr wb := by rw [hwb]; exact (Below.refl _ _).alloc (Nat.le_refl _) _
        have XA : Whole wb wr.heap.size 39 #[.int .i64 v.k, .int .i64 v.a, .int .i64 v.p, .int .i64 v.L, .int .i64 v.C, .int .i64 v.S, .int .u64 v.x, .int .i64 v.K, .int .i64 v.J, .int .i64 v.G] := by rw [hwb]; exact Whole.fresh _ _ _
        have CD := do_any (hM.later hbb) v hvo
        have k0 : wb.cell? ⟨wr.heap.size, 0, none⟩ = some (.int .i64 v.k) := XA.cell 0
        have k1 : wb.cell? ⟨wr.heap.size, 1, none⟩ = some (.int .i64 v.a) := XA.cell 1
        have k2 : wb.cell? ⟨wr.heap.size, 2, none⟩ = some (.int .i64 v.p) := XA.cell 2
        have k3 : wb.cell? ⟨wr.heap.size, 3, none⟩ = some (.int .i64 v.L) := XA.cell 3
        have k4 : wb.cell? ⟨wr.heap.size, 4, none⟩ = some (.int .i64 v.C) := XA.cell 4
        have k5 : wb.cell? ⟨wr.heap.size, 5, none⟩ = some (.int .i64 v.S) := XA.cell 5
        have k6 : wb.cell? ⟨wr.heap.size, 6, none⟩ = some (.int .u64 v.x) := XA.cell 6
        have k7 : wb.cell? ⟨wr.heap.size, 7, none⟩ = some (.int .i64 v.K) := XA.cell 7
        have k8 : wb.cell? ⟨wr.heap.size, 8, none⟩ = some (.int .i64 v.J) := XA.cell 8
        have k9 : wb.cell? ⟨wr.heap.size, 9, none⟩ = some (.int .i64 v.G) := XA.cell 9
        have HXB := Lib.hid ((hbb.block _ hX.lt).trans hX : Boxed wb b7 28 (.pointer (some ⟨J.m, 0, none⟩)))
        have c7b := Boxed.cell HXB.out
        have HCD := Lib.hid CD
        have HWB := Lib.hid hwb
        clear e0 e1 e2 e3 e4 e5 e6 e7 e8 e9 hM hbb XA hwb hjl hvo CD hba hba2
        go_upto_region 9 with fail
        rw [← HWB.out]
        clear HWB c0 c1 c2 c3 c4 c5 c6 c7 c8 c9
        go_wp2_with fail
        refine HCD.out.mono ?_
        rintro e w6 ⟨rfl, hM6, hF6⟩
        have HM6 := Lib.hid hM6
        have HX6 := Lib.hid (hF6.whole (c := b7) HXB.out (by unfold Both; rw [List.mem_append]; exact fun h => h.elim HN7.out.1 HN7.out.2))
        clear hM6 hF6 c7b HCD k0 k1 k2 k3 k4 k5 k6 k7 k8 k9
        go_wp2_with fail
        go_roundw
        case rel => exact ⟨j + 1, _, by omega, by go_num, HM6.out, HX6.out⟩
        case measure => simp [intOf]; omega
      · have c7 := Boxed.cell hX
        have jm0 : wr.cell? ⟨J.m, 0, none⟩ = some (.pointer (some ⟨J.R.m, 0, none⟩)) := hM.dc.box.cell 0
        have jw : wr.cell? ⟨J.R.m, 0, none⟩ = some (.slice (some ⟨J.R.p, 0, none⟩) 48 48) := hM.dc.rf.words
        have HM := Lib.hid hM
        have HXr := Lib.hid hX
        clear hM hX HA2
        go_wp2_with fail
        clear c7 jm0 jw hlt hj
        refine wp_loop (AcInv A n c A1 n1 c1 w.heap.size b7 I J wr) acMu (acInv_of _ _ 0 [] (by omega) (Below.refl _ _) ⟨List.nodup_nil, fun _ h => by cases h⟩ (by kernel_rfl)) (fun a wx hI => ?_)
        obtain ⟨k, Ds, u, hk, hbx, hmk, rfl⟩ := hI
        by_cases hlt : k < 48
        · have hMx := HM.out.later hbx
          have hwk : wx.cell? ⟨J.R.p, k, none⟩ = some (.int .u64 (f k : Nat)) := hMx.dc.rf.wrow.cell k hlt
          have hX7 : Boxed wx b7 28 (.pointer (some ⟨J.m, 0, none⟩)) := (hbx.block _ (Boxed.lt HXr.out)).trans HXr.out
          obtain ⟨ba, hba⟩ : ∃ ba, ba = wx.heap.size := ⟨_, rfl⟩
          obtain ⟨v1, hv1⟩ : ∃ v1, v1 = wx.alloc (.cells #[.int .i64 (k : Int)] 3) := ⟨_, rfl⟩
          have bv1 : Below wx.heap.size wx v1 := by rw [hv1]; exact (Below.refl _ _).alloc (Nat.le_refl _) _
          have xa1 : Boxed v1 ba 3 (.int .i64 (k : Int)) := by rw [hv1, hba]; exact Boxed.new _ _ _
          have x71 := (bv1.block _ hX7.lt).trans hX7
          have c10 := Boxed.cell xa1
          have CA := Lib.hid (iat_any (hMx.later bv1).im (k : Int))
          have HV1 := Lib.hid hv1
          have HBA := Lib.hid hba
          have HB1x := Lib.hid bv1
          have HA1x := Lib.hid xa1
          have H71 := Lib.hid (show Boxed v1 b7 28 (.pointer (some ⟨J.m, 0, none⟩)) from x71)
          have HMX := Lib.hid hMx
          have HBX := Lib.hid hbx
          have HMK := Lib.hid hmk
          have HWL := Lib.hid hMx.im.st.wlt
          have sz1 : wx.heap.size < v1.heap.size := by rw [hv1]; simp
          clear hMx hX7 bv1 xa1 x71 hbx hmk hv1 hba
          go_upto_region 15 with fail
          rw [← HV1.out, ← HBA.out]
          clear HV1 hwk
          go_wp2_with fail
          refine CA.out.mono ?_
          rintro e v2 ⟨rfl, hb2⟩
          obtain ⟨l1, h1⟩ : ∃ z, z = IM.atL (cf5 Dl) f (k : Int) := ⟨_, rfl⟩
          obtain ⟨l2, h2⟩ : ∃ z, z = IM.atC (cf5 Dl) f (k : Int) := ⟨_, rfl⟩
          obtain ⟨l3, h3⟩ : ∃ z, z = IM.atS (cf5 Dl) f (k : Int) := ⟨_, rfl⟩
          obtain ⟨nn, h4⟩ : ∃ z, z = IM.atN (cf5 Dl) f (k : Int) := ⟨_, rfl⟩
          obtain ⟨ee, h5⟩ : ∃ z, z = IM.atE (cf5 Dl) f (k : Int) := ⟨_, rfl⟩
          obtain ⟨v3, hv3⟩ : ∃ v3, v3 = v2.alloc (.cells #[.int .i64 l1, .int .i64 l2, .int .i64 l3] 32) := ⟨_, rfl⟩
          have bv3 : Below v1.heap.size v1 v3 := by rw [hv3]; exact hb2.alloc hb2.size _
          have CR := rimat_any (HMX.out.later (HB1x.out.trans (bv3.mono HB1x.out.size))).dc (k : Int) (by unfold I64; omega) HWL.out
          rw [← h1, ← h2, ← h3, ← h4, ← h5] at CR ⊢
          have O3 := Lib.hid (show Whole v3 v2.heap.size 32 #[.int .i64 l1, .int .i64 l2, .int .i64 l3] by rw [hv3]; exact Whole.fresh _ _ _)
          have HCR := Lib.hid CR
          have c7 := Boxed.cell ((bv3.block _ (Boxed.lt H71.out)).trans H71.out)
          have c10b := Boxed.cell ((bv3.block _ (Boxed.lt HA1x.out)).trans HA1x.out)
          have HV3 := Lib.hid hv3
          have HB3 := Lib.hid bv3
          clear CR hb2 hv3 bv3 h1 h2 h3 h4 h5 CA c10
          go_upto_region 16 with fail
          rw [← HV3.out]
          clear HV3
          go_wp2_with fail
          refine HCR.out.mono ?_
          rintro e v4 ⟨rfl, hb4⟩
          obtain ⟨v5, hv5⟩ : ∃ v5, v5 = v4.alloc (.cells #[.int .i64 l1, .int .i64 l2, .int .i64 l3] 32) := ⟨_, rfl⟩
          have bv5 : Below v3.heap.size v3 v5 := by rw [hv5]; exact hb4.alloc hb4.size _
          obtain ⟨o0, o1, o2⟩ := (O3.out.below bv5 O3.out.lt).cells3
          obtain ⟨p0, p1, p2⟩ := (show Whole v5 v4.heap.size 32 #[.int .i64 l1, .int .i64 l2, .int .i64 l3] by rw [hv5]; exact Whole.fresh _ _ _).cells3
          have HV5 := Lib.hid hv5
          have HB15 := Lib.hid (HB3.out.trans (bv5.mono HB3.out.size))
          have HB5 := Lib.hid (HB1x.out.trans ((HB3.out.trans (bv5.mono HB3.out.size)).mono HB1x.out.size))
          clear hb4 hv5 bv5 HCR O3 c7 c10b
          go_upto_region 17 with fail
          rw [← HV5.out]
          clear HV5
          go_upto_region 19 with fail
          clear o0 o1 o2 p0 p1 p2
          have xa5 : Boxed v5 ba 3 (.int .i64 (k : Int)) := (HB15.out.block _ (Boxed.lt HA1x.out)).trans HA1x.out
          have x75 : Boxed v5 b7 28 (.pointer (some ⟨J.m, 0, none⟩)) := (HB15.out.block _ (Boxed.lt H71.out)).trans H71.out
          have M5 := HMX.out.later HB5.out
          obtain ⟨v6, hv6⟩ : ∃ v6, v6 = v5.alloc (.cells #[.slice none 0 0] 42) := ⟨_, rfl⟩
          have bv6 : Below v5.heap.size v5 v6 := by rw [hv6]; exact (Below.refl _ _).alloc (Nat.le_refl _) _
          have s6 : v6.heap.size = v5.heap.size + 1 := by rw [hv6]; simp
          have x18 : Boxed v6 v5.heap.size 42 (.slice none 0 0) := by rw [hv6]; exact Boxed.new _ _ _
          obtain ⟨v7, hv7⟩ : ∃ v7, v7 = (v6.alloc (.cells #[.pointer (some ⟨I.p, 0, none⟩)] 27)).alloc (.cells #[.int .i64 (k : Int)] 3) := ⟨_, rfl⟩
          have bv7 : Below v6.heap.size v6 v7 := by rw [hv7]; exact ((Below.refl _ _).alloc (Nat.le_refl _) _).alloc (by simp) _
          have s7 : v7.heap.size = v5.heap.size + 3 := by rw [hv7]; simp; omega
          have x1 : Boxed v7 v6.heap.size 27 (.pointer (some ⟨I.p, 0, none⟩)) := by rw [hv7]; exact (Boxed.new _ _ _).alloc _
          have x2 : Boxed v7 (v6.heap.size + 1) 3 (.int .i64 (k : Int)) := by
            have := Boxed.new (v6.alloc (.cells #[.pointer (some ⟨I.p, 0, none⟩)] 27)) 3 (.int .i64 (k : Int))
            rw [World.size_alloc, ← hv7] at this
            exact this
          have b57 : Below v5.heap.size v5 v7 := bv6.trans (bv7.mono bv6.size)
          have SQ := links_ownH 4 (by decide) v6.heap.size (v6.heap.size + 1) v5.heap.size I (cf5 Dl) f (k : Int) v7 x1 x2 (M5.later b57).im M5.im.under (by omega)
          rw [s6] at SQ
          rw [s7] at SQ
          have hAI : ∀ hi, AcI v5 v5.heap.size hi [] v7 := fun hi => ⟨⟨_, (bv7.block _ (Boxed.lt x18)).trans x18, World.ownsRow_nil _ _ _ _, trivial⟩, b57⟩
          have c10 := Boxed.cell ((bv6.block _ (Boxed.lt xa5)).trans xa5)
          have HV6 := Lib.hid hv6
          have HV7 := Lib.hid hv7
          have HSQ := Lib.hid SQ
          have HAI := Lib.hid hAI
          have HSZ := Lib.hid (And.intro s6 s7)
          have HM5 := Lib.hid M5
          have HA5 := Lib.hid xa5
          have H75 := Lib.hid x75
          clear xa5 x75 M5 hv6 bv6 s6 x18 hv7 bv7 s7 x1 x2 b57 SQ hAI HB15 HA1x H71 HB1x HB3
          go_upto_region 20 with fail
          rw [← HV6.out]
          clear HV6
          go_wp2_with fail
          refine ((callsIn_wide (n := 5)).1 (ilinks_in 5 _ _ _)).mono ?_
          rintro e w9 ⟨rfl, rfl⟩
          rw [← HV7.out]
          clear HV7 c10
          go_wp2_with fail
          refine (wpIn_wide (n := 5)).1 ?_
          have hsz := HSZ.out
          refine wpIn_range_twoH 19 20 (by decide) (gf := 40) (lb := #[.pointer (some ⟨v5.heap.size + 1, 0, none⟩), .pointer (some ⟨v5.heap.size + 1 + 1, 0, none⟩)]) (by rw [hsz.1]; rfl) (enters_of Tryz.func40 (by kernel_rfl) rfl) (v1 := fun x : LkE => .int .i64 x.p) (v2 := fun x : LkE => .agg #[.int .i64 x.K, .int .i64 x.I, .int .i64 x.G]) (fun x : LkE => #[.int .i64 x.K, .int .i64 x.I, .int .i64 x.G]) 37
            HSQ.out (fun _ _ _ _ h k => kh_t h k) (by rw [hsz.2]; exact fun hi W r r' h => kh_b (by omega) (by omega) (by omega) W r r' h) (by rw [hsz.2]; exact fun hi W o h1 h2 => Kh.of_below ((Below.refl _ _).alloc (Nat.le_refl _) o) (by omega) h2) (Below.refl _ _) (AcI v5 v5.heap.size) (fun _ _ _ _ => False) (fun _ => ac_own (by omega)) (fun _ _ _ _ _ _ hs _ _ => hs) HAI.out
            ?assign ?body ?done ?stop
          case stop =>
            rintro D hi c pre W _ h _
            exact h.elim
          case assign =>
            intro l2 x W K hK
            have HK := Lib.hid hK
            clear hK hsz
            gi_wp2
            exact HK.out
          case body =>
            rintro l2 hi pre x bx W hlo hup ⟨⟨v, hv, hrow, -⟩, hbw⟩ hX hpre
            obtain ⟨i0, hi0, hz0, hz1, hz2⟩ := info_parts infoInt
            have hlen : pre.length ≤ 1000000 := by
              have h1 := hpre.length_le
              have h2 := refs_len (cf5 Dl) f (k : Int)
              unfold allLk at h1
              simp at h1
              omega
            obtain ⟨p, -, rfl⟩ : ∃ p, p ∈ IM.refs (cf5 Dl) f (k : Int) ∧ lkAt (cf5 Dl) f (k : Int) p = x := List.mem_map.1 (hpre.subset (by simp))
            have CF := rfollow_any (HM5.out.later hbw).dc (k : Int) p (by unfold I64; omega) HWL.out
            have c7 := Boxed.cell ((hbw.block _ (Boxed.lt H75.out)).trans H75.out)
            have c10 := Boxed.cell ((hbw.block _ (Boxed.lt HA5.out)).trans HA5.out)
            rw [hsz.2] at hlo ⊢
            clear hsz
            unfold FolIs LinkIs at CF
            unfold lkAt at hX hpre ⊢
            dsimp only at hX
            generalize IM.flK (cf5 Dl) f (k : Int) p = fK at *
            generalize IM.flI (cf5 Dl) f (k : Int) p = fI at *
            generalize IM.flG (cf5 Dl) f (k : Int) p = fG at *
            generalize IM.flE (cf5 Dl) f (k : Int) p = fE at *
            have HCF := Lib.hid CF
            have HXW := Lib.hid hX
            have HV := Lib.hid hv
            have HROW := Lib.hid hrow
            have HBW := Lib.hid hbw
            clear CF hX hpre hv hrow hbw
            dsimp only
            gi_wp2_with fail
            refine ⟨trivial, ?_⟩
            refine (CallsIn.inRound l2 (callsIn_wide.2 HCF.out)).mono ?_
            rintro e W2 ⟨rfl, hb2⟩
            obtain ⟨W3, hW3⟩ : ∃ W3, W3 = W2.alloc (.cells #[.int .i64 fK, .int .i64 fI, .int .i64 fG] 37) := ⟨_, rfl⟩
            have hb3 : Below W.heap.size W W3 := by rw [hW3]; exact hb2.alloc hb2.size _
            obtain ⟨o0, o1, o2⟩ := (HXW.out.below hb3 HXW.out.lt).cells3
            obtain ⟨p0, p1, p2⟩ := (show Whole W3 W2.heap.size 37 #[.int .i64 fK, .int .i64 fI, .int .i64 fG] by rw [hW3]; exact Whole.fresh _ _ _).cells3
            have c18 := Boxed.cell ((hb3.block _ (Boxed.lt HV.out)).trans HV.out)
            have HROW3 := Lib.hid (ownsRow_below HROW.out hb3)
            have HB3 := Lib.hid hb3
            have hs3 := hb3.size
            clear hb2 hb3 HCF
            have HW3 := Lib.hid hW3
            clear hW3
            gi_upto_region 24 with fail
            rw [← HW3.out]
            gi_wp2_with (gi_at_builtin; refine wpListIn_append_own _ rfl _ _ 42 rfl hi 3 i0 (.int .i64 0) 1 8 Tryz.underlying42 hi0 hz0 hz1 hz2 rfl (by decide) _ _ _ rfl (HROW3.out.alloc _) ⟨W3.heap.size, 0, none⟩ 1 1 [.int .i64 p] rfl rfl (cell_one_new _ _ _) (by simp [Value.oneCell']) (by unfold maxLen; omega) (by omega) (by simp; omega) ?_; intro v' w1 hown' hgrow _; obtain ⟨g', cap', rfl⟩ := ownsRow_succ hown'; obtain ⟨hv1, hk1, hz1', hAI1⟩ := ac_round (x := ⟨p, fK, fI, fG⟩) (b1 := v5.heap.size + 1) (b2 := v5.heap.size + 1 + 1) (z1 := .pointer (some ⟨I.p, 0, none⟩)) (z2 := .int .i64 (k : Int)) hlo hup (by omega) (by omega) ⟨by omega, by omega, by omega, by omega⟩ HV.out HROW.out HBW.out HB3.out hown' hgrow; have hc1 := Boxed.cell hv1; have hf1 := Boxed.frozen hv1)
            exact ⟨hk1, hz1', hAI1⟩
          case done =>
            rintro D hi W hD ⟨⟨u1, hv, hrow, -⟩, hbw⟩ hK
            have hD5 : v5.heap.size + 3 ≤ D := by omega
            have hrl : (allLk (cf5 Dl) f (k : Int)).length = (IM.refs (cf5 Dl) f (k : Int)).length := by unfold allLk; simp
            have hR8 := refs_len (cf5 Dl) f (k : Int)
            rw [plV_refs, hrl] at hrow
            have MW := HM5.out.later hbw
            have CSL := rslots_any MW.drew.dc (k : Int) (by unfold I64; omega) HWL.out
            have hwf : ∀ y ∈ IM.refs (cf5 Dl) f (k : Int), (Lit.int .i64 y).wf = true := fun y hy => wf_small (refs_in hy).1 (by have := (refs_in hy).2; omega)
            obtain ⟨R, hR⟩ : ∃ R, R = IM.refs (cf5 Dl) f (k : Int) := ⟨_, rfl⟩
            rw [← hR] at hrow hR8 CSL hwf
            obtain ⟨Bv, ev, rfl, hNS⟩ := ns_owns hrow hwf
            have CRD := read_any MW.im.st (k : Int)
            obtain ⟨er, her⟩ : ∃ z, z = addrE (cf5 Dl).own (cf5 Dl).C (cf5 Dl).K (k : Int) := ⟨_, rfl⟩
            obtain ⟨xv, hxv⟩ : ∃ z, z = readV (cf5 Dl).own f (cf5 Dl).C (cf5 Dl).K (k : Int) := ⟨_, rfl⟩
            rw [← her, ← hxv] at CRD
            have hadc : er = 0 ∨ er = 17 ∨ er = 3 := by rw [her]; exact ad_cases (cf5 Dl) (k : Int)
            have hx0 : er = 0 → xv = f k := fun h => by rw [hxv]; unfold readV; rw [if_pos (her.symm.trans h), Int.toNat_natCast]
            have c18 := Boxed.cell hv
            have h7W : Boxed W b7 28 (.pointer (some ⟨J.m, 0, none⟩)) := (hbw.block _ (Boxed.lt H75.out)).trans H75.out
            have haW : Boxed W ba 3 (.int .i64 (k : Int)) := (hbw.block _ (Boxed.lt HA5.out)).trans HA5.out
            have c7 := h7W.cell
            have c10 := haW.cell
            have HCE := Lib.hid (show ∀ X : World, Below W.heap.size W X → X.cell? ⟨v5.heap.size, 0, none⟩ = some (.slice Bv R.length ev) ∧ X.cell? ⟨b7, 0, none⟩ = some (.pointer (some ⟨J.m, 0, none⟩)) ∧ X.cell? ⟨ba, 0, none⟩ = some (.int .i64 (k : Int)) from fun X hb =>
              ⟨Boxed.cell ((hb.block _ hv.lt).trans hv), Boxed.cell ((hb.block _ h7W.lt).trans h7W), Boxed.cell ((hb.block _ haW.lt).trans haW)⟩)
            have HSM := Lib.hid (show ∀ (X : World) (A2 : Option Addr) (c2 : Nat), Below W.heap.size W X → NS .i64 X X.heap.size A2 R.length R → Calls Tryz.prog 14 #[.slice Bv R.length ev, .slice A2 R.length c2] X fun e w' => e = .returned (.bool true) ∧ ∃ m, w' = X.drewN m from fun X A2 c2 hb h2 =>
              sameI_any Bv R.length ev A2 c2 R W.heap.size X.heap.size X (by omega) (hNS.below hb) h2)
            have HCS := Lib.hid CSL
            have HCR := Lib.hid CRD
            have HWF := Lib.hid hwf
            have HBW := Lib.hid hbw
            have HKD := Lib.hid hK
            obtain ⟨nR, hnR⟩ : ∃ z, z = R.length := ⟨_, rfl⟩
            clear hv hrow hbw hK hrl MW CSL hwf hNS CRD h7W haW hR HSQ HAI hD her hxv
            rw [← hnR] at HCE HSM c18
            have HNR := Lib.hid hnR
            clear hnR
            go_wp2_with fail
            refine HCR.out.mono ?_
            rintro e X1 ⟨rfl, rfl⟩
            have hways : (er = 0 ∧ xv = f k) ∨ (er == 0) = false := by
              rcases hadc with h | h
              · exact .inl ⟨h, hx0 h⟩
              · exact .inr (by rcases h with h | h <;> subst h <;> rfl)
            clear HCR hx0 hadc
            rcases hways with ⟨rfl, rfl⟩ | hne
            · go_upto_region 28 with fail
              go_region_held3 (fun w' => w'.cell? ⟨v5.heap.size, 0, none⟩ = some (.slice Bv nR ev) ∧ w'.cell? ⟨b7, 0, none⟩ = some (.pointer (some ⟨J.m, 0, none⟩)) ∧ w'.cell? ⟨ba, 0, none⟩ = some (.int .i64 (k : Int)))
                (first | (with_reducible exact HX2) | (with_reducible exact HX) | (with_reducible exact ⟨c18, c7, c10⟩) | exact ⟨c18, c7, c10⟩ | fail)
                (first
                  | (go_at_call 15; (with_reducible refine HCS.out.mono ?_); rintro e X8 ⟨u8, rfl, ho8, hb8⟩; obtain ⟨A8, c8, rfl, hN8⟩ := ns_owns ho8 HWF.out; rw [← HNR.out] at hN8 ⊢; have hb8' : Below W.heap.size W X8 := ⟨hb8.os, hb8.tape, hb8.output, hb8.size, hb8.block⟩; have HX := HCE.out _ hb8'; have HS8 := Lib.hid (HSM.out X8 A8 c8 hb8' hN8); have HB8 := Lib.hid hb8'; clear ho8 hb8 hN8 hb8')
                  | (go_at_call 14; (with_reducible refine HS8.out.mono ?_); rintro e X9 ⟨rfl, m9, rfl⟩; have HX2 := HCE.out _ (below_drewN HB8.out m9); have HB9 := Lib.hid (below_drewN HB8.out m9)))
              go_wp2_with fail
              have bE : Below wr.heap.size wr (X8.drewN m9) := HBX.out.trans (((HB5.out.trans ((HBW.out.trans (HB9.out.mono HBW.out.size)).mono HB5.out.size))).mono HBX.out.size)
              have hxD : ∀ E ∈ Ds, E < wx.heap.size := fun E hE => (Array.getElem?_eq_some_iff.1 (HMK.out.2 E hE).2).1
              have hD1 : wx.heap.size < D := by have := HB5.out.size; omega
              have mE : MarkOk wr.heap.size (D :: Ds) (X8.drewN m9) := MarkOk.cons (HMK.out.below (HB5.out.trans ((HBW.out.trans (HB9.out.mono HBW.out.size)).mono HB5.out.size))) (by have := HBX.out.size; omega) (fun h => by have := hxD D h; omega) ((HB9.out.block D (Array.getElem?_eq_some_iff.1 HKD.out).1).trans HKD.out)
              refine ⟨acInv_of _ _ (k + 1) (D :: Ds) (by omega) bE mE (by kernel_rfl), ?_⟩
              simp [acMu, intOf]
              omega
            · go_upto_region 28 with fail
              refine wp_region_noPanic ?_
              refine wp_region_held_drew (S := (fun w' => w'.cell? ⟨v5.heap.size, 0, none⟩ = some (.slice Bv nR ev) ∧ w'.cell? ⟨b7, 0, none⟩ = some (.pointer (some ⟨J.m, 0, none⟩)) ∧ w'.cell? ⟨ba, 0, none⟩ = some (.int .i64 (k : Int)))) (by kernel_rfl) ⟨c18, c7, c10⟩ (fun hHeld => ?_)
              refine wpAnyH_take (i := 0) (oi := { dst := some 123, op := Op.load 42 (Operand.tmp 18), type := 42, pos := "law.go:134", after := #[], guard := none }) (v := .slice Bv nR ev) rfl (by kernel_rfl) (by kernel_rfl) (by kernel_rfl) (fun _ _ _ h => h) (Or.inl ⟨by rfl, ?_⟩) hHeld ?_
              · intro w hSw
                try dsimp only at hSw
                obtain ⟨hs0, hs1, hs2⟩ := hSw
                go_simp
              try simp only [Act.put, List.setIfInBounds_toArray, List.set_cons_zero, List.set_cons_succ]
              refine wpAnyH_take (i := 1) (oi := { dst := some 124, op := Op.load 28 (Operand.tmp 7), type := 28, pos := "law.go:134", after := #[], guard := none }) (v := .pointer (some ⟨J.m, 0, none⟩)) rfl (by kernel_rfl) (by kernel_rfl) (by kernel_rfl) (fun _ _ _ h => h) (Or.inl ⟨by rfl, ?_⟩) hHeld ?_
              · intro w hSw
                try dsimp only at hSw
                obtain ⟨hs0, hs1, hs2⟩ := hSw
                go_simp
              try simp only [Act.put, List.setIfInBounds_toArray, List.set_cons_zero, List.set_cons_succ]
              refine wpAnyH_take (i := 2) (oi := { dst := some 125, op := Op.load 3 (Operand.tmp 10), type := 3, pos := "law.go:134", after := #[], guard := none }) (v := .int .i64 (k : Int)) rfl (by kernel_rfl) (by kernel_rfl) (by kernel_rfl) (fun _ _ _ h => h) (Or.inl ⟨by rfl, ?_⟩) hHeld ?_
              · intro w hSw
                try dsimp only at hSw
                obtain ⟨hs0, hs1, hs2⟩ := hSw
                go_simp
              try simp only [Act.put, List.setIfInBounds_toArray, List.set_cons_zero, List.set_cons_succ]
              refine wpAnyH_ready (rs := [3]) (by kernel_rfl) (by simp) ?_
              refine AllReadyH.cons (o := { dst := some 126, op := Op.call { callee := Callee.value (Operand.func 15), args := #[Operand.tmp 124, Operand.tmp 125], argTypes := #[28, 3] }, type := 42, pos := "law.go:134", after := #[{ on := 1, ground := Ground.data }, { on := 2, ground := Ground.data }], guard := none }) rfl (fun K hK => ?_) AllReadyH.nil
              go_simp
              (with_reducible refine HCS.out.mono ?_)
              rintro e X8 ⟨u8, rfl, ho8, hb8⟩
              obtain ⟨A8, c8, rfl, hN8⟩ := ns_owns ho8 HWF.out
              rw [← HNR.out] at hN8 ⊢
              have hb8' : Below W.heap.size W X8 := ⟨hb8.os, hb8.tape, hb8.output, hb8.size, hb8.block⟩
              have HX := HCE.out _ hb8'
              have HS8 := Lib.hid (HSM.out X8 A8 c8 hb8' hN8)
              have HB8 := Lib.hid hb8'
              clear ho8 hb8 hN8 hb8'
              go_wp2_with fail
              refine hK.out _ _ HX (fun hHeld => ?_)
              clear hK K
              try simp only [Act.put, List.setIfInBounds_toArray, List.set_cons_zero, List.set_cons_succ]
              refine wpAnyH_ready (rs := [4]) (by kernel_rfl) (by simp) ?_
              refine AllReadyH.cons (o := { dst := some 127, op := Op.call { callee := Callee.value (Operand.func 14), args := #[Operand.tmp 123, Operand.tmp 126], argTypes := #[42, 42] }, type := 4, pos := "law.go:134", after := #[{ on := 0, ground := Ground.data }, { on := 3, ground := Ground.data }, { on := 3, ground := Ground.chain }], guard := none }) rfl (fun K hK => ?_) AllReadyH.nil
              go_simp
              (with_reducible refine HS8.out.mono ?_)
              rintro e X9 ⟨rfl, m9, rfl⟩
              have HX2 := HCE.out _ (below_drewN HB8.out m9)
              have HB9 := Lib.hid (below_drewN HB8.out m9)
              go_wp2_with fail
              refine hK.out _ _ HX2 (fun hHeld => ?_)
              clear hK K
              try simp only [Act.put, List.setIfInBounds_toArray, List.set_cons_zero, List.set_cons_succ]
              refine wpAnyH_take (i := 5) (oi := { dst := some 128, op := Op.unOp UnOp.not 4 (Operand.tmp 127), type := 4, pos := "law.go:134", after := #[{ on := 4, ground := Ground.data }], guard := none }) (v := .bool false) rfl (by kernel_rfl) (by kernel_rfl) (by kernel_rfl) (fun _ _ _ h => h) (Or.inl ⟨by rfl, ?_⟩) hHeld ?_
              · intro w hSw
                try dsimp only at hSw
                go_simp
              try simp only [Act.put, List.setIfInBounds_toArray, List.set_cons_zero, List.set_cons_succ]
              refine wpAnyH_take (i := 6) (oi := { dst := some 129, op := Op.move (Operand.tmp 128), type := 4, pos := "law.go:134", after := #[{ on := 5, ground := Ground.data }, { on := 4, ground := Ground.chain }], guard := none }) (v := .bool false) rfl (by kernel_rfl) (by kernel_rfl) (by kernel_rfl) (fun _ _ _ h => h) (Or.inl ⟨by rfl, ?_⟩) hHeld ?_
              · intro w hSw
                try dsimp only at hSw
                go_simp
              try simp only [Act.put, List.setIfInBounds_toArray, List.set_cons_zero, List.set_cons_succ]
              refine wpAnyH_take (i := 7) (oi := { dst := some 130, op := Op.move (Operand.tmp 24), type := 48, pos := "law.go:134", after := #[{ on := 6, ground := Ground.guard }], guard := some (6, false) }) (v := .int .i64 er) rfl (by kernel_rfl) (by kernel_rfl) (by kernel_rfl) (fun _ _ _ h => h) (Or.inl ⟨by rfl, ?_⟩) hHeld ?_
              · intro w hSw
                try dsimp only at hSw
                go_simp
              try simp only [Act.put, List.setIfInBounds_toArray, List.set_cons_zero, List.set_cons_succ]
              refine wpAnyH_take (i := 8) (oi := { dst := some 131, op := Op.binOp BinOp.eql 48 (Operand.tmp 130) (Operand.const (Value.int IntKind.i64 0)) 48, type := 4, pos := "law.go:134", after := #[{ on := 7, ground := Ground.data }, { on := 6, ground := Ground.guard }], guard := some (6, false) }) (v := .bool false) rfl (by kernel_rfl) (by kernel_rfl) (by kernel_rfl) (fun _ _ _ h => h) (Or.inl ⟨by rfl, ?_⟩) hHeld ?_
              · intro w hSw
                try dsimp only at hSw
                go_simp
              try simp only [Act.put, List.setIfInBounds_toArray, List.set_cons_zero, List.set_cons_succ]
              refine wpAnyH_take (i := 9) (oi := { dst := some 132, op := Op.move (Operand.tmp 131), type := 4, pos := "law.go:134", after := #[{ on := 8, ground := Ground.data }, { on := 6, ground := Ground.chain }, { on := 6, ground := Ground.guard }], guard := some (6, false) }) (v := .bool false) rfl (by kernel_rfl) (by kernel_rfl) (by kernel_rfl) (fun _ _ _ h => h) (Or.inl ⟨by rfl, ?_⟩) hHeld ?_
              · intro w hSw
                try dsimp only at hSw
                go_simp
              try simp only [Act.put, List.setIfInBounds_toArray, List.set_cons_zero, List.set_cons_succ]
              refine wpAnyH_take (i := 10) (oi := { dst := some 133, op := Op.move (Operand.tmp 23), type := 33, pos := "law.go:134", after := #[{ on := 9, ground := Ground.guard }], guard := some (9, true) }) (v := undef) rfl (by kernel_rfl) (by kernel_rfl) (by kernel_rfl) (fun _ _ _ h => h) (Or.inr ⟨by rfl, rfl⟩) hHeld ?_
              try simp only [Act.put, List.setIfInBounds_toArray, List.set_cons_zero, List.set_cons_succ]
              refine wpAnyH_take (i := 11) (oi := { dst := some 134, op := Op.move (Operand.tmp 11), type := 33, pos := "law.go:134", after := #[{ on := 9, ground := Ground.guard }], guard := some (9, true) }) (v := undef) rfl (by kernel_rfl) (by kernel_rfl) (by kernel_rfl) (fun _ _ _ h => h) (Or.inr ⟨by rfl, rfl⟩) hHeld ?_
              try simp only [Act.put, List.setIfInBounds_toArray, List.set_cons_zero, List.set_cons_succ]
              refine wpAnyH_take (i := 12) (oi := { dst := some 135, op := Op.binOp BinOp.neq 33 (Operand.tmp 133) (Operand.tmp 134) 33, type := 4, pos := "law.go:134", after := #[{ on := 10, ground := Ground.data }, { on := 11, ground := Ground.data }, { on := 9, ground := Ground.guard }], guard := some (9, true) }) (v := undef) rfl (by kernel_rfl) (by kernel_rfl) (by kernel_rfl) (fun _ _ _ h => h) (Or.inr ⟨by rfl, rfl⟩) hHeld ?_
              try simp only [Act.put, List.setIfInBounds_toArray, List.set_cons_zero, List.set_cons_succ]
              refine wpAnyH_take (i := 13) (oi := { dst := some 136, op := Op.pick (Operand.tmp 132) (Operand.tmp 135) (Operand.const (Value.bool false)), type := 4, pos := "law.go:134", after := #[{ on := 9, ground := Ground.data }, { on := 12, ground := Ground.data }, { on := 6, ground := Ground.guard }], guard := some (6, false) }) (v := .bool false) rfl (by kernel_rfl) (by kernel_rfl) (by kernel_rfl) (fun _ _ _ h => h) (Or.inl ⟨by rfl, ?_⟩) hHeld ?_
              · intro w hSw
                try dsimp only at hSw
                go_simp
              try simp only [Act.put, List.setIfInBounds_toArray, List.set_cons_zero, List.set_cons_succ]
              refine wpAnyH_take (i := 14) (oi := { dst := some 137, op := Op.pick (Operand.tmp 129) (Operand.const (Value.bool true)) (Operand.tmp 136), type := 4, pos := "law.go:134", after := #[{ on := 6, ground := Ground.data }, { on := 13, ground := Ground.data }], guard := none }) (v := .bool false) rfl (by kernel_rfl) (by kernel_rfl) (by kernel_rfl) (fun _ _ _ h => h) (Or.inl ⟨by rfl, ?_⟩) hHeld ?_
              · intro w hSw
                try dsimp only at hSw
                go_simp
              try simp only [Act.put, List.setIfInBounds_toArray, List.set_cons_zero, List.set_cons_succ]
              refine wpAnyH_done (by kernel_rfl) ?_ _
              refine NoPanic.normal ?_
              go_wp2_with fail
              have bE : Below wr.heap.size wr (X8.drewN m9) := HBX.out.trans (((HB5.out.trans ((HBW.out.trans (HB9.out.mono HBW.out.size)).mono HB5.out.size))).mono HBX.out.size)
              have hxD : ∀ E ∈ Ds, E < wx.heap.size := fun E hE => (Array.getElem?_eq_some_iff.1 (HMK.out.2 E hE).2).1
              have hD1 : wx.heap.size < D := by have := HB5.out.size; omega
              have mE : MarkOk wr.heap.size (D :: Ds) (X8.drewN m9) := MarkOk.cons (HMK.out.below (HB5.out.trans ((HBW.out.trans (HB9.out.mono HBW.out.size)).mono HB5.out.size))) (by have := HBX.out.size; omega) (fun h => by have := hxD D h; omega) ((HB9.out.block D (Array.getElem?_eq_some_iff.1 HKD.out).1).trans HKD.out)
              refine ⟨acInv_of _ _ (k + 1) (D :: Ds) (by omega) bE mE (by kernel_rfl), ?_⟩
              simp [acMu, intOf]
              omega
        · have hb2x : Below w2.heap.size w2 wx := HM.out.bel.trans (hbx.mono HM.out.bel.size)
          have bR : Boxed wx w.heap.size 4 (.bool false) := (hb2x.block _ (Boxed.lt HR2.out)).trans HR2.out
          have cR := bR.cell
          have fR := bR.frozen
          have HBX := Lib.hid hb2x
          have HMK := Lib.hid hmk
          have HBR := Lib.hid bR
          have hwr : w.heap.size < wr.heap.size := Nat.lt_of_lt_of_le (Boxed.lt HR2.out) HM.out.bel.size
          clear hb2x bR hmk hbx
          go_wp2_with fail
          have hM2 : MarkOk wr.heap.size Ds (wx.setCell ⟨w.heap.size, 0, none⟩ (.bool true)) := ⟨HMK.out.1, fun D hD => ⟨(HMK.out.2 D hD).1, (KeepsOthers.setCell wx ⟨w.heap.size, 0, none⟩ (.bool true)).same D _ (HMK.out.2 D hD).2 rfl⟩⟩
          refine leaves_marks Ds _ hM2 fun w' ht => ?_
          have hb' : (wx.setCell ⟨w.heap.size, 0, none⟩ (.bool true)).heap[w.heap.size]? = some (.cells #[.bool true] 4 (0, 0)) := HBR.out.set (.bool true)
          have hc1 : w'.cell? ⟨w.heap.size, 0, none⟩ = some (.bool true) := Boxed.cell (t := 4) (ht.cells _ _ hb' rfl)
          refine ⟨.bool true, ?_, rfl, ?_⟩
          · simp [results, Tryz.f3, go_sem, hc1]
          · exact ((HB2.out.trans (HBX.out.mono HB2.out.size)).setCell (p := ⟨w.heap.size, 0, none⟩) (Nat.le_refl _) _).trans (ht.bel.mono (Nat.le_of_lt hwr))
end Go.Proofs.YteneadimchhhhaaGreatDoor
