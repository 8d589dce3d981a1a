/- The law BumpActs: each answer is the document's, and what both spaces have, and who owns each chunk. -/
import Derived.Test.YteencfldehcbbaaDoorBpTold
namespace Go.Proofs.YteencfldehcbbaaDoor
open Go.RowKit Go.Sort BP
set_option linter.unusedVariables false

set_option maxHeartbeats 8000000 in
set_option maxRecDepth 100000 in
theorem bacts_walk (m : Int) (A : Option Addr) (n c : Nat) (l : List (Int × Int × Int × Bool)) (w : World) (hm : -9223372036854775808 ≤ m ∧ m ≤ 9223372036854775807) (hl : FA w w.heap.size A n l) (hnc : n ≤ c) (hT : Tab w) :
    Calls Tryd.prog 3 #[.int .i64 m, .slice A n c] w fun e w' => e = .returned (.bool true) ∧ Below w.heap.size w w' := by
  obtain ⟨K, hK1, hK2, hk⟩ := sizeK m 10 (by decide) (by decide)
  have HM := Lib.hid (fun W (hb : Below w.heap.size w W) => (show Calls Tryd.prog 11 #[.int .i64 16, .int .i64 (K : Nat)] W (BMadePost 16 K W) from made_ok 16 K W (hT.below hb hT.pos) (by decide) (by decide) hK1 (by omega)))
  have HAL := Lib.hid (fun W (hb : Below w.heap.size w W) => balive_any W (hT.below hb hT.pos))
  have HN := Lib.hid hk
  have HL := Lib.hid hl
  clear hk hl
  go_enter Tryd.func3, Tryd.ntmps3
  go_wp2_with fail
  refine (HAL.out w (Below.refl _ _)).mono ?_
  rintro e w1 ⟨rfl, hb1⟩
  have HB1 := Lib.hid hb1
  have HGR := Lib.hid (great_any A n c l w1 ((HL.out.below hb1).more hb1.size))
  clear hb1
  go_wp2_with fail
  refine HGR.out.mono ?_
  rintro e w2 ⟨⟨b, rfl, hsm⟩, hb2⟩
  have HB2 := Lib.hid (HB1.out.trans (hb2.mono HB1.out.size))
  have HSM := Lib.hid hsm
  clear hb2 hsm HGR HB1
  cases b
  case true =>
    go_wp2_with fail
    refine (HAL.out _ HB2.out).mono ?_
    rintro e w3 ⟨rfl, hb3⟩
    go_wp2
    go_ret
    exact ⟨rfl, HB2.out.trans (hb3.mono HB2.out.size)⟩
  case false =>
    have HS := Lib.hid (HSM.out rfl)
    clear HSM HAL
    go_upto_region 3 with (fail)
    go_cut [5] (fun s wc => s = .int .i64 (K : Nat) ∧ w2 = wc)
    case first =>
      go_wp2
      all_goals go_meet
      all_goals
        refine ⟨congrArg (Value.int .i64) ?_, rfl⟩
        have := HN.out
        split at this <;> omega
    case rest =>
      obtain ⟨rfl, rfl⟩ := hcut
      clear HN
      have hT2 := hT.below HB2.out hT.pos
      have HT2 := Lib.hid hT2
      go_wp2_with fail
      refine (HM.out w2 HB2.out).mono ?_
      rintro e w3 ⟨B, p, p', rfl, hc3⟩
      have HC3 := Lib.hid hc3
      have h34 : Below w3.heap.size w3 (w3.alloc (.cells #[.pointer (some ⟨p, 0, none⟩), .pointer (some ⟨p', 0, none⟩)] 27)) := (Below.refl _ _).alloc (Nat.le_refl _) _
      have H34 := Lib.hid h34
      have HX4 := Lib.hid (Whole.fresh w3 27 #[.pointer (some ⟨p, 0, none⟩), .pointer (some ⟨p', 0, none⟩)])
      have HR := Lib.hid (rnew_ok 16 K (w3.alloc (.cells #[.pointer (some ⟨p, 0, none⟩), .pointer (some ⟨p', 0, none⟩)] 27)) (by decide) (by decide) hK1 (by omega))
      clear hc3 h34 HM
      go_wp2_with fail
      obtain ⟨w4, hw4⟩ : ∃ w4, w4 = w3.alloc (.cells #[.pointer (some ⟨p, 0, none⟩), .pointer (some ⟨p', 0, none⟩)] 27) := ⟨_, rfl⟩
      rw [← hw4] at HR HX4 H34 ⊢
      clear hw4
      refine HR.out.mono ?_
      rintro e w5 ⟨R, rfl, hr5, hb5, hw5⟩
      have HR5 := Lib.hid (And.intro hr5 (And.intro hb5 hw5))
      have HN1 := Lib.hid (rbnew_ok w5 R.m 1)
      clear hr5 hb5 hw5 HR
      go_wp2_with fail
      refine HN1.out.mono ?_
      rintro e w6 ⟨r, rfl, ha6, hb6⟩
      have HR6 := Lib.hid (And.intro ha6 hb6)
      have HN2 := Lib.hid (rbnew_ok w6 R.m 2)
      clear ha6 hb6 HN1
      go_wp2_with fail
      refine HN2.out.mono ?_
      rintro e w7 ⟨r', rfl, ha7, hb7⟩
      have hyd := yd_made HT2.out HC3.out H34.out HR5.out.1 HR5.out.2.1 HR5.out.2.2 HR6.out.1 HR6.out.2 ha7 hb7
      have hb47 : Below w4.heap.size w4 w7 := HR5.out.2.1.trans ((HR6.out.2.trans (hb7.mono HR6.out.2.size)).mono HR5.out.2.1.size)
      have hx7 := HX4.out.below hb47 HX4.out.lt
      have hnx : w3.heap.size ∉ ydF B R p p' r r' (.slice none 0 0) (.slice none 0 0) (.slice none 0 0) (.slice none 0 0) := fun hx => by
        rcases List.mem_append.1 hx with e | e
        · have := (HC3.out.win _ e).2; omega
        · have h4 := HX4.out.lt
          rcases roF_mem.1 e with e | e | e | e | e
          · have := HR5.out.2.2.mem e; omega
          · have := HR6.out.1.lo; have := HR5.out.2.1.size; omega
          · have := ha7.lo; have := HR6.out.2.size; have := HR5.out.2.1.size; omega
          · simp [Value.ownBlock] at e
          · simp [Value.ownBlock] at e
      have HLS := Lib.hid (show LS w2 (w7.alloc (.cells #[.pointer (some ⟨r, 0, none⟩), .pointer (some ⟨r', 0, none⟩)] 34)) B R K p p' r r' w3.heap.size w7.heap.size d0 from
        ⟨⟨_, _, _, _, hyd.later HT2.out ((Below.refl _ _).alloc (Nat.le_refl _) _), hnx, hyd.not (Nat.le_refl _)⟩, hx7.alloc _, Whole.fresh _ _ _, d0_good _ _⟩)
      clear ha7 hb7 hyd hb47 hx7 hnx HR6 HR5 HX4 H34 HC3 HN2
      generalize w3.heap.size = bx at *
      go_wp2_with fail
      obtain ⟨w8, hw8⟩ : ∃ w8, w8 = w7.alloc (.cells #[.pointer (some ⟨r, 0, none⟩), .pointer (some ⟨r', 0, none⟩)] 34) := ⟨_, rfl⟩
      rw [← hw8] at HLS ⊢
      clear hw8
      generalize w7.heap.size = cx at *
      have h60 : n ≤ 60 := HS.out.1
      go_wp2_with fail
      go_loopw [41] (fun x wr => ∃ k : Nat, k ≤ n ∧ x = .int .i64 k ∧ Hid (∃ D, LS w2 wr B R K p p' r r' bx cx D)) (fun x _ => n - (intOf x).toNat)
      case atStart => exact ⟨0, Nat.zero_le _, rfl, Lib.hid ⟨_, HLS.out⟩⟩
      case round =>
        obtain ⟨k, hk, rfl, HQ⟩ := hrel
        obtain ⟨D, hls⟩ := HQ.out
        clear HQ HLS
        by_cases hlt : k < n
        · obtain ⟨b, off, f, rfl, hb, hf, a0, a1, a2, a3, hok⟩ := (HL.out.below (HB2.out.trans (hls.bel.mono HB2.out.size))).get hlt
          have hkk := HS.out.2 k f hf
          obtain ⟨x0, x1, x2, x3⟩ := f
          simp only at a0 a1 a2 a3 hkk
          have hls1 := hls.later HT2.out ((Below.refl wr.heap.size wr).alloc (Nat.le_refl _) (.cells #[.int .i64 x0, .int .i64 x1, .int .i64 x2, .bool x3] 36))
          have z0 := hls1.x.p0
          have z1 := hls1.x.p1
          have y0 := hls1.y.p0
          have y1 := hls1.y.p1
          have HD := Lib.hid (hls1.do_any HT2.out x0 x1 x2 x3 hok.2.2 hkk)
          clear hls hls1 hf hok hkk
          go_wp2_with fail
          refine HD.out.mono ?_
          rintro e w9 ⟨rfl, D', hls9⟩
          have HL9 := Lib.hid hls9
          clear hls9 HD z0 z1 y0 y1
          go_wp2_with fail
          go_loopw [50] (fun y wk => ∃ i : Nat, i ≤ 2 ∧ y = .int .i64 i ∧ Hid (LS w2 wk B R K p p' r r' bx cx D')) (fun y _ => 2 - (intOf y).toNat)
          case atStart => exact ⟨0, by omega, rfl, HL9⟩
          case round =>
            obtain ⟨i, hi, rfl, HI⟩ := hrel
            by_cases hli : i < 2
            · obtain ⟨q, q', xs, rm, hxl, z0, y0, hbx, hcx, HC1, HC2, HO1, HO2⟩ := HI.out.told HT2.out i hli
              have HZ := Lib.hid (fun (W : World) (h : Below wr.heap.size wr W) => (⟨(h.cell (p := ⟨bx, i, none⟩) hbx).trans z0, (h.cell (p := ⟨cx, i, none⟩) hcx).trans y0⟩ : W.cell? ⟨bx, i, none⟩ = some (.pointer (some ⟨q, 0, none⟩)) ∧ W.cell? ⟨cx, i, none⟩ = some (.pointer (some ⟨q', 0, none⟩))))
              have HSA := Lib.hid (show ∀ (W : World) (A1 A2 : Option Addr) (c1 c2 : Nat), IS W (.slice A1 xs.length c1) xs → IS W (.slice A2 xs.length c2) xs → Calls Tryd.prog 15 #[.slice A1 xs.length c1, .slice A2 xs.length c2] W fun e w' => e = .returned (.bool true) ∧ Below W.heap.size W w' from fun W A1 A2 c1 c2 h1 h2 => same_any _ _ xs W (by omega) h1 h2)
              obtain ⟨N, hN⟩ : ∃ N, N = xs.length := ⟨_, rfl⟩
              clear hxl
              go_wp2_with fail
              go_region_held3 (fun w' => w'.cell? ⟨bx, i, none⟩ = some (.pointer (some ⟨q, 0, none⟩)) ∧ w'.cell? ⟨cx, i, none⟩ = some (.pointer (some ⟨q', 0, none⟩))) (first | exact ⟨z0, y0⟩ | exact ⟨s1, t1⟩ | exact ⟨s2, t2⟩ | exact ⟨s3, t3⟩ | exact ⟨s4, t4⟩ | exact ⟨s5, t5⟩ | (simp [go_sem, *]))
                (first
                  | (go_at_call 16; refine (HC1.out _ (same_below (by exact rfl) (by exact rfl) (by exact rfl) (by exact rfl))).mono ?_; intro e u1 hrow; obtain ⟨A1, c1, rfl, hI1, hb1, hk1⟩ := hrow.rd; have J1 := Lib.hid (show Below wr.heap.size wr u1 from bback hb1 rfl rfl rfl rfl); have I1 := Lib.hid (And.intro hI1 hk1); obtain ⟨s1, t1⟩ := HZ.out _ J1.out; clear hrow hI1 hb1 hk1)
                  | (go_at_call 17; refine (HC2.out _ (bto J1.out (by exact rfl) (by exact rfl) (by exact rfl) (by exact rfl))).mono ?_; intro e u2 hrow; obtain ⟨A2, c2, rfl, hI2, hb2, hk2⟩ := hrow.rd; have hbb := bback hb2 (w := u1) rfl rfl rfl rfl; have J2 := Lib.hid (bthru J1.out hbb); have I2 := Lib.hid (And.intro (I1.out.2 _ hbb) hI2); obtain ⟨s2, t2⟩ := HZ.out _ J2.out; clear hrow hI2 hb2 hk2 hbb)
                  | (go_at_call 15; refine (HSA.out _ A1 A2 c1 c2 (is_heap I2.out.1 (by exact rfl)) (is_heap I2.out.2 (by exact rfl))).mono ?_; rintro e u3 ⟨rfl, hb3⟩; have J3 := Lib.hid (bthru J2.out (bback hb3 (w := u2) rfl rfl rfl rfl)); obtain ⟨s3, t3⟩ := HZ.out _ J3.out; clear hb3)
                  | (go_at_call 18; refine (HO1.out _ (bto J3.out (by exact rfl) (by exact rfl) (by exact rfl) (by exact rfl))).mono ?_; rintro e u4 ⟨rfl, hb4⟩; have J4 := Lib.hid (bthru J3.out (bback hb4 (w := u3) rfl rfl rfl rfl)); obtain ⟨s4, t4⟩ := HZ.out _ J4.out; clear hb4)
                  | (go_at_call 19; refine (HO2.out _ (bto J4.out (by exact rfl) (by exact rfl) (by exact rfl) (by exact rfl))).mono ?_; rintro e u5 ⟨rfl, hb5⟩; have J5 := Lib.hid (bthru J4.out (bback hb5 (w := u4) rfl rfl rfl rfl)); obtain ⟨s5, t5⟩ := HZ.out _ J5.out; clear hb5)
                  | fail)
              all_goals
                go_wp2
                go_roundw
                case rel => exact ⟨i + 1, by omega, by go_num, Lib.hid (HI.out.later HT2.out J5.out)⟩
                case measure => simp [intOf]; omega
            · obtain rfl : i = 2 := by omega
              go_wp2_with fail
              go_roundw
              case rel => exact ⟨k + 1, by omega, by go_num, Lib.hid ⟨_, HI.out⟩⟩
              case measure => simp [intOf]; omega
        · obtain rfl : k = n := by omega
          have HLD := Lib.hid hls
          clear hls
          go_wp2_with fail
          go_loopw [76] (fun y wk => ∃ i : Nat, i ≤ 16 ∧ y = .int .i64 i ∧ Hid (LS w2 wk B R K p p' r r' bx cx D)) (fun y _ => 16 - (intOf y).toNat)
          case atStart => exact ⟨0, by omega, rfl, HLD⟩
          case round =>
            obtain ⟨i, hi, rfl, HI⟩ := hrel
            by_cases hli : i < 16
            · obtain ⟨o, b1, b2, ho, m2, q0, hml, hql, HW, HG1, HG2, HG3, HG4⟩ := HI.out.chunk HT2.out i hli
              have z0 := HI.out.x.p0
              have z1 := HI.out.x.p1
              have y0 := HI.out.y.p0
              have y1 := HI.out.y.p1
              have hbx := HI.out.x.lt
              have hcx := HI.out.y.lt
              have HZ := Lib.hid (fun (W : World) (h : Below wr.heap.size wr W) => (⟨(h.cell (p := ⟨bx, 0, none⟩) hbx).trans z0, (h.cell (p := ⟨bx, 1, none⟩) hbx).trans z1, (h.cell (p := ⟨cx, 0, none⟩) hcx).trans y0, (h.cell (p := ⟨cx, 1, none⟩) hcx).trans y1, (h.cell (p := ⟨R.m, 2, none⟩) hml).trans m2, (h.cell (p := ⟨R.q, i, none⟩) hql).trans q0⟩ :
                W.cell? ⟨bx, 0, none⟩ = some (.pointer (some ⟨p, 0, none⟩)) ∧ W.cell? ⟨bx, 1, none⟩ = some (.pointer (some ⟨p', 0, none⟩)) ∧ W.cell? ⟨cx, 0, none⟩ = some (.pointer (some ⟨r, 0, none⟩)) ∧ W.cell? ⟨cx, 1, none⟩ = some (.pointer (some ⟨r', 0, none⟩)) ∧ W.cell? ⟨R.m, 2, none⟩ = some (.slice (some ⟨R.q, 0, none⟩) 16 16) ∧ W.cell? ⟨R.q, i, none⟩ = some (.int .i64 (o : Nat))))
              clear hbx hcx hml hql
              go_wp2_with fail
              go_region_held3 (fun w' => w'.cell? ⟨bx, 0, none⟩ = some (.pointer (some ⟨p, 0, none⟩)) ∧ w'.cell? ⟨bx, 1, none⟩ = some (.pointer (some ⟨p', 0, none⟩)) ∧ w'.cell? ⟨cx, 0, none⟩ = some (.pointer (some ⟨r, 0, none⟩)) ∧ w'.cell? ⟨cx, 1, none⟩ = some (.pointer (some ⟨r', 0, none⟩)) ∧ w'.cell? ⟨R.m, 2, none⟩ = some (.slice (some ⟨R.q, 0, none⟩) 16 16) ∧ w'.cell? ⟨R.q, i, none⟩ = some (.int .i64 (o : Nat))) (first | exact ⟨z0, z1, y0, y1, m2, q0⟩ | exact HZ.out _ J1.out | exact HZ.out _ J2.out | exact HZ.out _ J3.out | exact HZ.out _ J4.out | exact HZ.out _ J5.out | (simp [go_sem, *]))
                (first
                  | (go_at_call 20; refine (HW.out _ (same_below (by exact rfl) (by exact rfl) (by exact rfl) (by exact rfl))).mono ?_; rintro e u1 ⟨rfl, hu⟩; have J1 := Lib.hid (show Below wr.heap.size wr u1 by rw [← hu]; exact same_below rfl rfl rfl rfl); obtain ⟨f10, f11, f12, f13, f14, f15⟩ := HZ.out _ J1.out; clear hu)
                  | (go_at_call 21; refine (HG3.out _ (bto J3.out (by exact rfl) (by exact rfl) (by exact rfl) (by exact rfl))).mono ?_; rintro e u4 ⟨rfl, hb4⟩; have J4 := Lib.hid (bthru J3.out (bback hb4 (w := u3) rfl rfl rfl rfl)); obtain ⟨f40, f41, f42, f43, f44, f45⟩ := HZ.out _ J4.out; clear hb4)
                  | (go_at_call 21; refine (HG1.out _ (bto J1.out (by exact rfl) (by exact rfl) (by exact rfl) (by exact rfl))).mono ?_; rintro e u2 ⟨rfl, hb2⟩; have J2 := Lib.hid (bthru J1.out (bback hb2 (w := u1) rfl rfl rfl rfl)); obtain ⟨f20, f21, f22, f23, f24, f25⟩ := HZ.out _ J2.out; clear hb2)
                  | (go_at_call 22; refine (HG4.out _ (bto J4.out (by exact rfl) (by exact rfl) (by exact rfl) (by exact rfl))).mono ?_; rintro e u5 ⟨rfl, hb5⟩; have J5 := Lib.hid (bthru J4.out (bback hb5 (w := u4) rfl rfl rfl rfl)); obtain ⟨f50, f51, f52, f53, f54, f55⟩ := HZ.out _ J5.out; clear hb5)
                  | (go_at_call 22; refine (HG2.out _ (bto J2.out (by exact rfl) (by exact rfl) (by exact rfl) (by exact rfl))).mono ?_; rintro e u3 ⟨rfl, hb3⟩; have J3 := Lib.hid (bthru J2.out (bback hb3 (w := u2) rfl rfl rfl rfl)); obtain ⟨f30, f31, f32, f33, f34, f35⟩ := HZ.out _ J3.out; clear hb3)
                  | fail)
              all_goals
                go_wp2
                go_roundw
                case rel => exact ⟨i + 1, by omega, by go_num, Lib.hid (HI.out.later HT2.out J5.out)⟩
                case measure => simp [intOf]; omega
            · obtain rfl : i = 16 := by omega
              obtain ⟨s, s', hco⟩ := HI.out.co
              have HF1 := Lib.hid (free_any hco.held.st)
              have HF2 := Lib.hid (fun W (hW : Below wr.heap.size wr W) => by obtain ⟨t, t', hro⟩ := (HI.out.later HT2.out hW).ro; exact rfree_any hro.rf)
              clear hco
              go_wp2_with (first
                | (go_at_call 23; refine HF1.out.mono ?_; rintro e u1 ⟨rfl, mm, hu⟩; have J1 := Lib.hid (show Below wr.heap.size wr u1 by rw [hu]; exact below_drewN (Below.refl _ _) _); clear hu)
                | (go_at_call 24; refine (HF2.out _ J1.out).mono ?_; rintro e u2 ⟨rfl, rfl⟩))
              go_ret
              exact ⟨rfl, HB2.out.trans ((bthru HI.out.bel J1.out).mono HB2.out.size)⟩
end Go.Proofs.YteencfldehcbbaaDoor
