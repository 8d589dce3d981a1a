/- The law BumpMoves: joined a space has all chunks of both, with what stood there; cleared none. -/
import Derived.Test.YteencfldehcbbaaDoorBpMv
namespace Go.Proofs.YteencfldehcbbaaDoor
open Go.RowKit Go.Sort BP
set_option linter.unusedVariables false

set_option maxHeartbeats 8000000 in
set_option maxRecDepth 100000 in
theorem moves_walk (A : Option Addr) (n c : Nat) (l : List (Int × Int × Int × Bool)) (X : Int) (w : World) (hl : FA w w.heap.size A n l) (hnc : n ≤ c) (hX : 0 ≤ X ∧ X ≤ 18446744073709551615) (hT : Tab w) :
    Calls Tryd.prog 7 #[.slice A n c, .int .u64 X] w fun e w' => e = .returned (.bool true) ∧ Below w.heap.size w w' := by
  have HM := Lib.hid (fun W (hb : Below w.heap.size w W) => (show Calls Tryd.prog 11 #[.int .i64 16, .int .i64 4] W (BMadePost 16 4 W) from made_ok 16 4 W (hT.below hb hT.pos) (by decide) (by decide) (by decide) (by decide)))
  have HAL := Lib.hid (fun W (hb : Below w.heap.size w W) => balive_any W (hT.below hb hT.pos))
  have HL := Lib.hid hl
  clear hl
  go_enter Tryd.func7, Tryd.ntmps7
  go_wp2_with fail
  refine (HAL.out w (Below.refl _ _)).mono ?_
  rintro e w1 ⟨rfl, hb1⟩
  have HB1 := Lib.hid hb1
  have HGR := Lib.hid (great_any A n c l w1 ((HL.out.below hb1).more hb1.size))
  clear hb1
  go_wp2_with fail
  refine HGR.out.mono ?_
  rintro e w2 ⟨⟨b, rfl, hsm⟩, hb2⟩
  have HB2 := Lib.hid (HB1.out.trans (hb2.mono HB1.out.size))
  have HSM := Lib.hid hsm
  clear hb2 hsm HGR HB1
  cases b
  case true =>
    go_wp2_with fail
    refine (HAL.out _ HB2.out).mono ?_
    rintro e w3 ⟨rfl, hb3⟩
    go_wp2
    go_ret
    exact ⟨rfl, HB2.out.trans (hb3.mono HB2.out.size)⟩
  case false =>
    have HS := Lib.hid (HSM.out rfl)
    clear HSM HAL
    have hT2 := hT.below HB2.out hT.pos
    have HT2 := Lib.hid hT2
    go_wp2_with fail
    refine (HM.out w2 HB2.out).mono ?_
    rintro e w3 ⟨B, p, p', rfl, hc3⟩
    have HC3 := Lib.hid hc3
    have h34 : Below w3.heap.size w3 (w3.alloc (.cells #[.pointer (some ⟨p, 0, none⟩), .pointer (some ⟨p', 0, none⟩)] 27)) := (Below.refl _ _).alloc (Nat.le_refl _) _
    have H34 := Lib.hid h34
    have HX4 := Lib.hid (Whole.fresh w3 27 #[.pointer (some ⟨p, 0, none⟩), .pointer (some ⟨p', 0, none⟩)])
    have HR := Lib.hid (rnew_ok 16 4 (w3.alloc (.cells #[.pointer (some ⟨p, 0, none⟩), .pointer (some ⟨p', 0, none⟩)] 27)) (by decide) (by decide) (by decide) (by decide))
    clear hc3 h34 HM
    go_wp2_with fail
    obtain ⟨w4, hw4⟩ : ∃ w4, w4 = w3.alloc (.cells #[.pointer (some ⟨p, 0, none⟩), .pointer (some ⟨p', 0, none⟩)] 27) := ⟨_, rfl⟩
    rw [← hw4] at HR HX4 H34 ⊢
    clear hw4
    refine HR.out.mono ?_
    rintro e w5 ⟨R, rfl, hr5, hb5, hw5⟩
    have HR5 := Lib.hid (And.intro hr5 (And.intro hb5 hw5))
    have HN1 := Lib.hid (rbnew_ok w5 R.m 1)
    clear hr5 hb5 hw5 HR
    go_wp2_with fail
    refine HN1.out.mono ?_
    rintro e w6 ⟨r, rfl, ha6, hb6⟩
    have HR6 := Lib.hid (And.intro ha6 hb6)
    have HN2 := Lib.hid (rbnew_ok w6 R.m 2)
    clear ha6 hb6 HN1
    go_wp2_with fail
    refine HN2.out.mono ?_
    rintro e w7 ⟨r', rfl, ha7, hb7⟩
    have hyd := yd_made HT2.out HC3.out H34.out HR5.out.1 HR5.out.2.1 HR5.out.2.2 HR6.out.1 HR6.out.2 ha7 hb7
    have hb47 : Below w4.heap.size w4 w7 := HR5.out.2.1.trans ((HR6.out.2.trans (hb7.mono HR6.out.2.size)).mono HR5.out.2.1.size)
    have hx7 := HX4.out.below hb47 HX4.out.lt
    have hnx : w3.heap.size ∉ ydF B R p p' r r' (.slice none 0 0) (.slice none 0 0) (.slice none 0 0) (.slice none 0 0) := fun hx => by
      rcases List.mem_append.1 hx with e | e
      · have := (HC3.out.win _ e).2; omega
      · have h4 := HX4.out.lt
        rcases roF_mem.1 e with e | e | e | e | e
        · have := HR5.out.2.2.mem e; omega
        · have := HR6.out.1.lo; have := HR5.out.2.1.size; omega
        · have := ha7.lo; have := HR6.out.2.size; have := HR5.out.2.1.size; omega
        · simp [Value.ownBlock] at e
        · simp [Value.ownBlock] at e
    have HLS := Lib.hid (show LS w2 (w7.alloc (.cells #[.pointer (some ⟨r, 0, none⟩), .pointer (some ⟨r', 0, none⟩)] 34)) B R 4 p p' r r' w3.heap.size w7.heap.size d0 from
      ⟨⟨_, _, _, _, hyd.later HT2.out ((Below.refl _ _).alloc (Nat.le_refl _) _), hnx, hyd.not (Nat.le_refl _)⟩, hx7.alloc _, Whole.fresh _ _ _, d0_good _ _⟩)
    clear ha7 hb7 hyd hb47 hx7 hnx HR6 HR5 HX4 H34 HC3 HN2
    generalize w3.heap.size = bx at *
    go_wp2_with fail
    obtain ⟨w8, hw8⟩ : ∃ w8, w8 = w7.alloc (.cells #[.pointer (some ⟨r, 0, none⟩), .pointer (some ⟨r', 0, none⟩)] 34) := ⟨_, rfl⟩
    rw [← hw8] at HLS ⊢
    clear hw8
    generalize w7.heap.size = cx at *
    have h60 : n ≤ 60 := HS.out.1
    go_wp2_with fail
    go_loopw [42] (fun x wr => ∃ k : Nat, k ≤ n ∧ x = .int .i64 k ∧ Hid (∃ D, LS w2 wr B R 4 p p' r r' bx cx D)) (fun x _ => n - (intOf x).toNat)
    case atStart => exact ⟨0, Nat.zero_le _, rfl, Lib.hid ⟨_, HLS.out⟩⟩
    case round =>
      obtain ⟨k, hk, rfl, HQ⟩ := hrel
      obtain ⟨D, hls⟩ := HQ.out
      clear HQ HLS
      by_cases hlt : k < n
      · obtain ⟨b, off, f, rfl, hb, hf, a0, a1, a2, a3, hok⟩ := (HL.out.below (HB2.out.trans (hls.bel.mono HB2.out.size))).get hlt
        have hkk := HS.out.2 k f hf
        obtain ⟨x0, x1, x2, x3⟩ := f
        simp only at a0 a1 a2 a3 hkk
        have hls1 := hls.later HT2.out ((Below.refl wr.heap.size wr).alloc (Nat.le_refl _) (.cells #[.int .i64 x0, .int .i64 x1, .int .i64 x2, .bool x3] 36))
        have z0 := hls1.x.p0
        have z1 := hls1.x.p1
        have y0 := hls1.y.p0
        have y1 := hls1.y.p1
        have HD := Lib.hid (hls1.do_any HT2.out x0 x1 x2 x3 hok.2.2 hkk)
        clear hls hls1 hf hok hkk
        go_wp2_with fail
        refine HD.out.mono ?_
        rintro e w9 ⟨rfl, D', hls9⟩
        have HL9 := Lib.hid hls9
        clear hls9 HD z0 z1 y0 y1
        go_wp2_with fail
        go_roundw
        case rel => exact ⟨k + 1, by omega, by go_num, Lib.hid ⟨_, HL9.out⟩⟩
        case measure => simp [intOf]; omega
      · obtain rfl : k = n := by omega
        have hG := hls.good
        have HG := Lib.hid hG
        have HM0 := Lib.hid hls.mv
        have z0 := hls.x.p0
        have z1 := hls.x.p1
        have hbx := hls.x.lt
        have HZ := Lib.hid (fun (W : World) (h : Below wr.heap.size wr W) => (⟨(h.cell (p := ⟨bx, 0, none⟩) hbx).trans z0, (h.cell (p := ⟨bx, 1, none⟩) hbx).trans z1⟩ : W.cell? ⟨bx, 0, none⟩ = some (.pointer (some ⟨p, 0, none⟩)) ∧ W.cell? ⟨bx, 1, none⟩ = some (.pointer (some ⟨p', 0, none⟩))))
        have HQ1 := Lib.hid (fun W (h : Below wr.heap.size wr W) => (hls.mv.later HT2.out h).chunks hG)
        have HQ2 := Lib.hid (fun W (h : Below wr.heap.size wr W) => (hls.mv.later HT2.out h).chunks' hG)
        obtain ⟨xs, hxs⟩ : ∃ xs, xs = chunks D.S.parts := ⟨_, rfl⟩
        obtain ⟨ys, hys⟩ : ∃ ys, ys = chunks D.T.parts := ⟨_, rfl⟩
        have hxl : xs.length ≤ 16 := by rw [hxs]; exact hG.a.clen
        have hyl : ys.length ≤ 16 := by rw [hys]; exact hG.b.clen
        rw [← hxs] at HQ1
        rw [← hys] at HQ2
        have HXS := Lib.hid hxs
        have HYS := Lib.hid hys
        clear hls hbx hxs hys hG
        go_wp2_with fail
        go_region_held3 (fun w' => w'.cell? ⟨bx, 0, none⟩ = some (.pointer (some ⟨p, 0, none⟩)) ∧ w'.cell? ⟨bx, 1, none⟩ = some (.pointer (some ⟨p', 0, none⟩))) (first | exact ⟨z0, z1⟩ | exact HZ.out _ J1.out | exact HZ.out _ J2.out | (simp [go_sem, *]))
          (first
            | (go_at_call 16; refine (HQ2.out _ (bto J1.out (by exact rfl) (by exact rfl) (by exact rfl) (by exact rfl))).mono ?_; rintro e u2 ⟨v2, rfl, hr2, hb2⟩; obtain ⟨A2, c2, rfl⟩ := NR.slice hr2; have J2 := Lib.hid (bthru J1.out (bback hb2 (w := u1) rfl rfl rfl rfl)); have M2 := Lib.hid (MvS.added M1.out HT2.out hr2 hb2 rfl rfl rfl rfl); obtain ⟨s2, t2⟩ := HZ.out _ J2.out; clear hr2 hb2)
            | (go_at_call 16; refine (HQ1.out _ (same_below (by exact rfl) (by exact rfl) (by exact rfl) (by exact rfl))).mono ?_; rintro e u1 ⟨v1, rfl, hr1, hb1⟩; obtain ⟨A1, c1, rfl⟩ := NR.slice hr1; have J1 := Lib.hid (show Below wr.heap.size wr u1 from bback hb1 rfl rfl rfl rfl); have M1 := Lib.hid (MvS.added HM0.out HT2.out hr1 hb1 rfl rfl rfl rfl); obtain ⟨s1, t1⟩ := HZ.out _ J1.out; clear hr1 hb1)
            | fail)
        all_goals
          clear HQ1 HQ2 HM0 M1 J1 HZ s1 t1 z0 z1
          have hg0 : NR (u2.alloc (.cells #[] 3)) u2.heap.size (.slice (some ⟨u2.heap.size, 0, none⟩) 0 0) [] := World.ownsRow_made u2 #[] 0 (Nat.le_refl _) (by decide) rfl
          have hc0 : Below u2.heap.size u2 (u2.alloc (.cells #[] 3)) := (Below.refl _ _).alloc (Nat.le_refl _) _
          have HG0 := Lib.hid hg0
          have C0 := Lib.hid hc0
          have MA := Lib.hid (M2.out.later HT2.out hc0)
          have hbs : w2.heap.size ≤ u2.heap.size := M2.out.bel.size
          obtain ⟨zs, hzs⟩ : ∃ zs, zs = xs ++ ys := ⟨_, rfl⟩
          have hzl : zs.length ≤ 32 := by rw [hzs, List.length_append]; omega
          have HZS := Lib.hid hzs
          clear hg0 hc0 hzs
          go_wp2_with (first
            | (at_builtin; refine wpList_append_nr rfl _ _ rfl u2.heap.size w2.heap.size [] xs _ _ rfl rfl HG0.out (MA.out.rows (_, xs) (by simp)) (by simp; omega) (by simp) ?_; intro v3 w9 hr3 ha3; rw [List.nil_append] at hr3; have HR3 := Lib.hid hr3; have C3 := Lib.hid (bthen C0.out (aft_below ha3 (fun g hg => (HG0.out.lt g hg).1) (by simp))); clear hr3 ha3)
            | (at_builtin; refine wpList_append_nr rfl _ _ rfl u2.heap.size w2.heap.size xs ys _ _ rfl rfl HR3.out ((M2.out.later HT2.out C3.out).rows (_, ys) (by simp)) (by omega) C3.out.size ?_; intro v4 w10 hr4 ha4; rw [← HZS.out] at hr4; obtain ⟨A4, c4, rfl⟩ := NR.slice hr4; have C4 := Lib.hid (bthen C3.out (aft_below ha4 (fun g hg => (HR3.out.lt g hg).1) C3.out.size)); have M4 := Lib.hid (M2.out.add HT2.out C4.out hr4); clear hr4 ha4))
          clear HG0 C0 MA HR3 C3
          obtain ⟨N, hN⟩ : ∃ N, N = zs.length := ⟨_, rfl⟩
          rw [← hN] at M4 hzl ⊢
          have HN := Lib.hid hN
          clear hN
          obtain ⟨L4, hL4⟩ : ∃ L4 : List (Value × List Nat), L4 = [(.slice A4 N c4, zs), (.slice A2 ys.length c2, ys), (.slice A1 xs.length c1, xs)] := ⟨_, rfl⟩
          rw [← hL4] at M4
          have HL4 := Lib.hid hL4
          clear hL4 M2 J2
          go_loopw [63] (fun y wk => ∃ j : Nat, j ≤ N ∧ y = .int .i64 j ∧ Hid (∃ wd, MvS w2 wk B p p' bx ⟨D.own, wd, D.S, D.T⟩ L4 ∧ Stood X zs j wd)) (fun y _ => N - (intOf y).toNat)
          case atStart => exact ⟨0, Nat.zero_le _, rfl, Lib.hid ⟨D.wd, M4.out, fun i c hi => absurd hi (by omega)⟩⟩
          case round =>
            obtain ⟨j, hj, rfl, HQ⟩ := hrel
            obtain ⟨wd, hm, hst⟩ := HQ.out
            have HST := Lib.hid hst
            have HMM := Lib.hid hm
            clear HQ hst
            by_cases hlt : j < N
            · obtain ⟨q, hq⟩ : ∃ q, zs[j]? = some q := ⟨zs[j]'(by rw [← HN.out]; exact hlt), by simp⟩
              have hrow := hm.rows (.slice A4 N c4, zs) (by rw [HL4.out]; simp)
              obtain ⟨g, cg, eg, r0⟩ := NR.at_ hrow hq
              injection eg with e1 e2 e3
              subst e1 e3
              have hall := HG.out.all (i := j) (c := q) (by rw [← HXS.out, ← HYS.out, ← HZS.out]; exact hq)
              have hw := write_ok hm.st (4 * q) (mvV X q) (by omega) (by rw [show 4 * q / 4 = q by omega]; exact hall.2.1) (mvV_lt X q)
              rw [show ((4 * q : Nat) : Int) = 4 * (q : Int) by omega] at hw
              have hq16 := hall.1
              have HWR := Lib.hid hw
              have HNX := Lib.hid (HST.out.next hq)
              have y1 : IntKind.u64.wrap (q : Int) = (q : Int) := by rw [IntKind.wrap_u64]; omega
              have y2 := mvV_eq X q
              have y3 := wrapOk (4 * (q : Int)) (by omega) (by omega)
              clear hm hrow hall hw hq e2
              go_wp2_with (first
                | (go_at_call 31; refine HWR.out.mono ?_; rintro e w11 ⟨rfl, ho, hs⟩; have HM5 := Lib.hid (HMM.out.store HT2.out ho hs); clear ho hs))
              go_roundw
              case rel => exact ⟨j + 1, by omega, by go_num, Lib.hid ⟨_, HM5.out, HNX.out⟩⟩
              case measure => simp [intOf]; omega
            · obtain rfl : j = N := by omega
              clear hm M4
              obtain ⟨D1, hD1⟩ : ∃ D1 : Dt, D1 = ⟨D.own, wd, D.S, D.T⟩ := ⟨_, rfl⟩
              rw [← hD1] at HMM
              have hG1 : Good2 16 4 1 2 D1 := by rw [hD1]; exact ⟨HG.out.a, HG.out.b, HG.out.o1, HG.out.o2, HG.out.ne⟩
              obtain ⟨F, hF⟩ : ∃ F, F = frees D1.own 16 := ⟨_, rfl⟩
              have hFl : F ≤ 16 := by rw [hF]; exact frees_le _ _
              have hf1 := HMM.out.free
              rw [← hF] at hf1
              obtain ⟨D2, hD2⟩ : ∃ D2, D2 = joinD 1 D1 := ⟨_, rfl⟩
              have HG1 := Lib.hid hG1
              have HG2 := Lib.hid (show Good2 16 4 1 2 D2 by rw [hD2]; exact join_good hG1)
              have HD2 := Lib.hid hD2
              have HT0 := Lib.hid (show chunks D2.T.parts = [] by rw [hD2]; rfl)
              have HR0 := Lib.hid (show room 4 D2.T = 0 by rw [hD2]; rfl)
              have HFR := Lib.hid (show frees D2.own 16 = F by rw [hD2, hF]; exact hG1.join_frees)
              have HZ2 := Lib.hid (show chunks D2.S.parts = zs by rw [hD2, hD1]; show chunks (D.S.parts ++ D.T.parts) = zs; rw [chunks_app, HZS.out, HXS.out, HYS.out])
              have HST2 := Lib.hid (show Stood X zs j D2.wd by rw [hD2, hD1]; exact HST.out)
              have HOW := Lib.hid (show ∀ (i c : Nat), zs[i]? = some c → c < 16 ∧ D2.own c = 1 from fun i c hc => by
                have h1 := hG1.all (i := i) (c := c) (by rw [hD1]; show (chunks D.S.parts ++ chunks D.T.parts)[i]? = some c; rw [← HXS.out, ← HYS.out, ← HZS.out]; exact hc)
                rw [hD2]
                exact ⟨h1.1, h1.2.2⟩)
              have HF1 := Lib.hid hf1
              clear hG1 hF hf1 hD2 hD1 HG HST
              go_upto_region 23 with (first
                | (go_at_call 23; refine HF5.out.mono ?_; rintro e w16 ⟨rfl, hb⟩; have M10 := Lib.hid (M9.out.later HT2.out hb); clear hb)
                | (go_at_call 23; refine HF1.out.mono ?_; rintro e w11 ⟨rfl, hb⟩; have hm := HMM.out.later HT2.out hb; have f0 := hm.x.p0; have f1 := hm.x.p1; have hj := hm.join HT2.out HG1.out; rw [← HD2.out] at hj; have HJ := Lib.hid hj; clear hb hm hj)
                | (go_at_call 28; refine HJ.out.mono ?_; rintro e w12 ⟨rfl, hm⟩; have g0 := hm.x.p0; have g1 := hm.x.p1; have hc7 := hm.chunks' HG2.out; rw [HT0.out] at hc7; have HC7 := Lib.hid hc7; have M7 := Lib.hid hm; clear hm hc7)
                | (go_at_call 16; refine HC7.out.mono ?_; intro e w13 hrow; obtain ⟨A7, c7, rfl, _, hb, _⟩ := hrow.rd; rw [List.length_nil]; have hm := M7.out.later HT2.out hb; have i0 := hm.x.p0; have i1 := hm.x.p1; have hr := hm.room' HG2.out; rw [HR0.out] at hr; have HR8 := Lib.hid hr; have M8 := Lib.hid hm; clear hrow hb hm hr)
                | (go_at_call 18; refine HR8.out.mono ?_; rintro e w14 ⟨rfl, hb⟩; have hm := M8.out.later HT2.out hb; have hf := hm.free; rw [HFR.out] at hf; have HF5 := Lib.hid hf; have M9 := Lib.hid hm; clear hb hm hf)
                | fail)
              clear f0 f1 g0 g1 i0 i1 HJ HC7 HR8 HF1 HF5 HMM M7 M8 M9
              have hg0 : NR (w16.alloc (.cells #[] 3)) w16.heap.size (.slice (some ⟨w16.heap.size, 0, none⟩) 0 0) [] := World.ownsRow_made w16 #[] 0 (Nat.le_refl _) (by decide) rfl
              have hc0 : Below w16.heap.size w16 (w16.alloc (.cells #[] 3)) := (Below.refl _ _).alloc (Nat.le_refl _) _
              have HG0 := Lib.hid hg0
              have C0 := Lib.hid hc0
              have MA := Lib.hid (M10.out.later HT2.out hc0)
              have hbs' : w2.heap.size ≤ w16.heap.size := M10.out.bel.size
              have HM1 := Lib.hid (show (.slice A1 xs.length c1, xs) ∈ L4 by rw [HL4.out]; simp)
              have HM2 := Lib.hid (show (.slice A2 ys.length c2, ys) ∈ L4 by rw [HL4.out]; simp)
              clear hg0 hc0
              go_wp2_with (first
                | (at_builtin; refine wpList_append_nr rfl _ _ rfl w16.heap.size w2.heap.size [] xs _ _ rfl rfl HG0.out (MA.out.rows _ HM1.out) (by simp; omega) (by simp) ?_; intro v3 w17 hr3 ha3; rw [List.nil_append] at hr3; have HR3 := Lib.hid hr3; have C3 := Lib.hid (bthen C0.out (aft_below ha3 (fun g hg => (HG0.out.lt g hg).1) (by simp))); clear hr3 ha3)
                | (at_builtin; refine wpList_append_nr rfl _ _ rfl w16.heap.size w2.heap.size xs ys _ _ rfl rfl HR3.out ((M10.out.later HT2.out C3.out).rows _ HM2.out) (by omega) C3.out.size ?_; intro v4 w18 hr4 ha4; rw [← HZS.out] at hr4; obtain ⟨A5, c5, rfl⟩ := NR.slice hr4; rw [← HN.out] at hr4 ⊢; have C4 := Lib.hid (bthen C3.out (aft_below ha4 (fun g hg => (HR3.out.lt g hg).1) C3.out.size)); have hm := M10.out.add HT2.out C4.out hr4; have f0 := hm.x.p0; have f1 := hm.x.p1; have hch := hm.chunks HG2.out; rw [HZ2.out] at hch; have HCH := Lib.hid hch; have M11 := Lib.hid hm; clear hr4 ha4 hm hch)
                | (go_at_call 16; refine HCH.out.mono ?_; intro e w19 hrow; obtain ⟨A6, c6, rfl, hI, hb, _⟩ := hrow.rd; rw [← HN.out] at hI ⊢; have hm := M11.out.later HT2.out hb; have HI6 := Lib.hid hI; have M12 := Lib.hid hm; have HSA := Lib.hid (show Calls Tryd.prog 15 #[.slice A6 j c6, .slice A5 j c5] w19 fun e w' => e = .returned (.bool true) ∧ Below w19.heap.size w19 w' from same_any _ _ zs w19 (by have := HN.out; omega) hI (by have h5 := IS.of_owns (hm.rows (.slice A5 j c5, zs) (by simp)); exact h5)); clear hrow hI hb hm)
                | (go_at_call 15; refine HSA.out.mono ?_; rintro e w20 ⟨rfl, hb⟩; have M13 := Lib.hid (M12.out.later HT2.out hb); clear hb)
                | fail)
              clear f0 f1 HG0 C0 MA HR3 C3 HCH C4 M11 HI6 M12 HSA HM1 HM2
              go_loop [125] (fun y => ∃ i : Nat, i ≤ j ∧ y = .int .i64 i) (fun y => j - (intOf y).toNat)
              case atStart => exact ⟨0, Nat.zero_le _, rfl⟩
              case round =>
                obtain ⟨i, hi, rfl⟩ := hrel
                by_cases hli : i < j
                · obtain ⟨q, hq⟩ : ∃ q, zs[i]? = some q := ⟨zs[i]'(by rw [← HN.out]; exact hli), by simp⟩
                  obtain ⟨g, cg, eg, r0⟩ := NR.at_ (M13.out.rows (.slice A5 j c5, zs) (by simp)) hq
                  injection eg with e1 e2 e3
                  subst e1 e3
                  obtain ⟨hq16, hqo⟩ := HOW.out i q hq
                  have hwd := HST2.out i q hli hq
                  have hrd := read_any M13.out.st ((4 * q : Nat) : Int)
                  rw [readV_in (by omega), addrE_in (by omega), show 4 * q / 4 = q by omega, if_neg (by omega), if_neg (by omega), hwd, show ((4 * q : Nat) : Int) = 4 * (q : Int) by omega] at hrd
                  have how := owner_any M13.out.st (q : Int)
                  rw [ownerOf_in hq16, hqo] at how
                  have HRD := Lib.hid hrd
                  have HWN := Lib.hid how
                  have y1 : IntKind.u64.wrap (q : Int) = (q : Int) := by rw [IntKind.wrap_u64]; omega
                  have y2 := mvV_eq X q
                  have y3 := wrapOk (4 * (q : Int)) (by omega) (by omega)
                  clear hrd how hwd hqo hq e2
                  go_wp2_with (first
                    | (go_at_call 32; refine HRD.out.mono ?_; rintro e w' ⟨rfl, rfl⟩)
                    | (go_at_call 20; refine HWN.out.mono ?_; rintro e w' ⟨rfl, rfl⟩))
                  go_round
                  case rel => exact ⟨i + 1, by omega, by go_num⟩
                  case measure => simp [intOf]; omega
                · obtain rfl : i = j := by omega
                  have h0 := M13.out.x.p0
                  have HCL := Lib.hid (M13.out.clear HT2.out HG2.out)
                  obtain ⟨D3, hD3⟩ : ∃ D3, D3 = clearD D2 := ⟨_, rfl⟩
                  have HG3 := Lib.hid (show Good2 16 4 1 2 D3 by rw [hD3]; exact clear_good HG2.out)
                  have HD3 := Lib.hid hD3
                  have HT3 := Lib.hid (show chunks D3.S.parts = [] by rw [hD3]; rfl)
                  have HR3 := Lib.hid (show room 4 D3.S = 0 by rw [hD3]; rfl)
                  have HFR3 := Lib.hid (show frees D3.own 16 = F + i by rw [hD3, HG2.out.clear_frees, HFR.out, HZ2.out, HN.out])
                  clear hD3
                  go_wp2_with (first
                    | (go_at_call 25; refine HCL.out.mono ?_; rintro e w21 ⟨rfl, hm⟩; rw [← HD3.out] at hm; have f0 := hm.x.p0; have hc := hm.chunks HG3.out; rw [HT3.out] at hc; have HC7 := Lib.hid hc; have M14 := Lib.hid hm; clear hm hc)
                    | (go_at_call 16; refine HC7.out.mono ?_; intro e w22 hrow; obtain ⟨A7, c7, rfl, _, hb, _⟩ := hrow.rd; rw [List.length_nil]; have hm := M14.out.later HT2.out hb; have i0 := hm.x.p0; have hf := hm.free; rw [HFR3.out] at hf; have HF6 := Lib.hid hf; have M15 := Lib.hid hm; clear hrow hb hm hf)
                    | (go_at_call 23; refine HF6.out.mono ?_; rintro e w23 ⟨rfl, hb⟩; have hm := M15.out.later HT2.out hb; have j0 := hm.x.p0; have hr := hm.room HG3.out; rw [HR3.out] at hr; have HR8 := Lib.hid hr; have M16 := Lib.hid hm; clear hb hm hr)
                    | (go_at_call 18; refine HR8.out.mono ?_; rintro e w24 ⟨rfl, hb⟩; have HB9 := Lib.hid (bthru M16.out.bel hb); clear hb)
                    | fail)
                  go_ret
                  exact ⟨rfl, HB2.out.trans (HB9.out.mono HB2.out.size)⟩
end Go.Proofs.YteencfldehcbbaaDoor
