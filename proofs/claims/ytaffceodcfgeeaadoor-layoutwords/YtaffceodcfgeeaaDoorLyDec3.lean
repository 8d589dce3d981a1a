/- The contract of Decode of package layout, for every three words. -/
import Derived.Test.YtaffceodcfgeeaaDoorLyDec2
namespace Go.Proofs.YtaffceodcfgeeaaDoor
open Go.RowKit

set_option maxRecDepth 100000 in
set_option maxHeartbeats 8000000 in
theorem decode_any (bw off cap : Nat) (a b c f0 f1 f2 : Nat) (w : World) (ha : a < 18446744073709551616) (hb : b < 18446744073709551616) (hc : c < 18446744073709551616)
    (e0 : w.cell? ⟨bw, off, none⟩ = some (.int .u64 a)) (e1 : w.cell? ⟨bw, off + 1, none⟩ = some (.int .u64 b)) (e2 : w.cell? ⟨bw, off + 2, none⟩ = some (.int .u64 c)) (hlt : bw < w.heap.size) (hT : Tab w) (h0 : 0 < w.heap.size) (q0 : f0 = a % 256) (q1 : f1 = a / 256 % 256) (q2 : f2 = a / 65536) :
    Calls Tryd.prog 11 #[.slice (some ⟨bw, off, none⟩) 3 cap] w (DecRes (decide (f2 = 0) && LM.right f0 f1 (LM.bl b) (LM.bl c)) f0 f1 b c w) := by
  have hla := LM.bl_len b
  have hlc := LM.bl_len c
  have hf0 : f0 < 256 := by omega
  have hf1 : f1 < 256 := by omega
  obtain ⟨w1, hw1⟩ : ∃ w1, w1 = w.alloc (.cells #[.int .i64 0, .slice none 0 0, .int .i64 0, .slice none 0 0] 24) := ⟨_, rfl⟩
  have hb1 : Below w.heap.size w w1 := by rw [hw1]; exact (Below.refl _ _).alloc (Nat.le_refl _) _
  have x1 : Whole w1 w.heap.size 24 #[.int .i64 0, .slice none 0 0, .int .i64 0, .slice none 0 0] := by rw [hw1]; exact Whole.fresh _ _ _
  have p0 : w1.cell? ⟨bw, off, none⟩ = some (.int .u64 a) := (hb1.cell (p := ⟨bw, off, none⟩) hlt).trans e0
  have hs1 := hb1.size
  have hlt1 : bw < w1.heap.size := by omega
  have KS := Lib.hid (fun (W : World) (g : Nat) => DecAt.first (w2 := W) (g := g) hb1 x1 hlt e1 e2 hT h0 q0 q1 q2)
  have HW := Lib.hid hw1
  clear e0 e1 e2 hw1 hT hb1 x1 q0 q1 q2
  go_enter Tryd.func11, Tryd.ntmps11
  go_wp2_with fail
  rw [← HW.out]
  clear HW
  go_upto_region 3 with (fail)
  go_cut [4, 5] (fun s4 s5 wc => ∃ g, s4 = .slice (some ⟨g, 0, none⟩) 3 3 ∧ s5 = .int .i64 0 ∧ DecAt w bw off f0 f1 f2 b c g wc)
  case first =>
    go_region_held3 (fun w' => w'.cell? ⟨bw, off, none⟩ = some (.int .u64 a)) (first | exact r0 | exact p0 | (simp [go_sem, World.cell?_alloc_lt, hlt1, p0]))
      (first
        | (go_at_call 19; refine (firstWord_any _).mono ?_; rintro e w' ⟨rfl, rfl⟩)
        | (go_at_call 23; refine (unpack_first a ha _ _ (by exact (Whole.fresh w1 _ _).drew)).mono ?_; rintro e w2 ⟨g, rfl, hg, k0, k1, k2, hb2⟩; have hb3 := below_alloc_drew hb2; have r0 : w2.cell? ⟨bw, off, none⟩ = some (.int .u64 a) := (hb3.cell (p := ⟨bw, off, none⟩) hlt1).trans p0; have KD := Lib.hid (KS.out w2 g hb3 hg k0 k1 k2); clear hb2 hb3 k0 k1 k2))
    all_goals (go_wp2_with fail; go_meet; exact ⟨g, rfl, rfl, KD.out⟩)
  case rest =>
    obtain ⟨g, rfl, rfl, hD⟩ := hcut
    clear KS p0 hs1 hlt1
    have d0 := hD.c0
    have d1 := hD.c1
    have d2 := hD.e1
    have d3 := hD.e2
    have ltc := hD.lt
    have szc := hD.box.lt
    have bwc : bw < wc.heap.size := by omega
    have nec : ¬ g = wc.heap.size := by omega
    have nbc : ¬ bw = wc.heap.size := by omega
    have HD := Lib.hid hD
    clear hD
    have wr0 : IntKind.i64.wrap (f0 : Int) = (f0 : Int) := IntWalk.i64_in _ (by omega)
    have wr1 : IntKind.i64.wrap (f1 : Int) = (f1 : Int) := IntWalk.i64_in _ (by omega)
    go_wp2_with fail
    go_upto_region 6 with (fail)
    go_cut [6] (fun s wc => DecBox w bw off f0 f1 f2 b c g s wc)
    case first =>
      have C1 := Lib.hid (placesOf_pl b wc.drew hb (HD.out.still rfl rfl rfl rfl).tab (HD.out.still rfl rfl rfl rfl).pos')
      have C1z := Lib.hid (placesOf_pl b (wc.alloc (.cells #[.int .i64 0, .slice none 0 0, .int .i64 0, .slice none 0 0] 24)).drew hb ((HD.out.later ((Below.refl _ _).alloc (Nat.le_refl _) _)).still rfl rfl rfl rfl).tab ((HD.out.later ((Below.refl _ _).alloc (Nat.le_refl _) _)).still rfl rfl rfl rfl).pos')
      go_region_held3 (fun w' => w'.cell? ⟨g, 0, none⟩ = some (.int .u64 f0) ∧ w'.cell? ⟨g, 1, none⟩ = some (.int .u64 f1) ∧ w'.cell? ⟨bw, off + 1, none⟩ = some (.int .u64 b) ∧ w'.cell? ⟨bw, off + 2, none⟩ = some (.int .u64 c)) (first | exact ⟨l0, l1, l2, l3⟩ | exact ⟨m0, m1, m2, m3⟩ | exact ⟨d0, d1, d2, d3⟩ | (simp [go_sem, World.cell?_alloc_lt, lt6, bw6, l0, l1, l2, l3]; done) | (simp [go_sem, World.cell?_alloc_lt, lt5, bw5, m0, m1, m2, m3]; done) | (simp [go_sem, World.cell?_alloc_lt, ltc, bwc, d0, d1, d2, d3]; done) | (simp [go_sem, *]; done))
        (first
          | (go_at_call 24; (with_reducible refine C5b.out.mono ?_); rintro e w6 ⟨A6, c6, rfl, n6, hb6⟩; have k6 := D5.out.later hb6; have x6 := X5.out.below hb6 X5.out.lt; have z0 := x6.cell 0; have z1 := x6.cell 1; have z2 := x6.cell 2; have z3 := x6.cell 3; have y0 := x6.free 0; have y1 := x6.free 1; have y2 := x6.free 2; have y3 := x6.free 3; simp at z0 z1 z2 z3; have M5 := Lib.hid (N5.out.kept (Kept.of_below hb6 (Nat.le_refl _))); have l0 := k6.c0; have l1 := k6.c1; have l2 := k6.e1; have l3 := k6.e2; have s6 : w5.heap.size ≤ w6.heap.size := hb6.size; have M6 := Lib.hid n6; have D6 := Lib.hid k6; have lt6 := k6.lt; have bw6 := k6.bw'; have sz6 := k6.box.lt; have X6 := Lib.hid x6; clear hb6 n6 k6 x6)
          | (go_at_call 24; (with_reducible refine C5a.out.mono ?_); rintro e w6 ⟨A6, c6, rfl, n6, hb6⟩; have k6 := D5.out.later hb6; have M5 := Lib.hid (N5.out.kept (Kept.of_below hb6 (Nat.le_refl _))); have l0 := k6.c0; have l1 := k6.c1; have l2 := k6.e1; have l3 := k6.e2; have s6 : w5.heap.size ≤ w6.heap.size := hb6.size; have M6 := Lib.hid n6; have D6 := Lib.hid k6; have lt6 := k6.lt; have bw6 := k6.bw'; have sz6 := k6.box.lt; have ne6 : ¬ g = w6.heap.size := (by omega); have nb6 : ¬ bw = w6.heap.size := (by omega); clear hb6 n6 k6)
          | (go_at_call 24; (with_reducible refine C5z.out.mono ?_); rintro e w6 ⟨A6, c6, rfl, n6, hb6⟩; have k6 := D5.out.later (below_alloc hb6); have x6 := (Whole.fresh w5 24 #[.int .i64 0, .slice none 0 0, .int .i64 0, .slice none 0 0]).below hb6 (by simp); have z0 := x6.cell 0; have z1 := x6.cell 1; have z2 := x6.cell 2; have z3 := x6.cell 3; have y0 := x6.free 0; have y1 := x6.free 1; have y2 := x6.free 2; have y3 := x6.free 3; simp at z0 z1 z2 z3; have M5 := Lib.hid (N5.out.kept (Kept.of_below (below_alloc hb6) (Nat.le_refl _))); have l0 := k6.c0; have l1 := k6.c1; have l2 := k6.e1; have l3 := k6.e2; have s6 : w5.heap.size + 1 ≤ w6.heap.size := (by have := hb6.size; simpa using this); have M6 := Lib.hid (show NI w6 (w5.heap.size + 1) w6.heap.size A6 (LM.bl c).length c6 (LM.bl c) from n6.mono (by simp) (Nat.le_refl _)); have D6 := Lib.hid k6; have lt6 := k6.lt; have bw6 := k6.bw'; have sz6 := k6.box.lt; have X6 := Lib.hid x6; clear hb6 n6 k6 x6)
          | (go_at_call 24; (with_reducible refine C1.out.mono ?_); rintro e w5 ⟨A5, c5, rfl, n5, hb5⟩; have k5 : DecAt w bw off f0 f1 f2 b c g w5 := HD.out.later (below_of_drew' hb5); have m0 := k5.c0; have m1 := k5.c1; have m2 := k5.e1; have m3 := k5.e2; have s5 : wc.heap.size ≤ w5.heap.size := hb5.size; have N5 := Lib.hid (show NI w5 wc.heap.size w5.heap.size A5 (LM.bl b).length c5 (LM.bl b) from n5); have D5 := Lib.hid k5; have lt5 := k5.lt; have bw5 := k5.bw'; have sz5 := k5.box.lt; have ne5 : ¬ g = w5.heap.size := (by omega); have nb5 : ¬ bw = w5.heap.size := (by omega); have C5a := Lib.hid (placesOf_pl c w5 hc k5.tab k5.pos'); have C5z := Lib.hid (placesOf_pl c (w5.alloc (.cells #[.int .i64 0, .slice none 0 0, .int .i64 0, .slice none 0 0] 24)) hc (k5.later ((Below.refl _ _).alloc (Nat.le_refl _) _)).tab (k5.later ((Below.refl _ _).alloc (Nat.le_refl _) _)).pos'); clear hb5 n5 k5)
          | (go_at_call 24; (with_reducible refine C1z.out.mono ?_); rintro e w5 ⟨A5, c5, rfl, n5, hb5⟩; have k5 : DecAt w bw off f0 f1 f2 b c g w5 := HD.out.later (below_alloc_drew hb5); have x5 := ((Whole.fresh wc 24 #[.int .i64 0, .slice none 0 0, .int .i64 0, .slice none 0 0]).drew).below hb5 (by show wc.heap.size < (wc.alloc _).heap.size; simp); have z0 := x5.cell 0; have z1 := x5.cell 1; have z2 := x5.cell 2; have z3 := x5.cell 3; have y0 := x5.free 0; have y1 := x5.free 1; have y2 := x5.free 2; have y3 := x5.free 3; simp at z0 z1 z2 z3; have m0 := k5.c0; have m1 := k5.c1; have m2 := k5.e1; have m3 := k5.e2; have s5 : wc.heap.size + 1 ≤ w5.heap.size := (by have := hb5.size; simpa using this); have N5 := Lib.hid (show NI w5 (wc.heap.size + 1) w5.heap.size A5 (LM.bl b).length c5 (LM.bl b) from n5.mono (by simp) (Nat.le_refl _)); have D5 := Lib.hid k5; have lt5 := k5.lt; have bw5 := k5.bw'; have sz5 := k5.box.lt; have ne5 : ¬ g = w5.heap.size := (by omega); have nb5 : ¬ bw = w5.heap.size := (by omega); have C5b := Lib.hid (placesOf_pl c w5 hc k5.tab k5.pos'); have X5 := Lib.hid x5; clear hb5 n5 k5 x5))
      all_goals (go_wp2_with fail; go_meet; first | (refine dec_end_lit D6.out ?_ M5.out M6.out; exact ⟨by omega, by omega, by omega, by omega⟩) | (refine dec_end_set D6.out X6.out ?_ ?_ M5.out M6.out ?_; exact ⟨by omega, by omega⟩; exact ⟨by omega, by omega, by omega, by omega⟩; exact ⟨by omega, by omega⟩))
    case rest =>
      obtain ⟨q, A5, c5, A6, c6, rfl, hD, hq, hX, hL⟩ := hcut
      clear d0 d1 d2 d3 ltc szc bwc nec nbc HD wr0 wr1
      have cg := hD.c2
      have hbel := hD.bel
      have hs := hbel.size
      have hbox := hD.box
      have glt := hD.lt
      have qlt := hX.lt
      have x0 : wc.cell? ⟨q, 0, none⟩ = some (.int .i64 f0) := hX.cell 0
      have x1 : wc.cell? ⟨q, 1, none⟩ = some (.slice A5 (LM.bl b).length c5) := hX.cell 1
      have x2 : wc.cell? ⟨q, 2, none⟩ = some (.int .i64 f1) := hX.cell 2
      have x3 : wc.cell? ⟨q, 3, none⟩ = some (.slice A6 (LM.bl c).length c6) := hX.cell 3
      have xf0 := hX.free 0
      have b0 : wc.cell? ⟨w.heap.size, 0, none⟩ = some (.int .i64 0) := hbox.cell 0
      have b1 : wc.cell? ⟨w.heap.size, 1, none⟩ = some (.slice none 0 0) := hbox.cell 1
      have b2 : wc.cell? ⟨w.heap.size, 2, none⟩ = some (.int .i64 0) := hbox.cell 2
      have b3 : wc.cell? ⟨w.heap.size, 3, none⟩ = some (.slice none 0 0) := hbox.cell 3
      have y0 := hbox.free 0
      have y1 := hbox.free 1
      have y2 := hbox.free 2
      have y3 := hbox.free 3
      have blt := hbox.lt
      have HB := Lib.hid hbel
      have CR := lright_any f0 f1 A5 _ c5 (LM.bl b) A6 _ c6 (LM.bl c) wc.heap.size wc (Nat.le_refl _) (by omega) (by omega) ⟨by omega, by omega⟩ ⟨by omega, by omega⟩ hL.fst.ns hL.snd.ns
      have HL := Lib.hid hL
      clear hD hbel hbox hX hL
      by_cases h2 : f2 = 0
      · subst h2
        cases hr : LM.right f0 f1 (LM.bl b) (LM.bl c)
        · rw [hr] at CR
          have HR := Lib.hid hr
          have HC := Lib.hid CR
          clear CR hr
          go_wp2_with fail
          refine HC.out.mono ?_
          rintro e w' ⟨rfl, rfl⟩
          go_wp2
          refine bodyPost_ret (v := .tuple #[.agg #[.int .i64 0, .slice none 0 0, .int .i64 0, .slice none 0 0], .int .i64 4]) (by simp [results, Tryd.results11, go_sem, World.cell?_alloc_lt, blt, b0, b1, b2, b3]) rfl (.inr ⟨by rw [HR.out]; rfl, rfl, ?_⟩)
          exact (set4_below HB.out (Nat.le_refl _)).alloc (by simp; omega) _
        · rw [hr] at CR
          have HR := Lib.hid hr
          have HC := Lib.hid CR
          clear CR hr
          go_wp2_with fail
          refine HC.out.mono ?_
          rintro e w' ⟨rfl, rfl⟩
          go_wp2
          refine bodyPost_ret (v := .tuple #[.agg #[.int .i64 f0, .slice A5 (LM.bl b).length c5, .int .i64 f1, .slice A6 (LM.bl c).length c6], .int .i64 0]) (by simp [results, Tryd.results11, go_sem, World.cell?_alloc_lt, blt, b0, b1, b2, b3]) rfl (.inl ⟨by rw [HR.out]; rfl, A5, c5, A6, c6, rfl, ?_, ?_⟩)
          · exact ⟨(HL.out.fst.kept ((set4_kept (Kept.refl (w.heap.size + 1) wc.heap.size wc) (g := w.heap.size) (.inl (by omega))).alloc (by simp) _)).mono (by omega) (by simp), (HL.out.snd.kept ((set4_kept (Kept.refl (w.heap.size + 1) wc.heap.size wc) (g := w.heap.size) (.inl (by omega))).alloc (by simp) _)).mono (by omega) (by simp)⟩
          · exact (set4_below HB.out (Nat.le_refl _)).alloc (by simp; omega) _
      · have d2 : ((f2 : Int) != 0) = true := by simpa using h2
        clear CR
        go_wp2
        refine bodyPost_ret (v := .tuple #[.agg #[.int .i64 0, .slice none 0 0, .int .i64 0, .slice none 0 0], .int .i64 4]) (by simp [results, Tryd.results11, go_sem, b0, b1, b2, b3]) rfl (.inr ⟨by simp [h2], rfl, ?_⟩)
        exact set4_below HB.out (Nat.le_refl _)
end Go.Proofs.YtaffceodcfgeeaaDoor
