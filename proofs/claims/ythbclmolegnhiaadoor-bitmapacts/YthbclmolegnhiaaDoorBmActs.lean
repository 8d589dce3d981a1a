/- The law BitmapActs: of any places that are turned each answer is the document's. -/
import Derived.Test.YthbclmolegnhiaaDoorBmGrown
namespace Go.Proofs.YthbclmolegnhiaaDoor
open Go.RowKit

theorem firstVal_is (f : Nat → Bool) (n : Nat) (i : Int) : ∃ (a : Int) (v : Bool), firstVal f n i = .tuple #[.int .i64 a, .bool v] := by
  unfold firstVal
  split
  · exact ⟨_, _, rfl⟩
  · exact ⟨_, _, rfl⟩
theorem runVal_is (f : Nat → Bool) (n : Nat) (k : Int) : ∃ (a : Int) (v : Bool), runVal f n k = .tuple #[.int .i64 a, .bool v] := by
  unfold runVal
  split
  · exact ⟨_, _, rfl⟩
  · exact ⟨_, _, rfl⟩

set_option maxRecDepth 100000 in
set_option maxHeartbeats 4000000 in
theorem acts_walk (n : Int) (A : Option Addr) (m c0 : Nat) (l : List (Int × Int × Int × Bool)) (t0 t1 t2 : Int) (w : World) (hn : -9223372036854775808 ≤ n ∧ n ≤ 9223372036854775807) (hl : FA w w.heap.size A m l) (hc0 : m ≤ c0)
    (_ : -9223372036854775808 ≤ t0 ∧ t0 ≤ 9223372036854775807) (ht1 : -9223372036854775808 ≤ t1 ∧ t1 ≤ 9223372036854775807) (_ : -9223372036854775808 ≤ t2 ∧ t2 ≤ 9223372036854775807) (hT : Tab w) :
    Calls Tryd.prog 4 #[.int .i64 n, .slice A m c0, .agg #[.int .i64 t0, .int .i64 t1, .int .i64 t2]] w fun e w' => e = .returned (.bool true) ∧ Below w.heap.size w w' := by
  have h0 := hT.pos
  obtain ⟨w0, hw0⟩ : ∃ w0, w0 = w.alloc (.cells #[.int .i64 t0, .int .i64 t1, .int .i64 t2] 36) := ⟨_, rfl⟩
  have B0 : Below w.heap.size w w0 := by rw [hw0]; exact (Below.refl _ _).alloc (Nat.le_refl _) _
  have W0 : Whole w0 w.heap.size 36 #[.int .i64 t0, .int .i64 t1, .int .i64 t2] := by rw [hw0]; exact Whole.fresh _ _ _
  obtain ⟨N, hN1, hN2, hG⟩ := grown_any n A m c0 l w0 hn ((hl.below B0).more B0.size) hc0
  have hT0 := hT.below B0 h0
  have lt0 := W0.lt
  rw [hw0] at hG
  have HG := Lib.hid hG
  have HW0 := Lib.hid hw0
  clear hG hl hn hw0
  go_enter Tryd.func4, Tryd.ntmps4
  go_wp2_with fail
  refine HG.out.mono ?_
  rw [← HW0.out]
  rintro e w1 ⟨b, c, r, ws, rfl, hm1, hr1, hb1, _, _, _, p1, p2, p3, _, _⟩
  have hT1 := hT0.below hb1 hT0.pos
  have W1 := W0.below hb1 lt0
  have lt1 := W1.lt
  have HM1 := Lib.hid hm1
  have HR1 := Lib.hid hr1
  clear hm1 hr1 HG
  go_wp2_with fail
  refine (alive_any w1 hT1).mono ?_
  rintro e w2 ⟨rfl, hb2⟩
  have HM2 := Lib.hid (HM1.out.below hb2 p1 p2)
  have HR2 := Lib.hid (HR1.out.below hb2 p3)
  have hT2 := hT1.below hb2 hT1.pos
  have W2 := W1.below hb2 lt1
  have B2 : Below w.heap.size w w2 := B0.trans ((hb1.mono B0.size).trans (hb2.mono (Nat.le_trans B0.size hb1.size)))
  have p4 : b < w2.heap.size := by have := hb2.size; omega
  have p5 : c < w2.heap.size := by have := hb2.size; omega
  have p6 : r < w2.heap.size := by have := hb2.size; omega
  have x0 := (W2.cell 0).trans rfl
  have x1 := (W2.cell 1).trans rfl
  have x2 := (W2.cell 2).trans rfl
  clear HM1 HR1 hT1 hb1 hb2 p1 p2 p3 hT hT0 W0 W1 W2 lt0 lt1 B0 HW0
  have f1 := first_any b c N t0 ws w2 HM2.out hT2
  have f2 := refFirst_any r N t0 (BM.on ws) w2 (by omega) HR2.out
  have f3 := run_any b c N t1 ws w2 HM2.out hT2 ht1.2
  have f4 := refRun_any r N t1 (BM.on ws) w2 (by omega) HR2.out ht1.2
  obtain ⟨a, v, e1⟩ := firstVal_is (BM.on ws) N t0
  obtain ⟨d, u, e2⟩ := runVal_is (BM.on ws) N t1
  rw [e1] at f1 f2
  rw [e2] at f3 f4
  have F1 := Lib.hid f1
  have F2 := Lib.hid f2
  have F3 := Lib.hid f3
  have F4 := Lib.hid f4
  clear f1 f2 f3 f4 e1 e2
  go_wp2_with fail
  refine F1.out.mono ?_
  rintro e w' ⟨rfl, rfl⟩
  go_wp2_with fail
  refine F2.out.mono ?_
  rintro e w' ⟨rfl, rfl⟩
  go_wp2_with fail
  refine F3.out.mono ?_
  rintro e w' ⟨rfl, rfl⟩
  go_wp2_with fail
  refine F4.out.mono ?_
  rintro e w' ⟨rfl, rfl⟩
  clear F1 F2 F3 F4
  go_upto_region 8 with (fail)
  go_cut [101] (fun s wc => s = .bool false ∧ ∃ k, wc = w2.drewN k)
  case first =>
    have e1 : (a != a) = false := by simp
    have e2 : (v != v) = false := by simp
    have e3 : (d != d) = false := by simp
    have e4 : (u != u) = false := by simp
    by_cases g1 : 0 ≤ t2
    · by_cases g2 : t2 < N
      · obtain ⟨j, rfl⟩ := Int.eq_ofNat_of_zero_le g1
        have hj : j < N := by omega
        have hh := has_in b c N j ws
        have hc := HR2.out.cell j hj
        generalize BM.on ws j = y at hh hc
        have HH := Lib.hid hh
        clear hh
        have e5 : (y != y) = false := by simp
        have e6 : decide ((j : Int) < (N : Int)) = true := by simp; omega
        have e7 : decide (j < N) = true := by simp; omega
        go_quiet ((go_at_call 13; exact Calls.quiet_of_same ((HH.out _ (by exact HM2.out.heap rfl) hj).mono fun _ _ ⟨he, hw⟩ => ⟨he, hw.symm⟩)))
        go_wp2
        go_meet
        exact ⟨rfl, _, rfl⟩
      · have hh := fun W (h : W.cell? ⟨b, 0, none⟩ = some (.int .i64 N)) => has_out b N t2 W h (.inr (by omega))
        have HH := Lib.hid hh
        have hlen := HM2.out.len
        clear hh
        have e5 : decide (0 ≤ t2) = true := by simpa using g1
        have e6 : decide (t2 < (N : Int)) = false := by simpa using g2
        go_quiet ((go_at_call 13; exact Calls.quiet_of_same ((HH.out _ (by exact hlen)).mono fun _ _ ⟨he, hw⟩ => ⟨he, hw.symm⟩)))
        go_wp2
        go_meet
        exact ⟨rfl, _, rfl⟩
    · have hh := fun W (h : W.cell? ⟨b, 0, none⟩ = some (.int .i64 N)) => has_out b N t2 W h (.inl (by omega))
      have HH := Lib.hid hh
      have hlen := HM2.out.len
      clear hh
      have e5 : decide (0 ≤ t2) = false := by simpa using g1
      go_quiet ((go_at_call 13; exact Calls.quiet_of_same ((HH.out _ (by exact hlen)).mono fun _ _ ⟨he, hw⟩ => ⟨he, hw.symm⟩)))
      go_wp2
      go_meet
      exact ⟨rfl, _, rfl⟩
  case rest =>
    obtain ⟨rfl, k, hk⟩ := hcut
    have hh : wc.heap = w2.heap := by rw [hk]; rfl
    have HM3 := HM2.out.heap hh
    have HR3 := HR2.out.heap hh
    have B3 : Below w.heap.size w wc := by rw [hk]; exact below_drewN B2 k
    have T3 : Tab wc := fun j hj => (World.cell?_of_block (by rw [hh])).trans (hT2 j hj)
    rw [← hh] at p4 p5 p6
    have hxl : (BM.ons (BM.on ws) N).length ≤ 1048576 := by rw [BM.ons_len]; have := BM.cnt_le (BM.on ws) N; omega
    have fa := refAll_any r N (BM.on ws) wc (by omega) p6 HR3
    have fall := fun W => all_map b c N ws W
    have fcnt := fun W => count_any b c N ws W
    have flen := fun W => len_any b N W
    rw [← BM.ons_len] at fcnt
    generalize BM.ons (BM.on ws) N = xs at *
    have HA := Lib.hid fa
    have HAL := Lib.hid fall
    have HC := Lib.hid fcnt
    have HLN := Lib.hid flen
    clear fa fall fcnt flen hh hk HR3 HM2 HR2 B2 hT2 x0 x1 x2
    have HM3' := Lib.hid HM3
    clear HM3
    go_wp2_with fail
    refine HA.out.mono ?_
    intro e w4 hp
    obtain ⟨A1, c1, rfl, i1, b4, l1⟩ := hp.use
    clear hp HA
    have HM4 := Lib.hid (HM3'.out.below b4 p4 p5)
    have T4 := T3.below b4 T3.pos
    have z4 := b4.size
    have hlt1 : ∀ g off n c, Value.slice A1 xs.length c1 = .slice (some ⟨g, off, none⟩) n c → g < w4.heap.size := by
      intro g off n c e
      cases e
      exact (l1 _ rfl).2
    have I1 := Lib.hid i1
    have L1 := Lib.hid hlt1
    clear i1 l1 hlt1 HM3' T3
    go_wp2_with fail
    refine (HLN.out _ HM4.out.len).mono ?_
    rintro e w' ⟨rfl, rfl⟩
    go_wp2_with fail
    refine (HAL.out _ HM4.out T4 (by omega) (by omega)).mono ?_
    intro e w5 hp
    obtain ⟨A2, c2, rfl, i2, b5, l2⟩ := hp.use
    clear hp
    have i3 := I1.out.below b5 L1.out
    have I2 := Lib.hid i2
    have I3 := Lib.hid i3
    have HM5 := Lib.hid (HM4.out.below b5 (by omega) (by omega))
    have z5 := b5.size
    clear i2 l2 i3 I1 L1
    go_wp2_with fail
    refine (same_any _ _ xs _ hxl I2.out I3.out).mono ?_
    rintro e w6 ⟨rfl, b6⟩
    have HM6 := Lib.hid (HM5.out.below b6 (by omega) (by omega))
    go_wp2_with fail
    refine (HC.out _ HM6.out).mono ?_
    rintro e w' ⟨rfl, rfl⟩
    go_wp2
    go_ret
    exact ⟨rfl, B3.trans ((b4.mono B3.size).trans ((b5.mono (by have := B3.size; omega)).trans (b6.mono (by have := B3.size; omega))))⟩
end Go.Proofs.YthbclmolegnhiaaDoor
