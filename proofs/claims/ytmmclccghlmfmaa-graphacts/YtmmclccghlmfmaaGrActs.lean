/- The law GraphActs. -/
import Derived.Test.YtmmclccghlmfmaaGrGreat
import Derived.Test.YtmmclccghlmfmaaGrLost
import Derived.Test.YtmmclccghlmfmaaGrRL
namespace Go.Proofs.Ytmmclccghlmfmaa
open Go.RowKit Go.Lib Go.Sort Go.Maps
set_option linter.unusedVariables false

set_option maxHeartbeats 4000000 in
set_option maxRecDepth 100000 in
theorem acts_walk (A : Option Addr) (n c : Nat) (xs : List Int) (B : Option Addr) (m d : Nat) (es : List (Int × Int)) (C : Option Addr) (t z : Nat) (ns : List Int) (w : World) (hz : ZS w A n xs ∧ ZI xs ∧ n ≤ c) (he : ES w B m es ∧ EI es ∧ m ≤ d) (hf : ZS w C t ns ∧ ZI ns ∧ t ≤ z) :
    Calls Try.prog 3 #[.slice A n c, .slice B m d, .slice C t z] w fun e w' => e = .returned (.bool true) ∧ Below w.heap.size w w' := by
  obtain ⟨hz1, hzi, hnc⟩ := hz
  obtain ⟨he1, hei, hmd⟩ := he
  obtain ⟨hf1, hfi, htz⟩ := hf
  have hle := he1.len
  have HZ := Lib.hid (fun (W : World) (hb : Below w.heap.size w W) => hz1.below hb)
  have HE := Lib.hid (fun (W : World) (hb : Below w.heap.size w W) => he1.below hb)
  have HN := Lib.hid (fun (W : World) (hb : Below w.heap.size w W) => hf1.below hb)
  have HZI := Lib.hid hzi
  have HEI := Lib.hid hei
  have hol : (GM.ord es xs).length ≤ n + m := by have := GM.ord_len es xs; have := hz1.len; omega
  have hrl : (GM.rch es xs).length ≤ n + m := by have := GM.rch_len es xs; have := hz1.len; omega
  have hll : (GM.lost es xs ns).length ≤ t := by have := GM.lost_len es xs ns; have := hf1.len; omega
  have hnr : BG.norm (GM.ord es xs) = GM.rch es xs := rfl
  clear hz1 hzi he1 hei hf1 hfi
  go_enter Try.func3, Try.ntmps3
  go_wp2_with fail
  refine (alive_any _).mono ?_
  rintro e w1 ⟨rfl, hb1⟩
  have B1 := Lib.hid hb1
  clear hb1
  go_wp2_with fail
  refine (great3 w1 n m t).mono ?_
  rintro e w2 ⟨rfl, rfl⟩
  have hb2 := (Below.refl w1.heap.size w1).alloc (Nat.le_refl _) (.cells #[.int .i64 n, .int .i64 m, .int .i64 t] 3)
  obtain ⟨w2, hw2⟩ : ∃ w2, w2 = w1.alloc (.cells #[.int .i64 n, .int .i64 m, .int .i64 t] 3) := ⟨_, rfl⟩
  rw [← hw2] at hb2 ⊢
  have B2 := Lib.hid (B1.out.trans (hb2.mono B1.out.size))
  clear B1 hb2 hw2
  by_cases hgr : 80 < n ∨ 80 < m ∨ 80 < t
  · have hg : decide (80 < n ∨ 80 < m ∨ 80 < t) = true := decide_eq_true hgr
    rw [hg]
    clear hgr hg hol hrl hll hnr
    go_wp2_with fail
    refine (alive_any _).mono ?_
    rintro e w3 ⟨rfl, hb3⟩
    go_wp2
    go_ret
    exact ⟨rfl, B2.out.trans (hb3.mono B2.out.size)⟩
  · have hg : decide (80 < n ∨ 80 < m ∨ 80 < t) = false := decide_eq_false hgr
    rw [hg]
    have ht : t ≤ 80 := by omega
    have hn : n ≤ 80 := by omega
    have hm : m ≤ 80 := by omega
    have HOR := Lib.hid (fun (W : World) (hb : Below w.heap.size w W) => order_any (c := c) (d := d) (HZ.out W hb) (HE.out W hb) HZI.out HEI.out (by omega) (by omega))
    have HRE := Lib.hid (fun (W : World) (hb : Below w.heap.size w W) => reach_any (c := c) (d := d) (HZ.out W hb) (HE.out W hb) HZI.out HEI.out (by omega) (by omega))
    have HLO := Lib.hid (fun (W : World) (hb : Below w.heap.size w W) => lost_any (z := z) (c := c) (d := d) (HN.out W hb) (HZ.out W hb) (HE.out W hb) HZI.out HEI.out (by omega) (by omega) (by omega))
    have HED := Lib.hid (fun (W : World) (hb : Below w.heap.size w W) => edges_any (c := d) (HE.out W hb) (by omega))
    obtain ⟨O, hO⟩ : ∃ O, O = GM.ord es xs := ⟨_, rfl⟩
    obtain ⟨R, hR⟩ : ∃ R, R = GM.rch es xs := ⟨_, rfl⟩
    obtain ⟨L, hL⟩ : ∃ L, L = GM.lost es xs ns := ⟨_, rfl⟩
    have HRO := Lib.hid (fun (W : World) (F : Option Addr) (f : Nat) (hb : Below w.heap.size w W) (hf : ES W F m es) => rorder_any (c := c) (d := f) (HZ.out W hb) hf (by omega) (by omega))
    have HRL := Lib.hid (fun (W : World) (F : Option Addr) (f : Nat) (hb : Below w.heap.size w W) (hf : ES W F m es) => rlost_any (z := z) (c := c) (d := f) (HN.out W hb) (HZ.out W hb) hf (by omega) (by omega) (by omega))
    simp only [← hO, ← hR, ← hL] at HOR HRE HLO HRO HRL hol hrl hll hnr
    have HNR := Lib.hid hnr
    clear hgr hg hO hR hL hnr
    go_wp2_with fail
    refine (HED.out _ B2.out).mono ?_
    rintro e w3 ⟨v, rfl, hv, hb⟩
    have B3 := Lib.hid (B2.out.trans (hb.mono B2.out.size))
    obtain ⟨A3, n3, c3, rfl, hn3, hs3⟩ := hv.op
    obtain rfl : n3 = m := by omega
    have HC3 := Lib.hid (HRO.out w3 A3 c3 B3.out hs3)
    clear B2 hb hv hn3 hs3
    go_wp2_with fail
    refine HC3.out.mono ?_
    rintro e w4 ⟨v, rfl, hv, hb⟩
    have B4 := Lib.hid (B3.out.trans (hb.mono B3.out.size))
    obtain ⟨A4, n4, c4, rfl, hn4, hs4⟩ := hv.op
    have hn4' : n4 ≤ 160 := by omega
    have HO4 := Lib.hid hs4
    clear B3 hb hv hn4 hs4 HC3
    go_wp2_with fail
    refine (HOR.out _ B4.out).mono ?_
    rintro e w5 ⟨v, rfl, hv, hb⟩
    have B5 := Lib.hid (B4.out.trans (hb.mono B4.out.size))
    have HO5 := Lib.hid (HO4.out.below hb)
    obtain ⟨A5, n5, c5, rfl, hn5, hs5⟩ := hv.op
    have HC5 := Lib.hid (same_any (c := c5) (d := c4) hs5 HO5.out (by omega))
    clear B4 hb hv hn5 hs5 HO4
    go_wp2_with fail
    refine HC5.out.mono ?_
    rintro e w6 ⟨rfl, q6, rfl⟩
    obtain ⟨w6, hw6⟩ : ∃ w6, w6 = w5.drewN q6 := ⟨_, rfl⟩
    have B6 := Lib.hid (show Below w.heap.size w w6 by rw [hw6]; exact bdrewN B5.out q6)
    have HO6 := Lib.hid (show ZS w6 A4 n4 O by rw [hw6]; exact HO5.out.below (bdrewN (Below.refl _ _) q6))
    rw [← hw6]
    clear B5 HO5 HC5 hw6
    go_wp2_with fail
    refine (HRE.out _ B6.out).mono ?_
    rintro e w7 ⟨v, rfl, hv, hb⟩
    have B7 := Lib.hid (B6.out.trans (hb.mono B6.out.size))
    have HO7 := Lib.hid (HO6.out.below hb)
    obtain ⟨A7, n7, c7, rfl, hn7, hs7⟩ := hv.op
    have hn7' : n7 ≤ 160 := by omega
    have HR7 := Lib.hid hs7
    have HC7 := Lib.hid (sorted_any (c := c4) HO7.out (by omega))
    clear B6 hb hv hn7 hs7 HO6
    go_wp2_with fail
    refine HC7.out.mono ?_
    rintro e w8 ⟨v, rfl, hv, hb⟩
    rw [HNR.out] at hv
    have B8 := Lib.hid (B7.out.trans (hb.mono B7.out.size))
    have HR8 := Lib.hid (HR7.out.below hb)
    obtain ⟨A8, n8, c8, rfl, hn8, hs8⟩ := hv.op
    have HC8 := Lib.hid (same_any (c := c7) (d := c8) HR8.out hs8 (by omega))
    clear B7 hb hv hn8 hs8 HR7 HC7 HO7
    go_wp2_with fail
    refine HC8.out.mono ?_
    rintro e w9 ⟨rfl, q9, rfl⟩
    obtain ⟨w9, hw9⟩ : ∃ w9, w9 = w8.drewN q9 := ⟨_, rfl⟩
    have B9 := Lib.hid (show Below w.heap.size w w9 by rw [hw9]; exact bdrewN B8.out q9)
    rw [← hw9]
    clear B8 HR8 HC8 hw9
    go_wp2_with fail
    refine (HLO.out _ B9.out).mono ?_
    rintro e w10 ⟨v, rfl, hv, hb⟩
    have B10 := Lib.hid (B9.out.trans (hb.mono B9.out.size))
    obtain ⟨A10, n10, c10, rfl, hn10, hs10⟩ := hv.op
    have hn10' : n10 ≤ 80 := by omega
    have HL10 := Lib.hid hs10
    clear B9 hb hv hn10 hs10
    go_wp2_with fail
    refine (HED.out _ B10.out).mono ?_
    rintro e w11 ⟨v, rfl, hv, hb⟩
    have B11 := Lib.hid (B10.out.trans (hb.mono B10.out.size))
    have HL11 := Lib.hid (HL10.out.below hb)
    obtain ⟨A11, n11, c11, rfl, hn11, hs11⟩ := hv.op
    obtain rfl : n11 = n3 := by omega
    have HC11 := Lib.hid (HRL.out w11 A11 c11 B11.out hs11)
    clear B10 hb hv hn11 hs11 HL10
    go_wp2_with fail
    refine HC11.out.mono ?_
    rintro e w12 ⟨v, rfl, hv, hb⟩
    have B12 := Lib.hid (B11.out.trans (hb.mono B11.out.size))
    have HL12 := Lib.hid (HL11.out.below hb)
    obtain ⟨A12, n12, c12, rfl, hn12, hs12⟩ := hv.op
    have HC12 := Lib.hid (same_any (c := c10) (d := c12) HL12.out hs12 (by omega))
    clear B11 hb hv hn12 hs12 HL11 HC11
    go_wp2_with fail
    refine HC12.out.mono ?_
    rintro e w13 ⟨rfl, q13, rfl⟩
    go_wp2
    go_ret
    exact ⟨rfl, bdrewN B12.out q13⟩
end Go.Proofs.Ytmmclccghlmfmaa
