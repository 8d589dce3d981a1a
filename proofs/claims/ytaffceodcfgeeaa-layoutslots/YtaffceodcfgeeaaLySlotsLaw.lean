/- The walk of LayoutSlots. -/
import Derived.Test.YtaffceodcfgeeaaLyOpen
import Derived.Deep.RegionHeld3
namespace Go.Proofs.Ytaffceodcfgeeaa
open Go.RowKit

set_option maxRecDepth 100000 in
set_option maxHeartbeats 1000000 in
theorem slotsLaw_long (F R : Int) (A : Option Addr) (n c : Nat) (D : Option Addr) (m d : Nat) (C : Int) (w : World) (h : ¬ (n ≤ 100 ∧ m ≤ 100)) :
    Calls Try.prog 6 #[.agg #[.int .i64 F, .slice A n c, .int .i64 R, .slice D m d], .int .i64 C] w fun e w' => e = .returned (.bool true) ∧ Below w.heap.size w w' := by
  have H1 := Lib.hid (short_no F R A n c D m d (w.alloc (.cells #[.int .i64 F, .slice A n c, .int .i64 R, .slice D m d] 24)) h)
  clear h
  go_enter Try.func6, Try.ntmps6
  go_wp2_with fail
  refine H1.out.mono ?_
  rintro e w1 ⟨rfl, rfl⟩
  go_wp2_with fail
  refine (alive_any _).mono ?_
  rintro e w2 ⟨rfl, hb⟩
  go_wp2
  go_ret
  exact ⟨rfl, (((Below.refl _ _).alloc (Nat.le_refl _) _).alloc (by simp) _).trans (hb.mono (by simp; omega))⟩

set_option maxRecDepth 100000 in
set_option maxHeartbeats 4000000 in
theorem slotsLaw_err (F R : Int) (A : Option Addr) (n c : Nat) (xs : List Int) (D : Option Addr) (m d : Nat) (ys : List Int) (C : Int) (w : World) (hF : I64 F) (hR : I64 R) (hL : Lists w 0 w.heap.size A n c xs D m d ys) (hC : I64 C) (h1 : n ≤ 100) (h2 : m ≤ 100) (hc : LM.code F R xs ys C ≠ 0) :
    Calls Try.prog 6 #[.agg #[.int .i64 F, .slice A n c, .int .i64 R, .slice D m d], .int .i64 C] w fun e w' => e = .returned (.bool true) ∧ Below w.heap.size w w' := by
  have k0 := LayK.first hL hF hR (by omega : n ≤ 1000000) (by omega : m ≤ 1000000)
  have HC := Lib.hid hC
  have d0 : (LM.code F R xs ys C != 0) = true := by simpa using hc
  have HT := Lib.hid (LM.told_no hc)
  have K0 := Lib.hid (k0.shortK h1 h2)
  clear hL hF hR hC hc k0
  go_enter Try.func6, Try.ntmps6
  go_wp2_with fail
  refine K0.out.mono ?_
  rintro e w1 ⟨rfl, b1, k1⟩
  obtain ⟨p0, p1, p2, p3⟩ := k1.cells
  have K1 := Lib.hid k1
  clear k1 b1
  go_wp2_with fail
  refine (K1.out.sizeK C HC.out).mono ?_
  rintro e w2 ⟨rfl, b2, k2⟩
  have K2 := Lib.hid k2
  clear k2 b2 p0 p1 p2 p3
  go_wp2_with fail
  refine K2.out.aliveK.mono ?_
  rintro e w5 ⟨rfl, b5, k5⟩
  obtain ⟨p0, p1, p2, p3⟩ := k5.cells
  have K5 := Lib.hid (k5.slotsK C HC.out)
  rw [HT.out] at K5
  clear k5 b5
  go_wp2_with fail
  refine K5.out.mono ?_
  rintro e w6 ⟨A', c', rfl, _, _, k6⟩
  have hb := k6.bel
  clear k6
  go_wp2
  go_ret
  exact ⟨rfl, hb⟩

set_option maxRecDepth 100000 in
set_option maxHeartbeats 4000000 in
theorem slotsLaw_big (F R : Int) (A : Option Addr) (n c : Nat) (xs : List Int) (D : Option Addr) (m d : Nat) (ys : List Int) (C : Int) (w : World) (hF : I64 F) (hR : I64 R) (hL : Lists w 0 w.heap.size A n c xs D m d ys) (hC : I64 C) (h1 : n ≤ 100) (h2 : m ≤ 100) (hc : LM.code F R xs ys C = 0) (hb : 3000 < LM.size F R xs ys C) :
    Calls Try.prog 6 #[.agg #[.int .i64 F, .slice A n c, .int .i64 R, .slice D m d], .int .i64 C] w fun e w' => e = .returned (.bool true) ∧ Below w.heap.size w w' := by
  have k0 := LayK.first hL hF hR (by omega : n ≤ 1000000) (by omega : m ≤ 1000000)
  have HC := Lib.hid hC
  have HCC := Lib.hid hc
  have d0 : decide (3000 < LM.size F R xs ys C) = true := by simpa using hb
  have K0 := Lib.hid (k0.shortK h1 h2)
  clear hL hF hR hC hc k0
  go_enter Try.func6, Try.ntmps6
  go_wp2_with fail
  refine K0.out.mono ?_
  rintro e w1 ⟨rfl, b1, k1⟩
  obtain ⟨p0, p1, p2, p3⟩ := k1.cells
  have K1 := Lib.hid (k1.sizeK C HC.out)
  rw [HCC.out] at K1
  clear k1 b1
  go_wp2_with fail
  refine K1.out.mono ?_
  rintro e w2 ⟨rfl, b2, k2⟩
  have hb2 := k2.bel
  clear k2 b2 p0 p1 p2 p3
  go_wp2
  go_ret
  exact ⟨rfl, hb2⟩

set_option maxRecDepth 100000 in
set_option maxHeartbeats 4000000 in
theorem slotsLaw_in (F R : Int) (A : Option Addr) (n c : Nat) (xs : List Int) (D : Option Addr) (m d : Nat) (ys : List Int) (C : Int) (w : World) (hF : I64 F) (hR : I64 R) (hL : Lists w 0 w.heap.size A n c xs D m d ys) (hC : I64 C) (h1 : n ≤ 100) (h2 : m ≤ 100) (hc : LM.code F R xs ys C = 0) (hb : LM.size F R xs ys C ≤ 3000) :
    Calls Try.prog 6 #[.agg #[.int .i64 F, .slice A n c, .int .i64 R, .slice D m d], .int .i64 C] w fun e w' => e = .returned (.bool true) ∧ Below w.heap.size w w' := by
  obtain ⟨i0, hi0, hz0, hz1, hz2⟩ := info_parts infoInt
  have k0 := LayK.first hL hF hR (by omega : n ≤ 1000000) (by omega : m ≤ 1000000)
  have HC := Lib.hid hC
  have HCC := Lib.hid hc
  have K0 := Lib.hid (k0.shortK h1 h2)
  have hbd := (LM.size_bd F R xs ys C).1
  have HT := Lib.hid (LM.told_picks F R xs ys C)
  obtain ⟨s, hs⟩ : ∃ s : Nat, LM.size F R xs ys C = (s : Nat) := ⟨_, (Int.toNat_of_nonneg hbd).symm⟩
  rw [hs] at hb
  have HS := Lib.hid hs
  have d0 : decide ((3000 : Int) < (s : Nat)) = false := by simp; omega
  clear hL hF hR hC hc k0 hs hbd
  go_enter Try.func6, Try.ntmps6
  go_wp2_with fail
  refine K0.out.mono ?_
  rintro e w1 ⟨rfl, b1, k1⟩
  obtain ⟨p0, p1, p2, p3⟩ := k1.cells
  have K1 := Lib.hid (k1.sizeK C HC.out)
  rw [HCC.out, HS.out] at K1
  clear k1 b1
  go_wp2_with fail
  refine K1.out.mono ?_
  rintro e w2 ⟨rfl, b2, k2⟩
  have K2 := Lib.hid k2
  clear k2 b2 p0 p1 p2 p3
  go_wp2
  go_loopw [7, 36] (fun u x wr => ∃ k : Nat, k ≤ s ∧ x = .int .i64 k ∧ wr.ownsRow (w.heap.size + 1) 3 1 u (LM.picks (LM.isRef F R xs ys) k).length (ivals (LM.picks (LM.isRef F R xs ys) k)) ∧ LayK w F R A n c xs D m d ys wr) (fun _ x _ => s - (intOf x).toNat)
  case atStart => exact ⟨0, by omega, rfl, World.ownsRow_nil _ _ _ _, K2.out⟩
  case round =>
    obtain ⟨k, hk, rfl, hown, kr⟩ := hrel
    obtain ⟨p0, p1, p2, p3⟩ := kr.cells
    have hlen := LM.picks_len (LM.isRef F R xs ys) k
    have hsz := kr.size
    by_cases hlt : k < s
    · have CI := kr.isRefK C k HC.out HCC.out (by omega) (by rw [HS.out]; omega)
      have hub := Lib.hid hown.lt
      have HO := Lib.hid hown
      clear hown kr
      cases hf : LM.isRef F R xs ys k
      · rw [hf] at CI
        have HY2 := Lib.hid (LM.picks_no hf)
        have HCI := Lib.hid CI
        clear CI hf
        go_wp2_with fail
        refine HCI.out.mono ?_
        rintro e w3 ⟨rfl, hb3, k3⟩
        have HB3 := Lib.hid hb3
        have K3 := Lib.hid k3
        clear hb3 k3 p0 p1 p2 p3
        go_wp2
        go_roundw
        case rel => exact ⟨k + 1, by omega, by go_num, by rw [HY2.out]; exact ownsRow_below HO.out HB3.out, K3.out⟩
        case measure => simp [intOf]; omega
      · rw [hf] at CI
        have HY2 := Lib.hid (LM.picks_yes hf)
        have HCI := Lib.hid CI
        clear CI hf
        go_wp2_with fail
        refine HCI.out.mono ?_
        rintro e w3 ⟨rfl, hb3, k3⟩
        have hs3 := hb3.size
        have HB3 := Lib.hid hb3
        have K3 := Lib.hid k3
        have HO3 := Lib.hid (ownsRow_below HO.out hb3)
        clear hb3 k3 p0 p1 p2 p3
        go_wp2_with (first
          | (at_builtin; refine wpList_append_own _ rfl _ _ 22 rfl (w.heap.size + 1) 3 i0 _ 1 8 Try.underlying22 hi0 hz0 hz1 hz2 rfl (by decide) _ _ _ rfl (HO3.out.alloc _) ⟨w3.heap.size, 0, none⟩ 1 1 [.int .i64 (k : Nat)] rfl rfl (cell_one_new _ _ _) (by simp [Value.oneCell']) (by unfold maxLen; omega) (by omega) (by simp; omega) ?_; intro v' w4 hown' hgrow _; have HO2 := Lib.hid hown'; have HG := Lib.hid hgrow; clear hown' hgrow))
        go_roundw
        case rel =>
          refine ⟨k + 1, by omega, by go_num, ?_, K3.out.grow (((Below.refl (w.heap.size + 1) _).alloc (by omega) _).grown HG.out (by simp; omega) (fun g hg => (hub.out g hg).1))⟩
          rw [HY2.out, ivals_snoc, List.length_append]
          exact HO2.out
        case measure => simp [intOf]; omega
    · obtain rfl : k = s := by omega
      have hT : LM.told F R xs ys C = LM.picks (LM.isRef F R xs ys) k := by rw [HT.out, HS.out]; rfl
      have hw : ∀ x ∈ LM.picks (LM.isRef F R xs ys) k, (Lit.int .i64 x).wf = true := by rw [← hT]; exact told_wf F R xs ys C
      obtain ⟨Ap, cp, rfl, Np⟩ := ns_owns hown hw
      rw [← hT] at Np hlen ⊢
      have NP := Lib.hid Np
      have KI := Lib.hid (kr.isRefOutK C k HC.out HCC.out (.inr (by rw [HS.out]; omega)))
      clear hown kr hw hT Np
      go_wp2_with fail
      refine KI.out.mono ?_
      rintro e w4 ⟨rfl, b4, k4⟩
      have B4 := Lib.hid b4
      have K4 := Lib.hid k4.aliveK
      clear b4 k4 p0 p1 p2 p3
      go_wp2_with fail
      refine K4.out.mono ?_
      rintro e w5 ⟨rfl, b5, k5⟩
      obtain ⟨p0, p1, p2, p3⟩ := k5.cells
      have K5 := Lib.hid (k5.slotsK C HC.out)
      have B5 := Lib.hid b5
      clear b5 k5
      go_wp2_with fail
      refine K5.out.mono ?_
      rintro e w6 ⟨A6, c6, rfl, n6, b6, k6⟩
      have N5 := (NP.out.below B4.out).below (B5.out.mono B4.out.size)
      have N6 := N5.below (b6.mono (Nat.le_trans B4.out.size B5.out.size))
      have CS := sameI_any A6 _ c6 Ap cp _ _ _ w6 (by omega) n6 N6
      have HCS := Lib.hid CS
      have hb6 := k6.bel
      clear CS n6 b6 k6 N5 N6
      go_wp2_with fail
      refine HCS.out.mono ?_
      rintro e w7 ⟨rfl, j, rfl⟩
      go_wp2
      go_ret
      exact ⟨rfl, below_drewN hb6 _⟩

theorem slotsLaw_any (F R : Int) (A : Option Addr) (n c : Nat) (xs : List Int) (D : Option Addr) (m d : Nat) (ys : List Int) (C : Int) (w : World) (hF : I64 F) (hR : I64 R) (hL : Lists w 0 w.heap.size A n c xs D m d ys) (hC : I64 C) :
    Calls Try.prog 6 #[.agg #[.int .i64 F, .slice A n c, .int .i64 R, .slice D m d], .int .i64 C] w fun e w' => e = .returned (.bool true) ∧ Below w.heap.size w w' := by
  by_cases hs : n ≤ 100 ∧ m ≤ 100
  · by_cases hc : LM.code F R xs ys C = 0
    · by_cases hp : 3000 < LM.size F R xs ys C
      · exact slotsLaw_big F R A n c xs D m d ys C w hF hR hL hC hs.1 hs.2 hc hp
      · exact slotsLaw_in F R A n c xs D m d ys C w hF hR hL hC hs.1 hs.2 hc (by omega)
    · exact slotsLaw_err F R A n c xs D m d ys C w hF hR hL hC hs.1 hs.2 hc
  · exact slotsLaw_long F R A n c D m d C w hs
end Go.Proofs.Ytaffceodcfgeeaa
