/- The law BumpFew: of short pieces a space has few chunks. -/
import Derived.Test.YteencfldehcbbaaDoorBpFewM
import Derived.Test.YteencfldehcbbaaDoorSl
import Derived.Deep.DeepCutAuto
namespace Go.Proofs.YteencfldehcbbaaDoor
open Go.RowKit Go.Sort BP
set_option linter.unusedVariables false

section
variable {w0 w : World} {B : SB} {C K o o' p p' : Nat} {v v' : Value} {D : Dt}
theorem Co.free (h : Co w0 w B C K o o' p p' v v' D) : Calls Tryd.prog 23 #[.pointer (some ⟨B.s, 0, none⟩)] w fun e w' => e = .returned (.int .i64 (frees D.own C : Nat)) ∧ Below w.heap.size w w' :=
  (free_any h.held.st).mono fun _ _ ⟨he, m, hw⟩ => ⟨he, by subst hw; exact below_drewN (Below.refl _ _) _⟩
theorem RowPost.sl {xs : List Nat} {w w' : World} {e : Ending} (h : RowPost xs w e w') : ∃ A c, e = .returned (.slice A xs.length c) ∧ Below w.heap.size w w' := by
  obtain ⟨v, he, hown, hb⟩ := h
  rcases hown.2 with ⟨rfl, h0⟩ | ⟨g, cap, cur, rfl, _⟩
  · exact ⟨none, 0, by rw [he, h0], hb⟩
  · exact ⟨_, cap, he, hb⟩
end
set_option maxHeartbeats 8000000 in
set_option maxRecDepth 100000 in
theorem few_walk (m : Int) (A : Option Addr) (n c : Nat) (xs : List Int) (w : World) (hm : -9223372036854775808 ≤ m ∧ m ≤ 9223372036854775807) (hl : NS .i64 w w.heap.size A n xs) (hnc : n ≤ c) (hT : Tab w) :
    Calls Tryd.prog 6 #[.int .i64 m, .slice A n c] w fun e w' => e = .returned (.bool true) ∧ Below w.heap.size w w' := by
  obtain ⟨k, hk1, hk2, hk⟩ := sizeK m 8 (by decide) (by decide)
  have HM := Lib.hid (fun W (hb : Below w.heap.size w W) => (show Calls Tryd.prog 11 #[.int .i64 200, .int .i64 8] W (BMadePost 200 8 W) from made_ok 200 8 W (hT.below hb hT.pos) (by decide) (by decide) (by decide) (by decide)))
  have HAL := Lib.hid (fun W (hb : Below w.heap.size w W) => balive_any W (hT.below hb hT.pos))
  have HN := Lib.hid hk
  have HL := Lib.hid hl
  clear hk hl
  go_enter Tryd.func6, Tryd.ntmps6
  go_upto_region 1 with (fail)
  go_cut [5] (fun s wc => s = .int .i64 (k : Nat) ∧ w = wc)
  case first =>
    go_wp2
    all_goals go_meet
    all_goals
      refine ⟨congrArg (Value.int .i64) ?_, rfl⟩
      have := HN.out
      split at this <;> omega
  case rest =>
    obtain ⟨rfl, rfl⟩ := hcut
    clear HN
    go_wp2_with fail
    refine (HM.out w (Below.refl _ _)).mono ?_
    rintro e w1 ⟨B, p, p', rfl, hc1⟩
    have HC1 := Lib.hid hc1
    have hb1 := hc1.bel.alloc hc1.bel.size (.cells #[.pointer (some ⟨p, 0, none⟩), .pointer (some ⟨p', 0, none⟩)] 27)
    have HB1 := Lib.hid hb1
    clear hc1 hb1 HM
    go_wp2_with fail
    refine (HAL.out _ HB1.out).mono ?_
    rintro e w2 ⟨rfl, hb2⟩
    obtain ⟨wa, ha⟩ : ∃ wa, wa = w1.alloc (.cells #[.pointer (some ⟨p, 0, none⟩), .pointer (some ⟨p', 0, none⟩)] 27) := ⟨_, rfl⟩
    rw [← ha] at hb2 HB1
    have hba : Below w1.heap.size w1 wa := by rw [ha]; exact (Below.refl _ _).alloc (Nat.le_refl _) _
    have hxa : Whole wa w1.heap.size 27 #[.pointer (some ⟨p, 0, none⟩), .pointer (some ⟨p', 0, none⟩)] := by rw [ha]; exact Whole.fresh _ _ _
    have HC2 := Lib.hid (HC1.out.later hT (hba.trans (hb2.mono hba.size)))
    have HX2 := Lib.hid (hxa.below hb2 hxa.lt)
    have HB2 := Lib.hid (HB1.out.trans (hb2.mono HB1.out.size))
    have HNO := Lib.hid (HC1.out.not (Nat.le_refl _))
    clear hba hxa hb2 ha HB1 HC1
    by_cases hn : 150 < n
    · have d : (150 : Int) < (n : Int) := by omega
      go_wp2_with fail
      refine (HAL.out _ HB2.out).mono ?_
      rintro e w3 ⟨rfl, hb3⟩
      go_wp2
      go_ret
      exact ⟨rfl, HB2.out.trans (hb3.mono HB2.out.size)⟩
    · have d : ¬ (150 : Int) < (n : Int) := by omega
      clear HAL
      go_wp2_with fail
      go_loopw [8, 39] (fun y x wr => ∃ (j sum : Nat) (D : Dt), j ≤ n ∧ x = .int .i64 j ∧ y = .int .i64 sum ∧ sum ≤ j * 8 ∧ Hid (Few k D sum j) ∧ Hid (∃ u, Co w wr B 200 8 1 2 p p' u (.slice none 0 0) D ∧ Turn (coF B p p' (.slice none 0 0) (.slice none 0 0)) (coF B p p' u (.slice none 0 0)) w2 wr)) (fun _ x _ => n - (intOf x).toNat)
      case atStart => exact ⟨0, 0, d0, Nat.zero_le _, rfl, rfl, Nat.le_refl _, Lib.hid (few_start k), Lib.hid ⟨_, HC2.out, Turn.refl _ _⟩⟩
      case round =>
        obtain ⟨j, sum, D, hj, rfl, rfl, hsum, HF, HR⟩ := hrel
        obtain ⟨u, hco, htn⟩ := HR.out
        have HCO := Lib.hid hco
        have HTN := Lib.hid htn
        have hw1 := htn.keep HX2.out HNO.out
        have b0 := hw1.p0
        clear HR htn hco hw1
        by_cases hlt : j < n
        · obtain ⟨b, off, x, rfl, hb, _, hwf, hcell⟩ := HL.out.at_ hlt
          have hx := bounds_i64 hwf
          have hc0 := ((HCO.out.bel.cell (p := ⟨b, off + j, none⟩) hb)).trans hcell
          obtain ⟨N, hN1, hN2, hN⟩ := sizeK x k hk1 (by omega)
          have HNN := Lib.hid hN
          obtain ⟨hE, hF2⟩ := few_step HF.out hN1 hN2 hk2 (by omega)
          have hal := alloc_any HCO.out hT HF.out.good (by decide) (N : Nat) (by omega)
          rw [hE] at hal
          have HA := Lib.hid hal
          have HF2 := Lib.hid hF2
          generalize alA 200 8 1 D (N : Nat) = a at *
          clear hal hN hwf hcell hb hE hF2 hnc
          go_upto_region 9 with (fail)
          go_cut [10] (fun s wc => s = .int .i64 (N : Nat) ∧ wr = wc)
          case first =>
            rcases Int.lt_or_le x 0 with hx0 | hx0
            · have e0 := HNN.out
              rw [if_pos hx0, Int.zero_emod] at e0
              have E0 := Lib.hid e0
              clear e0
              go_wp2
              all_goals go_meet
              all_goals
                refine ⟨congrArg (Value.int .i64) ?_, rfl⟩
                have := E0.out
                have hz : x = 0 → x % (k : Int) = 0 := fun h => by rw [h, Int.zero_emod]
                first | omega | (unfold wrap64; omega)
            · have e0 := HNN.out
              rw [if_neg (by omega)] at e0
              have E0 := Lib.hid e0
              clear e0
              go_wp2
              all_goals go_meet
              all_goals
                refine ⟨congrArg (Value.int .i64) ?_, rfl⟩
                have := E0.out
                have hz : x = 0 → x % (k : Int) = 0 := fun h => by rw [h, Int.zero_emod]
                first | omega | (unfold wrap64; omega)
          case rest =>
            obtain ⟨rfl, rfl⟩ := hcut
            clear HNN
            go_wp2_with (first | (go_at_call 26; refine HA.out.mono ?_; rintro e w3 ⟨rfl, u3, hc3, ht3⟩; have HC3 := Lib.hid hc3; have HT3 := Lib.hid ht3; clear hc3 ht3))
            go_roundw
            case rel => exact ⟨j + 1, sum + N, _, by omega, by go_num, by go_num, by omega, HF2, Lib.hid ⟨u3, HC3.out, HTN.out.trans HT3.out⟩⟩
            case measure => simp [intOf]; omega
        · obtain rfl : j = n := by omega
          obtain ⟨hcl, hfr⟩ := few_end HF.out hk2
          have HCK := Lib.hid (fun W (hb : Below wr.heap.size wr W) => (HCO.out.later hT hb).chunks HF.out.good.a)
          have HFR := Lib.hid (fun W (hb : Below wr.heap.size wr W) => (HCO.out.later hT hb).free)
          have HBW := Lib.hid (HCO.out.bel)
          generalize hL : (chunks D.S.parts).length = L at *
          generalize hF : frees D.own 200 = f at *
          have HFF := Lib.hid hF
          have HLL := Lib.hid hL
          have hq : (sum : Int) / (8 - (k : Int) + 1) = ((sum / (9 - k) : Nat) : Int) := by
            rw [show (8 : Int) - (k : Int) + 1 = ((9 - k : Nat) : Int) by omega]; simp
          have hq9 : sum / (9 - k) ≤ 1200 := Nat.le_trans (Nat.div_le_self _ _) (by omega)
          generalize sum / (9 - k) = q at *
          have B0 := Lib.hid (Below.refl wr.heap.size wr).drew
          clear hF hL HF HNO HX2 HTN hnc
          have b0d : wr.drew.cell? ⟨w1.heap.size, 0, none⟩ = some (.pointer (some ⟨p, 0, none⟩)) := b0
          have y1 := wrapOk (8 - (k : Int)) (by omega) (by omega)
          have y2 := wrapOk (8 - (k : Int) + 1) (by omega) (by omega)
          have y3 : ¬ (8 - (k : Int) + 1 = 0) := by omega
          have y4 := wrapOk (q : Int) (by omega) (by omega)
          have y5 := wrapOk ((q : Int) + 1) (by omega) (by omega)
          have y6 : (0 : Int) ≤ (sum : Int) := by omega
          have y7 := wrapOk (200 - (L : Int)) (by omega) (by omega)
          have hqt : (sum : Int).tdiv (8 - (k : Int) + 1) = (q : Int) := by rw [Int.tdiv_eq_ediv_of_nonneg y6]; exact hq
          have ey : decide ((L : Int) ≤ (q : Int) + 1) = true := by simp; omega
          go_wp2_with fail
          go_region_law (first
            | (go_simp; go_at_call 16; refine (HCK.out _ (by exact B0.out)).mono ?_; intro e wx hrp; obtain ⟨Ax, cx, he, hbx⟩ := hrp.sl; subst he; rw [HLL.out]; have b0d := bcellB hbx b0d; have B0 := Lib.hid (B0.out.trans (hbx.mono B0.out.size)); clear hbx hrp)
            | (go_simp; go_at_call 23; refine (HFR.out _ (by exact B0.out)).mono ?_; rintro e wx ⟨he, hbx⟩; subst he; have b0d := bcellB hbx b0d; have B0 := Lib.hid (B0.out.trans (hbx.mono B0.out.size)); clear hbx)
            | fail)
          all_goals
            go_wp2
            go_ret
            exact ⟨ret_bool (by simp; omega), HBW.out.trans (B0.out.mono HBW.out.size)⟩
end Go.Proofs.YteencfldehcbbaaDoor
