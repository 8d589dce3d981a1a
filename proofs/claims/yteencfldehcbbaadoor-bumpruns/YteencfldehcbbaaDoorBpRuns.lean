/- The law BumpRuns: a long piece has a run of as few chunks as it needs. -/
import Derived.Test.YteencfldehcbbaaDoorBpRunsM
import Derived.Test.YteencfldehcbbaaDoorBpSl
import Derived.Deep.DeepCutAuto
namespace Go.Proofs.YteencfldehcbbaaDoor
open Go.RowKit Go.Sort BP
set_option linter.unusedVariables false

/-- Two spaces on a store of sixty chunks, their pointers' box. -/
structure Rn (w0 w : World) (B : SB) (K p p' bx : Nat) (D : Dt) : Prop where
  co : ∃ s t, Co w0 w B 60 K 1 2 p p' s t D ∧ bx ∉ coF B p p' s t
  x : Whole w bx 27 #[.pointer (some ⟨p, 0, none⟩), .pointer (some ⟨p', 0, none⟩)]
section
variable {w0 w w' : World} {B : SB} {K p p' bx : Nat} {D D' : Dt}
theorem Rn.bel (h : Rn w0 w B K p p' bx D) : Below w0.heap.size w0 w := by
  obtain ⟨s, t, hc, _⟩ := h.co
  exact hc.bel
theorem Rn.op (h : Rn w0 w B K p p' bx D) {s t s' t' : Value} (hc : Co w0 w B 60 K 1 2 p p' s t D) (hb : bx ∉ coF B p p' s t) (hc' : Co w0 w' B 60 K 1 2 p p' s' t' D') (ht : Turn (coF B p p' s t) (coF B p p' s' t') w w') : Rn w0 w' B K p p' bx D' := by
  refine ⟨⟨s', t', hc', fun hx => ?_⟩, ht.keep h.x hb⟩
  rcases ht.new bx hx with e | e
  · exact hb e
  · have := h.x.lt; omega
theorem Rn.later (h : Rn w0 w B K p p' bx D) (hT : Tab w0) (hb : Below w.heap.size w w') : Rn w0 w' B K p p' bx D := by
  obtain ⟨s, t, hc, hn⟩ := h.co
  exact h.op hc hn (hc.later hT hb) (Turn.of_below hb)
theorem Rn.drew (h : Rn w0 w B K p p' bx D) (hT : Tab w0) : Rn w0 w.drew B K p p' bx D := h.later hT ((Below.refl _ _).drew)
theorem Rn.alloc_ (h : Rn w0 w B K p p' bx D) (hT : Tab w0) (hG : Good2 60 K 1 2 D) (n : Nat) (hn : n ≤ 1000) (z : Int) (hz : z = (n : Int)) : Calls Tryd.prog 26 #[.pointer (some ⟨p, 0, none⟩), .int .i64 z] w fun e w' => e = .returned (.tuple #[.int .i64 (alA 60 K 1 D (n : Nat) : Nat), .int .i64 (alE 60 K 1 D (n : Nat))]) ∧ Rn w0 w' B K p p' bx (alD 60 K 1 D (n : Nat)) := by
  subst hz
  obtain ⟨s, t, hc, hb⟩ := h.co
  refine (alloc_any hc hT hG (by decide) (n : Nat) (by omega)).mono ?_
  rintro e w' ⟨he, u, hc', ht⟩
  exact ⟨he, h.op hc hb hc' ht⟩
theorem Rn.room_ (h : Rn w0 w B K p p' bx D) (hT : Tab w0) (hG : Good2 60 K 1 2 D) : Calls Tryd.prog 18 #[.pointer (some ⟨p, 0, none⟩)] w fun e w' => e = .returned (.int .i64 (BP.room K D.S : Nat)) ∧ Rn w0 w' B K p p' bx D := by
  obtain ⟨s, t, hc, hb⟩ := h.co
  exact (hc.room hG.a.fl).mono fun _ _ ⟨he, hbw⟩ => ⟨he, h.later hT hbw⟩
theorem Rn.chunks_ (h : Rn w0 w B K p p' bx D) (hT : Tab w0) (hG : Good2 60 K 1 2 D) : Calls Tryd.prog 16 #[.pointer (some ⟨p, 0, none⟩)] w fun e w' => ∃ A c, e = .returned (.slice A (chunks D.S.parts).length c) ∧ Rn w0 w' B K p p' bx D := by
  obtain ⟨s, t, hc, hb⟩ := h.co
  refine (hc.chunks hG.a).mono ?_
  intro e w' hrp
  obtain ⟨A, c, he, hbw⟩ := hrp.sl
  exact ⟨A, c, he, h.later hT hbw⟩
theorem Rn.big_ (h : Rn w0 w B K p p' bx D) (hT : Tab w0) (hG : Good2 60 K 1 2 D) (k : Nat) (hk : k ≤ 1000) (z : Int) (hz : z = (k : Int)) : Calls Tryd.prog 21 #[.pointer (some ⟨p, 0, none⟩), .int .i64 z] w fun e w' => e = .returned (.bool (isBig D.S.parts (k : Nat))) ∧ Rn w0 w' B K p p' bx D := by
  subst hz
  obtain ⟨s, t, hc, hb⟩ := h.co
  exact (hc.big hG.a (k : Nat) (by omega)).mono fun _ _ ⟨he, hbw⟩ => ⟨he, h.later hT hbw⟩
theorem Rn.bigB (h : Rn w0 w B K p p' bx D) (hG : Good2 60 K 1 2 D) (k : Nat) (hk : k ≤ 1000) (z : Int) (hz : z = (k : Int)) : Calls Tryd.prog 21 #[.pointer (some ⟨p, 0, none⟩), .int .i64 z] w fun e w' => e = .returned (.bool (isBig D.S.parts (k : Nat))) ∧ Below w.heap.size w w' := by
  subst hz
  obtain ⟨s, t, hc, hb⟩ := h.co
  exact hc.big hG.a (k : Nat) (by omega)
theorem Rn.ownerB (h : Rn w0 w B K p p' bx D) (k : Nat) (hk : k < 60) (z : Int) (hz : z = (k : Int)) : Calls Tryd.prog 20 #[.pointer (some ⟨B.s, 0, none⟩), .int .i64 z] w fun e w' => e = .returned (.int .i64 (D.own k : Nat)) ∧ Below w.heap.size w w' := by
  subst hz
  obtain ⟨s, t, hc, hb⟩ := h.co
  have := owner_any hc.held.st (k : Int)
  rw [ownerOf_in hk] at this
  exact this.mono fun _ _ ⟨he, hw⟩ => ⟨he, by subst hw; exact Below.refl _ _⟩
theorem Rn.owner_ (h : Rn w0 w B K p p' bx D) (hT : Tab w0) (k : Nat) (hk : k < 60) (z : Int) (hz : z = (k : Int)) : Calls Tryd.prog 20 #[.pointer (some ⟨B.s, 0, none⟩), .int .i64 z] w fun e w' => e = .returned (.int .i64 (D.own k : Nat)) ∧ Rn w0 w' B K p p' bx D := by
  subst hz
  obtain ⟨s, t, hc, hb⟩ := h.co
  have := owner_any hc.held.st (k : Int)
  rw [ownerOf_in hk] at this
  exact this.mono fun _ _ ⟨he, hw⟩ => ⟨he, by subst hw; exact h⟩
theorem Rn.drop_ (h : Rn w0 w B K p p' bx D) (hT : Tab w0) (hG : Good2 60 K 1 2 D) (k : Nat) (z : Int) (hz : z = (k : Int)) : Calls Tryd.prog 30 #[.pointer (some ⟨p, 0, none⟩), .int .i64 z] w fun e w' => e = .returned (.int .i64 (dropE D (k : Nat))) ∧ Rn w0 w' B K p p' bx (dropD D (k : Nat)) := by
  subst hz
  obtain ⟨s, t, hc, hb⟩ := h.co
  refine (drop_any hc hT hG.a (by decide) (k : Nat)).mono ?_
  rintro e w' ⟨he, u, hc', ht⟩
  exact ⟨he, h.op hc hb hc' ht⟩
end
set_option maxHeartbeats 8000000 in
set_option maxRecDepth 100000 in
theorem runs_walk (m n0 : Int) (A : Option Addr) (n c : Nat) (xs : List Int) (w : World) (hm : -9223372036854775808 ≤ m ∧ m ≤ 9223372036854775807) (hn0 : -9223372036854775808 ≤ n0 ∧ n0 ≤ 9223372036854775807) (hl : NS .i64 w w.heap.size A n xs) (hnc : n ≤ c) (hT : Tab w) :
    Calls Tryd.prog 8 #[.int .i64 m, .int .i64 n0, .slice A n c] w fun e w' => e = .returned (.bool true) ∧ Below w.heap.size w w' := by
  obtain ⟨K, hK1, hK2, hk⟩ := sizeK m 10 (by decide) (by decide)
  obtain ⟨N0, hN1, hN2, hN0⟩ := sizeK n0 40 (by decide) (by decide)
  have HM := Lib.hid (fun W (hb : Below w.heap.size w W) => (show Calls Tryd.prog 11 #[.int .i64 60, .int .i64 (K : Nat)] W (BMadePost 60 K W) from made_ok 60 K W (hT.below hb hT.pos) (by decide) (by decide) hK1 (by omega)))
  have HAL := Lib.hid (fun W (hb : Below w.heap.size w W) => balive_any W (hT.below hb hT.pos))
  have HN := Lib.hid hk
  have HN0 := Lib.hid hN0
  have HL := Lib.hid hl
  clear hk hl hN0
  go_enter Tryd.func8, Tryd.ntmps8
  go_upto_region 1 with (fail)
  go_cut [7] (fun s wc => s = .int .i64 (K : Nat) ∧ w = wc)
  case first =>
    go_wp2
    all_goals go_meet
    all_goals
      refine ⟨congrArg (Value.int .i64) ?_, rfl⟩
      have := HN.out
      split at this <;> omega
  case rest =>
    obtain ⟨rfl, rfl⟩ := hcut
    clear HN
    go_wp2_with fail
    refine (HM.out w (Below.refl _ _)).mono ?_
    rintro e w1 ⟨B, p, p', rfl, hc1⟩
    have HC1 := Lib.hid hc1
    have hb1 := hc1.bel.alloc hc1.bel.size (.cells #[.pointer (some ⟨p, 0, none⟩), .pointer (some ⟨p', 0, none⟩)] 27)
    have HB1 := Lib.hid hb1
    clear hc1 hb1 HM
    go_wp2_with fail
    refine (HAL.out _ HB1.out).mono ?_
    rintro e w2 ⟨rfl, hb2⟩
    obtain ⟨wa, ha⟩ : ∃ wa, wa = w1.alloc (.cells #[.pointer (some ⟨p, 0, none⟩), .pointer (some ⟨p', 0, none⟩)] 27) := ⟨_, rfl⟩
    rw [← ha] at hb2 HB1
    have hba : Below w1.heap.size w1 wa := by rw [ha]; exact (Below.refl _ _).alloc (Nat.le_refl _) _
    have hxa : Whole wa w1.heap.size 27 #[.pointer (some ⟨p, 0, none⟩), .pointer (some ⟨p', 0, none⟩)] := by rw [ha]; exact Whole.fresh _ _ _
    have HS2 := Lib.hid (show Rn w w2 B K p p' w1.heap.size d0 from ⟨⟨_, _, HC1.out.later hT (hba.trans (hb2.mono hba.size)), HC1.out.not (Nat.le_refl _)⟩, hxa.below hb2 hxa.lt⟩)
    clear hba hxa hb2 ha HB1 HC1 HAL
    generalize w1.heap.size = bx at *
    obtain ⟨M, hM1, hM2, hM3⟩ : ∃ M : Nat, M ≤ n ∧ M ≤ 12 ∧ (n ≤ 12 ∧ M = n ∨ 12 < n ∧ M = 12) := by
      by_cases h : n ≤ 12
      · exact ⟨n, Nat.le_refl _, h, .inl ⟨h, rfl⟩⟩
      · exact ⟨12, by omega, Nat.le_refl _, .inr ⟨by omega, rfl⟩⟩
    have HM3 := Lib.hid hM3
    clear hM3
    go_upto_region 5 with (fail)
    go_cut [39, 40, 41] (fun s k i wc => s = .slice A M c ∧ k = .int .i64 (M : Nat) ∧ i = .int .i64 0 ∧ w2 = wc)
    case first =>
      rcases HM3.out with ⟨h1, h2⟩ | ⟨h1, h2⟩
      · subst h2
        have hn' : ¬ (12 : Int) < (M : Int) := by omega
        go_wp2
        go_meet
        exact ⟨rfl, rfl, rfl, rfl⟩
      · subst h2
        have hn' : (12 : Int) < (n : Int) := by omega
        go_wp2
        go_meet
        exact ⟨rfl, rfl, rfl, rfl⟩
    case rest =>
      obtain ⟨rfl, rfl, rfl, rfl⟩ := hcut
      go_wp2_with fail
      go_loopw [41] (fun x wr => ∃ (j c : Nat) (D : Dt), j ≤ M ∧ x = .int .i64 j ∧ c ≤ j ∧ Hid (RunI K c D) ∧ Hid (Rn w wr B K p p' bx D)) (fun x _ => M - (intOf x).toNat)
      case atStart => exact ⟨0, 0, d0, Nat.zero_le _, rfl, Nat.le_refl _, Lib.hid (run_start K), HS2⟩
      case round =>
        obtain ⟨j, c9, D, hj, rfl, hcj, HI, HS⟩ := hrel
        have y0 := HS.out.x.p0
        by_cases hlt : j < M
        · obtain ⟨b, off, x, rfl, hb, _, hwf, hcell⟩ := HL.out.at_ (show j < n by omega)
          have hx := bounds_i64 hwf
          have hc0 := ((HS.out.bel.cell (p := ⟨b, off + j, none⟩) hb)).trans hcell
          obtain ⟨N, hN1, hN2, hN⟩ := sizeK x K hK1 (by omega)
          obtain ⟨c8, hc8, hI2⟩ := run_step HI.out hK1 hN1 hN2 (by omega)
          have HI2 := Lib.hid hI2
          have HA := Lib.hid (fun W (h : Rn w W B K p p' bx D) => h.alloc_ hT HI.out.good N (by omega))
          have HSD := Lib.hid (HS.out.drew hT)
          have HNN := Lib.hid hN
          clear hwf hcell hb hI2 hN
          rcases Int.lt_or_le x 0 with hx0 | hx0
          · have e0 := HNN.out
            rw [if_pos hx0, Int.zero_emod] at e0
            have E0 := Lib.hid e0
            clear e0 HNN
            have z1 : ¬ ((K : Int) = 0) := by omega
            have mx : max (0 : Int) x = 0 := by omega
            have mx2 : (if (0 : Int) < x then x else 0) = 0 := if_neg (by omega)
            have z0 : ¬ (K = 0) := by omega
            have t0 : Int.tmod 0 (K : Int) = 0 := Int.zero_tmod _
            go_wp2_with fail
            go_region_law (first
              | (go_simp; go_at_call 26; refine (HA.out _ HSD.out _ (by have := E0.out; first | omega | (unfold wrap64; omega) | (rw [wrapOk _ (by omega) (by omega)]; omega))).mono ?_; rintro e w3 ⟨rfl, hs3⟩; have HS3 := Lib.hid hs3; clear hs3)
              | fail)
            all_goals
              go_wp2
              go_roundw
              case rel => exact ⟨j + 1, c8, _, by omega, by go_num, by omega, HI2, HS3⟩
              case measure => simp [intOf]; omega
          · have e0 := HNN.out
            rw [if_neg (by omega)] at e0
            have E0 := Lib.hid e0
            have hz : x = 0 → x % (K : Int) = 0 := fun h => by rw [h, Int.zero_emod]
            have HZ := Lib.hid hz
            have z1 : ¬ ((K : Int) = 0) := by omega
            have mx : max (0 : Int) x = x := by omega
            have mx2 : (if (0 : Int) < x then x else 0) = x := by split <;> omega
            have z0 : ¬ (K = 0) := by omega
            have t0 : x.tmod (K : Int) = x % (K : Int) := Int.tmod_eq_emod_of_nonneg hx0
            have e3 := Int.emod_nonneg x (show (K : Int) ≠ 0 by omega)
            have e4 := Int.emod_lt_of_pos x (show (0 : Int) < (K : Int) by omega)
            have v0 := wrapOk (x % (K : Int)) (by omega) (by omega)
            have v1 := wrapOk (1 + x % (K : Int)) (by omega) (by omega)
            clear e0 HNN hz
            go_wp2_with fail
            go_region_law (first
              | (go_simp; go_at_call 26; refine (HA.out _ HSD.out _ (by have := E0.out; have := HZ.out; first | omega | (unfold wrap64; omega))).mono ?_; rintro e w3 ⟨rfl, hs3⟩; have HS3 := Lib.hid hs3; clear hs3)
              | fail)
            all_goals
              go_wp2
              go_roundw
              case rel => exact ⟨j + 1, c8, _, by omega, by go_num, by omega, HI2, HS3⟩
              case measure => simp [intOf]; omega
        · obtain rfl : j = M := by omega
          obtain ⟨k, hk⟩ : ∃ k, k = K + N0 := ⟨_, rfl⟩
          have hnd : need K k ≤ 41 := by
            unfold need
            rw [show k - 1 = (N0 - 1) + K by omega, Nat.add_div_right _ (by omega)]
            have := Nat.div_le_self (N0 - 1) K
            omega
          obtain ⟨hLg, hn2⟩ := run_long HI.out hK1 (show K < k by omega) (show c9 + need K k ≤ 60 by omega)
          have hup := need_up (K := K) (k := k) hK1 (by omega)
          have hwas : (chunks D.S.parts).length = c9 := by rw [chunks_ones HI.out.ones, HI.out.len]
          have hG := HI.out.good
          generalize need K k = nd at *
          have HA := Lib.hid (fun W (h : Rn w W B K p p' bx D) => show Calls Tryd.prog 26 #[.pointer (some ⟨p, 0, none⟩), .int .i64 (k : Nat)] W fun e w' => e = .returned (.tuple #[.int .i64 (c9 * K : Nat), .int .i64 0]) ∧ Rn w w' B K p p' bx (alD 60 K 1 D (k : Nat)) by
            have := h.alloc_ hT hG k (by omega) (k : Int) rfl
            rw [hLg.err, hLg.addr] at this
            exact this)
          have HR0 := Lib.hid (fun W (h : Rn w W B K p p' bx D) => h.room_ hT hG)
          have HC0 := Lib.hid (fun W (h : Rn w W B K p p' bx D) => show Calls Tryd.prog 16 #[.pointer (some ⟨p, 0, none⟩)] W fun e w' => ∃ A c, e = .returned (.slice A c9 c) ∧ Rn w w' B K p p' bx D by
            have := h.chunks_ hT hG
            rw [hwas] at this
            exact this)
          generalize hD' : alD 60 K 1 D (k : Nat) = D' at *
          have hG' := hLg.good
          have HR1 := Lib.hid (fun W (h : Rn w W B K p p' bx D') => show Calls Tryd.prog 18 #[.pointer (some ⟨p, 0, none⟩)] W fun e w' => e = .returned (.int .i64 (BP.room K D.S : Nat)) ∧ Rn w w' B K p p' bx D' by
            have := h.room_ hT hG'
            rw [hLg.room] at this
            exact this)
          have HC1 := Lib.hid (fun W (h : Rn w W B K p p' bx D') => show Calls Tryd.prog 16 #[.pointer (some ⟨p, 0, none⟩)] W fun e w' => ∃ A c, e = .returned (.slice A (c9 + nd) c) ∧ Rn w w' B K p p' bx D' by
            have := h.chunks_ hT hG'
            rw [hLg.len] at this
            exact this)
          have HB1 := Lib.hid (fun i (hi : i < nd) W (h : Rn w W B K p p' bx D') (z : Int) (hz : z = ((c9 + i : Nat) : Int)) => show Calls Tryd.prog 21 #[.pointer (some ⟨p, 0, none⟩), .int .i64 z] W fun e w' => e = .returned (.bool true) ∧ Below W.heap.size W w' by
            have := h.bigB hG' (c9 + i) (by omega) z hz
            rw [hLg.big i hi] at this
            exact this)
          have HB2 := Lib.hid (fun W (h : Rn w W B K p p' bx D') (z : Int) (hz : z = ((c9 + nd : Nat) : Int)) => show Calls Tryd.prog 21 #[.pointer (some ⟨p, 0, none⟩), .int .i64 z] W fun e w' => e = .returned (.bool false) ∧ Rn w w' B K p p' bx D' by
            have := h.big_ hT hG' (c9 + nd) (by omega) z hz
            rw [hLg.not] at this
            exact this)
          have HO1 := Lib.hid (fun i (hi : i < nd) W (h : Rn w W B K p p' bx D') (z : Int) (hz : z = ((c9 + i : Nat) : Int)) => show Calls Tryd.prog 20 #[.pointer (some ⟨B.s, 0, none⟩), .int .i64 z] W fun e w' => e = .returned (.int .i64 1) ∧ Below W.heap.size W w' by
            have := h.ownerB (c9 + i) (by omega) z hz
            rw [hLg.own i hi] at this
            exact this)
          have HD1 := Lib.hid (fun W (h : Rn w W B K p p' bx D') (z : Int) (hz : z = ((c9 : Nat) : Int)) => show Calls Tryd.prog 30 #[.pointer (some ⟨p, 0, none⟩), .int .i64 z] W fun e w' => e = .returned (.int .i64 0) ∧ Rn w w' B K p p' bx (dropD D' ((c9 : Nat) : Int)) by
            have := h.drop_ hT hG' c9 z hz
            rw [hLg.dropE] at this
            exact this)
          have hG2 := drop_good hG' ((c9 : Nat) : Int)
          have HR2 := Lib.hid (fun W (h : Rn w W B K p p' bx (dropD D' ((c9 : Nat) : Int))) => show Calls Tryd.prog 18 #[.pointer (some ⟨p, 0, none⟩)] W fun e w' => e = .returned (.int .i64 (BP.room K D.S : Nat)) ∧ Rn w w' B K p p' bx (dropD D' ((c9 : Nat) : Int)) by
            have := h.room_ hT hG2
            rw [hLg.dropR] at this
            exact this)
          have HC2 := Lib.hid (fun W (h : Rn w W B K p p' bx (dropD D' ((c9 : Nat) : Int))) => show Calls Tryd.prog 16 #[.pointer (some ⟨p, 0, none⟩)] W fun e w' => ∃ A c, e = .returned (.slice A c9 c) ∧ Rn w w' B K p p' bx (dropD D' ((c9 : Nat) : Int)) by
            have := h.chunks_ hT hG2
            rw [hLg.dropL] at this
            exact this)
          have hHS := HS.out.drew hT
          generalize dropD D' ((c9 : Nat) : Int) = D2 at *
          have hRle : BP.room K D.S ≤ 10 := by unfold BP.room; split <;> omega
          generalize BP.room K D.S = R at *
          have hcK : c9 * K ≤ 120 := by have := Nat.mul_le_mul (show c9 ≤ 12 by omega) hK2; omega
          have q1 : ((c9 * K : Nat) : Int) / (K : Int) = (c9 : Int) := by rw [show ((c9 * K : Nat) : Int) / (K : Int) = ((c9 * K / K : Nat) : Int) by simp, Nat.mul_div_cancel _ (by omega)]
          have q2 : ((c9 * K : Nat) : Int) % (K : Int) = 0 := by rw [show ((c9 * K : Nat) : Int) % (K : Int) = ((c9 * K % K : Nat) : Int) by simp, Nat.mul_mod_left]; rfl
          have q3 : ((k : Int) + (K : Int) - 1) / (K : Int) = (nd : Int) := by rw [show (k : Int) + (K : Int) - 1 = ((k + K - 1 : Nat) : Int) by omega, ← hup]; simp
          generalize c9 * K = a at *
          have HSD := Lib.hid hHS
          have HKN := Lib.hid hk
          have hkb : K < k ∧ k ≤ 50 := by omega
          clear hLg hG hG' hG2 hwas hup hHS hD' hk HI HL HM3 hnc
          go_upto_region 10 with (fail)
          go_cut [12, 13] (fun s t wc => s = .int .i64 (R : Nat) ∧ t = .int .i64 (c9 : Nat) ∧ Hid (Rn w wc B K p p' bx D))
          case first =>
            have y0d : wr.drew.cell? ⟨bx, 0, none⟩ = some (.pointer (some ⟨p, 0, none⟩)) := y0
            have hbs : B.s < B.s + 1 := Nat.lt_succ_self _
            go_region_law (first
              | (go_simp; go_at_call 18; refine (HR0.out _ HSD.out).mono ?_; rintro e wx ⟨rfl, hs⟩; have HSD := Lib.hid hs; have y0d := hs.x.p0; clear hs)
              | (go_simp; go_at_call 16; refine (HC0.out _ HSD.out).mono ?_; rintro e wx ⟨Ax, cx, rfl, hs⟩; have HSD := Lib.hid hs; have y0d := hs.x.p0; clear hs)
              | fail)
            all_goals
              go_wp2
              go_meet
              exact ⟨rfl, rfl, HSD⟩
          case rest =>
            obtain ⟨rfl, rfl, HS3⟩ := hcut
            have y0 := HS3.out.x.p0
            go_upto_region 11 with (fail)
            go_cut [14] (fun s wd => s = .int .i64 (k : Nat) ∧ wc = wd)
            case first =>
              go_wp2
              all_goals go_meet
              all_goals
                refine ⟨congrArg (Value.int .i64) ?_, rfl⟩
                have := HN0.out
                have := HKN.out
                split at * <;> first | omega | (unfold wrap64; omega)
            case rest =>
              obtain ⟨rfl, rfl⟩ := hcut
              go_wp2_with fail
              refine (HA.out _ HS3.out).mono ?_
              rintro e w5 ⟨rfl, hs5⟩
              have HS5 := Lib.hid hs5
              have y0 := hs5.x.p0
              have z1 : ¬ ((K : Int) = 0) := by omega
              have z0 : ¬ (K = 0) := by omega
              have z2 : (0 : Int) ≤ (k : Int) + (K : Int) - 1 := by omega
              have z3 : (0 : Int) ≤ (a : Int) := by omega
              have v1 := wrapOk ((k : Int) + (K : Int)) (by omega) (by omega)
              have v2 := wrapOk ((k : Int) + (K : Int) - 1) (by omega) (by omega)
              have v3 := wrapOk (nd : Int) (by omega) (by omega)
              have v4 := wrapOk (c9 : Int) (by omega) (by omega)
              have v5 := wrapOk ((c9 : Int) + (nd : Int)) (by omega) (by omega)
              have t1 : (a : Int).tdiv (K : Int) = (c9 : Int) := by rw [Int.tdiv_eq_ediv_of_nonneg z3]; exact q1
              have t2 : (a : Int).tmod (K : Int) = 0 := by rw [Int.tmod_eq_emod_of_nonneg z3]; exact q2
              have t3 : ((k : Int) + (K : Int) - 1).tdiv (K : Int) = (nd : Int) := by rw [Int.tdiv_eq_ediv_of_nonneg z2]; exact q3
              clear hs5 HA HR0 HC0 HS3 HSD HS HN0 HKN
              go_wp2_with (first
                | (go_at_call 18; refine (HR1.out _ HS5.out).mono ?_; rintro e wx ⟨rfl, hs⟩; have HS5 := Lib.hid hs; have y0 := hs.x.p0; clear hs)
                | (go_at_call 16; refine (HC1.out _ HS5.out).mono ?_; rintro e wx ⟨Ax, cx, rfl, hs⟩; have HS5 := Lib.hid hs; have y0 := hs.x.p0; clear hs))
              go_loopw [18, 112] (fun _ x wk => ∃ i : Nat, i ≤ nd ∧ x = .int .i64 i ∧ Hid (Rn w wk B K p p' bx D')) (fun _ x _ => nd - (intOf x).toNat)
              case atStart => exact ⟨0, Nat.zero_le _, rfl, HS5⟩
              case round =>
                obtain ⟨i, hi, rfl, HS6⟩ := hrel
                have y0 := HS6.out.x.p0
                by_cases hli : i < nd
                · have v6 := wrapOk ((c9 : Int) + (i : Int)) (by omega) (by omega)
                  have q0 : ∀ d os, (grow (redrawn wr d) os).cell? ⟨bx, 0, none⟩ = some (.pointer (some ⟨p, 0, none⟩)) := fun d os => cell_regrown y0 d os
                  have HRG := Lib.hid (fun d os => HS6.out.later hT (below_regrown wr d os))
                  clear y0
                  go_wp2_with fail
                  refine wp_region_quiet_below mixedO (by kernel_rfl) ?_
                  repeat (quiet_step (first
                    | (go_at_call 21; (with_reducible refine Calls.regrown_of (HB1.out i hli _ (HRG.out _ _) _ (by omega))))
                    | (go_at_call 20; (with_reducible refine Calls.regrown_of (HO1.out i hli _ (HRG.out _ _) _ (by omega))))))
                  refine wpQuiet_nil ?_
                  intro _ hw'
                  obtain ⟨⟨nq, osq⟩, hw''⟩ := hw'
                  subst hw''
                  have HS7 := Lib.hid (HS6.out.later hT (below_regrown wr nq osq))
                  go_wp2
                  go_roundw
                  case rel => exact ⟨i + 1, by omega, by go_num, HS7⟩
                  case measure => simp [intOf]; omega
                · obtain rfl : i = nd := by omega
                  have y0d : wr.drew.cell? ⟨bx, 0, none⟩ = some (.pointer (some ⟨p, 0, none⟩)) := y0
                  have HSD := Lib.hid (HS6.out.drew hT)
                  go_wp2_with fail
                  go_region_law (first
                    | (go_simp; go_at_call 21; refine (HB2.out _ HSD.out _ (by omega)).mono ?_; rintro e wx ⟨rfl, hs⟩; have HSD := Lib.hid hs; have y0d := hs.x.p0; clear hs)
                    | fail)
                  all_goals
                    go_wp2_with fail
                    have HSE := Lib.hid (HSD.out.drew hT)
                    go_region_law (first
                      | (go_simp; go_at_call 30; refine (HD1.out _ HSE.out _ (by omega)).mono ?_; rintro e wx ⟨rfl, hs⟩; have HSE := Lib.hid hs; have y0d := hs.x.p0; clear hs)
                      | fail)
                    all_goals
                      go_wp2_with (first
                        | (go_at_call 18; refine (HR2.out _ HSE.out).mono ?_; rintro e wx ⟨rfl, hs⟩; have HSE := Lib.hid hs; have y0d := hs.x.p0; clear hs)
                        | (go_at_call 16; refine (HC2.out _ HSE.out).mono ?_; rintro e wx ⟨Ax, cx, rfl, hs⟩; have HSE := Lib.hid hs; have y0d := hs.x.p0; clear hs))
                      go_ret
                      exact ⟨rfl, HSE.out.bel⟩
end Go.Proofs.YteencfldehcbbaaDoor
