/- The law BumpApart: pieces never share a word. -/
import Derived.Test.YteencfldehcbbaaDoorBpApartS
import Derived.Deep.DeepCutAuto
namespace Go.Proofs.YteencfldehcbbaaDoor
open Go.RowKit Go.Sort BP
set_option linter.unusedVariables false

theorem own_slice {w : World} {base n k : Nat} {t : TypeId} {v : Value} {xs : List Value} (h : w.ownsRow base t k v n xs) : ∃ A c, v = .slice A n c := by
  rcases h.2 with ⟨rfl, h0⟩ | ⟨g, cap, cur, rfl, _⟩
  · exact ⟨none, 0, by rw [h0]⟩
  · exact ⟨_, cap, rfl⟩
theorem own_at {w : World} {base : Nat} {v : Value} {xs : List Nat} (h : w.ownsRow base 3 1 v xs.length (vals xs)) {i x : Nat} (hx : xs[i]? = some x) : ∃ g c, v = .slice (some ⟨g, 0, none⟩) xs.length c ∧ w.cell? ⟨g, i, none⟩ = some (.int .i64 (x : Nat)) := by
  obtain ⟨A, c, rfl, hc⟩ := IS.of_owns h
  have hi : i < xs.length := (List.getElem?_eq_some_iff.1 hx).1
  rcases h.2 with ⟨e, h0⟩ | ⟨g, cap, cur, e, _⟩
  · omega
  · injection e with e1 e2 e3
    obtain ⟨g', off, e4, hcell⟩ := hc i x hx
    rw [e1] at e4
    injection e4 with e4
    injection e4 with e5 e6
    subst e5 e6
    exact ⟨g, c, by rw [e1], by rw [Nat.zero_add] at hcell; exact hcell⟩
theorem ap_read {w : World} {B : SB} {K X v : Nat} {own wd : Nat → Nat} (h : StAt w B 24 K own wd) (hX : X < 24 * K) (ho : own (X / K) ≠ 0) (hv : wd X = v) :
    Calls Tryd.prog 32 #[.pointer (some ⟨B.s, 0, none⟩), .int .i64 (X : Nat)] w fun e w' => e = .returned (.tuple #[.int .u64 (v : Nat), .int .i64 0]) ∧ w = w' := by
  have hr := read_any h (X : Int)
  rw [readV_in hX, addrE_in hX, if_neg ho, if_neg ho, hv] at hr
  exact hr
theorem div_eq_nat (X K : Nat) : ((X : Int) / (K : Int)) = ((X / K : Nat) : Int) := by simp
set_option maxHeartbeats 8000000 in
set_option maxRecDepth 100000 in
theorem apart_walk (m : Int) (A : Option Addr) (n c : Nat) (xs : List Int) (w : World) (hm : -9223372036854775808 ≤ m ∧ m ≤ 9223372036854775807) (hl : NS .i64 w w.heap.size A n xs) (hnc : n ≤ c) (hT : Tab w) :
    Calls Tryd.prog 5 #[.int .i64 m, .slice A n c] w fun e w' => e = .returned (.bool true) ∧ Below w.heap.size w w' := by
  obtain ⟨i0, hi, hz0, hz1, hz2⟩ := info_parts infoInt
  obtain ⟨K, hK1, hK2, hk⟩ := sizeK m 10 (by decide) (by decide)
  have HM := Lib.hid (fun W (hb : Below w.heap.size w W) => (show Calls Tryd.prog 11 #[.int .i64 24, .int .i64 (K : Nat)] W (BMadePost 24 K W) from made_ok 24 K W (hT.below hb hT.pos) (by decide) (by decide) hK1 (by omega)))
  have HAL := Lib.hid (fun W (hb : Below w.heap.size w W) => balive_any W (hT.below hb hT.pos))
  have HN := Lib.hid hk
  have HL := Lib.hid hl
  clear hk hl
  go_enter Tryd.func5, Tryd.ntmps5
  go_upto_region 1 with (fail)
  go_cut [5] (fun s wc => s = .int .i64 (K : Nat) ∧ w = wc)
  case first =>
    go_wp2
    all_goals go_meet
    all_goals
      refine ⟨congrArg (Value.int .i64) ?_, rfl⟩
      have := HN.out
      split at this <;> omega
  case rest =>
    obtain ⟨rfl, rfl⟩ := hcut
    clear HN
    go_wp2_with fail
    refine (HM.out w (Below.refl _ _)).mono ?_
    rintro e w1 ⟨B, p, p', rfl, hc1⟩
    have HC1 := Lib.hid hc1
    have hb1 := hc1.bel.alloc hc1.bel.size (.cells #[.pointer (some ⟨p, 0, none⟩), .pointer (some ⟨p', 0, none⟩)] 27)
    have HB1 := Lib.hid hb1
    clear hc1 hb1 HM
    go_wp2_with fail
    refine (HAL.out _ HB1.out).mono ?_
    rintro e w2 ⟨rfl, hb2⟩
    obtain ⟨wa, ha⟩ : ∃ wa, wa = w1.alloc (.cells #[.pointer (some ⟨p, 0, none⟩), .pointer (some ⟨p', 0, none⟩)] 27) := ⟨_, rfl⟩
    rw [← ha] at hb2 HB1
    have hba : Below w1.heap.size w1 wa := by rw [ha]; exact (Below.refl _ _).alloc (Nat.le_refl _) _
    have hxa : Whole wa w1.heap.size 27 #[.pointer (some ⟨p, 0, none⟩), .pointer (some ⟨p', 0, none⟩)] := by rw [ha]; exact Whole.fresh _ _ _
    have hc2 := HC1.out.later hT (hba.trans (hb2.mono hba.size))
    have HS2 := Lib.hid (show ApS w w2 B K p p' w1.heap.size d0 (.slice none 0 0) (.slice none 0 0) [] [] from ⟨⟨_, _, hc2, HC1.out.not (Nat.le_refl _), fun g hg => (by simp [Value.ownBlock] at hg), fun g hg => (by simp [Value.ownBlock] at hg)⟩, hxa.below hb2 hxa.lt, World.ownsRow_nil _ _ _ _, World.ownsRow_nil _ _ _ _, fun g hg => (by simp [Value.ownBlock] at hg)⟩)
    have HB2 := Lib.hid (HB1.out.trans (hb2.mono HB1.out.size))
    clear hba hxa hb2 ha HB1 HC1 hc2
    by_cases hn : 60 < n
    · have d : (60 : Int) < (n : Int) := by omega
      go_wp2_with fail
      refine (HAL.out _ HB2.out).mono ?_
      rintro e w3 ⟨rfl, hb3⟩
      go_wp2
      go_ret
      exact ⟨rfl, HB2.out.trans (hb3.mono HB2.out.size)⟩
    · have d : ¬ (60 : Int) < (n : Int) := by omega
      clear HAL
      generalize w1.heap.size = bx at *
      go_wp2_with fail
      go_loopw [8, 9, 47] (fun u v x wr => ∃ (j : Nat) (D : Dt) (xs ys : List Nat), j ≤ n ∧ x = .int .i64 j ∧ xs.length ≤ j ∧ Hid (ApI K D xs ys) ∧ Hid (ApS w wr B K p p' bx D u v xs ys)) (fun _ _ x _ => n - (intOf x).toNat)
      case atStart => exact ⟨0, d0, [], [], Nat.zero_le _, rfl, Nat.le_refl _, Lib.hid ⟨d0_good _ _, rfl, fun a x n h => (by simp at h), fun a x n h => (by simp at h)⟩, HS2⟩
      case round =>
        obtain ⟨j, D, ls, ns, hj, rfl, hlsj, HI, HS⟩ := hrel
        obtain ⟨Au, cu, rfl⟩ := own_slice HS.out.ra
        obtain ⟨Av, cv, rfl⟩ := own_slice HS.out.rs
        by_cases hlt : j < n
        · obtain ⟨b, off, x, rfl, hb, _, hwf, hcell⟩ := HL.out.at_ hlt
          have hx := bounds_i64 hwf
          have hc0 := ((HS.out.bel.cell (p := ⟨b, off + j, none⟩) hb)).trans hcell
          obtain ⟨N, hN1, hN2, hN⟩ := sizeK x 30 (by decide) (by decide)
          have HNN := Lib.hid hN
          have hpar : j % 2 < 2 := Nat.mod_lt _ (by decide)
          have hb1 : bits .and .i64 (j : Int) 1 = ((j % 2 : Nat) : Int) := by rw [i64_and1]; omega
          generalize j % 2 = par at *
          have y0 : wr.cell? ⟨bx, par, none⟩ = some (.pointer (some ⟨if par = 0 then p else p', 0, none⟩)) := by
            have : par = 0 ∨ par = 1 := by omega
            rcases this with rfl | rfl
            · exact HS.out.x.p0
            · exact HS.out.x.p1
          have HA := Lib.hid (HS.out.alloc_any hT HI.out.good par N hpar hN1 hN2)
          generalize (if par = 0 then p else p') = pp at *
          clear hN hwf hcell hb hnc
          go_upto_region 9 with (fail)
          go_cut [11] (fun s wc => s = .int .i64 (N : Nat) ∧ wr = wc)
          case first =>
            rcases Int.lt_or_le x 0 with hx0 | hx0
            · have e0 := HNN.out
              rw [if_pos hx0, Int.zero_emod] at e0
              have E0 := Lib.hid e0
              clear e0
              go_wp2
              all_goals go_meet
              all_goals
                refine ⟨congrArg (Value.int .i64) ?_, rfl⟩
                have := E0.out
                first | omega | (unfold wrap64; omega)
            · have e0 := HNN.out
              rw [if_neg (by omega)] at e0
              have E0 := Lib.hid e0
              clear e0
              go_wp2
              all_goals go_meet
              all_goals
                refine ⟨congrArg (Value.int .i64) ?_, rfl⟩
                have := E0.out
                first | omega | (unfold wrap64; omega)
          case rest =>
            obtain ⟨rfl, rfl⟩ := hcut
            clear HNN
            go_wp2_with fail
            refine HA.out.mono ?_
            rintro e w3 ⟨X, E, D', rfl, hs3, hor⟩
            have HS3 := Lib.hid hs3
            rcases hor with ⟨rfl, hD⟩ | ⟨rfl, hg', hnew, hgot, hkeep, hwd, hbnd, hone⟩
            · subst hD
              clear hs3
              go_wp2
              go_roundw
              case rel => exact ⟨j + 1, D', ls, ns, by omega, by go_num, by omega, HI, HS3⟩
              case measure => simp [intOf]; omega
            · have HP := Lib.hid (And.intro hg' (And.intro hnew (And.intro hgot (And.intro hkeep (And.intro hwd hbnd)))))
              have hKm : 24 * K ≤ 240 := by omega
              have dA : decide ((24 : Int) * (K : Int) < (X : Int) + (N : Int)) = false := by simp; omega
              have dB : ¬ ((24 : Int) * (K : Int) < (X : Int) + (N : Int)) := by omega
              have Q1 := Lib.hid (div_eq_nat X K)
              have q2 : ((X : Int) + (N : Int) - 1) / (K : Int) = (((X + N - 1) / K : Nat) : Int) := by rw [← div_eq_nat, show ((X + N - 1 : Nat) : Int) = (X : Int) + (N : Int) - 1 by omega]
              have Q2 := Lib.hid q2
              clear q2
              have z1 : ¬ ((K : Int) = 0) := by omega
              have z2 : (0 : Int) ≤ (X : Int) + (N : Int) - 1 := by omega
              have v1 := wrapOk ((X : Int) + (N : Int)) (by omega) (by omega)
              have v2 := wrapOk ((24 : Int) * (K : Int)) (by omega) (by omega)
              have v3 := wrapOk ((X : Int) + (N : Int) - 1) (by omega) (by omega)
              have hXe : X / K = (X + N - 1) / K ∨ K < N := by
                by_cases h : N ≤ K
                · exact .inl (hone h)
                · exact .inr (by omega)
              have HXE := Lib.hid hXe
              clear hs3 hg' hnew hgot hkeep hwd hXe hone
              go_upto_region 12 with (fail)
              go_cut [97] (fun s wc => s = .bool false ∧ ∃ k, wc = w3.drewN k)
              case first =>
                have dX : decide ((X : Int) < 0) = false := by simp
                by_cases hNK : N ≤ K
                · have e9 : X / K = (X + N - 1) / K := by
                    rcases HXE.out with e | e
                    · exact e
                    · omega
                  have q1 := Q1.out
                  have q2 := Q2.out
                  rw [← e9] at q2
                  have hcle : X / K ≤ 24 := by
                    have := Nat.div_le_self X K
                    exact Nat.div_le_of_le_mul (by rw [Nat.mul_comm]; omega)
                  generalize X / K = c1 at *
                  have v4 := wrapOk (c1 : Int) (by omega) (by omega)
                  have t1 : (X : Int).tdiv (K : Int) = (c1 : Int) := by rw [Int.tdiv_eq_ediv_of_nonneg (by omega)]; exact q1
                  have t2 : ((X : Int) + (N : Int) - 1).tdiv (K : Int) = (c1 : Int) := by rw [Int.tdiv_eq_ediv_of_nonneg (by omega)]; exact q2
                  have dC : decide ((N : Int) ≤ (K : Int)) = true := by simp; omega
                  clear Q1 Q2 HXE e9
                  go_quiet (fail)
                  go_wp2
                  go_meet
                  exact ⟨rfl, _, rfl⟩
                · have dC : decide ((N : Int) ≤ (K : Int)) = false := by simp; omega
                  clear Q1 Q2 HXE
                  go_quiet (fail)
                  go_wp2
                  go_meet
                  exact ⟨rfl, _, rfl⟩
              case rest =>
                obtain ⟨rfl, kd, rfl⟩ := hcut
                have hs4 := HS3.out.later hT (below_drewN (Below.refl w3.heap.size w3) kd)
                generalize w3.drewN kd = w4 at *
                obtain ⟨hg', hnew, hgot, hkeep, hwd, _⟩ := HP.out
                have HG' := Lib.hid hg'
                have HGOT := Lib.hid hgot
                have HNX := Lib.hid (fun D'' (h : D'' = (⟨D'.own, wrN D'.wd X N (ls.length + 1), D'.S, D'.T⟩ : Dt)) => show ApI K D'' (ls ++ [X]) (ns ++ [N]) by subst h; exact ap_next HI.out hg' hnew (fun q hq => (hgot q hq).1) hkeep hwd hbnd hN2)
                have HS4 := Lib.hid hs4
                obtain ⟨a, ha⟩ : ∃ a, a = ls.length := ⟨_, rfl⟩
                rw [← ha] at HS4 HNX hlsj ⊢
                have HAA := Lib.hid ha
                clear hs4 hg' hnew hgot hkeep hwd ha HP HXE Q1 Q2 HS3 HA
                go_wp2_with fail
                go_loopw [14, 99] (fun _ y wk => ∃ k : Nat, k ≤ N ∧ y = .int .i64 k ∧ Hid (ApS w wk B K p p' bx ⟨D'.own, wrN D'.wd X k (a + 1), D'.S, D'.T⟩ (.slice Au a cu) (.slice Av ns.length cv) ls ns)) (fun _ y _ => N - (intOf y).toNat)
                case atStart => exact ⟨0, Nat.zero_le _, rfl, Lib.hid (by rw [wrN_zero]; exact HS4.out)⟩
                case round =>
                  obtain ⟨k, hkN, rfl, HSk⟩ := hrel
                  by_cases hlk : k < N
                  · have hcK : (X + k) / K < 24 := ((HGOT.out k hlk).1.own HG'.out).2
                    have hown := (HGOT.out k hlk).2
                    have how := owner_any HSk.out.st (((X + k) / K : Nat) : Int)
                    rw [ownerOf_in hcK] at how
                    have how' : Calls Tryd.prog 20 #[.pointer (some ⟨B.s, 0, none⟩), .int .i64 (((X + k) / K : Nat) : Int)] wr fun e w' => e = .returned (.int .i64 ((1 + par : Nat) : Int)) ∧ wr = w' := by
                      have h9 : (⟨D'.own, wrN D'.wd X k (a + 1), D'.S, D'.T⟩ : Dt).own ((X + k) / K) = 1 + par := hown
                      rw [h9] at how
                      exact how
                    have hwr := write_ok HSk.out.st (X + k) (a + 1) (by omega) (by show D'.own ((X + k) / K) ≠ 0; rw [hown]; omega) (by omega)
                    have q3 := div_eq_nat (X + k) K
                    rw [show ((X + k : Nat) : Int) = (X : Int) + (k : Int) by omega] at hwr q3
                    rw [show ((a + 1 : Nat) : Int) = (a : Int) + 1 by omega] at hwr
                    rw [show ((1 + par : Nat) : Int) = 1 + (par : Int) by omega] at how'
                    generalize (X + k) / K = c2 at *
                    have HOW := Lib.hid how'
                    have HWR := Lib.hid hwr
                    have z4 := wrapOk ((X : Int) + (k : Int)) (by omega) (by omega)
                    have z5 : (0 : Int) ≤ (X : Int) + (k : Int) := by omega
                    have z6 : IntKind.u64.wrap ((a : Int) + 1) = (a : Int) + 1 := by rw [IntKind.wrap_u64]; omega
                    have z7 := wrapOk (c2 : Int) (by omega) (by omega)
                    clear how how' hwr hown
                    go_wp2_with (first
                      | (go_at_call 20; refine HOW.out.mono ?_; rintro e w' ⟨rfl, rfl⟩)
                      | (go_at_call 31; refine HWR.out.mono ?_; rintro e w5 ⟨rfl, ho5, hs5⟩; have HS5 := Lib.hid (HSk.out.store hT ho5 hs5); clear ho5 hs5))
                    go_roundw
                    case rel => exact ⟨k + 1, by omega, by go_num, Lib.hid (by rw [← wrN_next]; exact HS5.out)⟩
                    case measure => simp [intOf]; omega
                  · obtain rfl : k = N := by omega
                    have HRA := Lib.hid HSk.out.ra
                    have HRS := Lib.hid HSk.out.rs
                    have hla : ls.length ≤ 60 := by have := HAA.out; omega
                    have hlb : ns.length ≤ 60 := by have := HI.out.len; omega
                    have hbs := HSk.out.bel.size
                    go_wp2_with (first
                      | (at_builtin; refine wpList_append_own_at _ rfl _ _ 39 rfl w.heap.size 3 i0 _ 1 8 Tryd.underlying39 hi hz0 hz1 hz2 rfl (by decide) _ _ _ rfl (HRA.out.alloc _) ⟨wr.heap.size, 0, none⟩ 1 1 [.int .i64 (X : Nat)] rfl rfl (cell_one_new _ _ _) (by simp [Value.oneCell']) (by unfold maxLen; omega) (by omega) (by simp; omega) ?_; intro v6 w6 hown' hgrow _ hat; have HS6 := Lib.hid (HSk.out.push1 hT hown' hgrow hat); have HRS6 := Lib.hid HS6.out.rs; have hbs6 := HS6.out.bel.size; clear hown' hgrow hat)
                      | (at_builtin; refine wpList_append_own_at _ rfl _ _ 39 rfl w.heap.size 3 i0 _ 1 8 Tryd.underlying39 hi hz0 hz1 hz2 rfl (by decide) _ _ _ rfl (HRS6.out.alloc _) ⟨w6.heap.size, 0, none⟩ 1 1 [.int .i64 (k : Nat)] rfl rfl (cell_one_new _ _ _) (by simp [Value.oneCell']) (by unfold maxLen; omega) (by omega) (by simp; omega) ?_; intro v7 w7 hown' hgrow _ hat; have HS7 := Lib.hid (HS6.out.push2 hT hown' hgrow hat); clear hown' hgrow hat))
                    go_roundw
                    case rel => exact ⟨j + 1, _, ls ++ [X], ns ++ [k], by omega, by go_num, by have := HAA.out; simp; omega, Lib.hid (HNX.out _ rfl), HS7⟩
                    case measure => simp [intOf]; omega
        · obtain rfl : j = n := by omega
          have hbw := HS.out.bel
          have HBW := Lib.hid hbw
          obtain ⟨a, ha⟩ : ∃ a, a = ls.length := ⟨_, rfl⟩
          obtain ⟨a2, ha2⟩ : ∃ a2, a2 = ns.length := ⟨_, rfl⟩
          have hal : a = a2 := by rw [ha, ha2]; exact HI.out.len
          rw [← ha] at HS hlsj ⊢
          rw [← ha2] at HS ⊢
          have HAA := Lib.hid ha
          have HAB := Lib.hid ha2
          clear hbw ha ha2
          go_wp2_with fail
          go_loop [137] (fun x => ∃ i : Nat, i ≤ a ∧ x = .int .i64 i) (fun x => a - (intOf x).toNat)
          case atStart => exact ⟨0, Nat.zero_le _, rfl⟩
          case round =>
            obtain ⟨i, hi', rfl⟩ := hrel
            by_cases hlt2 : i < a
            · obtain ⟨X, hX⟩ : ∃ X, ls[i]? = some X := ⟨ls[i]'(by have := HAA.out; omega), by simp⟩
              obtain ⟨N, hN⟩ : ∃ N, ns[i]? = some N := ⟨ns[i]'(by have := HAB.out; omega), by simp⟩
              obtain ⟨g1, c1, e1, r1⟩ := own_at HS.out.ra hX
              obtain ⟨g2, c2, e2, r2⟩ := own_at HS.out.rs hN
              injection e1 with e1 _ _
              injection e2 with e2 _ _
              subst e1 e2
              obtain ⟨hb1, hb2⟩ := HI.out.bnd i X N hX hN
              have HPC := Lib.hid (HI.out.pcs i X N hX hN)
              clear hX hN
              go_wp2_with fail
              go_loop [146] (fun y => ∃ k : Nat, k ≤ N ∧ y = .int .i64 k) (fun y => N - (intOf y).toNat)
              case atStart => exact ⟨0, Nat.zero_le _, rfl⟩
              case round =>
                obtain ⟨k, hk', rfl⟩ := hrel
                by_cases hlt3 : k < N
                · obtain ⟨hu, hwd⟩ := HPC.out k hlt3
                  have hrd := ap_read HS.out.st (by omega) (hu.own HI.out.good).1 hwd
                  rw [show ((X + k : Nat) : Int) = (X : Int) + (k : Int) by omega, show ((i + 1 : Nat) : Int) = (i : Int) + 1 by omega] at hrd
                  have HRD := Lib.hid hrd
                  have z4 := wrapOk ((X : Int) + (k : Int)) (by omega) (by omega)
                  have z6 : IntKind.u64.wrap ((i : Int) + 1) = (i : Int) + 1 := by rw [IntKind.wrap_u64]; omega
                  clear hrd hu hwd
                  go_wp2_with (first | (go_at_call 32; refine HRD.out.mono ?_; rintro e w' ⟨rfl, rfl⟩))
                  go_round
                  case rel => exact ⟨k + 1, by omega, by go_num⟩
                  case measure => simp [intOf]; omega
                · obtain rfl : k = N := by omega
                  go_wp2
                  go_round
                  case rel => exact ⟨_, _, _, _, _, _, .int .i64 ((i + 1 : Nat) : Int), ⟨i + 1, by omega, rfl⟩, rfl, rfl, rfl, rfl, rfl, rfl, congrArg (Value.int .i64) (by omega)⟩
                  case measure => simp [intOf]; omega
            · obtain rfl : i = a := by omega
              go_wp2
              go_ret
              exact ⟨rfl, HBW.out⟩
end Go.Proofs.YteencfldehcbbaaDoor
