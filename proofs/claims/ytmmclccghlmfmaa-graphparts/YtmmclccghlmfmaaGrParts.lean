/- The law GraphParts. -/
import Derived.Test.YtmmclccghlmfmaaGrGreat
import Derived.Test.YtmmclccghlmfmaaGrLost
namespace Go.Proofs.Ytmmclccghlmfmaa
open Go.RowKit Go.Lib Go.Sort Go.Maps
set_option linter.unusedVariables false

set_option maxHeartbeats 4000000 in
set_option maxRecDepth 100000 in
theorem parts_walk (Z : Option Addr) (t z : Nat) (ns : List Int) (A : Option Addr) (n c : Nat) (xs : List Int) (B : Option Addr) (m d : Nat) (es : List (Int × Int)) (w : World) (hns : ZS w Z t ns ∧ ZI ns ∧ t ≤ z) (hz : ZS w A n xs ∧ ZI xs ∧ n ≤ c) (he : ES w B m es ∧ EI es ∧ m ≤ d) :
    Calls Try.prog 8 #[.slice Z t z, .slice A n c, .slice B m d] w fun e w' => e = .returned (.bool true) ∧ Below w.heap.size w w' := by
  obtain ⟨hns1, hnsi, htz⟩ := hns
  obtain ⟨hz1, hzi, hnc⟩ := hz
  obtain ⟨he1, hei, hmd⟩ := he
  have hln := hns1.len
  have hlx := hz1.len
  have hle := he1.len
  have HN := Lib.hid hns1
  have HZ := Lib.hid hz1
  have HZI := Lib.hid hzi
  have HE := Lib.hid he1
  have HEI := Lib.hid hei
  clear hz1 hzi he1 hei hns1 hnsi
  go_enter Try.func8, Try.ntmps8
  go_wp2_with fail
  refine (alive_any _).mono ?_
  rintro e w1 ⟨rfl, hb1⟩
  have B1 := Lib.hid hb1
  clear hb1
  go_wp2_with fail
  refine (great3 w1 t n m).mono ?_
  rintro e w2 ⟨rfl, rfl⟩
  have hb2 := (Below.refl w1.heap.size w1).alloc (Nat.le_refl _) (.cells #[.int .i64 t, .int .i64 n, .int .i64 m] 3)
  obtain ⟨w2, hw2⟩ : ∃ w2, w2 = w1.alloc (.cells #[.int .i64 t, .int .i64 n, .int .i64 m] 3) := ⟨_, rfl⟩
  rw [← hw2] at hb2 ⊢
  have B2 := Lib.hid (B1.out.trans (hb2.mono B1.out.size))
  clear B1 hb2 hw2
  by_cases hgr : 80 < t ∨ 80 < n ∨ 80 < m
  · have hg : decide (80 < t ∨ 80 < n ∨ 80 < m) = true := decide_eq_true hgr
    rw [hg]
    clear hgr hg
    go_wp2_with fail
    refine (alive_any _).mono ?_
    rintro e w3 ⟨rfl, hb3⟩
    go_wp2
    go_ret
    exact ⟨rfl, B2.out.trans (hb3.mono B2.out.size)⟩
  · have hg : decide (80 < t ∨ 80 < n ∨ 80 < m) = false := decide_eq_false hgr
    rw [hg]
    have ht : t ≤ 80 := by omega
    have hn : n ≤ 80 := by omega
    have hm : m ≤ 80 := by omega
    clear hgr hg
    have HC := Lib.hid (lost_any (z := z) (c := c) (d := d) (HN.out.below B2.out) (HZ.out.below B2.out) (HE.out.below B2.out) HZI.out HEI.out (by omega) (by omega) (by omega))
    have HR := Lib.hid (fun (W : World) (hb : Below w.heap.size w W) => reach_any (c := c) (d := d) (HZ.out.below hb) (HE.out.below hb) HZI.out HEI.out (by omega) (by omega))
    have HL := Lib.hid (fun (W : World) (hb : Below w.heap.size w W) => lost_any (z := c) (c := c) (d := d) (HZ.out.below hb) (HZ.out.below hb) (HE.out.below hb) HZI.out HEI.out (by omega) (by omega) (by omega))
    have HNIL := Lib.hid (GM.lost_nil (es := es) (rs := xs) (ns := xs) fun x hx => GM.ord_root hx)
    go_wp2_with fail
    refine HC.out.mono ?_
    rintro e w3 ⟨v, rfl, hv, hb3⟩
    obtain ⟨L, hL⟩ : ∃ L, L = GM.lost es xs ns := ⟨_, rfl⟩
    rw [← hL] at hv
    obtain ⟨A3, c3, rfl, hc3⟩ := hv.slice
    have hol : L.length ≤ 80 := by have := GM.lost_len es xs ns; rw [hL]; omega
    obtain ⟨o, ho⟩ : ∃ o, o = L.length := ⟨_, rfl⟩
    have hv' := hv.zs
    rw [← ho] at hv' hol hc3 ⊢
    have HV := Lib.hid hv'
    have HLE := Lib.hid hL
    have HRI := Lib.hid (show BG.Rises L by rw [hL]; exact GM.lost_rises _ _ _)
    have B3 := Lib.hid (B2.out.trans (hb3.mono B2.out.size))
    clear hv hv' hL ho hb3 HC B2
    go_wp2_with fail
    refine (HR.out w3 B3.out).mono ?_
    rintro e w4 ⟨v, rfl, hv, hb4⟩
    obtain ⟨R, hR⟩ : ∃ R, R = GM.rch es xs := ⟨_, rfl⟩
    rw [← hR] at hv
    obtain ⟨A4, c4, rfl, hc4⟩ := hv.slice
    have hrl : R.length ≤ 160 := by have := GM.rch_len es xs; rw [hR]; omega
    obtain ⟨r, hr⟩ : ∃ r, r = R.length := ⟨_, rfl⟩
    have hv' := hv.zs
    rw [← hr] at hv' hrl hc4 ⊢
    have HV4 := Lib.hid hv'
    have HL4 := Lib.hid (HV.out.below hb4)
    have HRE := Lib.hid hR
    have B4 := Lib.hid (B3.out.trans (hb4.mono B3.out.size))
    have HN4 := Lib.hid (HN.out.below B4.out)
    clear hv hv' hR hr hb4 HR B3 HV
    go_wp2_with fail
    go_loop [35] (fun i => ∃ k : Nat, k ≤ t ∧ i = .int .i64 k) (fun i => t - (intOf i).toNat)
    case atStart => exact ⟨0, Nat.zero_le _, rfl⟩
    case round =>
      obtain ⟨k, hk, rfl⟩ := hrel
      by_cases hlt : k < t
      · obtain ⟨b, off, rfl, hb, c0⟩ := HN4.out.at_ hlt
        have hmem : ns[k]'(by omega) ∈ ns := List.getElem_mem _
        obtain ⟨x, hx⟩ : ∃ x, x = ns[k]'(by omega) := ⟨_, rfl⟩
        rw [← hx] at c0 hmem
        have h1 := has_any (c := c3) HL4.out (by omega) x
        have h2 := has_any (c := c4) HV4.out (by omega) x
        have e1 : decide (x ∈ L) = decide (x ∉ GM.ord es xs) := by rw [HLE.out]; exact decide_eq_decide.2 ⟨fun h => (GM.mem_lost.1 h).2, fun h => GM.mem_lost.2 ⟨hmem, h⟩⟩
        have e2 : decide (x ∈ R) = decide (x ∈ GM.ord es xs) := by rw [HRE.out]; exact decide_eq_decide.2 GM.mem_rch
        rw [e1] at h1
        rw [e2] at h2
        have H1 := Lib.hid h1
        have H2 := Lib.hid h2
        clear hx hmem h1 h2 e1 e2
        by_cases hin : x ∈ GM.ord es xs
        · have HI := Lib.hid (decide_eq_true hin)
          have HI2 := Lib.hid (show decide (x ∉ GM.ord es xs) = false from decide_eq_false (by simpa using hin))
          clear hin
          go_wp2_with fail
          refine H1.out.mono ?_
          rintro e w5 ⟨rfl, rfl⟩
          rw [HI2.out]
          go_wp2_with fail
          refine H2.out.mono ?_
          rintro e w5 ⟨rfl, rfl⟩
          rw [HI.out]
          go_wp2
          go_round
          case rel => exact ⟨k + 1, by omega, by go_num⟩
          case measure => simp [intOf]; omega
        · have HI := Lib.hid (decide_eq_false hin)
          have HI2 := Lib.hid (show decide (x ∉ GM.ord es xs) = true from decide_eq_true hin)
          clear hin
          go_wp2_with fail
          refine H1.out.mono ?_
          rintro e w5 ⟨rfl, rfl⟩
          rw [HI2.out]
          go_wp2_with fail
          refine H2.out.mono ?_
          rintro e w5 ⟨rfl, rfl⟩
          rw [HI.out]
          go_wp2
          go_round
          case rel => exact ⟨k + 1, by omega, by go_num⟩
          case measure => simp [intOf]; omega
      · obtain rfl : k = t := by omega
        go_wp2_with fail
        go_loop [49] (fun i => ∃ k : Nat, k ≤ o ∧ i = .int .i64 k) (fun i => o - (intOf i).toNat)
        case atStart => exact ⟨0, Nat.zero_le _, rfl⟩
        case round =>
          obtain ⟨i, hi, rfl⟩ := hrel
          by_cases hlt : i < o
          · have hlL := HL4.out.len
            obtain ⟨x, hx⟩ : ∃ x, L[i]? = some x := ⟨_, List.getElem?_eq_getElem (by omega)⟩
            have hmem : x ∈ ns := by
              have := List.mem_of_getElem? hx
              rw [HLE.out] at this
              exact (GM.mem_lost.1 this).1
            have h1 := has_any (c := z) HN4.out (by omega) x
            rw [decide_eq_true hmem] at h1
            have H1 := Lib.hid h1
            obtain ⟨b, off, e0, hb, _, c0⟩ := HL4.out.get hx
            rcases Nat.eq_zero_or_pos i with h0 | h0
            · subst h0
              subst e0
              rw [Nat.add_zero] at c0
              clear hx hlL hmem h1
              go_wp2_with fail
              refine H1.out.mono ?_
              rintro e w5 ⟨rfl, rfl⟩
              go_wp2
              go_round
              case rel => exact ⟨1, by omega, by go_num⟩
              case measure => simp [intOf]; omega
            · obtain ⟨k, rfl⟩ : ∃ k, i = k + 1 := ⟨i - 1, by omega⟩
              obtain ⟨y, hy⟩ : ∃ y, L[k]? = some y := ⟨_, List.getElem?_eq_getElem (by omega)⟩
              have hyx : y < x := rises_at HRI.out hy hx
              obtain ⟨b', off', e1, hb', _, c1⟩ := HL4.out.get hy
              rw [e0] at e1
              injection e1 with e1
              injection e1 with e1 e2
              subst e1 e2
              subst e0
              have hk0 : (0 : Int) ≤ (k : Int) := by omega
              have hk1 : (k : Int) + 1 < ((o : Nat) : Int) := by omega
              clear hx hy hlL hmem h1 h0
              go_wp2_with fail
              refine H1.out.mono ?_
              rintro e w5 ⟨rfl, rfl⟩
              go_wp2
              go_round
              case rel => exact ⟨k + 1 + 1, by omega, by go_num⟩
              case measure => simp [intOf]; omega
          · obtain rfl : i = o := by omega
            go_wp2_with fail
            refine (HL.out _ B4.out).mono ?_
            rintro e w5 ⟨v, rfl, hv, hb5⟩
            rw [HNIL.out] at hv
            obtain ⟨A5, c5, rfl, _⟩ := hv.slice
            have B5 := Lib.hid (B4.out.trans (hb5.mono B4.out.size))
            clear hv hb5
            go_wp2
            go_ret
            exact ⟨rfl, B5.out⟩
end Go.Proofs.Ytmmclccghlmfmaa
