/- The law TreeWays: one is under another one just if that is come to from it, parent by parent. -/
import Derived.Test.YtmdcpeikjchbgaaTrAlive
import Derived.Deep.DeepCutAuto
namespace Go.Proofs.Ytmdcpeikjchbgaa
open Go.RowKit Go.Maps

theorem tr_mod (c : Int) (C : Nat) (hC : 1 ≤ C) (hC2 : C ≤ 1000) : ∃ q : Nat, q < C ∧ RowKit.wrap64 ((IntKind.u64.wrap c).tmod (C : Int)) = (q : Int) := by
  refine ⟨((c % 18446744073709551616) % (C : Int)).toNat, ?_, ?_⟩
  · have := Int.emod_nonneg (c % 18446744073709551616) (b := (C : Int)) (by omega)
    have := Int.emod_lt_of_pos (c % 18446744073709551616) (b := (C : Int)) (by omega)
    omega
  · rw [IntKind.wrap_u64, Int.tmod_eq_emod_of_nonneg (Int.emod_nonneg _ (by decide))]
    have := Int.emod_nonneg (c % 18446744073709551616) (b := (C : Int)) (by omega)
    have := Int.emod_lt_of_pos (c % 18446744073709551616) (b := (C : Int)) (by omega)
    unfold RowKit.wrap64
    omega
/-- A number from 1 to n, or 1. -/
def IdV (n : Nat) (v : Value) : Prop := ∃ x : Nat, v = .int .i64 (x : Int) ∧ 1 ≤ x ∧ x ≤ max n 1
theorem idV (z : Int) (n : Nat) (hn : n ≤ 1000) : IdV n (.int .i64 (wrap64 (1 + wrap64 ((IntKind.u64.wrap z).tmod (max (n : Int) 1))))) := by
  obtain ⟨q, hq1, hq2⟩ := tr_mod z (max n 1) (by omega) (by omega)
  have e : max (n : Int) 1 = ((max n 1 : Nat) : Int) := by omega
  refine ⟨q + 1, ?_, by omega, by omega⟩
  rw [e, hq2]
  congr 1
  unfold RowKit.wrap64
  omega
theorem mem_snoc {l : List Nat} {j k : Nat} (hj : j < l.length) : decide (k ∈ l.take (j + 1)) = (decide (k ∈ l.take j) || (((l[j] : Nat) : Int) == (k : Int))) := by
  have e : k ∈ l.take (j + 1) ↔ k ∈ l.take j ∨ k = l[j] := by rw [List.take_succ_eq_append_getElem hj, List.mem_append, List.mem_singleton]
  obtain ⟨y, hy⟩ : ∃ y, l[j] = y := ⟨_, rfl⟩
  rw [hy] at e ⊢
  have h : decide (k ∈ l.take (j + 1)) = (decide (k ∈ l.take j) || decide (k = y)) := by
    rw [← Bool.decide_or]
    exact decide_eq_decide.2 e
  rw [h]
  congr 1
  by_cases h2 : y = k
  · subst h2; simp
  · have h3 : ¬ k = y := fun e => h2 e.symm
    have h4 : ((y : Int) == (k : Int)) = false := by simp; omega
    rw [h4]
    simp [h3]

theorem under_dec {n : Nat} {f : TR.F} {k : Nat} (hk : k ≤ n) (hl : TR.live f k = true) (x : Nat) : decide (k ∈ TR.under n f x) = TR.below f x k := by
  cases hb : TR.below f x k
  · exact decide_eq_false fun hm => by
      have := (TR.mem_under.1 hm).2.2
      rw [hb] at this
      cases this
  · exact decide_eq_true (TR.mem_under.2 ⟨hk, hl, hb⟩)

set_option maxRecDepth 100000 in
set_option maxHeartbeats 4000000 in
theorem ways_walk (A : Option Addr) (n0 c : Nat) (ls : List (Int × Int)) (z : Int) (w : World) (hl : AcS w w.heap.size A n0 ls) (_hz : I64 z) :
    Calls Try.prog 8 #[.slice A n0 c, .int .i64 z] w fun e w' => e = .returned (.bool true) ∧ Below w.heap.size w w' := by
  have HG := Lib.hid (tgrown_any A n0 c ls w hl)
  clear hl
  go_enter Try.func8, Try.ntmps8
  go_wp2_with fail
  refine HG.out.mono ?_
  rintro e w1 (⟨h120, rfl, hb⟩ | ⟨h120, b, m, n, f, rfl, ht, hn⟩)
  · have d : (120 : Int) < (n0 : Int) := by omega
    have HB := Lib.hid hb
    have HA := Lib.hid (talive_any w1)
    clear hb HG
    go_wp2_with fail
    refine HA.out.mono ?_
    rintro e w2 ⟨rfl, hb2⟩
    have HB2 := Lib.hid (HB.out.trans (hb2.mono HB.out.size))
    have HA2 := Lib.hid (talive_any w2)
    clear hb2 HA HB
    go_wp2_with fail
    refine HA2.out.mono ?_
    rintro e w3 ⟨rfl, hb3⟩
    have HB3 := Lib.hid (HB2.out.trans (hb3.mono HB2.out.size))
    clear hb3 HA2 HB2
    go_wp2
    go_ret
    exact ⟨rfl, HB3.out⟩
  · have HT := Lib.hid ht
    have HA := Lib.hid (talive_any w1)
    clear ht HG
    go_wp2_with fail
    refine HA.out.mono ?_
    rintro e w2 ⟨rfl, hb2⟩
    have HT2 := Lib.hid (HT.out.later hb2)
    clear hb2 HA HT
    go_upto_region 4 with (fail)
    go_cut [1] (fun s wc => IdV n s ∧ w2 = wc)
    case first =>
      by_cases h0 : n = 0
      · subst h0
        obtain ⟨q, hq1, hq2⟩ := tr_mod z 1 (by omega) (by omega)
        go_wp2
        go_meet
        exact ⟨idV z 0 (by omega), rfl⟩
      · obtain ⟨q, hq1, hq2⟩ := tr_mod z n (by omega) (by omega)
        go_wp2
        go_meet
        exact ⟨idV z n (by omega), rfl⟩
    case rest =>
      obtain ⟨⟨x, rfl, hx1, hx2⟩, rfl⟩ := hcut
      have HU := tunder_any HT2.out.at_ (x : Int) (I64.nat (by omega))
      have HLV := Lib.hid (tlive_any HT2.out.at_ (x : Int) (I64.nat (by omega)))
      cases hlv : TR.liveI f (x : Int)
      · rw [TR.underI_no hlv, TR.liveErr_no hlv] at HU
        have HU2 := Lib.hid HU
        have HLE := Lib.hid hlv
        clear HU hlv HLV
        go_wp2_with fail
        refine HU2.out.mono ?_
        rintro e w3 ⟨v, rfl, hv, hb3⟩
        obtain ⟨A3, c3, hvv, _⟩ := hv.slice
        rw [List.length_nil] at hvv
        subst hvv
        have HT3 := Lib.hid (HT2.out.later hb3)
        have HL := tlive_any HT3.out.at_ (x : Int) (I64.nat (by omega))
        rw [HLE.out] at HL
        have HL2 := Lib.hid HL
        clear HL hv hb3 HU2 HT2
        go_wp2_with fail
        refine HL2.out.mono ?_
        rintro e w4 ⟨rfl, rfl⟩
        go_wp2
        go_ret
        exact ⟨rfl, HT3.out.bel⟩
      · obtain ⟨x', q, e, hq⟩ := TR.liveI_iff.1 hlv
        obtain rfl : x = x' := by omega
        clear e
        rw [TR.underI_ok hq, TR.liveErr_ok hlv] at HU
        have HU2 := Lib.hid HU
        have HQ := Lib.hid hq
        clear HU hlv HLV hq
        go_wp2_with fail
        refine HU2.out.mono ?_
        rintro e w3 ⟨v, rfl, hv, hb3⟩
        have HT3 := Lib.hid (HT2.out.later hb3)
        have hlen := TR.under_len_le n f x
        obtain ⟨U, hU⟩ : ∃ U, U = TR.under n f x := ⟨_, rfl⟩
        rw [← hU] at hv hlen
        have HUU := Lib.hid hU
        obtain ⟨A3, c3, rfl, _⟩ := hv.slice
        have HV := Lib.hid hv
        clear hv hb3 HU2 HT2 hU
        go_wp2_with fail
        go_loop [9] (fun i => ∃ k : Nat, 1 ≤ k ∧ k ≤ n + 1 ∧ i = .int .i64 k) (fun i => n + 1 - (intOf i).toNat)
        case atStart => exact ⟨1, Nat.le_refl _, by omega, rfl⟩
        case round =>
          obtain ⟨k, hk1, hk, rfl⟩ := hrel
          by_cases hlt : k ≤ n
          · have HL := tlive_any HT3.out.at_ (k : Int) (I64.nat (by omega))
            rw [TR.liveI_nat] at HL
            cases hlk : TR.live f k
            · rw [hlk] at HL
              have HL2 := Lib.hid HL
              clear HL hlk
              go_wp2_with fail
              refine HL2.out.mono ?_
              rintro e w4 ⟨rfl, rfl⟩
              go_wp2
              go_round
              case rel => exact ⟨k + 1, by omega, by omega, by go_num⟩
              case measure => simp [intOf]; omega
            · rw [hlk] at HL
              have HL2 := Lib.hid HL
              have HK := Lib.hid hlk
              clear HL hlk
              go_wp2_with fail
              refine HL2.out.mono ?_
              rintro e w4 ⟨rfl, rfl⟩
              go_wp2_with fail
              go_loop [10, 11] (fun at_ st => ∃ a s : Nat, at_ = .int .i64 a ∧ st = .int .i64 s ∧ a + s ≤ k ∧ (a = 0 ∨ TR.live f a = true) ∧ TR.below f x a = TR.below f x k) (fun at_ _ => (intOf at_).toNat)
              case atStart => exact ⟨k, 0, rfl, rfl, by omega, .inr HK.out, rfl⟩
              case round =>
                obtain ⟨a, s, rfl, rfl, has, hla, hbl⟩ := hrel
                by_cases hax : a = x
                · subst hax
                  have hd : TR.below f a a = true := TR.below_self (by omega)
                  clear hla has
                  have hbk : decide (k ∈ U.take U.length) = true := by
                    rw [List.take_length, HUU.out, under_dec hlt HK.out, ← hbl]
                    exact hd
                  have HBK := Lib.hid hbk
                  clear hbk hbl hd
                  go_wp2_with fail
                  go_loop [12, 89] (fun in_ ix => ∃ j : Nat, j ≤ U.length ∧ ix = .int .i64 j ∧ in_ = .bool (decide (k ∈ U.take j))) (fun _ ix => U.length - (intOf ix).toNat)
                  case atStart => exact ⟨0, Nat.zero_le _, rfl, by simp⟩
                  case round =>
                    obtain ⟨j, hj, rfl, rfl⟩ := hrel
                    by_cases hjl : j < U.length
                    · obtain ⟨g, cap, e1, _, _, c1⟩ := HV.out.cell hjl
                      injection e1 with e1 _ e1'
                      subst e1 e1'
                      have HM := Lib.hid (mem_snoc (k := k) hjl)
                      obtain ⟨y, hy⟩ : ∃ y, U[j] = y := ⟨_, rfl⟩
                      rw [hy] at c1 HM
                      clear hy
                      generalize decide (k ∈ U.take j) = dj at *
                      cases dj
                      · go_wp2
                        go_round
                        case rel => exact ⟨j + 1, by omega, by go_num, by rw [HM.out]; rfl⟩
                        case measure => simp [intOf]; omega
                      · go_wp2
                        go_round
                        case rel => exact ⟨j + 1, by omega, by go_num, by rw [HM.out]; rfl⟩
                        case measure => simp [intOf]; omega
                    · obtain rfl : j = U.length := by omega
                      rw [HBK.out]
                      go_wp2
                      go_round
                      case rel => exact ⟨k + 1, by omega, by omega, by go_num⟩
                      case measure => simp [intOf]; omega
                · by_cases ha0 : a = 0
                  · subst ha0
                    have hd : TR.below f x 0 = false := TR.below_zero f x
                    have d0 : ((0 : Int) == (x : Int)) = false := by simp; omega
                    clear hla has hax
                    have hbk : decide (k ∈ U.take U.length) = false := by
                      rw [List.take_length, HUU.out, under_dec hlt HK.out, ← hbl]
                      exact hd
                    have HBK := Lib.hid hbk
                    clear hbk hbl hd
                    go_wp2_with fail
                    go_loop [12, 89] (fun in_ ix => ∃ j : Nat, j ≤ U.length ∧ ix = .int .i64 j ∧ in_ = .bool (decide (k ∈ U.take j))) (fun _ ix => U.length - (intOf ix).toNat)
                    case atStart => exact ⟨0, Nat.zero_le _, rfl, by simp⟩
                    case round =>
                      obtain ⟨j, hj, rfl, rfl⟩ := hrel
                      by_cases hjl : j < U.length
                      · obtain ⟨g, cap, e1, _, _, c1⟩ := HV.out.cell hjl
                        injection e1 with e1 _ e1'
                        subst e1 e1'
                        have HM := Lib.hid (mem_snoc (k := k) hjl)
                        obtain ⟨y, hy⟩ : ∃ y, U[j] = y := ⟨_, rfl⟩
                        rw [hy] at c1 HM
                        clear hy
                        generalize decide (k ∈ U.take j) = dj at *
                        cases dj
                        · go_wp2
                          go_round
                          case rel => exact ⟨j + 1, by omega, by go_num, by rw [HM.out]; rfl⟩
                          case measure => simp [intOf]; omega
                        · go_wp2
                          go_round
                          case rel => exact ⟨j + 1, by omega, by go_num, by rw [HM.out]; rfl⟩
                          case measure => simp [intOf]; omega
                      · obtain rfl : j = U.length := by omega
                        rw [HBK.out]
                        go_wp2
                        go_round
                        case rel => exact ⟨k + 1, by omega, by omega, by go_num⟩
                        case measure => simp [intOf]; omega
                  · obtain ⟨p, hp⟩ := TR.live_iff.1 (hla.resolve_left ha0)
                    have hpl := HT3.out.at_.good.le a p hp
                    have hpar := Lib.hid (HT3.out.at_.good.par a p hp)
                    have HST := Lib.hid (TR.below_step HT3.out.at_.good hp hax)
                    have HP := tparent_any HT3.out.at_ (a : Int) (I64.nat (by omega))
                    rw [TR.parI_ok hp] at HP
                    have HP2 := Lib.hid HP
                    have HBL := Lib.hid hbl
                    have d0 : ((a : Int) == (x : Int)) = false := by simp; omega
                    have d1 : ((a : Int) == 0) = false := by simp; omega
                    have d2 : decide (s ≤ n) = true := decide_eq_true (by omega)
                    have d4 : ((a : Int) != (x : Int)) = true := by simp; omega
                    have d5 : ((a : Int) != 0) = true := by simp; omega
                    clear HP hbl hla hp
                    generalize TR.liveErr f a = er at *
                    go_wp2_with fail
                    refine HP2.out.mono ?_
                    rintro e w4 ⟨rfl, rfl⟩
                    go_wp2
                    go_round
                    case rel =>
                      refine ⟨p, s + 1, rfl, by go_num, by omega, ?_, HST.out.symm.trans HBL.out⟩
                      rcases hpar.out with e | ⟨r, hr⟩
                      · exact .inl e
                      · exact .inr (TR.live_iff.2 ⟨r, hr⟩)
                    case measure => simp [intOf]; omega
          · obtain rfl : k = n + 1 := by omega
            go_wp2
            go_ret
            exact ⟨rfl, HT3.out.bel⟩
end Go.Proofs.Ytmdcpeikjchbgaa
