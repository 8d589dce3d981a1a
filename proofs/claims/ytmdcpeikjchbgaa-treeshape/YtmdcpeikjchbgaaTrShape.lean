/- The law TreeShape: parents and kids fit. -/
import Derived.Test.YtmdcpeikjchbgaaTrWays
namespace Go.Proofs.Ytmdcpeikjchbgaa
open Go.RowKit Go.Maps
namespace TR
/-- How many are under the first j of M, together. -/
def psum (n : Nat) (f : F) (M : List Nat) (j : Nat) : Nat := ((M.take j).map fun y => (under n f y).length).sum
theorem psum_zero (n : Nat) (f : F) (M : List Nat) : psum n f M 0 = 0 := by simp [psum]
theorem sum_snoc (l : List Nat) (a : Nat) : (l ++ [a]).sum = l.sum + a := by
  induction l with
  | nil => simp
  | cons b l ih => rw [List.cons_append, List.sum_cons, ih, List.sum_cons]; omega
theorem psum_succ (n : Nat) (f : F) {M : List Nat} {j : Nat} (h : j < M.length) : psum n f M (j + 1) = psum n f M j + (under n f M[j]).length := by
  unfold psum
  rw [List.take_succ_eq_append_getElem h, List.map_append, List.map_cons, List.map_nil, sum_snoc]
theorem psum_le (n : Nat) (f : F) (M : List Nat) : ∀ j, psum n f M j ≤ j * (n + 1) := by
  intro j
  induction j with
  | zero => rw [psum_zero]; omega
  | succ j ih =>
    by_cases h : j < M.length
    · rw [psum_succ n f h, Nat.succ_mul]
      have := under_len_le n f M[j]
      omega
    · have : psum n f M (j + 1) = psum n f M j := by
        unfold psum
        rw [List.take_of_length_le (by omega), List.take_of_length_le (by omega)]
      rw [this, Nat.succ_mul]
      omega
theorem psum_bound {n : Nat} (hn : n ≤ 120) (f : F) (M : List Nat) (j : Nat) (hj : j ≤ 121) : psum n f M j ≤ 14641 := by
  have h1 := psum_le n f M j
  have h2 : j * (n + 1) ≤ 121 * 121 := Nat.mul_le_mul hj (by omega)
  omega
theorem psum_end (n : Nat) (f : F) (M : List Nat) : psum n f M M.length = (M.map fun y => (under n f y).length).sum := by
  unfold psum
  rw [List.take_length]
end TR

set_option maxRecDepth 100000 in
set_option maxHeartbeats 8000000 in
theorem shape_walk (A : Option Addr) (n0 c : Nat) (ls : List (Int × Int)) (w : World) (hl : AcS w w.heap.size A n0 ls) :
    Calls Try.prog 4 #[.slice A n0 c] w fun e w' => e = .returned (.bool true) ∧ Below w.heap.size w w' := by
  have HG := Lib.hid (tgrown_any A n0 c ls w hl)
  clear hl
  go_enter Try.func4, Try.ntmps4
  go_wp2_with fail
  refine HG.out.mono ?_
  rintro e w1 (⟨h120, rfl, hb⟩ | ⟨h120, b, m, n, f, rfl, ht, hn⟩)
  · have d : (120 : Int) < (n0 : Int) := by omega
    have HB := Lib.hid hb
    have HA := Lib.hid (talive_any w1)
    clear hb HG
    go_wp2_with fail
    refine HA.out.mono ?_
    rintro e w2 ⟨rfl, hb2⟩
    have HB2 := Lib.hid (HB.out.trans (hb2.mono HB.out.size))
    have HA2 := Lib.hid (talive_any w2)
    clear hb2 HA HB
    go_wp2_with fail
    refine HA2.out.mono ?_
    rintro e w3 ⟨rfl, hb3⟩
    have HB3 := Lib.hid (HB2.out.trans (hb3.mono HB2.out.size))
    clear hb3 HA2 HB2
    go_wp2
    go_ret
    exact ⟨rfl, HB3.out⟩
  · have HT := Lib.hid ht
    have HA := Lib.hid (talive_any w1)
    clear ht HG
    go_wp2_with fail
    refine HA.out.mono ?_
    rintro e w2 ⟨rfl, hb2⟩
    have HT2 := Lib.hid (HT.out.later hb2)
    have HZ := Lib.hid (TR.filter_range_no (k := 0) (TR.live_not.2 HT.out.at_.good.zero))
    clear hb2 HA HT
    go_wp2_with fail
    go_loopw [5, 6] (fun u i wr => ∃ k : Nat, 1 ≤ k ∧ k ≤ n + 1 ∧ i = .int .i64 k ∧ u = .int .i64 (((List.range k).filter (TR.live f)).length : Nat) ∧ Tm w wr b m n f) (fun _ i _ => n + 1 - (intOf i).toNat)
    case atStart => exact ⟨1, Nat.le_refl _, by omega, rfl, by rw [HZ.out]; rfl, HT2.out⟩
    case round =>
      obtain ⟨k, hk1, hk, rfl, rfl, ht⟩ := hrel
      by_cases hlt : k ≤ n
      · have hul := TR.filter_range_len (TR.live f) k
        have HL := tlive_any ht.at_ (k : Int) (I64.nat (by omega))
        rw [TR.liveI_nat] at HL
        cases hlk : TR.live f k
        · rw [hlk] at HL
          have HS := Lib.hid (show ((List.range (k + 1)).filter (TR.live f)).length = ((List.range k).filter (TR.live f)).length by rw [TR.filter_range_no hlk])
          have HL' := Lib.hid HL
          have HT3 := Lib.hid ht
          clear HL hlk ht
          generalize ((List.range k).filter (TR.live f)).length = L at *
          go_wp2_with fail
          refine HL'.out.mono ?_
          rintro e w3 ⟨rfl, rfl⟩
          go_wp2
          go_roundw
          case rel => exact ⟨k + 1, by omega, by omega, by go_num, by rw [HS.out], HT3.out⟩
          case measure => simp [intOf]; omega
        · rw [hlk] at HL
          have HS := Lib.hid (show ((List.range (k + 1)).filter (TR.live f)).length = ((List.range k).filter (TR.live f)).length + 1 by rw [TR.filter_range_yes hlk, List.length_append]; rfl)
          obtain ⟨p, hp⟩ := TR.live_iff.1 hlk
          have hpl := ht.at_.good.le k p hp
          have hpz := ht.at_.good.par k p hp
          have HP := tparent_any ht.at_ (k : Int) (I64.nat (by omega))
          rw [TR.parI_ok hp, TR.liveErr_ok (by rw [TR.liveI_nat]; exact hlk)] at HP
          have hmp : TR.mayErr f (p : Int) = 0 := by
            unfold TR.mayErr
            rcases hpz with e | ⟨r, hr⟩
            · rw [if_pos (by omega)]
            · rw [if_neg (by have := (ht.at_.good.le p r hr).1; omega), TR.liveErr_ok (by rw [TR.liveI_nat]; exact TR.live_iff.2 ⟨r, hr⟩)]
          have hmk : TR.mayErr f (k : Int) = 0 := by unfold TR.mayErr; rw [if_neg (by omega), TR.liveErr_ok (by rw [TR.liveI_nat]; exact hlk)]
          have HMK := Lib.hid hmk
          have HK1 := Lib.hid (tkids_ok ht.at_ p (by omega) hmp)
          have hin : decide (k ∈ TR.kids n f p) = true := decide_eq_true (TR.mem_kids.2 ⟨hlt, hp⟩)
          have HIN := Lib.hid hin
          have hkl := TR.kids_len n f p
          have HUL := Lib.hid (TR.under_len ht.at_.good hlk)
          have HUH := Lib.hid (TR.under_head ht.at_.good hlk)
          have HLP := Lib.hid (fun (W : World) (h : TrAt W b m n f) (hp0 : p ≠ 0) => show Calls Try.prog 17 #[.pointer (some ⟨b, 0, none⟩), .int .i64 (p : Int)] W fun e w' => e = .returned (.bool true) ∧ W = w' from by
            have := tlive_any h (p : Int) (I64.nat (by omega))
            rw [TR.liveI_nat, TR.live_iff.2 (hpz.resolve_left hp0)] at this
            exact this)
          have HP' := Lib.hid HP
          have HPK := Lib.hid hp
          have HL' := Lib.hid HL
          have HT3 := Lib.hid ht
          clear HL HP hlk ht hp hpz hmp hmk hin
          generalize ((List.range k).filter (TR.live f)).length = L at *
          go_wp2_with fail
          refine HL'.out.mono ?_
          rintro e w3 ⟨rfl, rfl⟩
          go_wp2_with fail
          refine HP'.out.mono ?_
          rintro e w3 ⟨rfl, rfl⟩
          go_wp2_with fail
          refine HK1.out.mono ?_
          rintro e w3 ⟨v1, rfl, hv1, hb3⟩
          have HT4 := Lib.hid (HT3.out.later hb3)
          obtain ⟨A1, c1, rfl, _⟩ := hv1.slice
          have HV1 := Lib.hid hv1
          clear hv1 hb3 HT3 HK1 HP' HL'
          generalize TR.kids n f p = K at *
          by_cases hp0 : p = 0
          · subst hp0
            clear HLP
            go_wp2_with fail
            go_loop [11, 97] (fun in_ ix => ∃ j : Nat, j ≤ K.length ∧ ix = .int .i64 j ∧ in_ = .bool (decide (k ∈ K.take j))) (fun _ ix => K.length - (intOf ix).toNat)
            case atStart => exact ⟨0, Nat.zero_le _, rfl, by simp⟩
            case round =>
              obtain ⟨j, hj, rfl, rfl⟩ := hrel
              by_cases hjl : j < K.length
              · obtain ⟨g, cap, e1, _, _, c1⟩ := HV1.out.cell hjl
                injection e1 with e1 _ e1'
                subst e1 e1'
                have HM := Lib.hid (mem_snoc (k := k) hjl)
                obtain ⟨y, hy⟩ : ∃ y, K[j] = y := ⟨_, rfl⟩
                rw [hy] at c1 HM
                clear hy
                generalize decide (k ∈ K.take j) = dj at *
                cases dj
                · go_wp2
                  go_round
                  case rel => exact ⟨j + 1, by omega, by go_num, by rw [HM.out]; rfl⟩
                  case measure => simp [intOf]; omega
                · go_wp2
                  go_round
                  case rel => exact ⟨j + 1, by omega, by go_num, by rw [HM.out]; rfl⟩
                  case measure => simp [intOf]; omega
              · obtain rfl : j = K.length := by omega
                rw [show decide (k ∈ K.take K.length) = true from by rw [List.take_length]; exact HIN.out]
                have HK2 := Lib.hid (tkids_ok HT4.out.at_ k (by omega) HMK.out)
                go_wp2_with fail
                refine HK2.out.mono ?_
                rintro e w5 ⟨v2, rfl, hv2, hb5⟩
                have HT5 := Lib.hid (HT4.out.later hb5)
                have hml := TR.kids_len n f k
                obtain ⟨M, hM⟩ : ∃ M, TR.kids n f k = M := ⟨_, rfl⟩
                rw [hM] at hv2 hml
                have HMK2 := Lib.hid (show ∀ y ∈ M, f y = some k from fun y hy => by rw [← hM] at hy; exact (TR.mem_kids.1 hy).2)
                have HUM := HUL.out
                rw [hM, ← TR.psum_end] at HUM
                have HUM2 := Lib.hid HUM
                obtain ⟨A2, c2, rfl, _⟩ := hv2.slice
                have HV2 := Lib.hid hv2
                clear hv2 hb5 HK2 hM HUM HUL
                go_wp2_with fail
                go_loopw [14, 116] (fun su ix wr => ∃ j s : Nat, j ≤ M.length ∧ ix = .int .i64 j ∧ su = .int .i64 s ∧ s = 1 + TR.psum n f M j ∧ Below w5.heap.size w5 wr) (fun _ ix _ => M.length - (intOf ix).toNat)
                case atStart => exact ⟨0, 1, Nat.zero_le _, rfl, rfl, by rw [TR.psum_zero], Below.refl _ _⟩
                case round =>
                  obtain ⟨j, s, hj, rfl, rfl, hs, hbw⟩ := hrel
                  have hpb := TR.psum_bound hn f M j (by omega)
                  have HSS := Lib.hid hs
                  have hsb : s ≤ 14642 := by omega
                  clear hs hpb
                  by_cases hjl : j < M.length
                  · obtain ⟨g, cap, e1, _, _, c1⟩ := (HV2.out.below hbw).cell hjl
                    injection e1 with e1 _ e1'
                    subst e1 e1'
                    have hps := Lib.hid (TR.psum_succ n f hjl)
                    have hfy := HMK2.out M[j] (List.getElem_mem hjl)
                    obtain ⟨y, hy⟩ : ∃ y, M[j] = y := ⟨_, rfl⟩
                    rw [hy] at c1 hps hfy
                    have HU := Lib.hid (tunder_ok (HT5.out.later hbw).at_ y k hfy)
                    have hyl := TR.under_len_le n f y
                    clear hy hfy
                    go_wp2_with fail
                    refine HU.out.mono ?_
                    rintro e w6 ⟨v3, rfl, hv3, hb6⟩
                    have HB6 := Lib.hid (hbw.trans (hb6.mono hbw.size))
                    obtain ⟨A3, c3, rfl, _⟩ := hv3.slice
                    clear hv3 hb6 HU
                    generalize (TR.under n f y).length = N at *
                    go_wp2
                    go_roundw
                    case rel => exact ⟨j + 1, s + N, by omega, by go_num, by go_num, by rw [hps.out]; have := HSS.out; omega, HB6.out⟩
                    case measure => simp [intOf]; omega
                  · obtain rfl : j = M.length := by omega
                    have HU := Lib.hid (tunder_ok (HT5.out.later hbw).at_ k _ HPK.out)
                    have HT6 := Lib.hid (HT5.out.later hbw)
                    clear hbw
                    go_wp2_with fail
                    refine HU.out.mono ?_
                    rintro e w6 ⟨v3, rfl, hv3, hb6⟩
                    have HT7 := Lib.hid (HT6.out.later hb6)
                    have hsn : (TR.under n f k).length = s := HUM2.out.trans HSS.out.symm
                    have h0 : 0 < (TR.under n f k).length := by have := HSS.out; omega
                    obtain ⟨g, cap, e1, _, _, c1⟩ := hv3.cell h0
                    have hk0 : (TR.under n f k)[0] = k := by
                      have := HUH.out
                      rw [List.getElem?_eq_getElem h0] at this
                      injection this
                    rw [hk0] at c1
                    rw [hsn] at e1 h0
                    subst e1
                    clear hsn hk0 hv3 hb6 HU HUM2 HSS HT6
                    go_wp2
                    go_roundw
                    case rel => exact ⟨k + 1, by omega, by omega, by go_num, by rw [HS.out]; go_num, HT7.out⟩
                    case measure => simp [intOf]; omega
          · have HLQ := Lib.hid (HLP.out _ HT4.out.at_ hp0)
            have d0 : decide (k ≤ p) = false := decide_eq_false (by omega)
            clear HLP
            go_wp2_with fail
            refine HLQ.out.mono ?_
            rintro e w4 ⟨rfl, rfl⟩
            go_wp2_with fail
            go_loop [11, 97] (fun in_ ix => ∃ j : Nat, j ≤ K.length ∧ ix = .int .i64 j ∧ in_ = .bool (decide (k ∈ K.take j))) (fun _ ix => K.length - (intOf ix).toNat)
            case atStart => exact ⟨0, Nat.zero_le _, rfl, by simp⟩
            case round =>
              obtain ⟨j, hj, rfl, rfl⟩ := hrel
              by_cases hjl : j < K.length
              · obtain ⟨g, cap, e1, _, _, c1⟩ := HV1.out.cell hjl
                injection e1 with e1 _ e1'
                subst e1 e1'
                have HM := Lib.hid (mem_snoc (k := k) hjl)
                obtain ⟨y, hy⟩ : ∃ y, K[j] = y := ⟨_, rfl⟩
                rw [hy] at c1 HM
                clear hy
                generalize decide (k ∈ K.take j) = dj at *
                cases dj
                · go_wp2
                  go_round
                  case rel => exact ⟨j + 1, by omega, by go_num, by rw [HM.out]; rfl⟩
                  case measure => simp [intOf]; omega
                · go_wp2
                  go_round
                  case rel => exact ⟨j + 1, by omega, by go_num, by rw [HM.out]; rfl⟩
                  case measure => simp [intOf]; omega
              · obtain rfl : j = K.length := by omega
                rw [show decide (k ∈ K.take K.length) = true from by rw [List.take_length]; exact HIN.out]
                have HK2 := Lib.hid (tkids_ok HT4.out.at_ k (by omega) HMK.out)
                go_wp2_with fail
                refine HK2.out.mono ?_
                rintro e w5 ⟨v2, rfl, hv2, hb5⟩
                have HT5 := Lib.hid (HT4.out.later hb5)
                have hml := TR.kids_len n f k
                obtain ⟨M, hM⟩ : ∃ M, TR.kids n f k = M := ⟨_, rfl⟩
                rw [hM] at hv2 hml
                have HMK2 := Lib.hid (show ∀ y ∈ M, f y = some k from fun y hy => by rw [← hM] at hy; exact (TR.mem_kids.1 hy).2)
                have HUM := HUL.out
                rw [hM, ← TR.psum_end] at HUM
                have HUM2 := Lib.hid HUM
                obtain ⟨A2, c2, rfl, _⟩ := hv2.slice
                have HV2 := Lib.hid hv2
                clear hv2 hb5 HK2 hM HUM HUL
                go_wp2_with fail
                go_loopw [14, 116] (fun su ix wr => ∃ j s : Nat, j ≤ M.length ∧ ix = .int .i64 j ∧ su = .int .i64 s ∧ s = 1 + TR.psum n f M j ∧ Below w5.heap.size w5 wr) (fun _ ix _ => M.length - (intOf ix).toNat)
                case atStart => exact ⟨0, 1, Nat.zero_le _, rfl, rfl, by rw [TR.psum_zero], Below.refl _ _⟩
                case round =>
                  obtain ⟨j, s, hj, rfl, rfl, hs, hbw⟩ := hrel
                  have hpb := TR.psum_bound hn f M j (by omega)
                  have HSS := Lib.hid hs
                  have hsb : s ≤ 14642 := by omega
                  clear hs hpb
                  by_cases hjl : j < M.length
                  · obtain ⟨g, cap, e1, _, _, c1⟩ := (HV2.out.below hbw).cell hjl
                    injection e1 with e1 _ e1'
                    subst e1 e1'
                    have hps := Lib.hid (TR.psum_succ n f hjl)
                    have hfy := HMK2.out M[j] (List.getElem_mem hjl)
                    obtain ⟨y, hy⟩ : ∃ y, M[j] = y := ⟨_, rfl⟩
                    rw [hy] at c1 hps hfy
                    have HU := Lib.hid (tunder_ok (HT5.out.later hbw).at_ y k hfy)
                    have hyl := TR.under_len_le n f y
                    clear hy hfy
                    go_wp2_with fail
                    refine HU.out.mono ?_
                    rintro e w6 ⟨v3, rfl, hv3, hb6⟩
                    have HB6 := Lib.hid (hbw.trans (hb6.mono hbw.size))
                    obtain ⟨A3, c3, rfl, _⟩ := hv3.slice
                    clear hv3 hb6 HU
                    generalize (TR.under n f y).length = N at *
                    go_wp2
                    go_roundw
                    case rel => exact ⟨j + 1, s + N, by omega, by go_num, by go_num, by rw [hps.out]; have := HSS.out; omega, HB6.out⟩
                    case measure => simp [intOf]; omega
                  · obtain rfl : j = M.length := by omega
                    have HU := Lib.hid (tunder_ok (HT5.out.later hbw).at_ k _ HPK.out)
                    have HT6 := Lib.hid (HT5.out.later hbw)
                    clear hbw
                    go_wp2_with fail
                    refine HU.out.mono ?_
                    rintro e w6 ⟨v3, rfl, hv3, hb6⟩
                    have HT7 := Lib.hid (HT6.out.later hb6)
                    have hsn : (TR.under n f k).length = s := HUM2.out.trans HSS.out.symm
                    have h0 : 0 < (TR.under n f k).length := by have := HSS.out; omega
                    obtain ⟨g, cap, e1, _, _, c1⟩ := hv3.cell h0
                    have hk0 : (TR.under n f k)[0] = k := by
                      have := HUH.out
                      rw [List.getElem?_eq_getElem h0] at this
                      injection this
                    rw [hk0] at c1
                    rw [hsn] at e1 h0
                    subst e1
                    clear hsn hk0 hv3 hb6 HU HUM2 HSS HT6
                    go_wp2
                    go_roundw
                    case rel => exact ⟨k + 1, by omega, by omega, by go_num, by rw [HS.out]; go_num, HT7.out⟩
                    case measure => simp [intOf]; omega
      · obtain rfl : k = n + 1 := by omega
        have hall : ((List.range (n + 1)).filter (TR.live f)).length = (TR.all n f).length := rfl
        rw [hall]
        have HK0 : Calls Try.prog 11 #[.pointer (some ⟨b, 0, none⟩), .int .i64 0] wr (RowE (TR.kids n f 0) 0 wr) := tkids_ok ht.at_ 0 (by omega) rfl
        have HK0' := Lib.hid HK0
        have HTP := Lib.hid (TR.tops_len ht.at_.good)
        have HT3 := Lib.hid ht
        have hal := TR.all_len n f
        clear ht HK0 hall
        go_wp2_with fail
        refine HK0'.out.mono ?_
        rintro e w4 ⟨v1, rfl, hv1, hb4⟩
        have HT4 := Lib.hid (HT3.out.later hb4)
        have hml := TR.kids_len n f 0
        obtain ⟨M, hM⟩ : ∃ M, TR.kids n f 0 = M := ⟨_, rfl⟩
        rw [hM] at hv1 hml
        have HMK2 := Lib.hid (show ∀ y ∈ M, f y = some 0 from fun y hy => by rw [← hM] at hy; exact (TR.mem_kids.1 hy).2)
        have HUM := HTP.out
        rw [hM, ← TR.psum_end] at HUM
        have HUM2 := Lib.hid HUM
        obtain ⟨A2, c2, rfl, _⟩ := hv1.slice
        have HV2 := Lib.hid hv1
        have HLN := Lib.hid (fun (W : World) (h : TrAt W b m n f) => tlen_any h)
        clear hv1 hb4 hM HUM HTP HT3 HK0'
        generalize (TR.all n f).length = AN at *
        go_wp2_with fail
        go_loopw [23, 174] (fun su ix wr => ∃ j s : Nat, j ≤ M.length ∧ ix = .int .i64 j ∧ su = .int .i64 s ∧ s = TR.psum n f M j ∧ Below w4.heap.size w4 wr) (fun _ ix _ => M.length - (intOf ix).toNat)
        case atStart => exact ⟨0, 0, Nat.zero_le _, rfl, rfl, by rw [TR.psum_zero], Below.refl _ _⟩
        case round =>
          obtain ⟨j, s, hj, rfl, rfl, hs, hbw⟩ := hrel
          have hpb := TR.psum_bound hn f M j (by omega)
          have HSS := Lib.hid hs
          have hsb : s ≤ 14642 := by omega
          clear hs hpb
          by_cases hjl : j < M.length
          · obtain ⟨g, cap, e1, _, _, c1⟩ := (HV2.out.below hbw).cell hjl
            injection e1 with e1 _ e1'
            subst e1 e1'
            have hps := Lib.hid (TR.psum_succ n f hjl)
            have hfy := HMK2.out M[j] (List.getElem_mem hjl)
            obtain ⟨y, hy⟩ : ∃ y, M[j] = y := ⟨_, rfl⟩
            rw [hy] at c1 hps hfy
            have HU := Lib.hid (tunder_ok (HT4.out.later hbw).at_ y 0 hfy)
            have hyl := TR.under_len_le n f y
            clear hy hfy
            go_wp2_with fail
            refine HU.out.mono ?_
            rintro e w6 ⟨v3, rfl, hv3, hb6⟩
            have HB6 := Lib.hid (hbw.trans (hb6.mono hbw.size))
            obtain ⟨A3, c3, rfl, _⟩ := hv3.slice
            clear hv3 hb6 HU
            generalize (TR.under n f y).length = N at *
            go_wp2
            go_roundw
            case rel => exact ⟨j + 1, s + N, by omega, by go_num, by go_num, by rw [hps.out]; have := HSS.out; omega, HB6.out⟩
            case measure => simp [intOf]; omega
          · obtain rfl : j = M.length := by omega
            have HT6 := Lib.hid (HT4.out.later hbw)
            have HL6 := Lib.hid (HLN.out _ HT6.out.at_)
            have hsn : s = AN := HSS.out.trans HUM2.out.symm
            subst hsn
            clear hbw HSS HUM2 HLN
            go_wp2_with fail
            refine HL6.out.mono ?_
            rintro e w6 ⟨rfl, rfl⟩
            go_wp2
            go_ret
            exact ⟨rfl, HT6.out.bel⟩
end Go.Proofs.Ytmdcpeikjchbgaa
