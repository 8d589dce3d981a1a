/- The contract of the document's Lost. -/
import Derived.Test.YtmmclccghlmfmaaGrRO
namespace Go.Proofs.Ytmmclccghlmfmaa
open Go.RowKit Go.Lib Go.Sort Go.Maps

set_option maxHeartbeats 2000000 in
set_option maxRecDepth 100000 in
theorem rlost_any {w : World} {Z A B : Option Addr} {t n m z c d : Nat} {ns rs : List Int} {es : List (Int × Int)} (hz : ZS w Z t ns) (h : ZS w A n rs) (he : ES w B m es) (ht : t ≤ 1000) (hn : n ≤ 1000) (hm : m ≤ 1000) :
    Calls Try.prog 18 #[.slice Z t z, .slice A n c, .slice B m d] w fun e w' => ∃ v, e = .returned v ∧ NewZ w.heap.size w' v (GM.lost es rs ns) ∧ Below w.heap.size w w' := by
  obtain ⟨i0, hi0, hz0, hz1, hz2⟩ := info_parts infoZ
  have hl : (GM.ord es rs).length ≤ 2000 := by have := GM.ord_len es rs; have := h.len; have := he.len; omega
  have HC := Lib.hid (rorder_any (c := c) (d := d) h he hn hm)
  have HZ := Lib.hid hz
  have hzl := hz.len
  clear h he hz
  go_enter Try.func18, Try.ntmps18
  go_wp2_with fail
  refine HC.out.mono ?_
  rintro e w1 ⟨v, rfl, hv, hb⟩
  obtain ⟨O, hO⟩ : ∃ O, O = GM.ord es rs := ⟨_, rfl⟩
  rw [← hO] at hv hl
  have HO := Lib.hid hO
  obtain ⟨A1, c1, rfl, _⟩ := hv.slice
  have HV := Lib.hid hv
  have HB := Lib.hid hb
  have HZ1 := Lib.hid (HZ.out.below hb)
  clear HC hv hb HZ hO
  go_wp2_with fail
  go_loopw [8, 9] (fun u i wr => ∃ k : Nat, k ≤ t ∧ i = .int .i64 k ∧ Hid (NewZ w1.heap.size wr u (GM.out O (ns.take k))) ∧ Hid (Below w1.heap.size w1 wr)) (fun _ i _ => t - (intOf i).toNat)
  case atStart => exact ⟨0, Nat.zero_le _, rfl, Lib.hid (NewZ.nil _ _), Lib.hid (Below.refl _ _)⟩
  case round =>
    obtain ⟨k, hk, rfl, HU, HBw⟩ := hrel
    by_cases hlt : k < t
    · obtain ⟨b, off, rfl, hb, c0⟩ := HZ1.out.at_ hlt
      have d0 := (HBw.out.cell (p := ⟨b, _, none⟩) hb).trans c0
      have hst : GM.out O (ns.take (k + 1)) = GM.out O (ns.take k) ++ (if ns[k]'(by omega) ∈ O then [] else [ns[k]'(by omega)]) := by rw [List.take_succ_eq_append_getElem (by omega), GM.out_snoc]
      obtain ⟨x, hx⟩ : ∃ x, x = ns[k]'(by omega) := ⟨_, rfl⟩
      rw [← hx] at d0 hst
      have hL : (GM.out O (ns.take k)).length ≤ 1000 := by have := GM.out_len O (ns.take k); rw [List.length_take] at this; omega
      obtain ⟨L, hLe⟩ : ∃ L, L = GM.out O (ns.take k) := ⟨_, rfl⟩
      rw [← hLe] at hL hst HU
      have HC := Lib.hid (has_any (c := c1) (HV.out.below HBw.out).zs (by omega) x)
      have hlo := HBw.out.size
      clear c0 hx hLe
      by_cases hin : x ∈ O
      · rw [if_pos hin, List.append_nil] at hst
        have HST := Lib.hid hst
        have HI := Lib.hid (decide_eq_true hin)
        clear hst hin
        go_wp2_with fail
        refine HC.out.mono ?_
        rintro e w2 ⟨rfl, rfl⟩
        rw [HI.out]
        clear HC
        go_wp2
        go_roundw
        case rel => exact ⟨k + 1, by omega, by go_num, by rw [HST.out]; exact HU, HBw⟩
        case measure => simp [intOf]; omega
      · rw [if_neg hin] at hst
        have HST := Lib.hid hst
        have HI := Lib.hid (decide_eq_false hin)
        clear hst hin
        go_wp2_with fail
        refine HC.out.mono ?_
        rintro e w2 ⟨rfl, rfl⟩
        rw [HI.out]
        clear HC
        go_wp2_with (first
          | (at_builtin; refine wpList_append_own _ rfl _ _ 22 rfl w1.heap.size 3 i0 _ 1 8 Try.underlying22 hi0 hz0 hz1 hz2 rfl (by decide) _ _ _ rfl (HU.out.own.alloc _) ⟨wr.heap.size, 0, none⟩ 1 1 [.int .i64 x] rfl rfl (cell_one_new _ _ _) (by simp [Value.oneCell']) (by unfold maxLen; omega) (by omega) (by simp; omega) ?_; intro v' w3 hown' hgrow _; have HO := Lib.hid hown'; have HG := Lib.hid hgrow; clear hown' hgrow))
        go_roundw
        case rel => exact ⟨k + 1, by omega, by go_num, by rw [HST.out]; exact Lib.hid (NewZ.snoc HO.out), Lib.hid ((HBw.out.alloc hlo _).grown HG.out (by simp; omega) (fun g hg => (HU.out.own.lt g hg).1))⟩
        case measure => simp [intOf]; omega
    · obtain rfl : k = t := by omega
      have hu := HU.out
      rw [List.take_of_length_le (by omega)] at hu
      have hL : (GM.out O ns).length ≤ 1000 := by have := GM.out_len O ns; omega
      obtain ⟨L, hLe⟩ : ∃ L, L = GM.out O ns := ⟨_, rfl⟩
      rw [← hLe] at hL hu
      obtain ⟨A2, c2, rfl, _⟩ := hu.slice
      have HS := Lib.hid (sorted_any (c := c2) hu.zs (by omega))
      have HL := Lib.hid hLe
      clear hu hLe
      go_wp2_with fail
      refine HS.out.mono ?_
      rintro e w2 ⟨v2, rfl, hv2, hb2⟩
      have HV2 := Lib.hid hv2
      have HB2 := Lib.hid hb2
      clear HS hv2 hb2
      go_wp2
      go_ret
      refine ⟨_, rfl, ?_, HB.out.trans ((HBw.out.trans (HB2.out.mono HBw.out.size)).mono HB.out.size)⟩
      have h3 := HV2.out.less (Nat.le_trans HB.out.size HBw.out.size)
      rw [HL.out, HO.out] at h3
      exact h3
end Go.Proofs.Ytmmclccghlmfmaa
