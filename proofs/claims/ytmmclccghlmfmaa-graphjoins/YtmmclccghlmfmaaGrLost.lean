/- The contract of graph's Lost. -/
import Derived.Test.YtmmclccghlmfmaaGrLib
namespace Go.Proofs.Ytmmclccghlmfmaa
open Go.RowKit Go.Lib Go.Sort Go.Maps

set_option maxHeartbeats 2000000 in
set_option maxRecDepth 100000 in
theorem lost_any {w : World} {Z A B : Option Addr} {t n m z c d : Nat} {ns rs : List Int} {es : List (Int × Int)} (hz : ZS w Z t ns) (h : ZS w A n rs) (he : ES w B m es) (hr : ZI rs) (hi : EI es) (ht : t ≤ 1000) (hn : n ≤ 1000) (hm : m ≤ 1000) :
    Calls Try.prog 17 #[.slice Z t z, .slice A n c, .slice B m d] w fun e w' => ∃ v, e = .returned v ∧ NewZ w.heap.size w' v (GM.lost es rs ns) ∧ Below w.heap.size w w' := by
  obtain ⟨i0, hi0, hz0, hz1, hz2⟩ := info_parts infoZ
  have hl : (GM.rch es rs).length ≤ 2000 := by have := GM.rch_len es rs; have := h.len; have := he.len; omega
  have HC := Lib.hid (reach_any (c := c) (d := d) h he hr hi hn hm)
  have HZ := Lib.hid hz
  have hzl := hz.len
  clear h he hr hi hz
  go_enter Try.func17, Try.ntmps17
  go_wp2_with fail
  refine HC.out.mono ?_
  rintro e w1 ⟨v, rfl, hv, hb⟩
  have HV := Lib.hid hv
  have HB := Lib.hid hb
  have HZ1 := Lib.hid (HZ.out.below hb)
  clear HC hv hb HZ
  go_wp2_with fail
  go_loopw [8, 18] (fun u i wr => ∃ k : Nat, k ≤ t ∧ i = .int .i64 k ∧ Hid (NewZ w1.heap.size wr u (GM.out (GM.ord es rs) (ns.take k))) ∧ Hid (Below w1.heap.size w1 wr)) (fun _ i _ => t - (intOf i).toNat)
  case atStart => exact ⟨0, Nat.zero_le _, rfl, Lib.hid (NewZ.nil _ _), Lib.hid (Below.refl _ _)⟩
  case round =>
    obtain ⟨k, hk, rfl, HU, HBw⟩ := hrel
    by_cases hlt : k < t
    · obtain ⟨b, off, rfl, hb, c0⟩ := HZ1.out.at_ hlt
      have d0 := (HBw.out.cell (p := ⟨b, _, none⟩) hb).trans c0
      have hst : GM.out (GM.ord es rs) (ns.take (k + 1)) = GM.out (GM.ord es rs) (ns.take k) ++ (if ns[k]'(by omega) ∈ GM.ord es rs then [] else [ns[k]'(by omega)]) := by rw [List.take_succ_eq_append_getElem (by omega), GM.out_snoc]
      obtain ⟨x, hx⟩ : ∃ x, x = ns[k]'(by omega) := ⟨_, rfl⟩
      rw [← hx] at d0 hst
      have hL : (GM.out (GM.ord es rs) (ns.take k)).length ≤ 1000 := by have := GM.out_len (GM.ord es rs) (ns.take k); rw [List.length_take] at this; omega
      obtain ⟨L, hLe⟩ : ∃ L, L = GM.out (GM.ord es rs) (ns.take k) := ⟨_, rfl⟩
      rw [← hLe] at hL hst HU
      have HC := Lib.hid (search_any (HV.out.below HBw.out) (GM.rch_rises es rs) (by omega) x)
      have hlo := HBw.out.size
      clear c0 hx hLe
      by_cases hin : x ∈ GM.ord es rs
      · rw [if_pos hin, List.append_nil] at hst
        have HST := Lib.hid hst
        have HI := Lib.hid (decide_eq_true (GM.mem_rch.2 hin))
        clear hst hin
        go_wp2_with fail
        refine HC.out.mono ?_
        rintro e w2 ⟨rfl, q, rfl⟩
        rw [HI.out]
        clear HC
        go_wp2
        go_roundw
        case rel => exact ⟨k + 1, by omega, by go_num, by rw [HST.out]; exact Lib.hid (HU.out.drewN q), Lib.hid (bdrewN HBw.out q)⟩
        case measure => simp [intOf]; omega
      · rw [if_neg hin] at hst
        have HST := Lib.hid hst
        have HI := Lib.hid (decide_eq_false (fun h => hin (GM.mem_rch.1 h)))
        clear hst hin
        go_wp2_with fail
        refine HC.out.mono ?_
        rintro e w2 ⟨rfl, q, rfl⟩
        rw [HI.out]
        clear HC
        go_wp2_with (first
          | (at_builtin; refine wpList_append_own _ rfl _ _ 22 rfl w1.heap.size 3 i0 _ 1 8 Try.underlying22 hi0 hz0 hz1 hz2 rfl (by decide) _ _ _ rfl ((HU.out.drewN q).own.alloc _) ⟨wr.heap.size, 0, none⟩ 1 1 [.int .i64 x] rfl rfl (cell_one_new _ _ _) (by simp [Value.oneCell']) (by unfold maxLen; omega) (by omega) (by simp; omega) ?_; intro v' w3 hown' hgrow _; have HO := Lib.hid hown'; have HG := Lib.hid hgrow; clear hown' hgrow))
        go_roundw
        case rel => exact ⟨k + 1, by omega, by go_num, by rw [HST.out]; exact Lib.hid (NewZ.snoc HO.out), Lib.hid (((bdrewN HBw.out q).alloc (by simpa using hlo) _).grown HG.out (by simp; omega) (fun g hg => (HU.out.own.lt g hg).1))⟩
        case measure => simp [intOf]; omega
    · obtain rfl : k = t := by omega
      have hu := HU.out
      rw [List.take_of_length_le (by omega)] at hu
      have hL : (GM.out (GM.ord es rs) ns).length ≤ 1000 := by have := GM.out_len (GM.ord es rs) ns; omega
      obtain ⟨L, hLe⟩ : ∃ L, L = GM.out (GM.ord es rs) ns := ⟨_, rfl⟩
      rw [← hLe] at hL hu
      have HS := Lib.hid (sort_any hu (by omega))
      have HU2 := Lib.hid hu
      have HL := Lib.hid hLe
      clear hu hLe
      go_wp2_with fail
      refine HS.out.mono ?_
      rintro e w2 ⟨rfl, hv2, hg2⟩
      have hrl := BG.row_len L
      have hnl : (Lib.compact (BG.row L)).length ≤ (BG.row L).length := by rw [norm_compact, hrl]; exact BG.norm_len L
      have HK := Lib.hid (compact_any hv2 (by omega) hnl)
      have HV2 := Lib.hid hv2
      have HG2 := Lib.hid hg2
      clear HS hv2 hg2
      go_wp2_with fail
      refine HK.out.mono ?_
      rintro e w3 ⟨v3, rfl, hv3, hg3⟩
      have HV3 := Lib.hid hv3
      have HG3 := Lib.hid hg3
      clear HK hv3 hg3
      go_wp2
      go_ret
      refine ⟨_, rfl, ?_, HB.out.trans ((((HBw.out).grown HG2.out HBw.out.size fun j hj => (HU2.out.own.lt j hj).1).grown HG3.out (by have := HBw.out.size; have := HG2.out.size; omega) fun j hj => (HU2.out.own.lt j hj).1).mono HB.out.size)⟩
      have h3 := HV3.out.less HB.out.size
      rw [norm_compact, HL.out] at h3
      exact h3
end Go.Proofs.Ytmmclccghlmfmaa
