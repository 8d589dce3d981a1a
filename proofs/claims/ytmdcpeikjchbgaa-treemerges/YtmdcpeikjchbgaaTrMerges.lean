/- The law TreeMerges: a merged region's kids are its parent's. -/
import Derived.Test.YtmdcpeikjchbgaaTrWays
namespace Go.Proofs.Ytmdcpeikjchbgaa
open Go.RowKit Go.Maps

set_option maxRecDepth 100000 in
set_option maxHeartbeats 4000000 in
theorem merges_walk (A : Option Addr) (n0 c : Nat) (ls : List (Int × Int)) (z : Int) (w : World) (hl : AcS w w.heap.size A n0 ls) (_hz : I64 z) :
    Calls Try.prog 6 #[.slice A n0 c, .int .i64 z] w fun e w' => e = .returned (.bool true) ∧ Below w.heap.size w w' := by
  have HG := Lib.hid (tgrown_any A n0 c ls w hl)
  clear hl
  go_enter Try.func6, Try.ntmps6
  go_wp2_with fail
  refine HG.out.mono ?_
  rintro e w1 (⟨h120, rfl, hb⟩ | ⟨h120, b, m, n, f, rfl, ht, hn⟩)
  · have d : (120 : Int) < (n0 : Int) := by omega
    have HB := Lib.hid hb
    have HA := Lib.hid (talive_any w1)
    clear hb HG
    go_wp2_with fail
    refine HA.out.mono ?_
    rintro e w2 ⟨rfl, hb2⟩
    have HB2 := Lib.hid (HB.out.trans (hb2.mono HB.out.size))
    have HA2 := Lib.hid (talive_any w2)
    clear hb2 HA HB
    go_wp2_with fail
    refine HA2.out.mono ?_
    rintro e w3 ⟨rfl, hb3⟩
    have HB3 := Lib.hid (HB2.out.trans (hb3.mono HB2.out.size))
    clear hb3 HA2 HB2
    go_wp2
    go_ret
    exact ⟨rfl, HB3.out⟩
  · have HT := Lib.hid ht
    have HA := Lib.hid (talive_any w1)
    clear ht HG
    go_wp2_with fail
    refine HA.out.mono ?_
    rintro e w2 ⟨rfl, hb2⟩
    have HT2 := Lib.hid (HT.out.later hb2)
    clear hb2 HA HT
    go_upto_region 4 with (fail)
    go_cut [1] (fun s wc => IdV n s ∧ w2 = wc)
    case first =>
      by_cases h0 : n = 0
      · subst h0
        go_wp2
        go_meet
        exact ⟨idV z 0 (by omega), rfl⟩
      · go_wp2
        go_meet
        exact ⟨idV z n (by omega), rfl⟩
    case rest =>
      obtain ⟨⟨x, rfl, hx1, hx2⟩, rfl⟩ := hcut
      have HX := Lib.hid (show I64 (x : Int) from I64.nat (by omega))
      have hpb : TR.parI f (x : Int) = 0 ∨ ∃ p : Nat, TR.parI f (x : Int) = p ∧ f x = some p ∧ p < x := by
        cases e : f x with
        | none => exact .inl (TR.parI_no (by rw [TR.liveI_nat]; exact TR.live_not.2 e))
        | some p => exact .inr ⟨p, TR.parI_ok e, rfl, (HT2.out.at_.good.le x p e).2.2⟩
      have HPB := Lib.hid hpb
      have HP := Lib.hid (tparent_any HT2.out.at_ (x : Int) HX.out)
      obtain ⟨P, hP⟩ : ∃ P, TR.parI f (x : Int) = P := ⟨_, rfl⟩
      obtain ⟨ER, hER⟩ : ∃ E, TR.liveErr f (x : Int) = E := ⟨_, rfl⟩
      rw [hP, hER] at HP
      rw [hP] at hpb
      have hPr : 0 ≤ P ∧ P ≤ 1000 := by
        rcases hpb with e | ⟨p, e, _, _⟩
        · omega
        · omega
      have HPP := Lib.hid hP
      have HER := Lib.hid hER
      clear hP hER hpb
      go_wp2_with fail
      refine HP.out.mono ?_
      rintro e w3 ⟨rfl, rfl⟩
      have HK1 := Lib.hid (tkids_any HT2.out.at_ (x : Int) HX.out)
      go_wp2_with fail
      refine HK1.out.mono ?_
      rintro e w3 ⟨v1, rfl, hv1, hb3⟩
      have HT3 := Lib.hid (HT2.out.later hb3)
      obtain ⟨A1, c1, rfl, _⟩ := hv1.slice
      have HV1 := Lib.hid hv1
      have HK2 := Lib.hid (tkids_any HT3.out.at_ P (by unfold I64; omega))
      clear hv1 hb3 HK1 HT2 HP
      generalize TR.mayErr f (x : Int) = e1 at *
      go_wp2_with fail
      refine HK2.out.mono ?_
      rintro e w4 ⟨v2, rfl, hv2, hb4⟩
      have HT4 := Lib.hid (HT3.out.later hb4)
      obtain ⟨A2, c2, rfl, _⟩ := hv2.slice
      have HV1' := Lib.hid (HV1.out.below hb4)
      have HU1 := Lib.hid (tunder_any HT4.out.at_ P (by unfold I64; omega))
      clear hv2 hb4 HK2 HT3 HV1
      go_wp2_with fail
      refine HU1.out.mono ?_
      rintro e w5 ⟨v3, rfl, hv3, hb5⟩
      have HT5 := Lib.hid (HT4.out.later hb5)
      obtain ⟨A3, c3, rfl, _⟩ := hv3.slice
      have HV2 := Lib.hid (HV1'.out.below hb5)
      have HM := Lib.hid (tmerge_any HT5.out.at_ (x : Int) HX.out)
      clear hv3 hb5 HU1 HT4 HV1'
      generalize TR.liveErr f P = e3 at *
      generalize TR.mayErr f P = e2 at *
      obtain ⟨K1, hK1⟩ : ∃ l, TR.kidsI n f (x : Int) = l := ⟨_, rfl⟩
      obtain ⟨K2, hK2⟩ : ∃ l, TR.kidsI n f P = l := ⟨_, rfl⟩
      obtain ⟨U1, hU1⟩ : ∃ l, TR.underI n f P = l := ⟨_, rfl⟩
      rw [hK1] at HV2 ⊢
      rw [hK2, hU1]
      have HKE1 := Lib.hid hK1
      have HKE2 := Lib.hid hK2
      have HUE1 := Lib.hid hU1
      clear hK1 hK2 hU1
      cases hx : f x with
      | none =>
        have hl : TR.liveI f (x : Int) = false := by rw [TR.liveI_nat]; exact TR.live_not.2 hx
        have e6 : ER = 6 := by rw [← HER.out, TR.liveErr_no hl]
        subst e6
        have hm6 : TR.mergErr f (x : Int) = 6 := by unfold TR.mergErr; rw [hl]; rfl
        have hm0 : TR.mergV f (x : Int) = 0 := by unfold TR.mergV; rw [hm6]; rfl
        rw [hm6, hm0] at HM
        clear hl hm6 hm0 hx
        generalize TR.mergS f (x : Int) = f2 at *
        go_wp2_with fail
        refine HM.out.mono ?_
        rintro e w6 ⟨rfl, ht6, ha6⟩
        have HT6 := Lib.hid (HT5.out.step ht6 ha6)
        clear ht6 ha6
        go_wp2
        go_ret
        exact ⟨rfl, HT6.out.bel⟩
      | some p =>
        have hl : TR.liveI f (x : Int) = true := by rw [TR.liveI_nat]; exact TR.live_iff.2 ⟨p, hx⟩
        have hpp : TR.parI f (x : Int) = p := TR.parI_ok hx
        have e6 : ER = 0 := by rw [← HER.out, TR.liveErr_ok hl]
        subst e6
        have eP : P = p := by rw [← HPP.out, hpp]
        subst eP
        by_cases hp0 : p = 0
        · subst hp0
          have hm6 : TR.mergErr f (x : Int) = 16 := by unfold TR.mergErr; rw [hl, hpp]; rfl
          have hm0 : TR.mergV f (x : Int) = 0 := by unfold TR.mergV; rw [hm6]; rfl
          have hms : TR.mergS f (x : Int) = f := by unfold TR.mergS; rw [hm6]; rfl
          rw [hm6, hm0, hms] at HM
          have HLL := Lib.hid hl
          clear hm6 hm0 hms hx hl hpp
          go_wp2_with fail
          refine HM.out.mono ?_
          rintro e w6 ⟨rfl, ht6, ha6⟩
          have HT6 := Lib.hid (HT5.out.step ht6 ha6)
          have HL := tlive_any ht6 (x : Int) HX.out
          rw [HLL.out] at HL
          have HL2 := Lib.hid HL
          clear ht6 ha6 HL
          go_wp2_with fail
          refine HL2.out.mono ?_
          rintro e w7 ⟨rfl, rfl⟩
          go_wp2
          go_ret
          exact ⟨rfl, HT6.out.bel⟩
        · have hg := HT5.out.at_.good
          have hxl := hg.le x p hx
          have hm6 : TR.mergErr f (x : Int) = 0 := by unfold TR.mergErr; rw [hl, hpp, if_pos rfl, if_neg (by omega)]
          have hm0 : TR.mergV f (x : Int) = p := by unfold TR.mergV; rw [hm6, hpp]; rfl
          have hms : TR.mergS f (x : Int) = TR.mergeF f x p := by unfold TR.mergS; rw [hm6, hpp, Int.toNat_natCast, Int.toNat_natCast]; rfl
          rw [hm6, hm0, hms] at HM
          have hpl : ∃ r, f p = some r := (hg.par x p hx).resolve_left hp0
          have hmx : TR.mayErr f (x : Int) = 0 := by unfold TR.mayErr; rw [if_neg (by omega), TR.liveErr_ok hl]
          have hlp : TR.liveI f (p : Int) = true := by rw [TR.liveI_nat]; exact TR.live_iff.2 hpl
          have hmp : TR.mayErr f (p : Int) = 0 := by unfold TR.mayErr; rw [if_neg (by omega), TR.liveErr_ok hlp]
          have k1 : K1 = TR.kids n f x := by rw [← HKE1.out]; exact TR.kidsI_ok hmx
          have k2 : K2 = TR.kids n f p := by rw [← HKE2.out]; exact TR.kidsI_ok hmp
          have u1 : U1 = TR.under n f p := by
            obtain ⟨r, hr⟩ := hpl
            rw [← HUE1.out]; exact TR.underI_ok hr
          have hfp : ∃ r, TR.mergeF f x p p = some r := by
            unfold TR.mergeF
            rw [if_neg (by omega)]
            by_cases e : f p = some x
            · exact ⟨p, if_pos e⟩
            · rw [if_neg e]; exact hpl
          have hlp2 : TR.liveI (TR.mergeF f x p) (p : Int) = true := by rw [TR.liveI_nat]; exact TR.live_iff.2 hfp
          have hmp2 : TR.mayErr (TR.mergeF f x p) (p : Int) = 0 := by unfold TR.mayErr; rw [if_neg (by omega), TR.liveErr_ok hlp2]
          have hlx2 : TR.liveI (TR.mergeF f x p) (x : Int) = false := by rw [TR.liveI_nat]; exact TR.live_not.2 (by unfold TR.mergeF; rw [if_pos rfl])
          have mk := TR.merge_kids hg hx hp0
          have mu := TR.merge_under hg hx hp0
          rw [← k1, ← k2] at mk
          rw [← u1] at mu
          have HMK := Lib.hid mk
          have HMU := Lib.hid mu
          clear mk mu
          have HME := Lib.hid hmp2
          have HLE2 := Lib.hid (TR.liveErr_ok hlp2)
          have HKI := Lib.hid (TR.kidsI_ok (n := n) hmp2)
          obtain ⟨r2, hr2⟩ := hfp
          have HUI := Lib.hid (TR.underI_ok (n := n) hr2)
          have HLX := Lib.hid hlx2
          have HKM := Lib.hid (show ∀ y ∈ K1, TR.mergeF f x p y = some p from fun y hy => by
            rw [k1, TR.mem_kids] at hy
            have := hg.le y x hy.2
            unfold TR.mergeF
            rw [if_neg (by omega), if_pos hy.2])
          have hk1l : K1.length ≤ n + 1 := by rw [k1]; exact TR.kids_len n f x
          have hk2l : K2.length ≤ n + 1 := by rw [k2]; exact TR.kids_len n f p
          have hu1l : U1.length ≤ n + 1 := by rw [u1]; exact TR.under_len_le n f p
          have d0 : ((p : Int) == 0) = false := by simp; omega
          clear hm6 hm0 hms hx hl hpp hpl hmx hlp hmp k1 k2 u1 hlp2 hmp2 hlx2 hr2 hg
          generalize TR.mergeF f x p = f2 at *
          go_wp2_with fail
          refine HM.out.mono ?_
          rintro e w6 ⟨rfl, ht6, ha6⟩
          have HT6 := Lib.hid (HT5.out.step ht6 ha6)
          have HV3 := Lib.hid (HV2.out.tree HT5.out.at_ ha6)
          have HK := tkids_any ht6 (p : Int) (I64.nat (by omega))
          rw [HME.out, HKI.out] at HK
          have HK' := Lib.hid HK
          clear ht6 ha6 HK HT5 HV2
          go_wp2_with fail
          refine HK'.out.mono ?_
          rintro e w7 ⟨v4, rfl, hv4, hb7⟩
          have HT7 := Lib.hid (HT6.out.later hb7)
          have HV4 := Lib.hid (HV3.out.below hb7)
          obtain ⟨A4, c4, rfl, _⟩ := hv4.slice
          have HU := tunder_any HT7.out.at_ (p : Int) (I64.nat (by omega))
          rw [HLE2.out, HUI.out] at HU
          have HU' := Lib.hid HU
          clear hv4 hb7 HU HT6 HV3 HK'
          go_wp2_with fail
          refine HU'.out.mono ?_
          rintro e w8 ⟨v5, rfl, hv5, hb8⟩
          have HT8 := Lib.hid (HT7.out.later hb8)
          have HV5 := Lib.hid (HV4.out.below hb8)
          obtain ⟨A5, c5, rfl, _⟩ := hv5.slice
          have HL := tlive_any HT8.out.at_ (x : Int) HX.out
          rw [HLX.out] at HL
          have HL' := Lib.hid HL
          clear hv5 hb8 HL HT7 HV4 HU'
          generalize (TR.kids n f2 p).length = N1 at *
          generalize (TR.under n f2 p).length = N2 at *
          have dk : ((N1 : Int) != (K1.length : Int) + (K2.length : Int) - 1) = false := by have := HMK.out; simp; omega
          have du : ((N2 : Int) != (U1.length : Int) - 1) = false := by have := HMU.out; simp; omega
          have hu0 : 1 ≤ U1.length := by have := HMU.out; omega
          have hk0 : 1 ≤ K1.length + K2.length := by have := HMK.out; omega
          go_wp2_with fail
          refine HL'.out.mono ?_
          rintro e w9 ⟨rfl, rfl⟩
          go_wp2_with fail
          go_loop [156] (fun i => ∃ k : Nat, k ≤ K1.length ∧ i = .int .i64 k) (fun i => K1.length - (intOf i).toNat)
          case atStart => exact ⟨0, Nat.zero_le _, rfl⟩
          case round =>
            obtain ⟨k, hk, rfl⟩ := hrel
            by_cases hlt : k < K1.length
            · obtain ⟨g, cap, e1', _, _, c1'⟩ := HV5.out.cell hlt
              injection e1' with e1' _ e1''
              subst e1' e1''
              have hpy := HKM.out K1[k] (List.getElem_mem hlt)
              obtain ⟨y, hy⟩ : ∃ y, K1[k] = y := ⟨_, rfl⟩
              rw [hy] at c1' hpy
              have hyn := HT8.out.at_.good.le y p hpy
              have HPY := tparent_any HT8.out.at_ (y : Int) (I64.nat (by omega))
              rw [TR.parI_ok hpy, TR.liveErr_ok (by rw [TR.liveI_nat]; exact TR.live_iff.2 ⟨p, hpy⟩)] at HPY
              have HPY' := Lib.hid HPY
              clear HPY hpy hy
              go_wp2_with fail
              refine HPY'.out.mono ?_
              rintro e w9 ⟨rfl, rfl⟩
              go_wp2
              go_round
              case rel => exact ⟨k + 1, by omega, by go_num⟩
              case measure => simp [intOf]; omega
            · obtain rfl : k = K1.length := by omega
              go_wp2
              go_ret
              exact ⟨rfl, HT8.out.bel⟩
end Go.Proofs.Ytmdcpeikjchbgaa
