/- The law FieldPacks, walked: of any fields and numbers the word is the document's, or the error. -/
import Derived.Test.YtbiacpickfdeaaaAlive
import Derived.Test.YtbiacpickfdeaaaRef
import Derived.Test.YtbiacpickfdeaaaParts
import Derived.Test.YtbiacpickfdeaaaRefApart
import Derived.Test.YtbiacpickfdeaaaMath6
namespace Go.Proofs.Ytbiacpickfdeaaa
open Go.RowKit

set_option maxHeartbeats 4000000 in
theorem packs_1 (A : Option Addr) (n c : Nat) (fs : List (Int × Int)) (X : Option Addr) (m d : Nat) (xs : List Int) (w : World) (hf : FS w w.heap.size A n fs) (hc : n ≤ c) (hx : NS .u64 w w.heap.size X m xs) (hd : m ≤ d) (hn : n ≤ 70) (hm : m ≤ 70) :
    Calls Try.prog 5 #[.slice A n c, .slice X m d] w fun e w' => e = .returned (.bool true) ∧ Below w.heap.size w w' := by
  have hn' : ¬ (70 : Int) < (n : Int) := by omega
  obtain ⟨L, hL⟩ : ∃ L, FS w w.heap.size A n L := ⟨fs, hf⟩
  have hm' : ¬ (70 : Int) < (m : Int) := by omega
  obtain ⟨K, hK⟩ : ∃ K, NS .u64 w w.heap.size X m K := ⟨xs, hx⟩
  have HL := Lib.hid hL
  have HK := Lib.hid hK
  clear hf hL hx hK
  go_enter Try.func5, Try.ntmps5
  go_wp2_with fail
  go_quiet (fail)
  go_wp2_with fail
  refine (parts_any A n c L _ (by omega) (by exact HL.out.below (below_drewN (Below.refl _ _) _))).mono ?_
  rintro e w1 ⟨u, v, rfl, hT⟩
  obtain ⟨Au, cu, rfl, hu⟩ := N0.of_own (L := L.map (·.1)) hT.1
  obtain ⟨Av, cv, rfl, hv⟩ := N0.of_own (L := L.map (·.2)) hT.2.1
  have B1 : Below w.heap.size w w1 := (below_drewN (Below.refl _ _) _).trans hT.2.2.2.1
  have HB1 := Lib.hid B1
  have s1 := B1.size
  have HU := Lib.hid hu
  have HV := Lib.hid hv
  clear hT hu hv B1
  go_wp2_with fail
  by_cases hap : FM.apart L = true ∧ n = m
  · obtain ⟨ha, hmo⟩ := hap
    subst hmo
    refine (pack_any A n c L X d K _ (by omega) ((HL.out.below HB1.out).more s1) ((HK.out.below HB1.out).more s1) ha).mono ?_
    rintro e w2 ⟨hp, hb2⟩
    have s2 := hb2.size
    have HB2 := Lib.hid (HB1.out.trans (hb2.mono s1))
    have HU2 := Lib.hid ((HU.out.below hb2).more s2)
    have HV2 := Lib.hid ((HV.out.below hb2).more s2)
    have HP := Lib.hid hp
    clear hb2 hp
    have hne : ((n : Int) != (n : Int)) = false := by simp
    have e2 : ∃ rv re : Int, e = .returned (.tuple #[.int .u64 rv, .int .i64 re]) ∧ ((FM.packGo 0 L K = some rv.toNat ∧ 0 ≤ rv ∧ re = 0) ∨ (FM.packGo 0 L K = none ∧ rv = 0 ∧ re = 3)) := by
      rcases HP.out with ⟨W, hW, _, he⟩ | ⟨h, he⟩
      · exact ⟨W, 0, he, .inl ⟨by rw [hW]; rfl, by omega, rfl⟩⟩
      · exact ⟨0, 3, he, .inr ⟨h, rfl, rfl⟩⟩
    obtain ⟨rv, re, rfl, hres⟩ := e2
    have HRes := Lib.hid hres
    clear hres HP
    go_wp2_with fail
    refine (refApart_any Au n cu Av cv L _ (by omega) HU2.out HV2.out).mono ?_
    rintro e w3 ⟨rfl, hb3⟩
    have s3 := hb3.size
    have HB3 := Lib.hid (HB2.out.trans (hb3.mono (by omega)))
    have HU3 := Lib.hid ((HU2.out.below hb3).more s3)
    have HV3 := Lib.hid ((HV2.out.below hb3).more s3)
    have HK3 := Lib.hid ((HK.out.below HB3.out).more (B' := w3.heap.size) (by omega))
    have hK1 := HK.out.1
    have hL1 := HL.out.1
    clear hb3
    go_wp2_with fail
    go_loopw [9, 54] (fun t i wr => ∃ (k T tt : Nat), k ≤ n ∧ T < 18446744073709551616 ∧ i = .int .i64 k ∧ t = .int .u64 T ∧ Hid (FM.packGo 0 L K = FM.packGo T (L.drop k) (K.drop k) ∧ FM.sub T tt ∧ FM.apartGo tt (L.drop k) = true) ∧ Below w3.heap.size w3 wr) (fun _ i _ => n - (intOf i).toNat)
    case atStart => exact ⟨0, 0, 0, by omega, by omega, rfl, rfl, ⟨rfl, FM.sub_zero 0, ha⟩, Below.refl _ _⟩
    case round =>
      obtain ⟨k, T, tt, hk, hT, rfl, rfl, HI, hbw⟩ := hrel
      have s4 := hbw.size
      by_cases hlt : k < n
      · obtain ⟨b1, o1, b2, o2, a, e, rfl, rfl, hdr, hc0, hc1⟩ := ns_pair (HU3.out.below hbw) (HV3.out.below hbw) hlt
        obtain ⟨bx, ox, x, rfl, _, hdx, hxw0, hcx⟩ := (HK3.out.below hbw).at_ hlt
        have hxw := word_of hxw0
        clear hxw0
        have hI := HI.out
        rw [hdr, hdx] at hI
        obtain ⟨hI1, hI2, hI3⟩ := hI
        obtain ⟨hr, hz, hap⟩ := FM.apart_step tt (a, e) _ hI3
        obtain ⟨g1, g2, g3, g4⟩ := (FM.right_iff a e).1 hr
        have h64 : e ≤ 64 := by omega
        have hk0 : (0 : Int) ≤ (k : Int) := by omega
        have hk1 : (k : Int) < (n : Int) := by omega
        by_cases hfit : FM.fits x e = true
        · have P := FM.put_pack T tt a e x hT hr hz hI2 hxw.1 hfit
          have HN : Hid (FM.packGo 0 L K = FM.packGo (T ||| x.toNat * 2 ^ a.toNat) (L.drop (k + 1)) (K.drop (k + 1)) ∧ FM.sub (T ||| x.toNat * 2 ^ a.toNat) (tt ||| FM.boN a.toNat e.toNat) ∧ FM.apartGo (tt ||| FM.boN a.toNat e.toNat) (L.drop (k + 1)) = true) := ⟨by rw [hI1, FM.pack_next T (a, e) _ x _ hfit], P.2.1, hap⟩
          have HP2 := Lib.hid P
          clear P hI1 hI2 hI3 hz hap hdr hdx HI
          go_wp2
          go_quiet ((go_at_call 19; exact quiet_left (fits_any x e hxw g3 h64 _)))
          go_wp2
          go_quiet ((go_at_call 20; exact quiet_add_left (refPut_any T a e x ⟨by omega, by omega⟩ hxw hr hfit _)))
          go_wp2
          go_roundw
          case rel => exact ⟨k + 1, _, _, by omega, HP2.out.2.2, by go_num, by rw [HP2.out.1], HN, below_drewN hbw _⟩
          case measure => simp [intOf]; omega
        · have hfit' : FM.fits x e = false := by simpa using hfit
          clear hfit
          have hnone : FM.packGo 0 L K = none := by rw [hI1, FM.pack_stop T (a, e) _ x _ hfit']
          rcases HRes.out with ⟨h, _⟩ | ⟨_, rfl, rfl⟩
          · rw [hnone] at h; cases h
          clear hI1 hI2 hI3 hz hap hdr hdx HI hnone HRes
          go_wp2
          go_quiet ((go_at_call 19; exact quiet_left (fits_any x e hxw g3 h64 _)))
          go_wp2_with fail
          refine (alive_any _).mono ?_
          rintro e w5 ⟨rfl, hb5⟩
          go_wp2
          go_ret
          exact ⟨rfl, (HB3.out.trans ((below_drewN hbw _).mono (by omega))).trans (hb5.mono (by simp; omega))⟩
      · have hI := HI.out.1
        rw [List.drop_eq_nil_of_le (by omega)] at hI
        have hsome : FM.packGo 0 L K = some T := by rw [hI]; rfl
        rcases HRes.out with ⟨h, h0, rfl⟩ | ⟨h, _⟩
        case inr => rw [hsome] at h; cases h
        rw [hsome] at h
        injection h with h
        have hrv : (rv == (T : Int)) = true := by rw [beq_iff_eq]; omega
        clear hI hsome h HI HRes
        go_wp2_with fail
        refine (alive_any _).mono ?_
        rintro e w5 ⟨rfl, hb5⟩
        go_wp2
        go_ret
        exact ⟨rfl, (HB3.out.trans (hbw.mono (by omega))).trans (hb5.mono (by omega))⟩
  · have hor : FM.apart L = false ∨ ¬ m = n := by
      by_cases ha : FM.apart L = true
      · right; intro h; exact hap ⟨ha, h.symm⟩
      · left; simpa using ha
    refine (pack_arg A n c L X m d _ (by omega) ((HL.out.below HB1.out).more s1) hor).mono ?_
    rintro e w2 ⟨rfl, hb2⟩
    have s2 := hb2.size
    have HB2 := Lib.hid (HB1.out.trans (hb2.mono s1))
    have HU2 := Lib.hid ((HU.out.below hb2).more s2)
    have HV2 := Lib.hid ((HV.out.below hb2).more s2)
    clear hb2
    go_wp2_with fail
    refine (refApart_any Au n cu Av cv L _ (by omega) HU2.out HV2.out).mono ?_
    rintro e w3 ⟨rfl, hb3⟩
    have s3 := hb3.size
    have HB3 := Lib.hid (HB2.out.trans (hb3.mono (by omega)))
    clear hb3
    by_cases ha : FM.apart L = true
    · have hne : ((n : Int) != (m : Int)) = true := by rw [bne_iff_ne]; intro h; exact hap ⟨ha, by omega⟩
      clear hor hap
      go_wp2_with fail
      refine (alive_any _).mono ?_
      rintro e w5 ⟨rfl, hb5⟩
      go_wp2
      go_ret
      exact ⟨rfl, HB3.out.trans (hb5.mono (by omega))⟩
    · have ha' : FM.apart L = false := by simpa using ha
      clear ha hor hap
      go_wp2_with fail
      refine (alive_any _).mono ?_
      rintro e w5 ⟨rfl, hb5⟩
      go_wp2
      go_ret
      exact ⟨rfl, HB3.out.trans (hb5.mono (by omega))⟩

set_option maxHeartbeats 4000000 in
theorem packs_2 (A : Option Addr) (n c : Nat) (fs : List (Int × Int)) (X : Option Addr) (m d : Nat) (xs : List Int) (w : World) (hf : FS w w.heap.size A n fs) (hc : n ≤ c) (hx : NS .u64 w w.heap.size X m xs) (hd : m ≤ d) (hn : n ≤ 70) (hm : ¬ m ≤ 70) :
    Calls Try.prog 5 #[.slice A n c, .slice X m d] w fun e w' => e = .returned (.bool true) ∧ Below w.heap.size w w' := by
  have hn' : ¬ (70 : Int) < (n : Int) := by omega
  obtain ⟨L, hL⟩ : ∃ L, FS w w.heap.size A n L := ⟨fs, hf⟩
  have hm' : (70 : Int) < (m : Int) := by omega
  have hd' : ¬ (d : Int) < 70 := by omega
  obtain ⟨K, hK⟩ : ∃ K, NS .u64 w w.heap.size X 70 K := ⟨xs.take 70, hx.take (by omega)⟩
  have HL := Lib.hid hL
  have HK := Lib.hid hK
  clear hf hL hx hK
  go_enter Try.func5, Try.ntmps5
  go_wp2_with fail
  go_quiet (fail)
  go_wp2_with fail
  refine (parts_any A n c L _ (by omega) (by exact HL.out.below (below_drewN (Below.refl _ _) _))).mono ?_
  rintro e w1 ⟨u, v, rfl, hT⟩
  obtain ⟨Au, cu, rfl, hu⟩ := N0.of_own (L := L.map (·.1)) hT.1
  obtain ⟨Av, cv, rfl, hv⟩ := N0.of_own (L := L.map (·.2)) hT.2.1
  have B1 : Below w.heap.size w w1 := (below_drewN (Below.refl _ _) _).trans hT.2.2.2.1
  have HB1 := Lib.hid B1
  have s1 := B1.size
  have HU := Lib.hid hu
  have HV := Lib.hid hv
  clear hT hu hv B1
  go_wp2_with fail
  by_cases hap : FM.apart L = true ∧ n = 70
  · obtain ⟨ha, hmo⟩ := hap
    subst hmo
    refine (pack_any A 70 c L X d K _ (by omega) ((HL.out.below HB1.out).more s1) ((HK.out.below HB1.out).more s1) ha).mono ?_
    rintro e w2 ⟨hp, hb2⟩
    have s2 := hb2.size
    have HB2 := Lib.hid (HB1.out.trans (hb2.mono s1))
    have HU2 := Lib.hid ((HU.out.below hb2).more s2)
    have HV2 := Lib.hid ((HV.out.below hb2).more s2)
    have HP := Lib.hid hp
    clear hb2 hp
    have hne : ((70 : Int) != (70 : Int)) = false := by simp
    have e2 : ∃ rv re : Int, e = .returned (.tuple #[.int .u64 rv, .int .i64 re]) ∧ ((FM.packGo 0 L K = some rv.toNat ∧ 0 ≤ rv ∧ re = 0) ∨ (FM.packGo 0 L K = none ∧ rv = 0 ∧ re = 3)) := by
      rcases HP.out with ⟨W, hW, _, he⟩ | ⟨h, he⟩
      · exact ⟨W, 0, he, .inl ⟨by rw [hW]; rfl, by omega, rfl⟩⟩
      · exact ⟨0, 3, he, .inr ⟨h, rfl, rfl⟩⟩
    obtain ⟨rv, re, rfl, hres⟩ := e2
    have HRes := Lib.hid hres
    clear hres HP
    go_wp2_with fail
    refine (refApart_any Au 70 cu Av cv L _ (by omega) HU2.out HV2.out).mono ?_
    rintro e w3 ⟨rfl, hb3⟩
    have s3 := hb3.size
    have HB3 := Lib.hid (HB2.out.trans (hb3.mono (by omega)))
    have HU3 := Lib.hid ((HU2.out.below hb3).more s3)
    have HV3 := Lib.hid ((HV2.out.below hb3).more s3)
    have HK3 := Lib.hid ((HK.out.below HB3.out).more (B' := w3.heap.size) (by omega))
    have hK1 := HK.out.1
    have hL1 := HL.out.1
    clear hb3
    go_wp2_with fail
    go_loopw [9, 54] (fun t i wr => ∃ (k T tt : Nat), k ≤ 70 ∧ T < 18446744073709551616 ∧ i = .int .i64 k ∧ t = .int .u64 T ∧ Hid (FM.packGo 0 L K = FM.packGo T (L.drop k) (K.drop k) ∧ FM.sub T tt ∧ FM.apartGo tt (L.drop k) = true) ∧ Below w3.heap.size w3 wr) (fun _ i _ => 70 - (intOf i).toNat)
    case atStart => exact ⟨0, 0, 0, by omega, by omega, rfl, rfl, ⟨rfl, FM.sub_zero 0, ha⟩, Below.refl _ _⟩
    case round =>
      obtain ⟨k, T, tt, hk, hT, rfl, rfl, HI, hbw⟩ := hrel
      have s4 := hbw.size
      by_cases hlt : k < 70
      · obtain ⟨b1, o1, b2, o2, a, e, rfl, rfl, hdr, hc0, hc1⟩ := ns_pair (HU3.out.below hbw) (HV3.out.below hbw) hlt
        obtain ⟨bx, ox, x, rfl, _, hdx, hxw0, hcx⟩ := (HK3.out.below hbw).at_ hlt
        have hxw := word_of hxw0
        clear hxw0
        have hI := HI.out
        rw [hdr, hdx] at hI
        obtain ⟨hI1, hI2, hI3⟩ := hI
        obtain ⟨hr, hz, hap⟩ := FM.apart_step tt (a, e) _ hI3
        obtain ⟨g1, g2, g3, g4⟩ := (FM.right_iff a e).1 hr
        have h64 : e ≤ 64 := by omega
        have hk0 : (0 : Int) ≤ (k : Int) := by omega
        have hk1 : (k : Int) < (70 : Int) := by omega
        by_cases hfit : FM.fits x e = true
        · have P := FM.put_pack T tt a e x hT hr hz hI2 hxw.1 hfit
          have HN : Hid (FM.packGo 0 L K = FM.packGo (T ||| x.toNat * 2 ^ a.toNat) (L.drop (k + 1)) (K.drop (k + 1)) ∧ FM.sub (T ||| x.toNat * 2 ^ a.toNat) (tt ||| FM.boN a.toNat e.toNat) ∧ FM.apartGo (tt ||| FM.boN a.toNat e.toNat) (L.drop (k + 1)) = true) := ⟨by rw [hI1, FM.pack_next T (a, e) _ x _ hfit], P.2.1, hap⟩
          have HP2 := Lib.hid P
          clear P hI1 hI2 hI3 hz hap hdr hdx HI
          go_wp2
          go_quiet ((go_at_call 19; exact quiet_left (fits_any x e hxw g3 h64 _)))
          go_wp2
          go_quiet ((go_at_call 20; exact quiet_add_left (refPut_any T a e x ⟨by omega, by omega⟩ hxw hr hfit _)))
          go_wp2
          go_roundw
          case rel => exact ⟨k + 1, _, _, by omega, HP2.out.2.2, by go_num, by rw [HP2.out.1], HN, below_drewN hbw _⟩
          case measure => simp [intOf]; omega
        · have hfit' : FM.fits x e = false := by simpa using hfit
          clear hfit
          have hnone : FM.packGo 0 L K = none := by rw [hI1, FM.pack_stop T (a, e) _ x _ hfit']
          rcases HRes.out with ⟨h, _⟩ | ⟨_, rfl, rfl⟩
          · rw [hnone] at h; cases h
          clear hI1 hI2 hI3 hz hap hdr hdx HI hnone HRes
          go_wp2
          go_quiet ((go_at_call 19; exact quiet_left (fits_any x e hxw g3 h64 _)))
          go_wp2_with fail
          refine (alive_any _).mono ?_
          rintro e w5 ⟨rfl, hb5⟩
          go_wp2
          go_ret
          exact ⟨rfl, (HB3.out.trans ((below_drewN hbw _).mono (by omega))).trans (hb5.mono (by simp; omega))⟩
      · have hI := HI.out.1
        rw [List.drop_eq_nil_of_le (by omega)] at hI
        have hsome : FM.packGo 0 L K = some T := by rw [hI]; rfl
        rcases HRes.out with ⟨h, h0, rfl⟩ | ⟨h, _⟩
        case inr => rw [hsome] at h; cases h
        rw [hsome] at h
        injection h with h
        have hrv : (rv == (T : Int)) = true := by rw [beq_iff_eq]; omega
        clear hI hsome h HI HRes
        go_wp2_with fail
        refine (alive_any _).mono ?_
        rintro e w5 ⟨rfl, hb5⟩
        go_wp2
        go_ret
        exact ⟨rfl, (HB3.out.trans (hbw.mono (by omega))).trans (hb5.mono (by omega))⟩
  · have hor : FM.apart L = false ∨ ¬ 70 = n := by
      by_cases ha : FM.apart L = true
      · right; intro h; exact hap ⟨ha, h.symm⟩
      · left; simpa using ha
    refine (pack_arg A n c L X 70 d _ (by omega) ((HL.out.below HB1.out).more s1) hor).mono ?_
    rintro e w2 ⟨rfl, hb2⟩
    have s2 := hb2.size
    have HB2 := Lib.hid (HB1.out.trans (hb2.mono s1))
    have HU2 := Lib.hid ((HU.out.below hb2).more s2)
    have HV2 := Lib.hid ((HV.out.below hb2).more s2)
    clear hb2
    go_wp2_with fail
    refine (refApart_any Au n cu Av cv L _ (by omega) HU2.out HV2.out).mono ?_
    rintro e w3 ⟨rfl, hb3⟩
    have s3 := hb3.size
    have HB3 := Lib.hid (HB2.out.trans (hb3.mono (by omega)))
    clear hb3
    by_cases ha : FM.apart L = true
    · have hne : ((n : Int) != (70 : Int)) = true := by rw [bne_iff_ne]; intro h; exact hap ⟨ha, by omega⟩
      clear hor hap
      go_wp2_with fail
      refine (alive_any _).mono ?_
      rintro e w5 ⟨rfl, hb5⟩
      go_wp2
      go_ret
      exact ⟨rfl, HB3.out.trans (hb5.mono (by omega))⟩
    · have ha' : FM.apart L = false := by simpa using ha
      clear ha hor hap
      go_wp2_with fail
      refine (alive_any _).mono ?_
      rintro e w5 ⟨rfl, hb5⟩
      go_wp2
      go_ret
      exact ⟨rfl, HB3.out.trans (hb5.mono (by omega))⟩

set_option maxHeartbeats 4000000 in
theorem packs_3 (A : Option Addr) (n c : Nat) (fs : List (Int × Int)) (X : Option Addr) (m d : Nat) (xs : List Int) (w : World) (hf : FS w w.heap.size A n fs) (hc : n ≤ c) (hx : NS .u64 w w.heap.size X m xs) (hd : m ≤ d) (hn : ¬ n ≤ 70) (hm : m ≤ 70) :
    Calls Try.prog 5 #[.slice A n c, .slice X m d] w fun e w' => e = .returned (.bool true) ∧ Below w.heap.size w w' := by
  have hn' : (70 : Int) < (n : Int) := by omega
  have hc' : ¬ (c : Int) < 70 := by omega
  obtain ⟨L, hL⟩ : ∃ L, FS w w.heap.size A 70 L := ⟨fs.take 70, hf.take (by omega)⟩
  have hm' : ¬ (70 : Int) < (m : Int) := by omega
  obtain ⟨K, hK⟩ : ∃ K, NS .u64 w w.heap.size X m K := ⟨xs, hx⟩
  have HL := Lib.hid hL
  have HK := Lib.hid hK
  clear hf hL hx hK
  go_enter Try.func5, Try.ntmps5
  go_wp2_with fail
  go_quiet (fail)
  go_wp2_with fail
  refine (parts_any A 70 c L _ (by omega) (by exact HL.out.below (below_drewN (Below.refl _ _) _))).mono ?_
  rintro e w1 ⟨u, v, rfl, hT⟩
  obtain ⟨Au, cu, rfl, hu⟩ := N0.of_own (L := L.map (·.1)) hT.1
  obtain ⟨Av, cv, rfl, hv⟩ := N0.of_own (L := L.map (·.2)) hT.2.1
  have B1 : Below w.heap.size w w1 := (below_drewN (Below.refl _ _) _).trans hT.2.2.2.1
  have HB1 := Lib.hid B1
  have s1 := B1.size
  have HU := Lib.hid hu
  have HV := Lib.hid hv
  clear hT hu hv B1
  go_wp2_with fail
  by_cases hap : FM.apart L = true ∧ 70 = m
  · obtain ⟨ha, hmo⟩ := hap
    subst hmo
    refine (pack_any A 70 c L X d K _ (by omega) ((HL.out.below HB1.out).more s1) ((HK.out.below HB1.out).more s1) ha).mono ?_
    rintro e w2 ⟨hp, hb2⟩
    have s2 := hb2.size
    have HB2 := Lib.hid (HB1.out.trans (hb2.mono s1))
    have HU2 := Lib.hid ((HU.out.below hb2).more s2)
    have HV2 := Lib.hid ((HV.out.below hb2).more s2)
    have HP := Lib.hid hp
    clear hb2 hp
    have hne : ((70 : Int) != (70 : Int)) = false := by simp
    have e2 : ∃ rv re : Int, e = .returned (.tuple #[.int .u64 rv, .int .i64 re]) ∧ ((FM.packGo 0 L K = some rv.toNat ∧ 0 ≤ rv ∧ re = 0) ∨ (FM.packGo 0 L K = none ∧ rv = 0 ∧ re = 3)) := by
      rcases HP.out with ⟨W, hW, _, he⟩ | ⟨h, he⟩
      · exact ⟨W, 0, he, .inl ⟨by rw [hW]; rfl, by omega, rfl⟩⟩
      · exact ⟨0, 3, he, .inr ⟨h, rfl, rfl⟩⟩
    obtain ⟨rv, re, rfl, hres⟩ := e2
    have HRes := Lib.hid hres
    clear hres HP
    go_wp2_with fail
    refine (refApart_any Au 70 cu Av cv L _ (by omega) HU2.out HV2.out).mono ?_
    rintro e w3 ⟨rfl, hb3⟩
    have s3 := hb3.size
    have HB3 := Lib.hid (HB2.out.trans (hb3.mono (by omega)))
    have HU3 := Lib.hid ((HU2.out.below hb3).more s3)
    have HV3 := Lib.hid ((HV2.out.below hb3).more s3)
    have HK3 := Lib.hid ((HK.out.below HB3.out).more (B' := w3.heap.size) (by omega))
    have hK1 := HK.out.1
    have hL1 := HL.out.1
    clear hb3
    go_wp2_with fail
    go_loopw [9, 54] (fun t i wr => ∃ (k T tt : Nat), k ≤ 70 ∧ T < 18446744073709551616 ∧ i = .int .i64 k ∧ t = .int .u64 T ∧ Hid (FM.packGo 0 L K = FM.packGo T (L.drop k) (K.drop k) ∧ FM.sub T tt ∧ FM.apartGo tt (L.drop k) = true) ∧ Below w3.heap.size w3 wr) (fun _ i _ => 70 - (intOf i).toNat)
    case atStart => exact ⟨0, 0, 0, by omega, by omega, rfl, rfl, ⟨rfl, FM.sub_zero 0, ha⟩, Below.refl _ _⟩
    case round =>
      obtain ⟨k, T, tt, hk, hT, rfl, rfl, HI, hbw⟩ := hrel
      have s4 := hbw.size
      by_cases hlt : k < 70
      · obtain ⟨b1, o1, b2, o2, a, e, rfl, rfl, hdr, hc0, hc1⟩ := ns_pair (HU3.out.below hbw) (HV3.out.below hbw) hlt
        obtain ⟨bx, ox, x, rfl, _, hdx, hxw0, hcx⟩ := (HK3.out.below hbw).at_ hlt
        have hxw := word_of hxw0
        clear hxw0
        have hI := HI.out
        rw [hdr, hdx] at hI
        obtain ⟨hI1, hI2, hI3⟩ := hI
        obtain ⟨hr, hz, hap⟩ := FM.apart_step tt (a, e) _ hI3
        obtain ⟨g1, g2, g3, g4⟩ := (FM.right_iff a e).1 hr
        have h64 : e ≤ 64 := by omega
        have hk0 : (0 : Int) ≤ (k : Int) := by omega
        have hk1 : (k : Int) < (70 : Int) := by omega
        by_cases hfit : FM.fits x e = true
        · have P := FM.put_pack T tt a e x hT hr hz hI2 hxw.1 hfit
          have HN : Hid (FM.packGo 0 L K = FM.packGo (T ||| x.toNat * 2 ^ a.toNat) (L.drop (k + 1)) (K.drop (k + 1)) ∧ FM.sub (T ||| x.toNat * 2 ^ a.toNat) (tt ||| FM.boN a.toNat e.toNat) ∧ FM.apartGo (tt ||| FM.boN a.toNat e.toNat) (L.drop (k + 1)) = true) := ⟨by rw [hI1, FM.pack_next T (a, e) _ x _ hfit], P.2.1, hap⟩
          have HP2 := Lib.hid P
          clear P hI1 hI2 hI3 hz hap hdr hdx HI
          go_wp2
          go_quiet ((go_at_call 19; exact quiet_left (fits_any x e hxw g3 h64 _)))
          go_wp2
          go_quiet ((go_at_call 20; exact quiet_add_left (refPut_any T a e x ⟨by omega, by omega⟩ hxw hr hfit _)))
          go_wp2
          go_roundw
          case rel => exact ⟨k + 1, _, _, by omega, HP2.out.2.2, by go_num, by rw [HP2.out.1], HN, below_drewN hbw _⟩
          case measure => simp [intOf]; omega
        · have hfit' : FM.fits x e = false := by simpa using hfit
          clear hfit
          have hnone : FM.packGo 0 L K = none := by rw [hI1, FM.pack_stop T (a, e) _ x _ hfit']
          rcases HRes.out with ⟨h, _⟩ | ⟨_, rfl, rfl⟩
          · rw [hnone] at h; cases h
          clear hI1 hI2 hI3 hz hap hdr hdx HI hnone HRes
          go_wp2
          go_quiet ((go_at_call 19; exact quiet_left (fits_any x e hxw g3 h64 _)))
          go_wp2_with fail
          refine (alive_any _).mono ?_
          rintro e w5 ⟨rfl, hb5⟩
          go_wp2
          go_ret
          exact ⟨rfl, (HB3.out.trans ((below_drewN hbw _).mono (by omega))).trans (hb5.mono (by simp; omega))⟩
      · have hI := HI.out.1
        rw [List.drop_eq_nil_of_le (by omega)] at hI
        have hsome : FM.packGo 0 L K = some T := by rw [hI]; rfl
        rcases HRes.out with ⟨h, h0, rfl⟩ | ⟨h, _⟩
        case inr => rw [hsome] at h; cases h
        rw [hsome] at h
        injection h with h
        have hrv : (rv == (T : Int)) = true := by rw [beq_iff_eq]; omega
        clear hI hsome h HI HRes
        go_wp2_with fail
        refine (alive_any _).mono ?_
        rintro e w5 ⟨rfl, hb5⟩
        go_wp2
        go_ret
        exact ⟨rfl, (HB3.out.trans (hbw.mono (by omega))).trans (hb5.mono (by omega))⟩
  · have hor : FM.apart L = false ∨ ¬ m = 70 := by
      by_cases ha : FM.apart L = true
      · right; intro h; exact hap ⟨ha, h.symm⟩
      · left; simpa using ha
    refine (pack_arg A 70 c L X m d _ (by omega) ((HL.out.below HB1.out).more s1) hor).mono ?_
    rintro e w2 ⟨rfl, hb2⟩
    have s2 := hb2.size
    have HB2 := Lib.hid (HB1.out.trans (hb2.mono s1))
    have HU2 := Lib.hid ((HU.out.below hb2).more s2)
    have HV2 := Lib.hid ((HV.out.below hb2).more s2)
    clear hb2
    go_wp2_with fail
    refine (refApart_any Au 70 cu Av cv L _ (by omega) HU2.out HV2.out).mono ?_
    rintro e w3 ⟨rfl, hb3⟩
    have s3 := hb3.size
    have HB3 := Lib.hid (HB2.out.trans (hb3.mono (by omega)))
    clear hb3
    by_cases ha : FM.apart L = true
    · have hne : ((70 : Int) != (m : Int)) = true := by rw [bne_iff_ne]; intro h; exact hap ⟨ha, by omega⟩
      clear hor hap
      go_wp2_with fail
      refine (alive_any _).mono ?_
      rintro e w5 ⟨rfl, hb5⟩
      go_wp2
      go_ret
      exact ⟨rfl, HB3.out.trans (hb5.mono (by omega))⟩
    · have ha' : FM.apart L = false := by simpa using ha
      clear ha hor hap
      go_wp2_with fail
      refine (alive_any _).mono ?_
      rintro e w5 ⟨rfl, hb5⟩
      go_wp2
      go_ret
      exact ⟨rfl, HB3.out.trans (hb5.mono (by omega))⟩

set_option maxHeartbeats 4000000 in
theorem packs_4 (A : Option Addr) (n c : Nat) (fs : List (Int × Int)) (X : Option Addr) (m d : Nat) (xs : List Int) (w : World) (hf : FS w w.heap.size A n fs) (hc : n ≤ c) (hx : NS .u64 w w.heap.size X m xs) (hd : m ≤ d) (hn : ¬ n ≤ 70) (hm : ¬ m ≤ 70) :
    Calls Try.prog 5 #[.slice A n c, .slice X m d] w fun e w' => e = .returned (.bool true) ∧ Below w.heap.size w w' := by
  have hn' : (70 : Int) < (n : Int) := by omega
  have hc' : ¬ (c : Int) < 70 := by omega
  obtain ⟨L, hL⟩ : ∃ L, FS w w.heap.size A 70 L := ⟨fs.take 70, hf.take (by omega)⟩
  have hm' : (70 : Int) < (m : Int) := by omega
  have hd' : ¬ (d : Int) < 70 := by omega
  obtain ⟨K, hK⟩ : ∃ K, NS .u64 w w.heap.size X 70 K := ⟨xs.take 70, hx.take (by omega)⟩
  have HL := Lib.hid hL
  have HK := Lib.hid hK
  clear hf hL hx hK
  go_enter Try.func5, Try.ntmps5
  go_wp2_with fail
  go_quiet (fail)
  go_wp2_with fail
  refine (parts_any A 70 c L _ (by omega) (by exact HL.out.below (below_drewN (Below.refl _ _) _))).mono ?_
  rintro e w1 ⟨u, v, rfl, hT⟩
  obtain ⟨Au, cu, rfl, hu⟩ := N0.of_own (L := L.map (·.1)) hT.1
  obtain ⟨Av, cv, rfl, hv⟩ := N0.of_own (L := L.map (·.2)) hT.2.1
  have B1 : Below w.heap.size w w1 := (below_drewN (Below.refl _ _) _).trans hT.2.2.2.1
  have HB1 := Lib.hid B1
  have s1 := B1.size
  have HU := Lib.hid hu
  have HV := Lib.hid hv
  clear hT hu hv B1
  go_wp2_with fail
  by_cases hap : FM.apart L = true ∧ 70 = 70
  · obtain ⟨ha, hmo⟩ := hap
    clear hmo
    refine (pack_any A 70 c L X d K _ (by omega) ((HL.out.below HB1.out).more s1) ((HK.out.below HB1.out).more s1) ha).mono ?_
    rintro e w2 ⟨hp, hb2⟩
    have s2 := hb2.size
    have HB2 := Lib.hid (HB1.out.trans (hb2.mono s1))
    have HU2 := Lib.hid ((HU.out.below hb2).more s2)
    have HV2 := Lib.hid ((HV.out.below hb2).more s2)
    have HP := Lib.hid hp
    clear hb2 hp
    have hne : ((70 : Int) != (70 : Int)) = false := by simp
    have e2 : ∃ rv re : Int, e = .returned (.tuple #[.int .u64 rv, .int .i64 re]) ∧ ((FM.packGo 0 L K = some rv.toNat ∧ 0 ≤ rv ∧ re = 0) ∨ (FM.packGo 0 L K = none ∧ rv = 0 ∧ re = 3)) := by
      rcases HP.out with ⟨W, hW, _, he⟩ | ⟨h, he⟩
      · exact ⟨W, 0, he, .inl ⟨by rw [hW]; rfl, by omega, rfl⟩⟩
      · exact ⟨0, 3, he, .inr ⟨h, rfl, rfl⟩⟩
    obtain ⟨rv, re, rfl, hres⟩ := e2
    have HRes := Lib.hid hres
    clear hres HP
    go_wp2_with fail
    refine (refApart_any Au 70 cu Av cv L _ (by omega) HU2.out HV2.out).mono ?_
    rintro e w3 ⟨rfl, hb3⟩
    have s3 := hb3.size
    have HB3 := Lib.hid (HB2.out.trans (hb3.mono (by omega)))
    have HU3 := Lib.hid ((HU2.out.below hb3).more s3)
    have HV3 := Lib.hid ((HV2.out.below hb3).more s3)
    have HK3 := Lib.hid ((HK.out.below HB3.out).more (B' := w3.heap.size) (by omega))
    have hK1 := HK.out.1
    have hL1 := HL.out.1
    clear hb3
    go_wp2_with fail
    go_loopw [9, 54] (fun t i wr => ∃ (k T tt : Nat), k ≤ 70 ∧ T < 18446744073709551616 ∧ i = .int .i64 k ∧ t = .int .u64 T ∧ Hid (FM.packGo 0 L K = FM.packGo T (L.drop k) (K.drop k) ∧ FM.sub T tt ∧ FM.apartGo tt (L.drop k) = true) ∧ Below w3.heap.size w3 wr) (fun _ i _ => 70 - (intOf i).toNat)
    case atStart => exact ⟨0, 0, 0, by omega, by omega, rfl, rfl, ⟨rfl, FM.sub_zero 0, ha⟩, Below.refl _ _⟩
    case round =>
      obtain ⟨k, T, tt, hk, hT, rfl, rfl, HI, hbw⟩ := hrel
      have s4 := hbw.size
      by_cases hlt : k < 70
      · obtain ⟨b1, o1, b2, o2, a, e, rfl, rfl, hdr, hc0, hc1⟩ := ns_pair (HU3.out.below hbw) (HV3.out.below hbw) hlt
        obtain ⟨bx, ox, x, rfl, _, hdx, hxw0, hcx⟩ := (HK3.out.below hbw).at_ hlt
        have hxw := word_of hxw0
        clear hxw0
        have hI := HI.out
        rw [hdr, hdx] at hI
        obtain ⟨hI1, hI2, hI3⟩ := hI
        obtain ⟨hr, hz, hap⟩ := FM.apart_step tt (a, e) _ hI3
        obtain ⟨g1, g2, g3, g4⟩ := (FM.right_iff a e).1 hr
        have h64 : e ≤ 64 := by omega
        have hk0 : (0 : Int) ≤ (k : Int) := by omega
        have hk1 : (k : Int) < (70 : Int) := by omega
        by_cases hfit : FM.fits x e = true
        · have P := FM.put_pack T tt a e x hT hr hz hI2 hxw.1 hfit
          have HN : Hid (FM.packGo 0 L K = FM.packGo (T ||| x.toNat * 2 ^ a.toNat) (L.drop (k + 1)) (K.drop (k + 1)) ∧ FM.sub (T ||| x.toNat * 2 ^ a.toNat) (tt ||| FM.boN a.toNat e.toNat) ∧ FM.apartGo (tt ||| FM.boN a.toNat e.toNat) (L.drop (k + 1)) = true) := ⟨by rw [hI1, FM.pack_next T (a, e) _ x _ hfit], P.2.1, hap⟩
          have HP2 := Lib.hid P
          clear P hI1 hI2 hI3 hz hap hdr hdx HI
          go_wp2
          go_quiet ((go_at_call 19; exact quiet_left (fits_any x e hxw g3 h64 _)))
          go_wp2
          go_quiet ((go_at_call 20; exact quiet_add_left (refPut_any T a e x ⟨by omega, by omega⟩ hxw hr hfit _)))
          go_wp2
          go_roundw
          case rel => exact ⟨k + 1, _, _, by omega, HP2.out.2.2, by go_num, by rw [HP2.out.1], HN, below_drewN hbw _⟩
          case measure => simp [intOf]; omega
        · have hfit' : FM.fits x e = false := by simpa using hfit
          clear hfit
          have hnone : FM.packGo 0 L K = none := by rw [hI1, FM.pack_stop T (a, e) _ x _ hfit']
          rcases HRes.out with ⟨h, _⟩ | ⟨_, rfl, rfl⟩
          · rw [hnone] at h; cases h
          clear hI1 hI2 hI3 hz hap hdr hdx HI hnone HRes
          go_wp2
          go_quiet ((go_at_call 19; exact quiet_left (fits_any x e hxw g3 h64 _)))
          go_wp2_with fail
          refine (alive_any _).mono ?_
          rintro e w5 ⟨rfl, hb5⟩
          go_wp2
          go_ret
          exact ⟨rfl, (HB3.out.trans ((below_drewN hbw _).mono (by omega))).trans (hb5.mono (by simp; omega))⟩
      · have hI := HI.out.1
        rw [List.drop_eq_nil_of_le (by omega)] at hI
        have hsome : FM.packGo 0 L K = some T := by rw [hI]; rfl
        rcases HRes.out with ⟨h, h0, rfl⟩ | ⟨h, _⟩
        case inr => rw [hsome] at h; cases h
        rw [hsome] at h
        injection h with h
        have hrv : (rv == (T : Int)) = true := by rw [beq_iff_eq]; omega
        clear hI hsome h HI HRes
        go_wp2_with fail
        refine (alive_any _).mono ?_
        rintro e w5 ⟨rfl, hb5⟩
        go_wp2
        go_ret
        exact ⟨rfl, (HB3.out.trans (hbw.mono (by omega))).trans (hb5.mono (by omega))⟩
  · have hor : FM.apart L = false ∨ ¬ 70 = 70 := by
      by_cases ha : FM.apart L = true
      · right; intro h; exact hap ⟨ha, h.symm⟩
      · left; simpa using ha
    refine (pack_arg A 70 c L X 70 d _ (by omega) ((HL.out.below HB1.out).more s1) hor).mono ?_
    rintro e w2 ⟨rfl, hb2⟩
    have s2 := hb2.size
    have HB2 := Lib.hid (HB1.out.trans (hb2.mono s1))
    have HU2 := Lib.hid ((HU.out.below hb2).more s2)
    have HV2 := Lib.hid ((HV.out.below hb2).more s2)
    clear hb2
    go_wp2_with fail
    refine (refApart_any Au 70 cu Av cv L _ (by omega) HU2.out HV2.out).mono ?_
    rintro e w3 ⟨rfl, hb3⟩
    have s3 := hb3.size
    have HB3 := Lib.hid (HB2.out.trans (hb3.mono (by omega)))
    clear hb3
    by_cases ha : FM.apart L = true
    · exact absurd (by simp [ha]) hap
    · have ha' : FM.apart L = false := by simpa using ha
      clear ha hor hap
      go_wp2_with fail
      refine (alive_any _).mono ?_
      rintro e w5 ⟨rfl, hb5⟩
      go_wp2
      go_ret
      exact ⟨rfl, HB3.out.trans (hb5.mono (by omega))⟩

theorem packs_walk (A : Option Addr) (n c : Nat) (fs : List (Int × Int)) (X : Option Addr) (m d : Nat) (xs : List Int) (w : World) (hf : FS w w.heap.size A n fs) (hc : n ≤ c) (hx : NS .u64 w w.heap.size X m xs) (hd : m ≤ d) :
    Calls Try.prog 5 #[.slice A n c, .slice X m d] w fun e w' => e = .returned (.bool true) ∧ Below w.heap.size w w' := by
  by_cases hn : n ≤ 70
  · by_cases hm : m ≤ 70
    · exact packs_1 A n c fs X m d xs w hf hc hx hd hn hm
    · exact packs_2 A n c fs X m d xs w hf hc hx hd hn hm
  · by_cases hm : m ≤ 70
    · exact packs_3 A n c fs X m d xs w hf hc hx hd hn hm
    · exact packs_4 A n c fs X m d xs w hf hc hx hd hn hm
end Go.Proofs.Ytbiacpickfdeaaa
