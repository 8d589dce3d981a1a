/- The law FieldGets, walked: of any word and field what it has is the document's; whether some fields are apart. -/
import Derived.Test.YtbiacpickfdeaaaAlive
import Derived.Test.YtbiacpickfdeaaaRef
import Derived.Test.YtbiacpickfdeaaaParts
import Derived.Test.YtbiacpickfdeaaaRefApart
namespace Go.Proofs.Ytbiacpickfdeaaa
open Go.RowKit

set_option maxHeartbeats 4000000 in
theorem gets_walk (x a b : Int) (A : Option Addr) (n c : Nat) (fs : List (Int × Int)) (w : World) (hx : FM.Word x) (hf : FS w w.heap.size A n fs) (hc : n ≤ c) :
    Calls Try.prog 3 #[.int .u64 x, .agg #[.int .i64 a, .int .i64 b], .slice A n c] w fun e w' => e = .returned (.bool true) ∧ Below w.heap.size w w' := by
  by_cases hn : n ≤ 70
  case pos =>
    have hn' : ¬ (70 : Int) < (n : Int) := by omega
    obtain ⟨L, hL, hl⟩ : ∃ L, FS w w.heap.size A n L ∧ n ≤ 70 := ⟨fs, hf, hn⟩
    go_enter Try.func3, Try.ntmps3
    go_wp2_with fail
    have HL := Lib.hid hL
    clear hf hL hn
    refine (parts_any A n c L _ (by omega) ((HL.out.below ((Below.refl _ _).alloc (Nat.le_refl _) _)).more (by simp))).mono ?_
    rintro e w1 ⟨u, v, rfl, hT⟩
    obtain ⟨Au, cu, rfl, hu⟩ := N0.of_own (L := L.map (·.1)) hT.1
    obtain ⟨Av, cv, rfl, hv⟩ := N0.of_own (L := L.map (·.2)) hT.2.1
    have hb1 := hT.2.2.2.1
    have B1 : Below w.heap.size w w1 := ((Below.refl _ _).alloc (Nat.le_refl _) _).trans (hb1.mono (by simp))
    have HB1 := Lib.hid B1
    have HU := Lib.hid hu
    have HV := Lib.hid hv
    obtain ⟨hc1, hf1⟩ := bcell hb1
    have s1 := hb1.size
    simp at s1
    have z1 : w.heap.size < w1.heap.size := by omega
    clear hT hu hv B1 hb1
    go_wp2_with fail
    by_cases hr : FM.right a b = true
    · refine (get_ok x a b hx hr _).mono ?_
      rintro e w2 ⟨rfl, hb2⟩
      obtain ⟨hc2, hf2⟩ := bcell hb2
      have s2 := hb2.size
      have z2 : w.heap.size < w2.heap.size := by omega
      have HB2 := Lib.hid (HB1.out.trans (hb2.mono (by omega)))
      have HU2 := Lib.hid ((HU.out.below hb2).more s2)
      have HV2 := Lib.hid ((HV.out.below hb2).more s2)
      clear hb2
      go_wp2_with fail
      refine (refRight_any a b _).mono ?_
      rintro e w9 ⟨rfl, rfl⟩
      go_wp2_with fail
      refine (alive_any _).mono ?_
      rintro e w3 ⟨rfl, hb3⟩
      obtain ⟨hc3, hf3⟩ := bcell hb3
      have s3 := hb3.size
      have z3 : w.heap.size < w3.heap.size := by omega
      have HB3 := Lib.hid (HB2.out.trans (hb3.mono (by omega)))
      have HU3 := Lib.hid ((HU2.out.below hb3).more s3)
      have HV3 := Lib.hid ((HV2.out.below hb3).more s3)
      clear hb3
      go_wp2_with fail
      refine (right_any a b _).mono ?_
      rintro e w9 ⟨rfl, rfl⟩
      go_wp2_with fail
      refine (apart_any A n c L _ (by omega) ((HL.out.below (HB3.out.alloc (by omega) _)).more (by simp; omega))).mono ?_
      rintro e w5 ⟨rfl, hb5⟩
      obtain ⟨hc5, hf5⟩ := bcell hb5
      have s5 := hb5.size
      simp at s5
      have z5 : w.heap.size < w5.heap.size := by omega
      go_wp2_with fail
      refine (refApart_any Au n cu Av cv L _ (by omega) ((HU3.out.below (((Below.refl _ _).alloc (Nat.le_refl _) _).trans (hb5.mono (by simp)))).more (by omega)) ((HV3.out.below (((Below.refl _ _).alloc (Nat.le_refl _) _).trans (hb5.mono (by simp)))).more (by omega))).mono ?_
      rintro e w6 ⟨rfl, hb6⟩
      obtain ⟨hc6, hf6⟩ := bcell hb6
      have s6 := hb6.size
      have hpp : (FM.apart L != FM.apart L) = false := by simp
      have hgg : (FM.num x a b == FM.num x a b) = true := by simp
      go_wp2_with fail
      refine (refGet_any x a b hx hr _).mono ?_
      rintro e w9 ⟨rfl, rfl⟩
      go_wp2
      go_ret
      exact ⟨rfl, ((HB3.out.alloc (by omega) _).trans (hb5.mono (by simp; omega))).trans (hb6.mono (by omega))⟩
    · have hr' : FM.right a b = false := by simpa using hr
      clear hr
      refine (get_no x a b hr' _).mono ?_
      rintro e w2 ⟨rfl, hb2⟩
      obtain ⟨hc2, hf2⟩ := bcell hb2
      have s2 := hb2.size
      have z2 : w.heap.size < w2.heap.size := by omega
      have HB2 := Lib.hid (HB1.out.trans (hb2.mono (by omega)))
      have HU2 := Lib.hid ((HU.out.below hb2).more s2)
      have HV2 := Lib.hid ((HV.out.below hb2).more s2)
      clear hb2
      go_wp2_with fail
      refine (refRight_any a b _).mono ?_
      rintro e w9 ⟨rfl, rfl⟩
      go_wp2_with fail
      refine (alive_any _).mono ?_
      rintro e w3 ⟨rfl, hb3⟩
      obtain ⟨hc3, hf3⟩ := bcell hb3
      have s3 := hb3.size
      have z3 : w.heap.size < w3.heap.size := by omega
      have HB3 := Lib.hid (HB2.out.trans (hb3.mono (by omega)))
      have HU3 := Lib.hid ((HU2.out.below hb3).more s3)
      have HV3 := Lib.hid ((HV2.out.below hb3).more s3)
      clear hb3
      go_wp2_with fail
      refine (right_any a b _).mono ?_
      rintro e w9 ⟨rfl, rfl⟩
      go_wp2_with fail
      refine (apart_any A n c L _ (by omega) ((HL.out.below (HB3.out.alloc (by omega) _)).more (by simp; omega))).mono ?_
      rintro e w5 ⟨rfl, hb5⟩
      obtain ⟨hc5, hf5⟩ := bcell hb5
      have s5 := hb5.size
      simp at s5
      have z5 : w.heap.size < w5.heap.size := by omega
      go_wp2_with fail
      refine (refApart_any Au n cu Av cv L _ (by omega) ((HU3.out.below (((Below.refl _ _).alloc (Nat.le_refl _) _).trans (hb5.mono (by simp)))).more (by omega)) ((HV3.out.below (((Below.refl _ _).alloc (Nat.le_refl _) _).trans (hb5.mono (by simp)))).more (by omega))).mono ?_
      rintro e w6 ⟨rfl, hb6⟩
      obtain ⟨hc6, hf6⟩ := bcell hb6
      have s6 := hb6.size
      have hpp : (FM.apart L != FM.apart L) = false := by simp
      go_wp2
      go_ret
      exact ⟨rfl, ((HB3.out.alloc (by omega) _).trans (hb5.mono (by simp; omega))).trans (hb6.mono (by omega))⟩
  case neg =>
    have hn' : (70 : Int) < (n : Int) := by omega
    have hc' : ¬ (c : Int) < 70 := by omega
    obtain ⟨L, hL, hl⟩ : ∃ L, FS w w.heap.size A 70 L ∧ 70 ≤ n := ⟨fs.take 70, hf.take (by omega), by omega⟩
    go_enter Try.func3, Try.ntmps3
    go_wp2_with fail
    have HL := Lib.hid hL
    clear hf hL hn
    refine (parts_any A 70 c L _ (by omega) ((HL.out.below ((Below.refl _ _).alloc (Nat.le_refl _) _)).more (by simp))).mono ?_
    rintro e w1 ⟨u, v, rfl, hT⟩
    obtain ⟨Au, cu, rfl, hu⟩ := N0.of_own (L := L.map (·.1)) hT.1
    obtain ⟨Av, cv, rfl, hv⟩ := N0.of_own (L := L.map (·.2)) hT.2.1
    have hb1 := hT.2.2.2.1
    have B1 : Below w.heap.size w w1 := ((Below.refl _ _).alloc (Nat.le_refl _) _).trans (hb1.mono (by simp))
    have HB1 := Lib.hid B1
    have HU := Lib.hid hu
    have HV := Lib.hid hv
    obtain ⟨hc1, hf1⟩ := bcell hb1
    have s1 := hb1.size
    simp at s1
    have z1 : w.heap.size < w1.heap.size := by omega
    clear hT hu hv B1 hb1
    go_wp2_with fail
    by_cases hr : FM.right a b = true
    · refine (get_ok x a b hx hr _).mono ?_
      rintro e w2 ⟨rfl, hb2⟩
      obtain ⟨hc2, hf2⟩ := bcell hb2
      have s2 := hb2.size
      have z2 : w.heap.size < w2.heap.size := by omega
      have HB2 := Lib.hid (HB1.out.trans (hb2.mono (by omega)))
      have HU2 := Lib.hid ((HU.out.below hb2).more s2)
      have HV2 := Lib.hid ((HV.out.below hb2).more s2)
      clear hb2
      go_wp2_with fail
      refine (refRight_any a b _).mono ?_
      rintro e w9 ⟨rfl, rfl⟩
      go_wp2_with fail
      refine (alive_any _).mono ?_
      rintro e w3 ⟨rfl, hb3⟩
      obtain ⟨hc3, hf3⟩ := bcell hb3
      have s3 := hb3.size
      have z3 : w.heap.size < w3.heap.size := by omega
      have HB3 := Lib.hid (HB2.out.trans (hb3.mono (by omega)))
      have HU3 := Lib.hid ((HU2.out.below hb3).more s3)
      have HV3 := Lib.hid ((HV2.out.below hb3).more s3)
      clear hb3
      go_wp2_with fail
      refine (right_any a b _).mono ?_
      rintro e w9 ⟨rfl, rfl⟩
      go_wp2_with fail
      refine (apart_any A 70 c L _ (by omega) ((HL.out.below (HB3.out.alloc (by omega) _)).more (by simp; omega))).mono ?_
      rintro e w5 ⟨rfl, hb5⟩
      obtain ⟨hc5, hf5⟩ := bcell hb5
      have s5 := hb5.size
      simp at s5
      have z5 : w.heap.size < w5.heap.size := by omega
      go_wp2_with fail
      refine (refApart_any Au 70 cu Av cv L _ (by omega) ((HU3.out.below (((Below.refl _ _).alloc (Nat.le_refl _) _).trans (hb5.mono (by simp)))).more (by omega)) ((HV3.out.below (((Below.refl _ _).alloc (Nat.le_refl _) _).trans (hb5.mono (by simp)))).more (by omega))).mono ?_
      rintro e w6 ⟨rfl, hb6⟩
      obtain ⟨hc6, hf6⟩ := bcell hb6
      have s6 := hb6.size
      have hpp : (FM.apart L != FM.apart L) = false := by simp
      have hgg : (FM.num x a b == FM.num x a b) = true := by simp
      go_wp2_with fail
      refine (refGet_any x a b hx hr _).mono ?_
      rintro e w9 ⟨rfl, rfl⟩
      go_wp2
      go_ret
      exact ⟨rfl, ((HB3.out.alloc (by omega) _).trans (hb5.mono (by simp; omega))).trans (hb6.mono (by omega))⟩
    · have hr' : FM.right a b = false := by simpa using hr
      clear hr
      refine (get_no x a b hr' _).mono ?_
      rintro e w2 ⟨rfl, hb2⟩
      obtain ⟨hc2, hf2⟩ := bcell hb2
      have s2 := hb2.size
      have z2 : w.heap.size < w2.heap.size := by omega
      have HB2 := Lib.hid (HB1.out.trans (hb2.mono (by omega)))
      have HU2 := Lib.hid ((HU.out.below hb2).more s2)
      have HV2 := Lib.hid ((HV.out.below hb2).more s2)
      clear hb2
      go_wp2_with fail
      refine (refRight_any a b _).mono ?_
      rintro e w9 ⟨rfl, rfl⟩
      go_wp2_with fail
      refine (alive_any _).mono ?_
      rintro e w3 ⟨rfl, hb3⟩
      obtain ⟨hc3, hf3⟩ := bcell hb3
      have s3 := hb3.size
      have z3 : w.heap.size < w3.heap.size := by omega
      have HB3 := Lib.hid (HB2.out.trans (hb3.mono (by omega)))
      have HU3 := Lib.hid ((HU2.out.below hb3).more s3)
      have HV3 := Lib.hid ((HV2.out.below hb3).more s3)
      clear hb3
      go_wp2_with fail
      refine (right_any a b _).mono ?_
      rintro e w9 ⟨rfl, rfl⟩
      go_wp2_with fail
      refine (apart_any A 70 c L _ (by omega) ((HL.out.below (HB3.out.alloc (by omega) _)).more (by simp; omega))).mono ?_
      rintro e w5 ⟨rfl, hb5⟩
      obtain ⟨hc5, hf5⟩ := bcell hb5
      have s5 := hb5.size
      simp at s5
      have z5 : w.heap.size < w5.heap.size := by omega
      go_wp2_with fail
      refine (refApart_any Au 70 cu Av cv L _ (by omega) ((HU3.out.below (((Below.refl _ _).alloc (Nat.le_refl _) _).trans (hb5.mono (by simp)))).more (by omega)) ((HV3.out.below (((Below.refl _ _).alloc (Nat.le_refl _) _).trans (hb5.mono (by simp)))).more (by omega))).mono ?_
      rintro e w6 ⟨rfl, hb6⟩
      obtain ⟨hc6, hf6⟩ := bcell hb6
      have s6 := hb6.size
      have hpp : (FM.apart L != FM.apart L) = false := by simp
      go_wp2
      go_ret
      exact ⟨rfl, ((HB3.out.alloc (by omega) _).trans (hb5.mono (by simp; omega))).trans (hb6.mono (by omega))⟩
end Go.Proofs.Ytbiacpickfdeaaa
