/- The walk of HeaderParts. -/
import Derived.Test.YtbgoopjkoelobaaHdApart
namespace Go.Proofs.Ytbgoopjkoelobaa
open Go.RowKit

set_option maxHeartbeats 4000000 in
theorem parts_core (L C S t s P Q X Y : Int) (m : Bool) (hs : wrap64 ((IntKind.u64.wrap t).tmod 4096) = s)
    (HE : Hid (∀ w, Calls Try.prog 9 #[.agg #[.int .i64 L, .int .i64 C, .int .i64 S]] w (EncIs P Q w)))
    (HG2 : Hid (∀ w, Calls Try.prog 9 #[.agg #[.int .i64 L, .int .i64 C, .int .i64 s]] w (EncIs X Y w)))
    (HN : Hid (m = false → Q = 3)) (HY : Hid (m = true → Q = 0 ∧ Y = 0 ∧ P / 65536 = X / 65536 ∧ P / 72057594037927936 = 165 ∧ bits .and .u64 X 65535 = s ∧ IntKind.i64.wrap s = s))
    (HM' : Hid (∀ w, Calls Try.prog 10 #[.agg #[.int .i64 L, .int .i64 C, .int .i64 S]] w (IsBool m w))) (w : World) :
    Calls Try.prog 7 #[.agg #[.int .i64 L, .int .i64 C, .int .i64 S], .int .i64 t] w (IsBool true w) := by
  have HS := Lib.hid hs
  clear hs
  go_enter Try.func7, Try.ntmps7
  go_wp2_with fail
  rw [HS.out]
  refine (HE.out _).mono ?_
  rintro e w1 ⟨rfl, hb1⟩
  have K1 := Lib.hid (((Box.first w 23 L C S).alloc (.cells #[.int .i64 L, .int .i64 C, .int .i64 s] 23)).step hb1)
  have J1 := Lib.hid (show Box w (w.heap.size + 1) 23 L C s w1 from Box.step ⟨Whole.fresh' (by simp), ((Box.first w 23 L C S).alloc (.cells #[.int .i64 L, .int .i64 C, .int .i64 s] 23)).bel⟩ hb1)
  obtain ⟨d0, d1, d2⟩ := J1.out.cells
  clear hb1
  go_wp2_with fail
  refine (HG2.out _).mono ?_
  rintro e w2 ⟨rfl, hb2⟩
  have K2 := Lib.hid (K1.out.step hb2)
  have J2 := Lib.hid (J1.out.step hb2)
  obtain ⟨c0, c1, c2⟩ := K2.out.cells
  clear hb2 d0 d1 d2
  go_wp2_with fail
  refine (HM'.out _).mono ?_
  rintro e w3 ⟨rfl, hb3⟩
  have K3 := Lib.hid (K2.out.step hb3)
  have J3 := Lib.hid (J2.out.step hb3)
  clear hb3 c0 c1 c2
  cases m
  · obtain rfl := HN.out rfl
    go_wp2_with fail
    refine (halive_any _).mono ?_
    rintro e w4 ⟨rfl, hb4⟩
    have K4 := Lib.hid (K3.out.step hb4)
    go_wp2_with fail
    go_ret
    exact ⟨rfl, K4.out.bel⟩
  · obtain ⟨rfl, rfl, e1, e2, e3, e4⟩ := HY.out rfl
    have HE3 := Lib.hid (And.intro e1 (And.intro e2 (And.intro e3 e4)))
    clear e1 e2 e3 e4
    go_wp2_with fail
    refine (halive_any _).mono ?_
    rintro e w4 ⟨rfl, hb4⟩
    have K4 := Lib.hid (K3.out.step hb4)
    obtain ⟨d0, d1, d2⟩ := (J3.out.step hb4).cells
    obtain ⟨e1, e2, e3, e4⟩ := HE3.out
    go_wp2_with fail
    go_ret
    refine ⟨?_, K4.out.bel⟩
    first
      | rfl
      | (refine ret_bool ?_; simp [e3, e4])

theorem HM.parts {L C S s : Int} (h0 : 0 ≤ s) (h1 : s ≤ 4095) (hm : HM.may L C S = true) : HM.eE L C S = 0 ∧ HM.eE L C s = 0 ∧ HM.eW L C S / 65536 = HM.eW L C s / 65536 ∧ HM.eW L C S / 72057594037927936 = 165 ∧ bits .and .u64 (HM.eW L C s) 65535 = s ∧ IntKind.i64.wrap s = s := by
  have h := (HM.may_iff _ _ _).1 hm
  have hm' : HM.may L C s = true := by rw [HM.may_iff]; omega
  unfold HM.eE HM.eW
  rw [if_pos hm, if_pos hm, if_pos hm', if_pos hm']
  have hw := HM.word_lt hm'
  refine ⟨rfl, rfl, ?_, ?_, ?_, HM.wr64 _ (by omega) (by omega)⟩
  · unfold HM.word; omega
  · unfold HM.word; omega
  · rw [u64_and _ _ hw.1 hw.2 (by decide) (by decide)]
    have e : (65535 : Int).toNat = 2 ^ 16 - 1 := by decide
    rw [e, Nat.and_two_pow_sub_one_eq_mod]
    unfold HM.word
    omega

theorem parts_any (L C S t : Int) (w : World) (_ht : -9223372036854775808 ≤ t ∧ t ≤ 9223372036854775807) :
    Calls Try.prog 7 #[.agg #[.int .i64 L, .int .i64 C, .int .i64 S], .int .i64 t] w fun e w' => e = .returned (.bool true) ∧ Below w.heap.size w w' := by
  have h0 : 0 ≤ IntKind.u64.wrap t := by rw [IntKind.wrap_u64]; omega
  obtain ⟨s, hs⟩ : ∃ s, s = IntKind.u64.wrap t % 4096 := ⟨_, rfl⟩
  have e : wrap64 ((IntKind.u64.wrap t).tmod 4096) = s := by rw [HM.tm _ _ h0, ← hs, HM.w64]; exact HM.wr64 _ (by omega) (by omega)
  refine parts_core L C S t s (HM.eW L C S) (HM.eE L C S) (HM.eW L C s) (HM.eE L C s) (HM.may L C S) e (Lib.hid (hencode_any L C S)) (Lib.hid (hencode_any L C s)) (Lib.hid fun h => ?_) (Lib.hid fun h => HM.parts (by omega) (by omega) h) (Lib.hid (rmay_b L C S)) w
  unfold HM.eE
  rw [h]
  rfl
end Go.Proofs.Ytbgoopjkoelobaa
