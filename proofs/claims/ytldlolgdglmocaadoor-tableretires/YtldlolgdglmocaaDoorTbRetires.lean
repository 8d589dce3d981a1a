/- The law TableRetires: a slot is retired behind 255 times. -/
import Derived.Test.YtldlolgdglmocaaDoorTbRetM
import Derived.Test.YtldlolgdglmocaaDoorTbRet
import Derived.Deep.DeepCutAuto
namespace Go.Proofs.YtldlolgdglmocaaDoor
open Go.RowKit

theorem size3 (n : Int) : ∃ N : Nat, 1 ≤ N ∧ N ≤ 3 ∧ 1 + (if n < 0 then 0 else n) % 3 = (N : Int) := by
  refine ⟨(1 + (if n < 0 then 0 else n) % 3).toNat, ?_⟩
  split <;> omega
theorem size600 (n : Int) : ∃ N : Nat, N < 600 ∧ (if n < 0 then 0 else n) % 600 = (N : Int) := by
  refine ⟨((if n < 0 then 0 else n) % 600).toNat, ?_⟩
  split <;> omega

section
variable {w : World} {B : TB} {N i : Nat}
/-- One Add of the loop. -/
theorem ret_add_call (h : TbAt w B N (retS i)) (hT : Tab w) (hi : i < 255 * N) (a r : Int) (b c : Bool) :
    Calls Tryd.prog 15 #[.pointer (some ⟨B.t, 0, none⟩), .agg #[.int .i64 a, .int .i64 r, .bool b, .bool c]] w fun e w' => e = .returned (.tuple #[.agg #[.int .i64 ((i : Int) / 255), .int .i64 (1 + (i : Int) % 255)], .int .i64 0]) ∧ Aft B.wr w w' ∧ TbAt w' B N (addS (retS i) (i / 255) ⟨a, r, b, c⟩) := by
  obtain ⟨f1, f2, f3, f4⟩ := ret_add hi ⟨a, r, b, c⟩
  have := add_at h hT ⟨a, r, b, c⟩ ⟨f1, f2, f3⟩
  rw [f4] at this
  rw [show ((i / 255 : Nat) : Int) = (i : Int) / 255 by omega, show ((1 + i % 255 : Nat) : Int) = 1 + (i : Int) % 255 by omega] at this
  exact this
theorem ret_no_call (h : TbAt w B N (retS i)) (hT : Tab w) (hi : 255 * N ≤ i) (a r : Int) (b c : Bool) :
    Calls Tryd.prog 15 #[.pointer (some ⟨B.t, 0, none⟩), .agg #[.int .i64 a, .int .i64 r, .bool b, .bool c]] w fun e w' => e = .returned (.tuple #[.agg #[.int .i64 0, .int .i64 0], .int .i64 12]) ∧ Aft B.wr w w' ∧ TbAt w' B N (retS i) := by
  obtain ⟨f1, f2, f3, f4⟩ := ret_addno hi ⟨a, r, b, c⟩
  have := add_at h hT ⟨a, r, b, c⟩ ⟨f1, f2, f3⟩
  rw [f4] at this
  exact this
theorem ret_drop_call (x : En) (h : TbAt w B N (addS (retS i) (i / 255) x)) (hi : i < 255 * N) :
    Calls Tryd.prog 19 #[.pointer (some ⟨B.t, 0, none⟩), .agg #[.int .i64 ((i : Int) / 255), .int .i64 (1 + (i : Int) % 255)]] w fun e w' => e = .returned (.int .i64 0) ∧ Aft B.wr w w' ∧ TbAt w' B N (retS (i + 1)) := by
  have := drop_all h ((i / 255 : Nat) : Int) ((1 + i % 255 : Nat) : Int)
  unfold dropSt at this
  rw [ret_fresh hi, if_pos rfl, Int.toNat_natCast, ret_next] at this
  rw [show ((i / 255 : Nat) : Int) = (i : Int) / 255 by omega, show ((1 + i % 255 : Nat) : Int) = 1 + (i : Int) % 255 by omega] at this
  exact this
end

/-- Where the loop stands. -/
def RetAt (w : World) (B : TB) (N c b : Nat) (v : Array Value) (x : Value) (wr : World) : Prop :=
  ∃ i : Nat, i ≤ c ∧ x = .int .i64 i ∧ Ht w wr B N (retS (min i (255 * N))) ∧ Whole wr b 35 v ∧ b ∉ B.wr

set_option maxRecDepth 100000 in
set_option maxHeartbeats 4000000 in
theorem retires_walk (n t a r : Int) (b1 b2 : Bool) (w : World) (hT : Tab w) :
    Calls Tryd.prog 6 #[.int .i64 n, .int .i64 t, .agg #[.int .i64 a, .int .i64 r, .bool b1, .bool b2]] w fun e w' => e = .returned (.bool true) ∧ Below w.heap.size w w' := by
  obtain ⟨N, N1, N2, hN⟩ := size3 n
  obtain ⟨c, c2, hc⟩ := size600 t
  have HN := Lib.hid hN
  have HC := Lib.hid hc
  clear hN hc
  go_enter Tryd.func6, Tryd.ntmps6
  go_upto_region 1 with (fail)
  go_cut [7, 8] (fun s t wc => s = .int .i64 (N : Nat) ∧ t = .int .i64 (c : Nat) ∧ wc = w.alloc (.cells #[.int .i64 a, .int .i64 r, .bool b1, .bool b2] 35))
  case first =>
    by_cases h1 : n < 0
    all_goals by_cases h2 : t < 0
    all_goals
      go_wp2
      all_goals go_meet
      all_goals
        refine ⟨congrArg (Value.int .i64) ?_, congrArg (Value.int .i64) ?_, rfl⟩
        · have := HN.out
          split at this <;> omega
        · have := HC.out
          split at this <;> omega
  case rest =>
    obtain ⟨rfl, rfl, rfl⟩ := hcut
    clear HN HC
    have hb0 := (Below.refl w.heap.size w).alloc (Nat.le_refl _) (.cells #[.int .i64 a, .int .i64 r, .bool b1, .bool b2] 35)
    have HB0 := Lib.hid hb0
    have HX0 := Lib.hid (Whole.fresh w 35 #[.int .i64 a, .int .i64 r, .bool b1, .bool b2])
    have NW := Lib.hid (tnew_ok N (w.alloc (.cells #[.int .i64 a, .int .i64 r, .bool b1, .bool b2] 35)) N1 (by omega))
    clear hb0
    go_wp2_with fail
    refine NW.out.mono ?_
    rintro e w1 ⟨B, rfl, hs1, hb1, hw1⟩
    have hbb := HB0.out.trans (hb1.mono (by simp))
    have k1 : Ht w w1 B N (retS 0) := ⟨by rw [ret0]; exact hs1, hbb, by
      obtain ⟨⟨e1, e2⟩, ⟨f1, f2⟩, ⟨g1, g2⟩, ⟨h1, h2⟩, ⟨i1, i2⟩, j1, j2⟩ := hw1
      simp at e1 f1 g1 h1 i1 j1
      refine ⟨⟨?_, e2⟩, ⟨?_, f2⟩, ⟨?_, g2⟩, ⟨?_, h2⟩, ⟨?_, i2⟩, ?_, j2⟩ <;> omega, hT.below hbb hT.pos⟩
    have n1 : w.heap.size ∉ B.wr := by
      obtain ⟨⟨e1, e2⟩, ⟨f1, f2⟩, ⟨g1, g2⟩, ⟨h1, h2⟩, ⟨i1, i2⟩, j1, j2⟩ := hw1
      simp at e1 f1 g1 h1 i1 j1
      simp [TB.wr]
      omega
    have x1 := HX0.out.below hb1 (by simp)
    have AL := Lib.hid (alive_any w1 k1.tab)
    have HK1 := Lib.hid k1
    have HX1 := Lib.hid x1
    have HN1 := Lib.hid n1
    clear k1 x1 n1 hs1 hb1 hw1 hbb NW HB0 HX0
    go_wp2_with fail
    refine AL.out.mono ?_
    rintro e w2 ⟨rfl, hb2⟩
    have HK2 := Lib.hid (HK1.out.later hT hb2)
    have HX2 := Lib.hid (HX1.out.below hb2 HX1.out.lt)
    clear hb2 HK1 HX1 AL
    go_wp2_with fail
    go_loopw [37] (RetAt w B N c w.heap.size #[.int .i64 a, .int .i64 r, .bool b1, .bool b2]) (fun x _ => c - (intOf x).toNat)
    case atStart => exact ⟨0, Nat.zero_le _, rfl, by rw [Nat.zero_min]; exact HK2.out, HX2.out, HN1.out⟩
    case round =>
      clear HK2 HX2
      obtain ⟨i, hi, rfl, hk, hx, _⟩ := hrel
      have HK := Lib.hid hk
      have HX := Lib.hid hx
      obtain ⟨e0, e1, e2, e3⟩ := hx.four
      by_cases hlt : i < c
      · have d0 : decide ((i : Int) < (c : Int)) = true := by simp; omega
        by_cases hf : i < 255 * N
        · rw [show min i (255 * N) = i by omega] at hk
          have A1 := Lib.hid (ret_add_call hk.st hk.tab hf a r b1 b2)
          rw [show min i (255 * N) = i by omega] at HK
          have d1 : decide (255 * (N : Int) ≤ (i : Int)) = false := by simp; omega
          clear hk hx
          go_wp2_with fail
          refine A1.out.mono ?_
          rintro e w3 ⟨rfl, ho3, hs3⟩
          have k3 := (HK.out.step hT ho3 hs3).alloc hT (.cells #[.int .i64 ((i : Int) / 255), .int .i64 (1 + (i : Int) % 255)] 33)
          have x3 := (ho3.whole HX.out HN1.out).alloc (.cells #[.int .i64 ((i : Int) / 255), .int .i64 (1 + (i : Int) % 255)] 33)
          have D1 := Lib.hid (ret_drop_call _ k3.st hf)
          have HK3 := Lib.hid k3
          have HX3 := Lib.hid x3
          clear ho3 hs3 k3 x3 A1 HK HX e0 e1 e2 e3
          go_wp2_with fail
          refine D1.out.mono ?_
          rintro e w4 ⟨rfl, ho4, hs4⟩
          have HK4 := Lib.hid (HK3.out.step hT ho4 hs4)
          have HX4 := Lib.hid (ho4.whole HX3.out HN1.out)
          clear ho4 hs4 D1 HK3 HX3
          go_wp2
          go_roundw
          case rel => exact ⟨i + 1, by omega, by go_num, by rw [show min (i + 1) (255 * N) = i + 1 by omega]; exact HK4.out, HX4.out, HN1.out⟩
          case measure => simp [intOf]; omega
        · rw [show min i (255 * N) = 255 * N by omega] at hk HK
          have A1 := Lib.hid (ret_no_call hk.st hk.tab (Nat.le_refl _) a r b1 b2)
          have d1 : decide (255 * (N : Int) ≤ (i : Int)) = true := by simp; omega
          clear hk hx
          go_wp2_with fail
          refine A1.out.mono ?_
          rintro e w3 ⟨rfl, ho3, hs3⟩
          have HK3 := Lib.hid ((HK.out.step hT ho3 hs3).alloc hT (.cells #[.int .i64 0, .int .i64 0] 33))
          have HX3 := Lib.hid ((ho3.whole HX.out HN1.out).alloc (.cells #[.int .i64 0, .int .i64 0] 33))
          clear ho3 hs3 A1 HK HX e0 e1 e2 e3
          go_wp2
          go_roundw
          case rel => exact ⟨i + 1, by omega, by go_num, by rw [show min (i + 1) (255 * N) = 255 * N by omega]; exact HK3.out, HX3.out, HN1.out⟩
          case measure => simp [intOf]; omega
      · obtain rfl : i = c := by omega
        have d0 : decide ((i : Int) < (i : Int)) = false := by simp
        have R1 := retired_any hk.st
        rw [ret_cnt, ret_used] at R1
        have L1 := fun m => left_any (hk.drewN m).st
        rw [ret_cnt] at L1
        have U1 := fun m => used_any (hk.drewN m).st
        rw [ret_used] at U1
        rw [show min (min i (255 * N) / 255) N - 0 = min (i / 255) N by omega] at R1
        rw [show N - min (min i (255 * N) / 255) N = N - min (i / 255) N by omega] at L1
        by_cases hq : i / 255 ≤ N
        · rw [show ((min (i / 255) N : Nat) : Int) = (i : Int) / 255 by omega] at R1
          rw [show ((N - min (i / 255) N : Nat) : Int) = (N : Int) - (i : Int) / 255 by omega] at L1
          have m1 : min ((i : Int) / 255) (N : Int) = (i : Int) / 255 := by omega
          have m2 : (i : Int) / 255 ≤ (N : Int) := by omega
          have HR1 := Lib.hid R1
          have HL1 := Lib.hid L1
          have HU1 := Lib.hid U1
          clear R1 L1 U1 hk hx e0 e1 e2 e3
          go_wp2_with fail
          refine HR1.out.mono ?_
          rintro e w' ⟨rfl, m, rfl⟩
          go_wp2_with fail
          refine (HL1.out _).mono ?_
          rintro e w' ⟨rfl, mm, rfl⟩
          go_wp2_with fail
          refine (HU1.out (m + mm)).mono ?_
          rintro e w' ⟨rfl, rfl⟩
          go_wp2
          go_ret
          exact ⟨rfl, below_drewN HK.out.bel _⟩
        · rw [show ((min (i / 255) N : Nat) : Int) = (N : Int) by omega] at R1
          rw [show ((N - min (i / 255) N : Nat) : Int) = 0 by omega] at L1
          have m1 : min ((i : Int) / 255) (N : Int) = (N : Int) := by omega
          have m2 : (N : Int) < (i : Int) / 255 := by omega
          have HR1 := Lib.hid R1
          have HL1 := Lib.hid L1
          have HU1 := Lib.hid U1
          clear R1 L1 U1 hk hx e0 e1 e2 e3
          go_wp2_with fail
          refine HR1.out.mono ?_
          rintro e w' ⟨rfl, m, rfl⟩
          go_wp2_with fail
          refine (HL1.out _).mono ?_
          rintro e w' ⟨rfl, mm, rfl⟩
          go_wp2_with fail
          refine (HU1.out (m + mm)).mono ?_
          rintro e w' ⟨rfl, rfl⟩
          go_wp2
          go_ret
          exact ⟨rfl, below_drewN HK.out.bel _⟩
end Go.Proofs.YtldlolgdglmocaaDoor
