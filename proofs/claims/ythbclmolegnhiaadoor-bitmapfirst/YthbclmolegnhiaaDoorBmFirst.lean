/- The law BitmapFirst: the first place that is told is off, isn't below where it was asked from, and all between are on. -/
import Derived.Test.YthbclmolegnhiaaDoorBmGrown
namespace Go.Proofs.YthbclmolegnhiaaDoor
open Go.RowKit

/-- A number that is no less than -5 and no more than n + 5. -/
def Near (n : Nat) (s : Value) : Prop := ∃ F : Int, -5 ≤ F ∧ F ≤ n + 5 ∧ s = .int .i64 F

set_option maxRecDepth 100000 in
set_option maxHeartbeats 4000000 in
theorem first_walk (n : Int) (A : Option Addr) (m c0 : Nat) (l : List (Int × Int × Int × Bool)) (from_ : Int) (w : World) (hn : -9223372036854775808 ≤ n ∧ n ≤ 9223372036854775807) (hl : FA w w.heap.size A m l) (hc0 : m ≤ c0)
    (hfr : -9223372036854775808 ≤ from_ ∧ from_ ≤ 9223372036854775807) (hT : Tab w) :
    Calls Tryd.prog 7 #[.int .i64 n, .slice A m c0, .int .i64 from_] w fun e w' => e = .returned (.bool true) ∧ Below w.heap.size w w' := by
  have h0 := hT.pos
  obtain ⟨N, hN1, hN2, hG⟩ := grown_any n A m c0 l w hn hl hc0
  have HG := Lib.hid hG
  clear hG hl hn
  go_enter Tryd.func7, Tryd.ntmps7
  go_wp2_with fail
  refine HG.out.mono ?_
  rintro e w1 ⟨b, c, r, ws, rfl, hm1, hr1, hb1, _, _, _, p1, p2, p3, _, _⟩
  have hT1 := hT.below hb1 h0
  have HM1 := Lib.hid hm1
  clear hm1 hr1 HG
  go_wp2_with fail
  refine (alive_any w1 hT1).mono ?_
  rintro e w2 ⟨rfl, hb2⟩
  have HM2 := Lib.hid (HM1.out.below hb2 p1 p2)
  have hT2 := hT1.below hb2 hT1.pos
  have B2 : Below w.heap.size w w2 := hb1.trans (hb2.mono hb1.size)
  clear HM1 hT1 hb1 hb2 p1 p2 p3 hT
  go_upto_region 4 with (fail)
  go_cut [2] (fun s wc => Near N s ∧ w2 = wc)
  case first =>
    go_wp2
    all_goals go_meet
    all_goals exact ⟨⟨_, by omega, by omega, rfl⟩, rfl⟩
  case rest =>
    obtain ⟨⟨F, hF1, hF2, rfl⟩, rfl⟩ := hcut
    have hlen := HM2.out.len
    have hfa := first_any b c N F ws w2 HM2.out hT2
    have hle := BM.nx_le (BM.on ws) N false F.toNat
    by_cases hfd : BM.nx (BM.on ws) N false F.toNat < N
    · obtain ⟨h1, h2⟩ := BM.nx_is _ _ _ _ hfd
      have hnot := Lib.hid (BM.nx_not (BM.on ws) N false F.toNat)
      unfold firstVal at hfa
      rw [if_pos hfd] at hfa
      generalize BM.nx (BM.on ws) N false F.toNat = q at *
      have HFA := Lib.hid hfa
      have hq := has_in b c N q ws w2 HM2.out hfd
      rw [h2] at hq
      have HQ := Lib.hid hq
      clear hfa h2 hq
      go_wp2_with fail
      refine HFA.out.mono ?_
      rintro e w' ⟨rfl, rfl⟩
      go_upto_region 9 with (fail)
      go_cut [13] (fun s wc => s = .int .i64 (F.toNat : Nat) ∧ w2 = wc)
      case first =>
        go_wp2
        all_goals go_meet
        all_goals exact ⟨congrArg (Value.int .i64) (by omega), rfl⟩
      case rest =>
        obtain ⟨rfl, rfl⟩ := hcut
        go_wp2_with fail
        go_loop [13] (fun x => ∃ k : Nat, F.toNat ≤ k ∧ k ≤ q ∧ x = .int .i64 (k : Nat)) (fun x => q - (intOf x).toNat)
        case atStart => exact ⟨_, Nat.le_refl _, h1, rfl⟩
        case round =>
          obtain ⟨k, hk1, hk2, rfl⟩ := hrel
          by_cases hlt : k < q
          · have hk := has_in b c N k ws w2 HM2.out (by omega)
            have hon := hnot.out k hk1 hlt
            rw [hon] at hk
            have HK := Lib.hid hk
            clear hk hon
            go_wp2_with (first
              | (go_at_call 13; refine HK.out.mono ?_; rintro e w' ⟨rfl, rfl⟩))
            go_round
            case rel => exact ⟨k + 1, by omega, by omega, by go_num⟩
            case measure => simp [intOf]; omega
          · obtain rfl : k = q := by omega
            have d1 : decide (F ≤ (k : Int)) = true := by simp; omega
            have d2 : decide ((0 : Int) ≤ (k : Int)) = true := by simp
            go_wp2_with (first
              | (go_at_call 13; refine HQ.out.mono ?_; rintro e w' ⟨rfl, rfl⟩))
            all_goals go_ret
            all_goals exact ⟨rfl, B2⟩
    · have e : BM.nx (BM.on ws) N false F.toNat = N := by omega
      have hnot := Lib.hid (BM.nx_not (BM.on ws) N false F.toNat)
      unfold firstVal at hfa
      rw [if_neg hfd] at hfa
      rw [e] at hnot
      have HFA := Lib.hid hfa
      clear hfa hfd hle e
      go_wp2_with fail
      refine HFA.out.mono ?_
      rintro e w' ⟨rfl, rfl⟩
      go_upto_region 9 with (fail)
      go_cut [13] (fun s wc => s = .int .i64 (F.toNat : Nat) ∧ w2 = wc)
      case first =>
        go_wp2
        all_goals go_meet
        all_goals exact ⟨congrArg (Value.int .i64) (by omega), rfl⟩
      case rest =>
        obtain ⟨rfl, rfl⟩ := hcut
        go_wp2_with fail
        go_loop [13] (fun x => ∃ k : Nat, F.toNat ≤ k ∧ k ≤ N + 5 ∧ x = .int .i64 (k : Nat)) (fun x => N - (intOf x).toNat)
        case atStart => exact ⟨_, Nat.le_refl _, by omega, rfl⟩
        case round =>
          obtain ⟨k, hk1, hk2, rfl⟩ := hrel
          by_cases hlt : k < N
          · have hk := has_in b c N k ws w2 HM2.out hlt
            have hon := hnot.out k hk1 hlt
            rw [hon] at hk
            have HK := Lib.hid hk
            clear hk hon
            go_wp2_with (first
              | (go_at_call 13; refine HK.out.mono ?_; rintro e w' ⟨rfl, rfl⟩))
            go_round
            case rel => exact ⟨k + 1, by omega, by omega, by go_num⟩
            case measure => simp [intOf]; omega
          · go_wp2
            go_ret
            exact ⟨rfl, B2⟩
end Go.Proofs.YthbclmolegnhiaaDoor
