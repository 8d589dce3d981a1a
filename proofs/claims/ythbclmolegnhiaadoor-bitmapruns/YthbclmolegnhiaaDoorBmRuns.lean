/- The law BitmapRuns: a run that is told is off, and there is no earlier one. -/
import Derived.Test.YthbclmolegnhiaaDoorBmGrown
namespace Go.Proofs.YthbclmolegnhiaaDoor
open Go.RowKit

/-- A number from 1 to 20. -/
def Twenty (s : Value) : Prop := ∃ K : Nat, 1 ≤ K ∧ K ≤ 20 ∧ s = .int .i64 (K : Nat)
theorem twenty_of (x y : Int) (h : x = 1 + y % 20) (_ : 0 ≤ y) : Twenty (.int .i64 x) :=
  ⟨x.toNat, by omega, by omega, congrArg (Value.int .i64) (by omega)⟩

/-- What the answer of Run says. -/
def RunFact (f : Nat → Bool) (N K a : Nat) (v : Bool) : Prop :=
  (v = true → a + K ≤ N ∧ BM.runAt f K a = true ∧ ∀ i, i < a → BM.runAt f K i = false) ∧ (v = false → ∀ i, i + K ≤ N → BM.runAt f K i = false)
theorem run_fact (f : Nat → Bool) (N K : Nat) (hK : 1 ≤ K) : ∃ (a : Nat) (v : Bool), runVal f N (K : Int) = .tuple #[.int .i64 (a : Nat), .bool v] ∧ RunFact f N K a v := by
  by_cases h : BM.rn f N K < N + 1 - K
  · refine ⟨BM.rn f N K, true, runVal_yes hK rfl h, fun _ => ⟨by omega, BM.rn_is f N K h, fun i hi => BM.rn_not f N K i hi⟩, fun e => by cases e⟩
  · refine ⟨0, false, runVal_no h, (fun e => by cases e), fun _ i hi => BM.rn_not f N K i (by have := BM.rn_le f N K; omega)⟩
theorem run_less (f : Nat → Bool) (N K a : Nat) (hK : 2 ≤ K) (h : a + K ≤ N) (hr : BM.runAt f K a = true) : ∃ d : Nat, runVal f N ((K : Int) - 1) = .tuple #[.int .i64 (d : Nat), .bool true] ∧ d ≤ a := by
  have e : (K : Int) - 1 = ((K - 1 : Nat) : Int) := by omega
  have hr2 : BM.runAt f (K - 1) a = true := (BM.runAt_iff _ _ _).2 fun q h1 h2 => (BM.runAt_iff _ _ _).1 hr q h1 (by omega)
  have hle : BM.rn f N (K - 1) ≤ a := by
    apply Nat.le_of_not_lt
    intro hlt
    have := BM.rn_not f N (K - 1) a hlt
    rw [hr2] at this
    cases this
  rw [e]
  exact ⟨BM.rn f N (K - 1), runVal_yes (by omega) rfl (by omega), hle⟩

/-- Is one of so many places from i on on? -/
def anyOn (f : Nat → Bool) (i : Nat) : Nat → Bool
  | 0 => false
  | j + 1 => anyOn f i j || f (i + j)
theorem anyOn_run (f : Nat → Bool) (i j : Nat) (h : BM.runAt f j i = false) : anyOn f i j = true := by
  cases e : anyOn f i j
  · exfalso
    have hq : ∀ t, t ≤ j → anyOn f i t = false := by
      intro t ht
      obtain ⟨d, rfl⟩ : ∃ d, j = t + d := ⟨j - t, by omega⟩
      clear h ht
      induction d with
      | zero => exact e
      | succ d ih =>
        apply ih
        have e2 : (anyOn f i (t + d) || f (i + (t + d))) = false := e
        cases e3 : anyOn f i (t + d)
        · rfl
        · rw [e3] at e2; cases e2
    have hr : BM.runAt f j i = true := (BM.runAt_iff _ _ _).2 fun q h1 h2 => by
      have e2 : (anyOn f i (q - i) || f (i + (q - i))) = false := hq (q - i + 1) (by omega)
      rw [show i + (q - i) = q by omega] at e2
      cases e3 : f q
      · rfl
      · rw [e3] at e2; simp at e2
    rw [h] at hr
    cases hr
  · rfl

/-- No run begins up to L. -/
def NoRun (f : Nat → Bool) (N K : Nat) (s : Value) : Prop := ∃ L : Int, L ≤ 1000 ∧ s = .int .i64 L ∧ ∀ i : Nat, (i : Int) ≤ L → i + K ≤ N ∧ BM.runAt f K i = false

set_option maxRecDepth 100000 in
set_option maxHeartbeats 4000000 in
theorem runs_walk (n : Int) (A : Option Addr) (m c0 : Nat) (l : List (Int × Int × Int × Bool)) (k0 : Int) (w : World) (hn : -9223372036854775808 ≤ n ∧ n ≤ 9223372036854775807) (hl : FA w w.heap.size A m l) (hc0 : m ≤ c0)
    (hk0 : -9223372036854775808 ≤ k0 ∧ k0 ≤ 9223372036854775807) (hT : Tab w) :
    Calls Tryd.prog 5 #[.int .i64 n, .slice A m c0, .int .i64 k0] w fun e w' => e = .returned (.bool true) ∧ Below w.heap.size w w' := by
  have h0 := hT.pos
  obtain ⟨N, hN1, hN2, hG⟩ := grown_any n A m c0 l w hn hl hc0
  have HG := Lib.hid hG
  clear hG hl hn
  go_enter Tryd.func5, Tryd.ntmps5
  go_wp2_with fail
  refine HG.out.mono ?_
  rintro e w1 ⟨b, c, r, ws, rfl, hm1, hr1, hb1, _, _, _, p1, p2, p3, _, _⟩
  have hT1 := hT.below hb1 h0
  have HM1 := Lib.hid hm1
  clear hm1 hr1 HG
  go_wp2_with fail
  refine (alive_any w1 hT1).mono ?_
  rintro e w2 ⟨rfl, hb2⟩
  have HM2 := Lib.hid (HM1.out.below hb2 p1 p2)
  have hT2 := hT1.below hb2 hT1.pos
  have B2 : Below w.heap.size w w2 := hb1.trans (hb2.mono hb1.size)
  clear HM1 hT1 hb1 hb2 p1 p2 p3 hT
  go_upto_region 4 with (fail)
  go_cut [2] (fun s wc => Twenty s ∧ w2 = wc)
  case first =>
    go_wp2
    all_goals go_meet
    all_goals first
      | exact ⟨twenty_of _ k0 (by omega) (by omega), rfl⟩
      | exact ⟨twenty_of _ 0 (by omega) (by omega), rfl⟩
  case rest =>
    obtain ⟨⟨K, hK1, hK2, rfl⟩, rfl⟩ := hcut
    have hlen := HM2.out.len
    have fr := run_any b c N K ws w2 HM2.out hT2 (by omega)
    obtain ⟨a, v, hv, hfact⟩ := run_fact (BM.on ws) N K hK1
    rw [hv] at fr
    have FR := Lib.hid fr
    have FT := Lib.hid hfact
    clear fr hv hfact
    go_wp2_with fail
    refine FR.out.mono ?_
    rintro e w' ⟨rfl, rfl⟩
    go_wp2_with fail
    refine (len_any b N w2 hlen).mono ?_
    rintro e w' ⟨rfl, rfl⟩
    go_upto_if 46 with (fail)
    go_cut [12] (fun s wc => NoRun (BM.on ws) N K s ∧ w2 = wc)
    case first =>
      cases v
      · go_wp2
        go_meet
        exact ⟨⟨_, by omega, rfl, fun i hi => ⟨by omega, FT.out.2 rfl i (by omega)⟩⟩, rfl⟩
      · obtain ⟨hf1, hf2, hf3⟩ := FT.out.1 rfl
        have HF2 := Lib.hid hf2
        have HF3 := Lib.hid hf3
        clear hf2 hf3
        go_wp2_with fail
        go_loop [48] (fun x => ∃ i : Nat, i ≤ K ∧ x = .int .i64 (i : Nat)) (fun x => K - (intOf x).toNat)
        case atStart => exact ⟨0, Nat.zero_le _, rfl⟩
        case round =>
          obtain ⟨i, hi, rfl⟩ := hrel
          by_cases hlt : i < K
          · have hh := has_in b c N (a + i) ws w2 HM2.out (by omega)
            rw [(BM.runAt_iff _ _ _).1 HF2.out (a + i) (by omega) (by omega), show ((a + i : Nat) : Int) = (a : Int) + (i : Int) by omega] at hh
            have HH := Lib.hid hh
            clear hh
            go_wp2_with (first
              | (go_at_call 13; refine HH.out.mono ?_; rintro e w' ⟨rfl, rfl⟩))
            go_round
            case rel => exact ⟨i + 1, by omega, by go_num⟩
            case measure => simp [intOf]; omega
          · by_cases hK : K = 1
            · subst hK
              have f0 := run_any b c N 0 ws w2 HM2.out hT2 (by omega)
              rw [show runVal (BM.on ws) N 0 = .tuple #[.int .i64 0, .bool false] by unfold runVal; rw [if_neg (by omega)]] at f0
              have F0 := Lib.hid f0
              clear f0
              go_wp2_with (first
                | (go_at_call 10; refine F0.out.mono ?_; rintro e w' ⟨rfl, rfl⟩))
              go_meet
              exact ⟨⟨_, by omega, rfl, fun i hi => ⟨by omega, HF3.out i (by omega)⟩⟩, rfl⟩
            · obtain ⟨d, hd1, hd2⟩ := run_less (BM.on ws) N K a (by omega) hf1 HF2.out
              have f0 := run_any b c N ((K : Int) - 1) ws w2 HM2.out hT2 (by omega)
              rw [hd1] at f0
              have F0 := Lib.hid f0
              have e1 : decide ((1 : Int) < (K : Int)) = true := by simp; omega
              have e2 : decide ((a : Int) < (d : Int)) = false := by simp; omega
              have e3 : decide (a < d) = false := by simp; omega
              clear f0 hd1
              go_wp2_with (first
                | (go_at_call 10; refine F0.out.mono ?_; rintro e w' ⟨rfl, rfl⟩))
              go_meet
              exact ⟨⟨_, by omega, rfl, fun i hi => ⟨by omega, HF3.out i (by omega)⟩⟩, rfl⟩
    case rest =>
      obtain ⟨⟨L, hL0, rfl, hL⟩, rfl⟩ := hcut
      have HL := Lib.hid hL
      clear hL
      go_wp2_with fail
      go_loop [16] (fun x => ∃ i : Nat, i ≤ 1001 ∧ x = .int .i64 (i : Nat)) (fun x => (L + 1).toNat - (intOf x).toNat)
      case atStart => exact ⟨0, Nat.zero_le _, rfl⟩
      case round =>
        obtain ⟨i, hi, rfl⟩ := hrel
        by_cases hlt : (i : Int) ≤ L
        · obtain ⟨hi1, hi2⟩ := HL.out i hlt
          have HR := Lib.hid (anyOn_run _ _ _ hi2)
          clear hi2
          go_wp2_with fail
          go_loop [17, 83] (fun s x => ∃ j : Nat, j ≤ K ∧ x = .int .i64 (j : Nat) ∧ s = .bool (anyOn (BM.on ws) i j)) (fun _ x => K - (intOf x).toNat)
          case atStart => exact ⟨0, Nat.zero_le _, rfl, rfl⟩
          case round =>
            obtain ⟨j, hj, rfl, rfl⟩ := hrel
            by_cases hjl : j < K
            · have hh := has_in b c N (i + j) ws w2 HM2.out (by omega)
              have hnx : anyOn (BM.on ws) i (j + 1) = (anyOn (BM.on ws) i j || BM.on ws (i + j)) := rfl
              rw [show ((i + j : Nat) : Int) = (i : Int) + (j : Int) by omega] at hh
              generalize BM.on ws (i + j) = y at hh hnx
              have HNX := Lib.hid hnx
              have HH := Lib.hid hh
              clear hh hnx
              generalize anyOn (BM.on ws) i j = z at *
              cases z
              · go_wp2_with (first
                  | (go_at_call 13; refine HH.out.mono ?_; rintro e w' ⟨rfl, rfl⟩))
                go_round
                case rel => exact ⟨j + 1, by omega, by go_num, by rw [HNX.out]; simp⟩
                case measure => simp [intOf]; omega
              · go_wp2_with (first
                  | (go_at_call 13; refine HH.out.mono ?_; rintro e w' ⟨rfl, rfl⟩))
                go_round
                case rel => exact ⟨j + 1, by omega, by go_num, by rw [HNX.out]; simp⟩
                case measure => simp [intOf]; omega
            · obtain rfl : j = K := by omega
              rw [HR.out]
              go_wp2
              go_round
              case rel => exact ⟨i + 1, by omega, by go_num⟩
              case measure => simp [intOf]; omega
        · cases v
          · go_wp2
            go_ret
            exact ⟨rfl, B2⟩
          · have hf1 := (FT.out.1 rfl).1
            have e1 : decide ((a : Int) + (K : Int) ≤ (N : Int)) = true := by simp; omega
            go_wp2_with (first
              | (go_at_call 12; refine (len_any b N w2 hlen).mono ?_; rintro e w' ⟨rfl, rfl⟩))
            go_ret
            exact ⟨rfl, B2⟩
end Go.Proofs.YthbclmolegnhiaaDoor
