/- The law BitmapTurns: some places that are turned on, and off again, are off, and all others are as they were. -/
import Derived.Test.YthbclmolegnhiaaDoorBmAllLaw
import Derived.Test.YthbclmolegnhiaaDoorBmActs
namespace Go.Proofs.YthbclmolegnhiaaDoor
open Go.RowKit

/-- Is the place outside of the k places from a on? -/
def outB (a k x : Nat) : Bool := decide (x < a) || decide (a + k ≤ x)
theorem outB_true (a k x : Nat) (h : ¬ (a ≤ x ∧ x < a + k)) : outB a k x = true := by unfold outB; simp; omega
theorem outB_false (a k x : Nat) (h : a ≤ x ∧ x < a + k) : outB a k x = false := by unfold outB; simp; omega
theorem cnt_true (n : Nat) : BM.cnt (fun _ => true) n = n := by
  induction n with
  | zero => rfl
  | succ n ih => rw [BM.cnt, ih]; rfl
theorem cnt_turn (f g h : Nat → Bool) (N a k : Nat) (hk : a + k ≤ N) (hg : ∀ q, g q = if a ≤ q ∧ q < a + k then true else f q) (hh : ∀ q, h q = if a ≤ q ∧ q < a + k then false else g q) : BM.cnt g N = BM.cnt h N + k := by
  obtain ⟨d, rfl⟩ : ∃ d, N = a + (k + d) := ⟨N - a - k, by omega⟩
  rw [BM.cnt_add, BM.cnt_add, BM.cnt_add, BM.cnt_add]
  have e1 : BM.cnt g a = BM.cnt h a := BM.cnt_congr _ _ _ fun i hi => by rw [hh, if_neg (by omega)]
  have e2 : BM.cnt (fun i => g (a + i)) k = k := by
    rw [BM.cnt_congr _ (fun _ => true) k fun i hi => by rw [hg, if_pos (by omega)]]
    exact cnt_true k
  have e3 : BM.cnt (fun i => h (a + i)) k = 0 := BM.cnt_none _ _ fun i hi => by rw [hh, if_pos (by omega)]
  have e4 : BM.cnt (fun i => g (a + (k + i))) d = BM.cnt (fun i => h (a + (k + i))) d := BM.cnt_congr _ _ _ fun i hi => by rw [hh, if_neg (by omega)]
  rw [e1, e2, e3, e4]
  omega
theorem out_cnt (f g h : Nat → Bool) (N a k : Nat) (hg : ∀ q, g q = if a ≤ q ∧ q < a + k then true else f q) (hh : ∀ q, h q = if a ≤ q ∧ q < a + k then false else g q) : ((BM.ons f N).filter (outB a k)).length = BM.cnt h N := by
  rw [← BM.ons_len]
  unfold BM.ons
  rw [List.filter_filter]
  congr 2
  funext x
  rw [hh, hg]
  by_cases c : a ≤ x ∧ x < a + k
  · rw [outB_false a k x c, if_pos c]; rfl
  · rw [outB_true a k x c, if_neg c, if_neg c]; rfl
theorem IS.only {c : Nat} {w w' : World} {A : Option Addr} {cc : Nat} {xs : List Nat} (h : IS w (.slice A xs.length cc) xs) (ho : OnlyAt c w w') (hne : ∀ a, A = some a → a.block ≠ c) : IS w' (.slice A xs.length cc) xs := by
  obtain ⟨A', c', e, hc⟩ := h
  cases e
  refine ⟨_, _, rfl, fun i x hx => ?_⟩
  obtain ⟨g, off, rfl, h1⟩ := hc i x hx
  exact ⟨g, off, rfl, (ho.cell (p := ⟨g, off + i, none⟩) (show g ≠ c from hne ⟨g, off, none⟩ rfl)).trans h1⟩

/-- A place that is there. -/
def Within (N : Nat) (s : Value) : Prop := ∃ a : Nat, a < N ∧ s = .int .i64 (a : Nat)
theorem within_of (x : Int) (N : Nat) (hN : 1 ≤ N) (hN2 : N ≤ 301) : Within N (.int .i64 (wrap64 ((IntKind.u64.wrap x).tmod (N : Int)))) := by
  have h0 : 0 ≤ IntKind.u64.wrap x := by rw [IntKind.wrap_u64]; omega
  rw [Int.tmod_eq_emod_of_nonneg h0]
  have h1 := Int.emod_nonneg (IntKind.u64.wrap x) (show (N : Int) ≠ 0 by omega)
  have h2 := Int.emod_lt_of_pos (IntKind.u64.wrap x) (show 0 < (N : Int) by omega)
  generalize IntKind.u64.wrap x % (N : Int) = q at *
  exact ⟨q.toNat, by omega, congrArg (Value.int .i64) (by unfold wrap64; omega)⟩

set_option maxRecDepth 100000 in
set_option maxHeartbeats 8000000 in
theorem turns_walk (n : Int) (A : Option Addr) (m c0 : Nat) (l : List (Int × Int × Int × Bool)) (t0 t1 : Int) (w : World) (hn : -9223372036854775808 ≤ n ∧ n ≤ 9223372036854775807) (hl : FA w w.heap.size A m l) (hc0 : m ≤ c0)
    (_ : -9223372036854775808 ≤ t0 ∧ t0 ≤ 9223372036854775807) (_ : -9223372036854775808 ≤ t1 ∧ t1 ≤ 9223372036854775807) (hT : Tab w) :
    Calls Tryd.prog 6 #[.int .i64 n, .slice A m c0, .agg #[.int .i64 t0, .int .i64 t1]] w fun e w' => e = .returned (.bool true) ∧ Below w.heap.size w w' := by
  have h0 := hT.pos
  obtain ⟨w0, hw0⟩ : ∃ w0, w0 = w.alloc (.cells #[.int .i64 t0, .int .i64 t1] 45) := ⟨_, rfl⟩
  have B0 : Below w.heap.size w w0 := by rw [hw0]; exact (Below.refl _ _).alloc (Nat.le_refl _) _
  have W0 : Whole w0 w.heap.size 45 #[.int .i64 t0, .int .i64 t1] := by rw [hw0]; exact Whole.fresh _ _ _
  obtain ⟨N, hN1, hN2, hG⟩ := grown_any n A m c0 l w0 hn ((hl.below B0).more B0.size) hc0
  have hT0 := hT.below B0 h0
  have lt0 := W0.lt
  rw [hw0] at hG
  have HG := Lib.hid hG
  have HW0 := Lib.hid hw0
  clear hG hl hn hw0
  go_enter Tryd.func6, Tryd.ntmps6
  go_wp2_with fail
  refine HG.out.mono ?_
  rw [← HW0.out]
  rintro e w1 ⟨b, c, r, ws, rfl, hm1, hr1, hb1, q1, q2, q3, p1, p2, p3, _, _⟩
  have hT1 := hT0.below hb1 hT0.pos
  have W1 := W0.below hb1 lt0
  have lt1 := W1.lt
  have HM1 := Lib.hid hm1
  clear hm1 hr1 HG
  go_wp2_with fail
  refine (alive_any w1 hT1).mono ?_
  rintro e w2 ⟨rfl, hb2⟩
  have HM2 := Lib.hid (HM1.out.below hb2 p1 p2)
  have hT2 := hT1.below hb2 hT1.pos
  have W2 := W1.below hb2 lt1
  have B2 : Below w.heap.size w w2 := B0.trans ((hb1.mono B0.size).trans (hb2.mono (Nat.le_trans B0.size hb1.size)))
  have p4 : b < w2.heap.size := by have := hb2.size; omega
  have p5 : c < w2.heap.size := by have := hb2.size; omega
  have q4 : w.heap.size ≤ c := by have := B0.size; omega
  have x0 := (W2.cell 0).trans rfl
  have x1 := (W2.cell 1).trans rfl
  clear HM1 hT1 hb1 hb2 p1 p2 p3 hT hT0 W0 W1 W2 lt0 lt1 B0 HW0 q1 q2 q3
  go_upto_region 4 with (fail)
  go_cut [10] (fun s wc => Within N s ∧ w2 = wc)
  case first =>
    go_wp2
    go_meet
    exact ⟨within_of t0 N hN1 (by omega), rfl⟩
  case rest =>
    obtain ⟨⟨a, ha, rfl⟩, rfl⟩ := hcut
    go_upto_region 5 with (fail)
    go_cut [11] (fun s wc => Within (N - a + 1) s ∧ w2 = wc)
    case first =>
      have hw := Lib.hid (within_of t1 (N - a + 1) (by omega) (by omega))
      have e1 : IntKind.u64.wrap ((N : Int) - (a : Int) + 1) = ((N - a + 1 : Nat) : Int) := by rw [IntKind.wrap_u64]; omega
      go_wp2
      go_meet
      refine ⟨?_, rfl⟩
      have := hw.out
      rw [show ((N - a + 1 : Nat) : Int) = ((N - a : Nat) : Int) + 1 by omega] at this
      exact this
    case rest =>
      obtain ⟨⟨k, hk, rfl⟩, rfl⟩ := hcut
      have hak : a + k ≤ N := by omega
      have hxl : (BM.ons (BM.on ws) N).length ≤ 300 := by rw [BM.ons_len]; have := BM.cnt_le (BM.on ws) N; omega
      have fall := all_map b c N ws w2 HM2.out hT2 p4 p5
      have HAL := Lib.hid fall
      clear fall x0 x1
      go_wp2_with fail
      refine HAL.out.mono ?_
      intro e w3 hp
      obtain ⟨A1, c1, rfl, i1, b3, l1⟩ := hp.use
      have hm3 := HM2.out.below b3 p4 p5
      have B3 : Below w.heap.size w w3 := B2.trans (b3.mono B2.size)
      have hT3 := hT2.below b3 hT2.pos
      have hne : ∀ a, A1 = some a → a.block ≠ c := fun a e => by have := (l1 a e).1; omega
      have f1 := fill_ok b c N a k ws true w3 hm3 hak
      have HF1 := Lib.hid f1
      have I1 := Lib.hid i1
      have NE := Lib.hid hne
      have z3 := b3.size
      clear hp i1 l1 hne f1 HAL hm3 HM2 hT2
      go_wp2_with fail
      refine HF1.out.mono ?_
      rintro e w4 ⟨rfl, ho4, ws4, hm4, hq4⟩
      have i4 := I1.out.only ho4 NE.out
      have f2 := fill_ok b c N a k ws4 false w4 hm4 hak
      have n4 := count_any b c N ws4 w4 hm4
      have I4 := Lib.hid i4
      have HF2 := Lib.hid f2
      have HM4 := Lib.hid hm4
      have HQ4 := Lib.hid hq4
      have HN4 := Lib.hid n4
      clear i4 f2 hm4 hq4 n4 I1 HF1
      have o1 := out_cnt (BM.on ws) (BM.on ws4) (fun q => if a ≤ q ∧ q < a + k then false else BM.on ws4 q) N a k HQ4.out (fun _ => rfl)
      have o2 := cnt_turn (BM.on ws) (BM.on ws4) (fun q => if a ≤ q ∧ q < a + k then false else BM.on ws4 q) N a k hak HQ4.out (fun _ => rfl)
      have o3 := BM.cnt_le (fun q => if a ≤ q ∧ q < a + k then false else BM.on ws4 q) N
      obtain ⟨O, hO⟩ : ∃ O, O = BM.cnt (fun q => if a ≤ q ∧ q < a + k then false else BM.on ws4 q) N := ⟨_, rfl⟩
      rw [← hO] at o1 o2 o3
      have hat := ons_at (BM.on ws) N
      have h4 := HN4.out
      rw [o2, show ((O + k : Nat) : Int) = (O : Int) + (k : Int) by omega] at h4
      have H4 := Lib.hid h4
      have HO := Lib.hid hO
      have HO1 := Lib.hid o1
      have HAT := Lib.hid hat
      clear o1 o2 hat h4 hO HN4
      generalize BM.ons (BM.on ws) N = xs at *
      obtain ⟨M, hM⟩ : ∃ M, M = xs.length := ⟨_, rfl⟩
      rw [← hM] at hxl ⊢
      have HMM := Lib.hid hM
      clear hM
      go_wp2_with fail
      go_loop [13, 61] (fun s x => ∃ j : Nat, j ≤ M ∧ x = .int .i64 (j : Nat) ∧ s = .int .i64 (((xs.take j).filter (outB a k)).length : Nat)) (fun _ x => M - (intOf x).toNat)
      case atStart => exact ⟨0, Nat.zero_le _, rfl, rfl⟩
      case round =>
        obtain ⟨j, hj, rfl, rfl⟩ := hrel
        by_cases hlt : j < M
        · obtain ⟨x, hx⟩ : ∃ x, xs[j]? = some x := ⟨xs[j]'(by rw [← HMM.out]; exact hlt), by simp⟩
          obtain ⟨g, off, rfl, hcell⟩ := I4.out.at_ hx
          have hxN := (HAT.out j x hx).1
          have hle : ((xs.take j).filter (outB a k)).length ≤ j := Nat.le_trans (List.length_filter_le _ _) (List.length_take_le _ _)
          have hnx : ((xs.take (j + 1)).filter (outB a k)).length = ((xs.take j).filter (outB a k)).length + (outB a k x).toNat := by
            rw [List.take_add_one, hx, List.filter_append, List.length_append]
            cases e : outB a k x <;> simp [e]
          have HNX := Lib.hid hnx
          clear hnx hx
          generalize ((xs.take j).filter (outB a k)).length = y at *
          by_cases g1 : x < a
          · have e1 : outB a k x = true := outB_true a k x (by omega)
            rw [e1] at HNX
            clear e1
            go_wp2
            go_round
            case rel => exact ⟨j + 1, by omega, by go_num, by rw [HNX.out]; simp⟩
            case measure => simp [intOf]; omega
          · by_cases g2 : a + k ≤ x
            · have e1 : outB a k x = true := outB_true a k x (by omega)
              have e2 : decide (x < a) = false := by simp; omega
              have e3 : decide ((a : Int) + (k : Int) ≤ (x : Int)) = true := by simp; omega
              rw [e1] at HNX
              clear e1
              go_wp2
              go_round
              case rel => exact ⟨j + 1, by omega, by go_num, by rw [HNX.out]; simp⟩
              case measure => simp [intOf]; omega
            · have e1 : outB a k x = false := outB_false a k x (by omega)
              have e2 : decide (x < a) = false := by simp; omega
              have e3 : decide ((a : Int) + (k : Int) ≤ (x : Int)) = false := by simp; omega
              rw [e1] at HNX
              clear e1
              go_wp2
              go_round
              case rel => exact ⟨j + 1, by omega, by go_num, by rw [HNX.out]; simp⟩
              case measure => simp [intOf]; omega
        · have ej : ((xs.take j).filter (outB a k)).length = O := by
            rw [List.take_of_length_le (by rw [← HMM.out]; omega)]
            exact HO1.out
          rw [ej]
          clear ej
          go_wp2_with fail
          refine H4.out.mono ?_
          rintro e w' ⟨rfl, rfl⟩
          go_wp2_with fail
          refine HF2.out.mono ?_
          rintro e w5 ⟨rfl, ho5, ws5, hm5, hq5⟩
          have i5 := I4.out.only ho5 NE.out
          have n5 := count_any b c N ws5 w5 hm5
          rw [BM.cnt_congr (BM.on ws5) _ N (fun i _ => hq5 i), ← HO.out] at n5
          have N5 := Lib.hid n5
          have I5 := Lib.hid i5
          have HM5 := Lib.hid hm5
          have HQ5 := Lib.hid hq5
          have B5 : Below w.heap.size w w5 := B3.trans ((ho4.below q4).trans (ho5.below q4))
          have hT5 := hT3.below ((ho4.below q4).trans (ho5.below q4)) h0
          clear n5 i5 hm5 hq5 I4 HF2
          go_wp2_with fail
          refine N5.out.mono ?_
          rintro e w' ⟨rfl, rfl⟩
          go_wp2_with fail
          go_loop [99] (fun x => ∃ j : Nat, j ≤ M ∧ x = .int .i64 (j : Nat)) (fun x => M - (intOf x).toNat)
          case atStart => exact ⟨0, Nat.zero_le _, rfl⟩
          case round =>
            obtain ⟨j2, hj2, rfl⟩ := hrel
            by_cases hlt2 : j2 < M
            · obtain ⟨x, hx⟩ : ∃ x, xs[j2]? = some x := ⟨xs[j2]'(by rw [← HMM.out]; exact hlt2), by simp⟩
              obtain ⟨g, off, rfl, hcell⟩ := I5.out.at_ hx
              obtain ⟨hxN, hxf⟩ := HAT.out j2 x hx
              have hh := has_in b c N x ws5 w5 HM5.out hxN
              rw [HQ5.out x, HQ4.out x, hxf] at hh
              clear hxf hx
              by_cases g1 : x < a
              · rw [if_neg (by omega), if_neg (by omega)] at hh
                have HH := Lib.hid hh
                clear hh
                go_wp2_with (first
                  | (go_at_call 13; refine HH.out.mono ?_; rintro e w' ⟨rfl, rfl⟩))
                go_round
                case rel => exact ⟨j2 + 1, by omega, by go_num⟩
                case measure => simp [intOf]; omega
              · have e2 : decide (x < a) = false := by simp; omega
                by_cases g2 : a + k ≤ x
                · rw [if_neg (by omega), if_neg (by omega)] at hh
                  have HH := Lib.hid hh
                  have e3 : decide ((a : Int) + (k : Int) ≤ (x : Int)) = true := by simp; omega
                  clear hh
                  go_wp2_with (first
                    | (go_at_call 13; refine HH.out.mono ?_; rintro e w' ⟨rfl, rfl⟩))
                  go_round
                  case rel => exact ⟨j2 + 1, by omega, by go_num⟩
                  case measure => simp [intOf]; omega
                · rw [if_pos (by omega)] at hh
                  have HH := Lib.hid hh
                  have e3 : decide ((a : Int) + (k : Int) ≤ (x : Int)) = false := by simp; omega
                  clear hh
                  go_wp2_with (first
                    | (go_at_call 13; refine HH.out.mono ?_; rintro e w' ⟨rfl, rfl⟩))
                  go_round
                  case rel => exact ⟨j2 + 1, by omega, by go_num⟩
                  case measure => simp [intOf]; omega
            · have ff := first_any b c N a ws5 w5 HM5.out hT5
              by_cases hk0 : k = 0
              · subst hk0
                obtain ⟨d, v, e1⟩ := firstVal_is (BM.on ws5) N a
                rw [e1] at ff
                have FF := Lib.hid ff
                clear ff e1
                go_wp2_with fail
                refine FF.out.mono ?_
                rintro e w' ⟨rfl, rfl⟩
                go_wp2
                all_goals go_ret
                all_goals exact ⟨rfl, B5⟩
              · have e1 : firstVal (BM.on ws5) N a = .tuple #[.int .i64 (a : Nat), .bool true] := firstVal_yes ha (by omega) (by rw [HQ5.out a, if_pos (by omega)]) (fun q h1 h2 => absurd h1 (by omega))
                rw [e1] at ff
                have FF := Lib.hid ff
                have e3 : ((k : Int) == 0) = false := by simp; omega
                clear ff e1
                go_wp2_with fail
                refine FF.out.mono ?_
                rintro e w' ⟨rfl, rfl⟩
                go_wp2
                go_ret
                exact ⟨rfl, B5⟩
end Go.Proofs.YthbclmolegnhiaaDoor
