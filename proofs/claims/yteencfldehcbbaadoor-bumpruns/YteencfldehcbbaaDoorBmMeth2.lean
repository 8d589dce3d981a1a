/- Contracts of Run, Count, Set, Fill, New of package bitmap. -/
import Derived.Test.YteencfldehcbbaaDoorBmMeth
namespace Go.Proofs.YteencfldehcbbaaDoor
open Go.RowKit

theorem run_small (b : Nat) (k : Int) (w : World) (hk : k < 1) :
    Calls Tryd.prog 74 #[.pointer (some ⟨b, 0, none⟩), .int .i64 k] w fun e w' => e = .returned (.tuple #[.int .i64 0, .bool false]) ∧ w = w' := by
  go_enter Tryd.func74, Tryd.ntmps74
  go_wp2
  go_ret2
  exact ⟨rfl, rfl⟩

theorem runVal_yes {f : Nat → Bool} {n k p : Nat} (hk : 1 ≤ k) (h : BM.rn f n k = p) (hp : p < n + 1 - k) : runVal f n (k : Int) = .tuple #[.int .i64 (p : Nat), .bool true] := by
  unfold runVal
  rw [Int.toNat_natCast, h, if_pos (by omega)]
theorem runVal_no {f : Nat → Bool} {n k : Nat} (h : ¬ BM.rn f n k < n + 1 - k) : runVal f n (k : Int) = .tuple #[.int .i64 0, .bool false] := by
  unfold runVal
  rw [Int.toNat_natCast, if_neg (by omega)]
/-- Where the loop of Run stands. -/
def RunLoop (f : Nat → Bool) (n k : Nat) (x : Value) : Prop := ∃ p : Nat, x = .int .i64 p ∧ BM.RunSt f n k p

set_option maxHeartbeats 1000000 in
theorem run_big (b c n k : Nat) (ws : Nat → Nat) (w : World) (h : MapAt w b c n ws) (hT : Tab w) (hk : 1 ≤ k) (hk2 : k ≤ 9223372036854775807) :
    Calls Tryd.prog 74 #[.pointer (some ⟨b, 0, none⟩), .int .i64 k] w fun e w' => e = .returned (runVal (BM.on ws) n k) ∧ w = w' := by
  have h2 := h.n2
  have c0 := h.len
  go_enter Tryd.func74, Tryd.ntmps74
  go_wp2_with (first
    | (go_at_call 77; refine (next_any b c n 0 ws false _ h hT (by omega)).mono ?_; rintro e w' ⟨rfl, rfl⟩))
  go_loop [6] (RunLoop (BM.on ws) n k) (fun x => (n - (intOf x).toNat))
  case atStart => exact ⟨_, rfl, BM.run_start _ _ _ hk⟩
  case round =>
    obtain ⟨p, rfl, hst⟩ := hrel
    have hp := hst.1
    by_cases hlt : p + k ≤ n
    · have d1 : decide ((k : Int) ≤ (n : Int) - (p : Int)) = true := by simp; omega
      have hle := BM.nx_le (BM.on ws) n true p
      have hge := BM.nx_ge (BM.on ws) n true p hp
      by_cases he : p + k ≤ BM.nx (BM.on ws) n true p
      · have hR := Lib.hid (BM.run_found _ _ _ _ hst hlt he)
        have c1 := next_any b c n p ws true w h hT (by omega)
        generalize BM.nx (BM.on ws) n true p = q at *
        have C1 := Lib.hid c1
        clear c1
        have d2 : decide ((k : Int) ≤ (q : Int) - (p : Int)) = true := by simp; omega
        go_wp2_with (first
          | (go_at_call 78; refine (len_any b n _ c0).mono ?_; rintro e w' ⟨rfl, rfl⟩)
          | (go_at_call 77; refine C1.out.mono ?_; rintro e w' ⟨rfl, rfl⟩))
        go_ret2
        exact ⟨by rw [runVal_yes hk hR.out (by omega)]; rfl, rfl⟩
      · obtain ⟨s1, s2⟩ := BM.run_next _ _ _ _ hk hst hlt (by omega)
        have c1 := next_any b c n p ws true w h hT (by omega)
        generalize BM.nx (BM.on ws) n true p = q at *
        have c2 := next_any b c n q ws false w h hT (by omega)
        have C1 := Lib.hid c1
        have C2 := Lib.hid c2
        clear c1 c2
        have d2 : decide ((k : Int) ≤ (q : Int) - (p : Int)) = false := by simp; omega
        go_wp2_with (first
          | (go_at_call 78; refine (len_any b n _ c0).mono ?_; rintro e w' ⟨rfl, rfl⟩)
          | (go_at_call 77; with_reducible refine C1.out.mono ?_; clear C1; rintro e w' ⟨rfl, rfl⟩)
          | (go_at_call 77; with_reducible refine C2.out.mono ?_; rintro e w' ⟨rfl, rfl⟩))
        go_round
        case rel => exact ⟨_, rfl, s1⟩
        case measure => have := s1.1; simp [intOf]; omega
    · have d1 : decide ((k : Int) ≤ (n : Int) - (p : Int)) = false := by simp; omega
      go_wp2_with (first
        | (go_at_call 78; refine (len_any b n _ c0).mono ?_; rintro e w' ⟨rfl, rfl⟩))
      go_ret2
      exact ⟨by rw [runVal_no (by rw [BM.run_end _ _ _ _ hst (by omega)]; omega)]; rfl, rfl⟩
theorem run_any (b c n : Nat) (k : Int) (ws : Nat → Nat) (w : World) (h : MapAt w b c n ws) (hT : Tab w) (hk2 : k ≤ 9223372036854775807) :
    Calls Tryd.prog 74 #[.pointer (some ⟨b, 0, none⟩), .int .i64 k] w fun e w' => e = .returned (runVal (BM.on ws) n k) ∧ w = w' := by
  by_cases hk : k < 1
  · unfold runVal
    rw [if_neg (by omega)]
    exact run_small b k w hk
  · obtain ⟨j, rfl⟩ := Int.eq_ofNat_of_zero_le (show 0 ≤ k by omega)
    exact run_big b c n j ws w h hT (by omega) (by omega)
theorem run_nil (w : World) :
    Calls Tryd.prog 74 #[.pointer none, .int .i64 1] w fun e w' => e = .returned (.tuple #[.int .i64 0, .bool false]) ∧ w = w' := by
  go_enter Tryd.func74, Tryd.ntmps74
  go_wp2_with (first
    | (go_at_call 77; refine (next_nil _ _ _ (by omega)).mono ?_; rintro e w' ⟨rfl, rfl⟩))
  go_loop [6] (fun x => x = .int .i64 0) (fun _ => 0)
  case atStart => rfl
  case round =>
    obtain rfl := hrel
    go_wp2_with (first
      | (go_at_call 78; refine (len_nil _).mono ?_; rintro e w' ⟨rfl, rfl⟩))
    go_ret2
    exact ⟨rfl, rfl⟩

theorem cnt_word (ws : Nat → Nat) (k : Nat) : BM.cnt (BM.on ws) (64 * (k + 1)) = BM.cnt (BM.on ws) (64 * k) + BM.cnt (ws k).testBit 64 := by
  rw [show 64 * (k + 1) = 64 * k + 64 by omega, BM.cnt_add]
  congr 1
  refine BM.cnt_congr _ _ _ fun i hi => ?_
  unfold BM.on
  rw [show (64 * k + i) / 64 = k by omega, show (64 * k + i) % 64 = i by omega]
theorem cnt_past (f : Nat → Bool) (n m : Nat) (hm : n ≤ m) (h : ∀ i, n ≤ i → f i = false) : BM.cnt f m = BM.cnt f n := by
  obtain ⟨d, rfl⟩ : ∃ d, m = n + d := ⟨m - n, by omega⟩
  rw [BM.cnt_add, BM.cnt_none (fun i => f (n + i)) d (fun i _ => h _ (by omega))]
  rfl

set_option maxHeartbeats 1000000 in
theorem count_any (b c n : Nat) (ws : Nat → Nat) (w : World) (h : MapAt w b c n ws) :
    Calls Tryd.prog 46 #[.pointer (some ⟨b, 0, none⟩)] w fun e w' => e = .returned (.int .i64 (BM.cnt (BM.on ws) n : Nat)) ∧ w = w' := by
  have h1 := h.n1
  have h2 := h.n2
  have c0 := h.len
  have c1 := h.row
  go_enter Tryd.func46, Tryd.ntmps46
  go_wp2
  go_loop [3, 13] (fun s i => ∃ k : Nat, k ≤ (n + 63) / 64 ∧ i = .int .i64 k ∧ s = .int .i64 (BM.cnt (BM.on ws) (64 * k) : Nat)) (fun _ i => ((n + 63) / 64 - (intOf i).toNat))
  case atStart => exact ⟨0, by omega, rfl, rfl⟩
  case round =>
    obtain ⟨k, hk, rfl, rfl⟩ := hrel
    by_cases hlt : k < (n + 63) / 64
    · have c2 := h.word k hlt
      have o := ones_any (ws k) (h.lt k) w
      have hcw := cnt_word ws k
      have hle := BM.cnt_le (BM.on ws) (64 * k)
      have hle2 := BM.cnt_le (ws k).testBit 64
      have hC := Lib.hid hcw
      clear hcw
      generalize BM.cnt (ws k).testBit 64 = r at *
      generalize BM.cnt (BM.on ws) (64 * k) = s at *
      have O := Lib.hid o
      clear o
      go_wp2_with (first
        | (go_at_call 62; refine O.out.mono ?_; rintro e w' ⟨rfl, rfl⟩))
      go_round
      case rel => exact ⟨k + 1, by omega, by go_num, by rw [hC.out]; go_num⟩
      case measure => simp [intOf]; omega
    · go_wp2
      go_ret
      exact ⟨ret_int (by rw [cnt_past (BM.on ws) n (64 * k) (by omega) h.past]), rfl⟩
theorem count_nil (w : World) :
    Calls Tryd.prog 46 #[.pointer none] w fun e w' => e = .returned (.int .i64 0) ∧ w = w' := by
  go_enter Tryd.func46, Tryd.ntmps46
  go_wp2
  go_ret
  exact ⟨rfl, rfl⟩
/-- What Has tells. -/
def hasB (f : Nat → Bool) (n : Nat) (i : Int) : Bool := decide (0 ≤ i) && decide (i < n) && f i.toNat
end Go.Proofs.YteencfldehcbbaaDoor
