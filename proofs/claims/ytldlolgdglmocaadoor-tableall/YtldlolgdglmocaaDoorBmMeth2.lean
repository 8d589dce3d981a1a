/- Contracts of Run, Count, Set, Fill, New of package bitmap. -/
import Derived.Test.YtldlolgdglmocaaDoorBmMeth
namespace Go.Proofs.YtldlolgdglmocaaDoor
open Go.RowKit

theorem runVal_yes {f : Nat → Bool} {n k p : Nat} (hk : 1 ≤ k) (h : BM.rn f n k = p) (hp : p < n + 1 - k) : runVal f n (k : Int) = .tuple #[.int .i64 (p : Nat), .bool true] := by
  unfold runVal
  rw [Int.toNat_natCast, h, if_pos (by omega)]
theorem runVal_no {f : Nat → Bool} {n k : Nat} (h : ¬ BM.rn f n k < n + 1 - k) : runVal f n (k : Int) = .tuple #[.int .i64 0, .bool false] := by
  unfold runVal
  rw [Int.toNat_natCast, if_neg (by omega)]
/-- Where the loop of Run stands. -/
def RunLoop (f : Nat → Bool) (n k : Nat) (x : Value) : Prop := ∃ p : Nat, x = .int .i64 p ∧ BM.RunSt f n k p

theorem cnt_word (ws : Nat → Nat) (k : Nat) : BM.cnt (BM.on ws) (64 * (k + 1)) = BM.cnt (BM.on ws) (64 * k) + BM.cnt (ws k).testBit 64 := by
  rw [show 64 * (k + 1) = 64 * k + 64 by omega, BM.cnt_add]
  congr 1
  refine BM.cnt_congr _ _ _ fun i hi => ?_
  unfold BM.on
  rw [show (64 * k + i) / 64 = k by omega, show (64 * k + i) % 64 = i by omega]
theorem cnt_past (f : Nat → Bool) (n m : Nat) (hm : n ≤ m) (h : ∀ i, n ≤ i → f i = false) : BM.cnt f m = BM.cnt f n := by
  obtain ⟨d, rfl⟩ : ∃ d, m = n + d := ⟨m - n, by omega⟩
  rw [BM.cnt_add, BM.cnt_none (fun i => f (n + i)) d (fun i _ => h _ (by omega))]
  rfl

set_option maxHeartbeats 1000000 in
theorem count_any (b c n : Nat) (ws : Nat → Nat) (w : World) (h : MapAt w b c n ws) :
    Calls Tryd.prog 37 #[.pointer (some ⟨b, 0, none⟩)] w fun e w' => e = .returned (.int .i64 (BM.cnt (BM.on ws) n : Nat)) ∧ w = w' := by
  have h1 := h.n1
  have h2 := h.n2
  have c0 := h.len
  have c1 := h.row
  go_enter Tryd.func37, Tryd.ntmps37
  go_wp2
  go_loop [3, 13] (fun s i => ∃ k : Nat, k ≤ (n + 63) / 64 ∧ i = .int .i64 k ∧ s = .int .i64 (BM.cnt (BM.on ws) (64 * k) : Nat)) (fun _ i => ((n + 63) / 64 - (intOf i).toNat))
  case atStart => exact ⟨0, by omega, rfl, rfl⟩
  case round =>
    obtain ⟨k, hk, rfl, rfl⟩ := hrel
    by_cases hlt : k < (n + 63) / 64
    · have c2 := h.word k hlt
      have o := ones_any (ws k) (h.lt k) w
      have hcw := cnt_word ws k
      have hle := BM.cnt_le (BM.on ws) (64 * k)
      have hle2 := BM.cnt_le (ws k).testBit 64
      have hC := Lib.hid hcw
      clear hcw
      generalize BM.cnt (ws k).testBit 64 = r at *
      generalize BM.cnt (BM.on ws) (64 * k) = s at *
      have O := Lib.hid o
      clear o
      go_wp2_with (first
        | (go_at_call 42; refine O.out.mono ?_; rintro e w' ⟨rfl, rfl⟩))
      go_round
      case rel => exact ⟨k + 1, by omega, by go_num, by rw [hC.out]; go_num⟩
      case measure => simp [intOf]; omega
    · go_wp2
      go_ret
      exact ⟨ret_int (by rw [cnt_past (BM.on ws) n (64 * k) (by omega) h.past]), rfl⟩
theorem count_nil (w : World) :
    Calls Tryd.prog 37 #[.pointer none] w fun e w' => e = .returned (.int .i64 0) ∧ w = w' := by
  go_enter Tryd.func37, Tryd.ntmps37
  go_wp2
  go_ret
  exact ⟨rfl, rfl⟩
theorem has_nil (w : World) :
    Calls Tryd.prog 29 #[.pointer none, .int .i64 0] w fun e w' => e = .returned (.bool false) ∧ w = w' := by
  go_enter Tryd.func29, Tryd.ntmps29
  go_wp2_with (first
      | (go_at_call 38; refine (len_nil _).mono ?_; rintro e w' ⟨rfl, rfl⟩))
  go_ret
  exact ⟨rfl, rfl⟩
/-- What Has tells. -/
def hasB (f : Nat → Bool) (n : Nat) (i : Int) : Bool := decide (0 ≤ i) && decide (i < n) && f i.toNat
theorem has_any (b c n : Nat) (i : Int) (ws : Nat → Nat) (w : World) (h : MapAt w b c n ws) :
    Calls Tryd.prog 29 #[.pointer (some ⟨b, 0, none⟩), .int .i64 i] w fun e w' => e = .returned (.bool (hasB (BM.on ws) n i)) ∧ w = w' := by
  unfold hasB
  by_cases h0 : 0 ≤ i
  · by_cases h1 : i < n
    · obtain ⟨k, rfl⟩ := Int.eq_ofNat_of_zero_le h0
      have := has_in b c n k ws w h (by omega)
      have e : (decide (0 ≤ (k : Int)) && decide ((k : Int) < (n : Int)) && BM.on ws (k : Int).toNat) = BM.on ws k := by
        rw [Int.toNat_natCast]; simp; omega
      rw [e]
      exact this
    · have e : (decide (0 ≤ i) && decide (i < (n : Int)) && BM.on ws i.toNat) = false := by simp [h1]
      rw [e]
      exact has_out b n i w h.len (.inr (by omega))
  · have e : (decide (0 ≤ i) && decide (i < (n : Int)) && BM.on ws i.toNat) = false := by simp [h0]
    rw [e]
    exact has_out b n i w h.len (.inl (by omega))
end Go.Proofs.YtldlolgdglmocaaDoor
