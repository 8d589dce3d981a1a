/- Contracts of the document's own answers for fields: Get, Put, Fits. -/
import Derived.Test.YtbiacpickfdeaaaPut
import Derived.Test.YtbiacpickfdeaaaMath2
namespace Go.Proofs.Ytbiacpickfdeaaa
open Go.RowKit

set_option maxHeartbeats 1000000 in
theorem refGet_any (x a b : Int) (hx : FM.Word x) (h : FM.right a b = true) (w : World) :
    Calls Try.prog 17 #[.int .u64 x, .int .i64 a, .int .i64 b] w fun e w' => e = .returned (.int .u64 (FM.num x a b)) ∧ w = w' := by
  obtain ⟨h1, h2, h3, h4⟩ := (FM.right_iff a b).1 h
  have H := Lib.hid h
  clear h
  go_enter Try.func17, Try.ntmps17
  go_wp2
  go_loop [7, 8] (fun t i => ∃ k : Nat, (k : Int) ≤ b ∧ i = .int .i64 ((k : Int) - 1) ∧ t = .int .u64 (FM.numN x.toNat (a.toNat + k) (b.toNat - k) : Int)) (fun _ i => (intOf i + 1).toNat)
  case atStart => exact ⟨b.toNat, by omega, by rw [show ((b.toNat : Nat) : Int) = b by omega], by rw [Nat.sub_self, FM.numN_zero]; rfl⟩
  case round =>
    obtain ⟨k, hk, rfl, rfl⟩ := hrel
    by_cases h0 : k = 0
    · subst h0
      go_wp2
      go_ret
      exact ⟨ret_int (by unfold FM.num; simp), rfl⟩
    · obtain ⟨m, rfl⟩ : ∃ m, k = m + 1 := ⟨k - 1, by omega⟩
      have hm : (((m + 1 : Nat) : Int) - 1) = m := by omega
      rw [hm]
      have hm1 : (m : Int) + 1 ≤ b := by omega
      go_wp2_with (first
        | (go_at_call 25; refine (bit_any x (a + m) hx (by omega) (by omega) _).mono ?_; rintro e w' ⟨rfl, rfl⟩))
      go_round
      case rel => exact ⟨m, by omega, by go_num, by rw [← FM.get_round x a b m H.out hm1]⟩
      case measure => simp [intOf]

set_option maxHeartbeats 1000000 in
theorem refPut_any (x a b y : Int) (hx : FM.Word x) (hy : FM.Word y) (h : FM.right a b = true) (hf : FM.fits y b = true) (w : World) :
    Calls Try.prog 20 #[.int .u64 x, .int .i64 a, .int .i64 b, .int .u64 y] w fun e w' => e = .returned (.int .u64 (FM.put x a b y)) ∧ w = w' := by
  obtain ⟨h1, h2, h3, h4⟩ := (FM.right_iff a b).1 h
  have hT : FM.putN x.toNat a.toNat b.toNat y.toNat < 18446744073709551616 := by have := (FM.put_word x a b y hx hy.1 h hf).2; unfold FM.put at this; omega
  obtain ⟨T, hTe⟩ : ∃ T, T = FM.putN x.toNat a.toNat b.toNat y.toNat := ⟨_, rfl⟩
  rw [← hTe] at hT
  have HT := Lib.hid hTe
  have HIn := Lib.hid (fun k h1 h2 => FM.put_in x a b y k h hy.1 hf h1 h2)
  have HOut := Lib.hid (fun k hk h1 => FM.put_out x a b y k h hy.1 hf hk h1)
  clear h hf hTe
  go_enter Try.func20, Try.ntmps20
  go_wp2
  go_loop [9, 10] (fun t i => ∃ k : Nat, k ≤ 64 ∧ i = .int .i64 ((k : Int) - 1) ∧ t = .int .u64 ((T / 2 ^ k : Nat) : Int)) (fun _ i => (intOf i + 1).toNat)
  case atStart => exact ⟨64, by omega, rfl, by rw [FM.div64 T hT]; rfl⟩
  case round =>
    obtain ⟨k, hk, rfl, rfl⟩ := hrel
    by_cases h0 : k = 0
    · subst h0
      go_wp2
      go_ret
      exact ⟨ret_int (by unfold FM.put; rw [← HT.out]), rfl⟩
    · obtain ⟨m, rfl⟩ : ∃ m, k = m + 1 := ⟨k - 1, by omega⟩
      have hm : (((m + 1 : Nat) : Int) - 1) = m := by omega
      rw [hm]
      have hmk : m < 64 := by omega
      by_cases hin : a ≤ (m : Int) ∧ (m : Int) < a + b
      · obtain ⟨hi1, hi2⟩ := hin
        go_wp2_with fail
        refine (bit_any x m hx (by omega) (by omega) _).mono ?_
        rintro e w' ⟨rfl, rfl⟩
        go_wp2_with fail
        refine (bit_any y (m - a) hy (by omega) (by omega) _).mono ?_
        rintro e w' ⟨rfl, rfl⟩
        go_wp2
        go_round
        case rel => exact ⟨m, by omega, by go_num, by rw [← FM.put_round T m hT, HT.out, ← HIn.out m hi1 hi2]; rfl⟩
        case measure => simp [intOf]
      · have HO := Lib.hid (HOut.out m hmk hin)
        rcases (show (m : Int) < a ∨ (a ≤ (m : Int) ∧ a + b ≤ m) by omega) with hlo | ⟨hlo, hhi⟩
        all_goals
          clear hin
          go_wp2_with fail
          refine (bit_any x m hx (by omega) (by omega) _).mono ?_
          rintro e w' ⟨rfl, rfl⟩
          go_wp2
          go_round
          case rel => exact ⟨m, by omega, by go_num, by rw [← FM.put_round T m hT, HT.out, ← HO.out]; rfl⟩
          case measure => simp [intOf]

set_option maxHeartbeats 400000 in
theorem fits_any (y b : Int) (hy : FM.Word y) (h1 : 1 ≤ b) (h2 : b ≤ 64) (w : World) :
    Calls Try.prog 19 #[.int .u64 y, .int .i64 b] w fun e w' => e = .returned (.bool (FM.fits y b)) ∧ w = w' := by
  by_cases h : b = 64
  · subst h
    have hf := FM.fits_64 y hy
    go_enter Try.func19, Try.ntmps19
    go_wp2
    go_ret
    exact ⟨ret_bool hf.symm, rfl⟩
  · have h3 : b ≤ 63 := by omega
    have hf := Lib.hid (FM.fits_lt y b hy.1 h3)
    clear h
    go_enter Try.func19, Try.ntmps19
    go_wp2
    go_ret
    exact ⟨ret_bool (by rw [hf.out, show decide (64 ≤ b) = false by simp; omega]; rfl), rfl⟩
end Go.Proofs.Ytbiacpickfdeaaa
