/- Contracts of the small functions of package layout and of the document's answers for it: what each call returns, in what world. -/
import Derived.Test.YteneadimchhhhaaDoorSl
import Derived.Test.YteneadimchhhhaaDoorPut
import Derived.Test.YteneadimchhhhaaDoorMgLyMath
import Derived.Deep.QuietTactic
import Derived.BigQuiet
namespace Go.Proofs.YteneadimchhhhaaDoor
open Go.RowKit

set_option maxHeartbeats 400000 in
theorem lrise_any (A : Option Addr) (n c : Nat) (xs : List Int) (K : Int) (B : Nat) (w : World) (hn : n ≤ 1000000) (hK : I64 K) (h : NS .i64 w B A n xs) :
    Calls Tryd.prog 72 #[.slice A n c, .int .i64 K] w fun e w' => e = .returned (.bool (LM.rise 0 K xs)) ∧ w = w' := by
  obtain ⟨hK1, hK2⟩ := hK
  have HN := Lib.hid h
  clear h
  go_enter Tryd.func72, Tryd.ntmps72
  go_wp2
  go_loop [5, 10] (fun t i => ∃ (k : Nat) (lo : Int), k ≤ n ∧ i = .int .i64 k ∧ t = .int .i64 lo ∧ Hid (LM.rise 0 K xs = LM.rise lo K (xs.drop k))) (fun _ i => n - (intOf i).toNat)
  case atStart => exact ⟨0, 0, Nat.zero_le _, rfl, rfl, rfl⟩
  case round =>
    obtain ⟨k, lo, hk, rfl, rfl, HR⟩ := hrel
    by_cases hlt : k < n
    · obtain ⟨b, off, p, rfl, hbB, hd, hwf, hc⟩ := HN.out.at_ hlt
      have hp := bounds_i64 hwf
      have HD := Lib.hid hd
      clear hd hwf
      by_cases h1 : p < lo
      · have d1 : decide (p < lo) = true := by simpa using h1
        go_wp2
        go_ret
        exact ⟨ret_bool (by rw [HR.out, HD.out, LM.rise_low _ _ _ _ h1]), rfl⟩
      · have d1 : decide (p < lo) = false := by simpa using h1
        by_cases h2 : K ≤ p
        · have d2 : decide (K ≤ p) = true := by simpa using h2
          go_wp2
          go_ret
          exact ⟨ret_bool (by rw [HR.out, HD.out, LM.rise_high _ _ _ _ h2]), rfl⟩
        · have d2 : decide (K ≤ p) = false := by simpa using h2
          go_wp2
          go_round
          case rel => exact ⟨k + 1, p + 1, by omega, by go_num, rfl, by rw [HR.out, HD.out, LM.rise_next _ _ _ _ (by omega) (by omega)]; exact rfl⟩
          case measure => simp [intOf]; omega
    · go_wp2
      go_ret
      have hl := HN.out.1
      exact ⟨ret_bool (by rw [HR.out, List.drop_eq_nil_of_le (by omega)]; rfl), rfl⟩

set_option maxHeartbeats 400000 in
theorem refRise_any (A : Option Addr) (n c : Nat) (xs : List Int) (K : Int) (B : Nat) (w : World) (hn : n ≤ 1000000) (h : NS .i64 w B A n xs) :
    Calls Tryd.prog 59 #[.slice A n c, .int .i64 K] w fun e w' => e = .returned (.bool (LM.rise 0 K xs)) ∧ w = w' := by
  have HN := Lib.hid h
  clear h
  go_enter Tryd.func59, Tryd.ntmps59
  go_wp2
  go_loop [5, 6] (fun t i => ∃ (k : Nat) (lo : Int), k ≤ n ∧ i = .int .i64 k ∧ t = .int .i64 lo ∧ Hid (LM.rise 0 K xs = LM.rise (lo + 1) K (xs.drop k))) (fun _ i => n - (intOf i).toNat)
  case atStart => exact ⟨0, -1, Nat.zero_le _, rfl, rfl, rfl⟩
  case round =>
    obtain ⟨k, lo, hk, rfl, rfl, HR⟩ := hrel
    by_cases hlt : k < n
    · obtain ⟨b, off, p, rfl, hbB, hd, hwf, hc⟩ := HN.out.at_ hlt
      have hp := bounds_i64 hwf
      have HD := Lib.hid hd
      clear hd hwf
      by_cases h1 : p ≤ lo
      · have d1 : decide (p ≤ lo) = true := by simpa using h1
        go_wp2
        go_ret
        exact ⟨ret_bool (by rw [HR.out, HD.out, LM.rise_low _ _ _ _ (by omega)]), rfl⟩
      · have d1 : decide (p ≤ lo) = false := by simpa using h1
        by_cases h2 : K ≤ p
        · have d2 : decide (K ≤ p) = true := by simpa using h2
          go_wp2
          go_ret
          exact ⟨ret_bool (by rw [HR.out, HD.out, LM.rise_high _ _ _ _ h2]), rfl⟩
        · have d2 : decide (K ≤ p) = false := by simpa using h2
          go_wp2
          go_round
          case rel => exact ⟨k + 1, p, by omega, by go_num, rfl, by rw [HR.out, HD.out, LM.rise_next _ _ _ _ (by omega) (by omega)]; exact rfl⟩
          case measure => simp [intOf]; omega
    · go_wp2
      go_ret
      have hl := HN.out.1
      exact ⟨ret_bool (by rw [HR.out, List.drop_eq_nil_of_le (by omega)]; rfl), rfl⟩

/-- Where a number stands first, or -1. -/
def firstIdx (x : Int) : List Int → Nat → Int
  | [], _ => -1
  | y :: t, k => if x = y then k else firstIdx x t (k + 1)
theorem firstIdx_has (x : Int) : ∀ (xs : List Int) (k : Nat), decide (0 ≤ firstIdx x xs k) = LM.has xs x := by
  intro xs
  induction xs with
  | nil => intro k; simp [firstIdx, LM.has]
  | cons y t ih =>
    intro k
    unfold firstIdx
    by_cases e : x = y
    · subst e
      rw [if_pos rfl, Bool.eq_iff_iff, LM.has_iff]
      simp
    · rw [if_neg e, ih, Bool.eq_iff_iff, LM.has_iff, LM.has_iff]
      simp [e]

set_option maxHeartbeats 400000 in
theorem index_any (A : Option Addr) (n c : Nat) (xs : List Int) (x : Int) (B : Nat) (w : World) (hn : n ≤ 1000000) (h : NS .i64 w B A n xs) :
    Calls Tryd.prog 81 #[.slice A n c, .int .i64 x] w fun e w' => e = .returned (.int .i64 (firstIdx x xs 0)) ∧ w = w' := by
  have HN := Lib.hid h
  clear h
  go_enter Tryd.func81, Tryd.ntmps81
  go_wp2
  go_loop [8] (fun i => ∃ (k : Nat), k ≤ n ∧ i = .int .i64 k ∧ Hid (firstIdx x xs 0 = firstIdx x (xs.drop k) k)) (fun i => n - (intOf i).toNat)
  case atStart => exact ⟨0, Nat.zero_le _, rfl, rfl⟩
  case round =>
    obtain ⟨k, hk, rfl, HR⟩ := hrel
    by_cases hlt : k < n
    · obtain ⟨b, off, p, rfl, hbB, hd, hwf, hc⟩ := HN.out.at_ hlt
      have HD := Lib.hid hd
      clear hd hwf
      by_cases h1 : x = p
      · have d1 : (x == p) = true := by simpa using h1
        have H1 := Lib.hid h1
        clear h1
        go_wp2
        go_ret
        exact ⟨ret_int (by rw [HR.out, HD.out, firstIdx, if_pos H1.out]), rfl⟩
      · have d1 : (x == p) = false := by simpa using h1
        have H1 := Lib.hid h1
        clear h1
        go_wp2
        go_round
        case rel => exact ⟨k + 1, by omega, by go_num, by rw [HR.out, HD.out, firstIdx, if_neg H1.out]; exact rfl⟩
        case measure => simp [intOf]; omega
    · go_wp2
      go_ret
      have hl := HN.out.1
      exact ⟨ret_int (by rw [HR.out, List.drop_eq_nil_of_le (by omega)]; rfl), rfl⟩

set_option maxHeartbeats 400000 in
theorem contains_any (A : Option Addr) (n c : Nat) (xs : List Int) (x : Int) (B : Nat) (w : World) (hn : n ≤ 1000000) (h : NS .i64 w B A n xs) :
    Calls Tryd.prog 77 #[.slice A n c, .int .i64 x] w fun e w' => e = .returned (.bool (LM.has xs x)) ∧ w = w' := by
  have HN := Lib.hid h
  clear h
  go_enter Tryd.func77, Tryd.ntmps77
  go_wp2_with (first
    | (go_at_call 81; refine (index_any A n c xs x B _ hn HN.out).mono ?_; rintro e w' ⟨rfl, rfl⟩))
  go_ret
  exact ⟨ret_bool (firstIdx_has x xs 0), rfl⟩

set_option maxHeartbeats 400000 in
theorem lhas_any (A : Option Addr) (n c : Nat) (xs : List Int) (x : Int) (B : Nat) (w : World) (hn : n ≤ 1000000) (h : NS .i64 w B A n xs) :
    Calls Tryd.prog 42 #[.slice A n c, .int .i64 x] w fun e w' => e = .returned (.bool (LM.has xs x)) ∧ w = w' := by
  have HN := Lib.hid h
  clear h
  go_enter Tryd.func42, Tryd.ntmps42
  go_wp2
  go_loop [5] (fun i => ∃ (k : Nat), k ≤ n ∧ i = .int .i64 k ∧ Hid (LM.has xs x = LM.has (xs.drop k) x)) (fun i => n - (intOf i).toNat)
  case atStart => exact ⟨0, Nat.zero_le _, rfl, rfl⟩
  case round =>
    obtain ⟨k, hk, rfl, HR⟩ := hrel
    by_cases hlt : k < n
    · obtain ⟨b, off, p, rfl, hbB, hd, hwf, hc⟩ := HN.out.at_ hlt
      have HD := Lib.hid hd
      clear hd hwf
      by_cases h1 : p = x
      · have d1 : (p == x) = true := by simpa using h1
        have H1 := Lib.hid h1
        clear h1
        go_wp2
        go_ret
        exact ⟨ret_bool (by rw [HR.out, HD.out, eq_comm, LM.has_iff, H1.out]; simp), rfl⟩
      · have d1 : (p == x) = false := by simpa using h1
        have H1 := Lib.hid h1
        clear h1
        go_wp2
        go_round
        case rel =>
          refine ⟨k + 1, by omega, by go_num, ?_⟩
          have := H1.out
          show LM.has xs x = _
          rw [HR.out, HD.out, Bool.eq_iff_iff, LM.has_iff, LM.has_iff]
          simp [Ne.symm this]
        case measure => simp [intOf]; omega
    · go_wp2
      go_ret
      have hl := HN.out.1
      exact ⟨ret_bool (by rw [HR.out, List.drop_eq_nil_of_le (by omega)]; rfl), rfl⟩

theorem NS.alloc {k : IntKind} {w : World} {B n : Nat} {A : Option Addr} {xs : List Int} (h : NS k w B A n xs) (hB : B ≤ w.heap.size) (o : Obj) : NS k (w.alloc o) B A n xs := h.below ((Below.refl B w).alloc hB o)

end Go.Proofs.YteneadimchhhhaaDoor
