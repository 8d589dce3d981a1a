/- Contracts of First, Run, Count, Set, Fill, New of package bitmap. -/
import Derived.Test.YtldlolgdglmocaaDoorBmNext
import Derived.Test.YtldlolgdglmocaaDoorBmTurn
import Derived.Test.YtldlolgdglmocaaDoorBmMath2
namespace Go.Proofs.YtldlolgdglmocaaDoor
open Go.RowKit

set_option maxHeartbeats 400000 in
theorem next_out (b n : Nat) (i : Int) (v : Bool) (w : World) (h : w.cell? ⟨b, 0, none⟩ = some (.int .i64 n)) (hi : (n : Int) ≤ i) :
    Calls Tryd.prog 39 #[.pointer (some ⟨b, 0, none⟩), .int .i64 i, .bool v] w fun e w' => e = .returned (.int .i64 n) ∧ w = w' := by
  have d1 : decide (i < (n : Int)) = false := by simp; omega
  go_enter Tryd.func39, Tryd.ntmps39
  go_wp2
  go_loop [1] (fun x => x = .int .i64 i) (fun _ => 0)
  case atStart => rfl
  case round =>
    obtain rfl := hrel
    go_wp2_with (first
      | (go_at_call 38; refine (len_any b n _ h).mono ?_; rintro e w' ⟨rfl, rfl⟩))
    go_ret
    exact ⟨rfl, rfl⟩
set_option maxHeartbeats 400000 in
theorem next_nil (i : Int) (v : Bool) (w : World) (hi : 0 ≤ i) :
    Calls Tryd.prog 39 #[.pointer none, .int .i64 i, .bool v] w fun e w' => e = .returned (.int .i64 0) ∧ w = w' := by
  have d1 : decide (i < 0) = false := by simp; omega
  go_enter Tryd.func39, Tryd.ntmps39
  go_wp2
  go_loop [1] (fun x => x = .int .i64 i) (fun _ => 0)
  case atStart => rfl
  case round =>
    obtain rfl := hrel
    go_wp2_with (first
      | (go_at_call 38; refine (len_nil _).mono ?_; rintro e w' ⟨rfl, rfl⟩))
    go_ret
    exact ⟨rfl, rfl⟩

theorem next_all (b c n : Nat) (i : Int) (ws : Nat → Nat) (v : Bool) (w : World) (h : MapAt w b c n ws) (hT : Tab w) (hi : 0 ≤ i) :
    Calls Tryd.prog 39 #[.pointer (some ⟨b, 0, none⟩), .int .i64 i, .bool v] w fun e w' => e = .returned (.int .i64 (BM.nx (BM.on ws) n v i.toNat : Nat)) ∧ w = w' := by
  have h2 := h.n2
  by_cases hn : (n : Int) ≤ i
  · rw [BM.nx_out _ _ _ _ (by omega)]
    exact next_out b n i v w h.len hn
  · obtain ⟨k, rfl⟩ := Int.eq_ofNat_of_zero_le hi
    rw [Int.toNat_natCast]
    exact next_any b c n k ws v w h hT (by omega)

/-- What First tells. -/
def firstVal (f : Nat → Bool) (n : Nat) (i : Int) : Value := if BM.nx f n false i.toNat < n then .tuple #[.int .i64 (BM.nx f n false i.toNat : Nat), .bool true] else .tuple #[.int .i64 0, .bool false]
/-- What Run tells. -/
def runVal (f : Nat → Bool) (n : Nat) (k : Int) : Value := if 1 ≤ k ∧ BM.rn f n k.toNat < n + 1 - k.toNat then .tuple #[.int .i64 (BM.rn f n k.toNat : Nat), .bool true] else .tuple #[.int .i64 0, .bool false]

set_option maxHeartbeats 400000 in
theorem first_any (b c n : Nat) (i : Int) (ws : Nat → Nat) (w : World) (h : MapAt w b c n ws) (hT : Tab w) :
    Calls Tryd.prog 32 #[.pointer (some ⟨b, 0, none⟩), .int .i64 i] w fun e w' => e = .returned (firstVal (BM.on ws) n i) ∧ w = w' := by
  have hle := BM.nx_le (BM.on ws) n false i.toNat
  have c0 := h.len
  have key : ∀ j : Int, 0 ≤ j → j.toNat = i.toNat → Calls Tryd.prog 39 #[.pointer (some ⟨b, 0, none⟩), .int .i64 j, .bool false] w fun e w' => e = .returned (.int .i64 (BM.nx (BM.on ws) n false i.toNat : Nat)) ∧ w = w' := by
    intro j hj e
    rw [← e]
    exact next_all b c n j ws false w h hT hj
  have K := Lib.hid key
  clear key
  unfold firstVal
  by_cases hlt : BM.nx (BM.on ws) n false i.toNat < n
  · rw [if_pos hlt]
    generalize BM.nx (BM.on ws) n false i.toNat = r at *
    have d : ((r : Int) == (n : Int)) = false := by simp; omega
    have d2 : (r == n) = false := by simp; omega
    by_cases hi : 0 ≤ i
    · go_enter Tryd.func32, Tryd.ntmps32
      go_wp2_with (first
        | (go_at_call 38; refine (len_any b n _ c0).mono ?_; rintro e w' ⟨rfl, rfl⟩)
        | (go_at_call 39; refine (K.out _ (by omega) (by omega)).mono ?_; rintro e w' ⟨rfl, rfl⟩))
      go_ret2
      exact ⟨rfl, rfl⟩
    · go_enter Tryd.func32, Tryd.ntmps32
      go_wp2_with (first
        | (go_at_call 38; refine (len_any b n _ c0).mono ?_; rintro e w' ⟨rfl, rfl⟩)
        | (go_at_call 39; refine (K.out _ (by omega) (by omega)).mono ?_; rintro e w' ⟨rfl, rfl⟩))
      go_ret2
      exact ⟨rfl, rfl⟩
  · rw [if_neg hlt]
    have e : BM.nx (BM.on ws) n false i.toNat = n := by omega
    rw [e] at K
    clear hlt hle e
    have d : ((n : Int) == (n : Int)) = true := by simp
    by_cases hi : 0 ≤ i
    · go_enter Tryd.func32, Tryd.ntmps32
      go_wp2_with (first
        | (go_at_call 38; refine (len_any b n _ c0).mono ?_; rintro e w' ⟨rfl, rfl⟩)
        | (go_at_call 39; refine (K.out _ (by omega) (by omega)).mono ?_; rintro e w' ⟨rfl, rfl⟩))
      go_ret2
      exact ⟨rfl, rfl⟩
    · go_enter Tryd.func32, Tryd.ntmps32
      go_wp2_with (first
        | (go_at_call 38; refine (len_any b n _ c0).mono ?_; rintro e w' ⟨rfl, rfl⟩)
        | (go_at_call 39; refine (K.out _ (by omega) (by omega)).mono ?_; rintro e w' ⟨rfl, rfl⟩))
      go_ret2
      exact ⟨rfl, rfl⟩
theorem first_nil (w : World) :
    Calls Tryd.prog 32 #[.pointer none, .int .i64 0] w fun e w' => e = .returned (.tuple #[.int .i64 0, .bool false]) ∧ w = w' := by
  go_enter Tryd.func32, Tryd.ntmps32
  go_wp2_with (first
    | (go_at_call 38; refine (len_nil _).mono ?_; rintro e w' ⟨rfl, rfl⟩)
    | (go_at_call 39; refine (next_nil _ _ _ (by omega)).mono ?_; rintro e w' ⟨rfl, rfl⟩))
  go_ret2
  exact ⟨rfl, rfl⟩
end Go.Proofs.YtldlolgdglmocaaDoor
