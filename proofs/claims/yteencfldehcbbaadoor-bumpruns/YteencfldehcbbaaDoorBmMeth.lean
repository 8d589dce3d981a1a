/- Contracts of First, Run, Count, Set, Fill, New of package bitmap. -/
import Derived.Test.YteencfldehcbbaaDoorBmNext
import Derived.Test.YteencfldehcbbaaDoorBmTurn
import Derived.Test.YteencfldehcbbaaDoorBmMath2
namespace Go.Proofs.YteencfldehcbbaaDoor
open Go.RowKit

set_option maxHeartbeats 400000 in
theorem next_out (b n : Nat) (i : Int) (v : Bool) (w : World) (h : w.cell? ⟨b, 0, none⟩ = some (.int .i64 n)) (hi : (n : Int) ≤ i) :
    Calls Tryd.prog 77 #[.pointer (some ⟨b, 0, none⟩), .int .i64 i, .bool v] w fun e w' => e = .returned (.int .i64 n) ∧ w = w' := by
  have d1 : decide (i < (n : Int)) = false := by simp; omega
  go_enter Tryd.func77, Tryd.ntmps77
  go_wp2
  go_loop [1] (fun x => x = .int .i64 i) (fun _ => 0)
  case atStart => rfl
  case round =>
    obtain rfl := hrel
    go_wp2_with (first
      | (go_at_call 78; refine (len_any b n _ h).mono ?_; rintro e w' ⟨rfl, rfl⟩))
    go_ret
    exact ⟨rfl, rfl⟩
set_option maxHeartbeats 400000 in
theorem next_nil (i : Int) (v : Bool) (w : World) (hi : 0 ≤ i) :
    Calls Tryd.prog 77 #[.pointer none, .int .i64 i, .bool v] w fun e w' => e = .returned (.int .i64 0) ∧ w = w' := by
  have d1 : decide (i < 0) = false := by simp; omega
  go_enter Tryd.func77, Tryd.ntmps77
  go_wp2
  go_loop [1] (fun x => x = .int .i64 i) (fun _ => 0)
  case atStart => rfl
  case round =>
    obtain rfl := hrel
    go_wp2_with (first
      | (go_at_call 78; refine (len_nil _).mono ?_; rintro e w' ⟨rfl, rfl⟩))
    go_ret
    exact ⟨rfl, rfl⟩

theorem next_all (b c n : Nat) (i : Int) (ws : Nat → Nat) (v : Bool) (w : World) (h : MapAt w b c n ws) (hT : Tab w) (hi : 0 ≤ i) :
    Calls Tryd.prog 77 #[.pointer (some ⟨b, 0, none⟩), .int .i64 i, .bool v] w fun e w' => e = .returned (.int .i64 (BM.nx (BM.on ws) n v i.toNat : Nat)) ∧ w = w' := by
  have h2 := h.n2
  by_cases hn : (n : Int) ≤ i
  · rw [BM.nx_out _ _ _ _ (by omega)]
    exact next_out b n i v w h.len hn
  · obtain ⟨k, rfl⟩ := Int.eq_ofNat_of_zero_le hi
    rw [Int.toNat_natCast]
    exact next_any b c n k ws v w h hT (by omega)

/-- What First tells. -/
def firstVal (f : Nat → Bool) (n : Nat) (i : Int) : Value := if BM.nx f n false i.toNat < n then .tuple #[.int .i64 (BM.nx f n false i.toNat : Nat), .bool true] else .tuple #[.int .i64 0, .bool false]
/-- What Run tells. -/
def runVal (f : Nat → Bool) (n : Nat) (k : Int) : Value := if 1 ≤ k ∧ BM.rn f n k.toNat < n + 1 - k.toNat then .tuple #[.int .i64 (BM.rn f n k.toNat : Nat), .bool true] else .tuple #[.int .i64 0, .bool false]

end Go.Proofs.YteencfldehcbbaaDoor
