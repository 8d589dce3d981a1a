/- Contracts of the small functions of package bitmap: what each call returns, in what world. -/
import Derived.Test.YtldlolgdglmocaaDoorRows
import Derived.Test.YtldlolgdglmocaaDoorBase
import Derived.Test.YtldlolgdglmocaaDoorBmMath
import Derived.WalkKit
import Derived.WalkSpells
import Derived.WalkLawsBesides
import Derived.RowKit3
import Derived.Below
import Derived.Lib.Hide
namespace Go.Proofs.YtldlolgdglmocaaDoor
open Go.RowKit


/-- The map's box and its words. -/
structure MapAt (w : World) (b c n : Nat) (ws : Nat → Nat) : Prop where
  n1 : 1 ≤ n
  n2 : n ≤ 1048576
  len : w.cell? ⟨b, 0, none⟩ = some (.int .i64 n)
  row : w.cell? ⟨b, 1, none⟩ = some (.slice (some ⟨c, 0, none⟩) ((n + 63) / 64) ((n + 63) / 64))
  word : ∀ k, k < (n + 63) / 64 → w.cell? ⟨c, k, none⟩ = some (.int .u64 (ws k))
  thaw : ∀ k, k < (n + 63) / 64 → w.frozen? ⟨c, k, none⟩ = false
  lt : ∀ k, ws k < 18446744073709551616
  past : ∀ i, n ≤ i → BM.on ws i = false
  ne : b ≠ c

set_option maxHeartbeats 400000 in
theorem len_any (b n : Nat) (w : World) (h : w.cell? ⟨b, 0, none⟩ = some (.int .i64 n)) :
    Calls Tryd.prog 38 #[.pointer (some ⟨b, 0, none⟩)] w fun e w' => e = .returned (.int .i64 n) ∧ w = w' := by
  go_enter Tryd.func38, Tryd.ntmps38
  go_wp2
  go_ret
  exact ⟨rfl, rfl⟩
theorem len_nil (w : World) :
    Calls Tryd.prog 38 #[.pointer none] w fun e w' => e = .returned (.int .i64 0) ∧ w = w' := by
  go_enter Tryd.func38, Tryd.ntmps38
  go_wp2
  go_ret
  exact ⟨rfl, rfl⟩

set_option maxHeartbeats 400000 in
theorem has_in (b c n i : Nat) (ws : Nat → Nat) (w : World) (h : MapAt w b c n ws) (hi : i < n) :
    Calls Tryd.prog 29 #[.pointer (some ⟨b, 0, none⟩), .int .i64 i] w fun e w' => e = .returned (.bool (BM.on ws i)) ∧ w = w' := by
  have h1 := h.n1
  have h2 := h.n2
  have c0 := h.len
  have c1 := h.row
  have hk : i / 64 < (n + 63) / 64 := by omega
  have c2 := h.word (i / 64) hk
  have hq : ((i : Int) / 64).toNat = i / 64 := by omega
  have d1 : decide (n ≤ i) = false := by simp; omega
  go_enter Tryd.func29, Tryd.ntmps29
  go_wp2_with (first
    | (go_at_call 38; refine (len_any b n _ h.len).mono ?_; rintro e w' ⟨rfl, rfl⟩))
  go_ret
  exact ⟨ret_bool (BM.has_bit _ _ (h.lt _)), rfl⟩

set_option maxHeartbeats 400000 in
theorem has_out (b n : Nat) (i : Int) (w : World) (h : w.cell? ⟨b, 0, none⟩ = some (.int .i64 n)) (hi : i < 0 ∨ (n : Int) ≤ i) :
    Calls Tryd.prog 29 #[.pointer (some ⟨b, 0, none⟩), .int .i64 i] w fun e w' => e = .returned (.bool false) ∧ w = w' := by
  rcases hi with hi | hi
  · go_enter Tryd.func29, Tryd.ntmps29
    go_wp2
    go_ret
    exact ⟨rfl, rfl⟩
  · have d1 : decide ((n : Int) ≤ i) = true := by simpa using hi
    have d2 : decide (i < 0) = false := by simp; omega
    go_enter Tryd.func29, Tryd.ntmps29
    go_wp2_with (first
      | (go_at_call 38; refine (len_any b n _ h).mono ?_; rintro e w' ⟨rfl, rfl⟩))
    go_ret
    exact ⟨rfl, rfl⟩
end Go.Proofs.YtldlolgdglmocaaDoor
