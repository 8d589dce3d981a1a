/- The law BitmapNews: how many places there may be; of none nothing is told. -/
import Derived.Test.YthbclmolegnhiaaDoorBmAlive
namespace Go.Proofs.YthbclmolegnhiaaDoor
open Go.RowKit

set_option maxRecDepth 100000 in
set_option maxHeartbeats 2000000 in
theorem news_walk (n : Int) (w : World) (hn : -9223372036854775808 ≤ n ∧ n ≤ 9223372036854775807) (hT : Tab w) :
    Calls Tryd.prog 3 #[.int .i64 n] w fun e w' => e = .returned (.bool true) ∧ Below w.heap.size w w' := by
  have h0 := hT.pos
  by_cases hin : 1 ≤ n ∧ n ≤ 1048576
  · obtain ⟨k, rfl⟩ := Int.eq_ofNat_of_zero_le (show 0 ≤ n by omega)
    have h1 : 1 ≤ k := by omega
    have h2 : k ≤ 1048576 := by omega
    clear hin hn
    go_enter Tryd.func3, Tryd.ntmps3
    go_wp2_with (first
      | (go_at_call 9; refine (first_nil _).mono ?_; rintro e w' ⟨rfl, rfl⟩)
      | (go_at_call 10; refine (run_nil _).mono ?_; rintro e w' ⟨rfl, rfl⟩)
      | (go_at_call 11; refine (alive_any _ hT).mono ?_; rintro e w1 ⟨rfl, hb1⟩)
      | (go_at_call 12; refine (len_nil _).mono ?_; rintro e w' ⟨rfl, rfl⟩)
      | (go_at_call 13; refine (has_nil _).mono ?_; rintro e w' ⟨rfl, rfl⟩)
      | (go_at_call 14; refine (set_nil _).mono ?_; rintro e w' ⟨rfl, rfl⟩)
      | (go_at_call 15; refine (fill_nil _).mono ?_; rintro e w' ⟨rfl, rfl⟩)
      | (go_at_call 16; refine (count_nil _).mono ?_; rintro e w' ⟨rfl, rfl⟩)
      | (go_at_call 17; refine (all_none _).mono ?_; intro e w2 hp; obtain ⟨A, cc, rfl, his, hb2, hA⟩ := hp.use; clear hp his hA))
    refine (new_ok k _ h1 h2).mono ?_
    rintro e w3 ⟨rfl, hm3, hb3, hs3⟩
    have l3 := len_any _ k w3 hm3.len
    have k3 := count_any _ _ k _ w3 hm3
    have a3 := has_any _ _ k ((k : Int) - 1) _ w3 hm3
    rw [show BM.cnt (BM.on fun _ => 0) k = 0 from BM.cnt_none _ _ fun i _ => by simp [BM.on]] at k3
    rw [show hasB (BM.on fun _ => 0) k ((k : Int) - 1) = false by simp [hasB, BM.on]] at a3
    have L3 := Lib.hid l3
    have K3 := Lib.hid k3
    have A3 := Lib.hid a3
    have B3 : Below w.heap.size w w3 := (hb1.trans (hb2.mono hb1.size)).trans (hb3.mono (Nat.le_trans hb1.size hb2.size))
    clear hs3 l3 k3 a3
    go_wp2_with (first
      | (go_at_call 12; refine L3.out.mono ?_; rintro e w' ⟨rfl, rfl⟩)
      | (go_at_call 16; refine K3.out.mono ?_; rintro e w' ⟨rfl, rfl⟩)
      | (go_at_call 13; refine A3.out.mono ?_; rintro e w' ⟨rfl, rfl⟩))
    go_ret
    exact ⟨rfl, B3⟩
  · have hout : n < 1 ∨ (1 ≤ n ∧ 1048576 < n) := by omega
    clear hin hn
    rcases hout with hout | ⟨hout, hout2⟩
    all_goals
      go_enter Tryd.func3, Tryd.ntmps3
      go_wp2_with (first
        | (go_at_call 9; refine (first_nil _).mono ?_; rintro e w' ⟨rfl, rfl⟩)
        | (go_at_call 10; refine (run_nil _).mono ?_; rintro e w' ⟨rfl, rfl⟩)
        | (go_at_call 11; refine (alive_any _ hT).mono ?_; rintro e w1 ⟨rfl, hb1⟩)
        | (go_at_call 12; refine (len_nil _).mono ?_; rintro e w' ⟨rfl, rfl⟩)
        | (go_at_call 13; refine (has_nil _).mono ?_; rintro e w' ⟨rfl, rfl⟩)
        | (go_at_call 14; refine (set_nil _).mono ?_; rintro e w' ⟨rfl, rfl⟩)
        | (go_at_call 15; refine (fill_nil _).mono ?_; rintro e w' ⟨rfl, rfl⟩)
        | (go_at_call 16; refine (count_nil _).mono ?_; rintro e w' ⟨rfl, rfl⟩)
        | (go_at_call 17; refine (all_none _).mono ?_; intro e w2 hp; obtain ⟨A, cc, rfl, his, hb2, hA⟩ := hp.use; clear hp his hA))
      refine (new_no n _ (by omega)).mono ?_
      rintro e w' ⟨rfl, rfl⟩
      go_wp2
      go_ret
      exact ⟨rfl, hb1.trans (hb2.mono hb1.size)⟩
end Go.Proofs.YthbclmolegnhiaaDoor
