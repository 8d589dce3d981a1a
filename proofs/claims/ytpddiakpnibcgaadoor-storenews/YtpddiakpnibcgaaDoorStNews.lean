/- The law StoreNews: how many chunks and words there may be; of none nothing is told. -/
import Derived.Test.YtpddiakpnibcgaaDoorStAlive
namespace Go.Proofs.YtpddiakpnibcgaaDoor
open Go.RowKit

set_option maxRecDepth 100000 in
set_option maxHeartbeats 4000000 in
theorem news_in (c k : Nat) (w : World) (h1 : 1 ≤ c) (h2 : c ≤ 1024) (h3 : 1 ≤ k) (h4 : k ≤ 1024) (hT : Tab w) :
    Calls Tryd.prog 4 #[.agg #[.int .i64 c, .int .i64 k]] w fun e w' => e = .returned (.bool true) ∧ Below w.heap.size w w' := by
  have hb0 := (Below.refl w.heap.size w).alloc (Nat.le_refl _) (.cells #[.int .i64 c, .int .i64 k] 23)
  have T0 := hT.below hb0 hT.pos
  have hx := Whole.fresh w 23 #[.int .i64 c, .int .i64 k]
  have HX := Lib.hid hx
  have HB0 := Lib.hid hb0
  have HT0 := Lib.hid T0
  clear hx hb0 T0
  have d1 : ((c : Int) == (c : Int)) = true := by simp
  have d2 : ((k : Int) == (k : Int)) = true := by simp
  go_enter Tryd.func4, Tryd.ntmps4
  go_wp2_with (first
    | (go_at_call 16; refine (take_one (R := fun w' => _ = w') (take_nil _ 1 1)).mono ?_; rintro e w' ⟨rfl, rfl⟩)
    | (go_at_call 17; refine (take_nil _ 1 1).mono ?_; rintro e w' ⟨rfl, rfl⟩)
    | (go_at_call 18; refine (read_nil _ 0).mono ?_; rintro e w' ⟨rfl, rfl⟩)
    | (go_at_call 11; refine (alive_any _ HT0.out).mono ?_; rintro e w1 ⟨rfl, hb1⟩; have hx1 := HX.out.below hb1 (by simp); have e0 := (hx1.cell 0).trans rfl; have e1 := (hx1.cell 1).trans rfl; have B1 := Lib.hid (HB0.out.trans (hb1.mono HB0.out.size)); have l1 : w.heap.size < w1.heap.size := hx1.lt; clear hx1 hb1)
    | (go_at_call 19; refine (release_nil _).mono ?_; rintro e w' ⟨rfl, rfl⟩)
    | (go_at_call 20; refine (give_nil _).mono ?_; rintro e w' ⟨rfl, rfl⟩)
    | (go_at_call 21; refine (write_nil _).mono ?_; rintro e w' ⟨rfl, rfl⟩)
    | (go_at_call 22; refine (scopy_nil _).mono ?_; rintro e w' ⟨rfl, rfl⟩)
    | (go_at_call 23; refine (chunks_nil _).mono ?_; rintro e w' ⟨rfl, rfl⟩)
    | (go_at_call 24; refine (words_nil _).mono ?_; rintro e w' ⟨rfl, rfl⟩)
    | (go_at_call 25; refine (free_nil _).mono ?_; rintro e w' ⟨rfl, rfl⟩)
    | (go_at_call 15; refine (owner_nil _).mono ?_; rintro e w' ⟨rfl, rfl⟩)
    | (go_at_call 14; refine (owned_nil _).mono ?_; rintro e w' ⟨rfl, rfl⟩))
  refine (snew_ok c k _ h1 h2 h3 h4).mono ?_
  rintro e w3 ⟨B, rfl, hs3, hb3, hw3⟩
  have f0 := (hb3.cell (p := ⟨w.heap.size, 0, none⟩) l1).trans e0
  have f1 := (hb3.cell (p := ⟨w.heap.size, 1, none⟩) l1).trans e1
  have FR := Lib.hid (fun (W : World) (hW : W.heap = w3.heap) => free_any (hs3.heap hW))
  have WO := Lib.hid (fun (W : World) (hW : W.heap = w3.heap) => words_any (hs3.heap hW))
  have fz : frees (fun _ => 0) c = c := by unfold frees; rw [BM.cnt_none _ _ fun i _ => by simp [busy]]; omega
  rw [fz] at FR
  have B3 := Lib.hid (B1.out.trans (hb3.mono B1.out.size))
  clear hs3 hb3 hw3 e0 e1 B1 fz
  go_wp2_with fail
  go_quiet (first
    | (go_at_call 25; exact Calls.quiet_of (FR.out _ (by exact rfl)))
    | (go_at_call 24; exact Calls.quiet_of_same ((WO.out _ (by exact rfl)).mono fun _ _ ⟨he, hw⟩ => ⟨he, hw.symm⟩)))
  go_wp2
  go_ret
  exact ⟨rfl, below_drewN B3.out _⟩
set_option maxRecDepth 100000 in
set_option maxHeartbeats 4000000 in
theorem news_out (c k : Int) (w : World) (h : c < 1 ∨ (1 ≤ c ∧ 1024 < c) ∨ (1 ≤ c ∧ c ≤ 1024 ∧ k < 1) ∨ (1 ≤ c ∧ c ≤ 1024 ∧ 1 ≤ k ∧ 1024 < k)) (hT : Tab w) :
    Calls Tryd.prog 4 #[.agg #[.int .i64 c, .int .i64 k]] w fun e w' => e = .returned (.bool true) ∧ Below w.heap.size w w' := by
  have hb0 := (Below.refl w.heap.size w).alloc (Nat.le_refl _) (.cells #[.int .i64 c, .int .i64 k] 23)
  have T0 := hT.below hb0 hT.pos
  have hx := Whole.fresh w 23 #[.int .i64 c, .int .i64 k]
  have HX := Lib.hid hx
  have HB0 := Lib.hid hb0
  have HT0 := Lib.hid T0
  clear hx hb0 T0
  rcases h with a | ⟨a, b⟩ | ⟨a, b, d⟩ | ⟨a, b, d, e⟩
  all_goals
    go_enter Tryd.func4, Tryd.ntmps4
    go_wp2_with (first
      | (go_at_call 16; refine (take_one (R := fun w' => _ = w') (take_nil _ 1 1)).mono ?_; rintro e w' ⟨rfl, rfl⟩)
      | (go_at_call 17; refine (take_nil _ 1 1).mono ?_; rintro e w' ⟨rfl, rfl⟩)
      | (go_at_call 18; refine (read_nil _ 0).mono ?_; rintro e w' ⟨rfl, rfl⟩)
      | (go_at_call 11; refine (alive_any _ HT0.out).mono ?_; rintro e w1 ⟨rfl, hb1⟩; have hx1 := HX.out.below hb1 (by simp); have e0 := (hx1.cell 0).trans rfl; have e1 := (hx1.cell 1).trans rfl; have B1 := Lib.hid (HB0.out.trans (hb1.mono HB0.out.size)); clear hx1 hb1)
      | (go_at_call 19; refine (release_nil _).mono ?_; rintro e w' ⟨rfl, rfl⟩)
      | (go_at_call 20; refine (give_nil _).mono ?_; rintro e w' ⟨rfl, rfl⟩)
      | (go_at_call 21; refine (write_nil _).mono ?_; rintro e w' ⟨rfl, rfl⟩)
      | (go_at_call 22; refine (scopy_nil _).mono ?_; rintro e w' ⟨rfl, rfl⟩)
      | (go_at_call 23; refine (chunks_nil _).mono ?_; rintro e w' ⟨rfl, rfl⟩)
      | (go_at_call 24; refine (words_nil _).mono ?_; rintro e w' ⟨rfl, rfl⟩)
      | (go_at_call 25; refine (free_nil _).mono ?_; rintro e w' ⟨rfl, rfl⟩)
      | (go_at_call 15; refine (owner_nil _).mono ?_; rintro e w' ⟨rfl, rfl⟩)
      | (go_at_call 14; refine (owned_nil _).mono ?_; rintro e w' ⟨rfl, rfl⟩)
      | (go_at_call 26; refine (snew_no c k _ (by omega)).mono ?_; rintro e w' ⟨rfl, rfl⟩))
    go_ret
    exact ⟨rfl, B1.out⟩
theorem news_walk (c k : Int) (w : World) (hT : Tab w) :
    Calls Tryd.prog 4 #[.agg #[.int .i64 c, .int .i64 k]] w fun e w' => e = .returned (.bool true) ∧ Below w.heap.size w w' := by
  by_cases h : (1 ≤ c ∧ c ≤ 1024) ∧ 1 ≤ k ∧ k ≤ 1024
  · obtain ⟨a, rfl⟩ := Int.eq_ofNat_of_zero_le (show 0 ≤ c by omega)
    obtain ⟨b, rfl⟩ := Int.eq_ofNat_of_zero_le (show 0 ≤ k by omega)
    exact news_in a b w (by omega) (by omega) (by omega) (by omega) hT
  · exact news_out c k w (by omega) hT
end Go.Proofs.YtpddiakpnibcgaaDoor
