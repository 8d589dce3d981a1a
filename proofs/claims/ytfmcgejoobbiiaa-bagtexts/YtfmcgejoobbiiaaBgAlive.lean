/- Contracts of the document's Same where both have the same, and of the law package's alive. -/
import Derived.Test.YtfmcgejoobbiiaaBgAll
namespace Go.Proofs.Ytfmcgejoobbiiaa
open Go.RowKit Go.Lib Go.Sort

theorem row_of {w : World} {base n : Nat} {v : Value} {xs : List Int} (h : w.ownsRow base 3 1 v n (xs.map (Value.int .i64))) : ∃ r, IRow w r v xs ∧ base ≤ r := by
  rcases h.2 with ⟨rfl, _⟩ | ⟨g, cap, cur, rfl, hg, hh, _⟩
  · exact ⟨base, Row.of_own h rfl (fun k e => by simp [Value.ownBlock] at e), Nat.le_refl _⟩
  · exact ⟨g, Row.of_own h rfl (fun k e => by simp [Value.ownBlock] at e; omega), hg⟩

set_option maxHeartbeats 1000000 in
theorem sameI_any (r1 r2 : Nat) (u v : Value) (xs : List Int) (w : World) (hn : xs.length ≤ 1000000) (hx : IRow w r1 u xs) (hy : IRow w r2 v xs) :
    Calls Try.prog 23 #[u, v] w fun e w' => e = .returned (.bool true) ∧ ∃ m, w' = w.drewN m := by
  have HA := Lib.hid hx
  have HB := Lib.hid hy
  obtain ⟨A1, c1, rfl, _⟩ := hx.slice
  obtain ⟨A2, c2, rfl, _⟩ := hy.slice
  clear hx hy
  go_enter Try.func23, Try.ntmps23
  go_wp2
  go_loopw [5] (fun x wr => ∃ k j : Nat, k ≤ xs.length ∧ x = .int .i64 k ∧ wr = w.drewN j) (fun x _ => xs.length - (intOf x).toNat)
  case atStart => exact ⟨0, 0, Nat.zero_le _, rfl, rfl⟩
  case round =>
    obtain ⟨k, j, hk, rfl, rfl⟩ := hrel
    by_cases hlt : k < xs.length
    · obtain ⟨cap1, e1, _, c1⟩ := HA.out.cell hlt
      obtain ⟨cap2, e2, _, c2⟩ := HB.out.cell hlt
      injection e1 with e1 _ e1'
      injection e2 with e2 _ e2'
      subst e1 e1' e2 e2'
      have d1 : (w.drewN j).cell? ⟨r1, k, none⟩ = some (.int .i64 xs[k]) := c1
      have d2 : (w.drewN j).cell? ⟨r2, k, none⟩ = some (.int .i64 xs[k]) := c2
      generalize xs[k] = p at d1 d2 c1 c2
      go_wp2
      go_quiet (fail)
      go_wp2
      go_roundw
      case rel => exact ⟨k + 1, _, by omega, by go_num, rfl⟩
      case measure => simp [intOf]; omega
    · go_wp2
      go_ret
      exact ⟨rfl, j, rfl⟩

theorem alive_list : BG.norm [3, 1, 3] = [1, 3] := BG.ext _ _ (BG.norm_rises _) (by simp [BG.Rises]) fun x => by
  rw [BG.mem_norm]
  simp
  omega
theorem alive_fst : BG.fstV [1, 3] 2 = 3 ∧ BG.fstB [1, 3] 2 = true := by decide
set_option maxHeartbeats 1000000 in
theorem alive_any (w : World) : Calls Try.prog 12 #[] w fun e w' => e = .returned (.bool true) ∧ Below w.heap.size w w' := by
  have h0 : Reads (Value.int .i64) (w.alloc (.cells #[.int .i64 3, .int .i64 1, .int .i64 3] 3)) (some ⟨w.heap.size, 0, none⟩) 3 [3, 1, 3] := ⟨rfl, fun _ => ⟨w.heap.size, 0, rfl, by simp, fun j hj => by
    rw [Nat.zero_add, (Whole.fresh w _ _).cell]
    have : j = 0 ∨ j = 1 ∨ j = 2 := by simp at hj; omega
    rcases this with rfl | rfl | rfl <;> rfl⟩⟩
  have HN := Lib.hid (new_any (some ⟨w.heap.size, 0, none⟩) 3 3 [3, 1, 3] _ h0 (by decide))
  rw [alive_list] at HN
  clear h0
  go_enter Try.func12, Try.ntmps12
  go_wp2_with fail
  refine HN.out.mono ?_
  rintro e w1 ⟨b, r, rfl, h1, hb, hr, hB⟩
  have H1 := Lib.hid h1
  have B1 := Lib.hid (((Below.refl w.heap.size w).alloc (Nat.le_refl _) _).trans (hB.mono (by simp)))
  clear h1 hB HN
  go_wp2_with fail
  have hf := first_any H1.out (by decide) 2
  rw [alive_fst.1, alive_fst.2] at hf
  refine hf.mono ?_
  rintro e w2 ⟨rfl, q, rfl⟩
  have H2 : Hid (IBag (w1.drewN q) b r [1, 3]) := Lib.hid (H1.out.drewN q)
  have B2 : Hid (Below w.heap.size w (w1.drewN q)) := Lib.hid ⟨B1.out.os, B1.out.tape, B1.out.output, B1.out.size, B1.out.block⟩
  clear H1 B1 hf
  generalize w1.drewN q = w2 at *
  go_wp2_with fail
  refine (all_any H2.out (by decide)).mono ?_
  rintro e w3 ⟨v3, rfl, h3, hb3⟩
  obtain ⟨r3, hr3, hr4⟩ := row_of h3
  have R3 := Lib.hid hr3
  have H3 := Lib.hid (H2.out.below hb3)
  have B3 := Lib.hid (B2.out.trans (hb3.mono B2.out.size))
  clear h3 hb3 hr3
  go_wp2_with fail
  have hw4 : IRow (w3.alloc (.cells #[.int .i64 1, .int .i64 3] 3)) w3.heap.size (.slice (some ⟨w3.heap.size, 0, none⟩) 2 2) [1, 3] := Row.mk' (l := [1, 3]) (Whole.fresh w3 _ _) (Nat.le_refl _) (by decide) rfl (fun j hj => by
    have : j = 0 ∨ j = 1 := by simp at hj; omega
    rcases this with rfl | rfl <;> rfl)
  refine (sameI_any r3 w3.heap.size v3 _ [1, 3] _ (by decide) (R3.out.alloc _) hw4).mono ?_
  rintro e w4 ⟨rfl, q4, rfl⟩
  have H4 : Hid (IBag ((w3.alloc (.cells #[.int .i64 1, .int .i64 3] 3)).drewN q4) b r [1, 3]) := Lib.hid ((H3.out.alloc _).drewN q4)
  have B4 : Hid (Below w.heap.size w ((w3.alloc (.cells #[.int .i64 1, .int .i64 3] 3)).drewN q4)) := Lib.hid (by
    have := B3.out.alloc B3.out.size (.cells #[.int .i64 1, .int .i64 3] 3)
    exact ⟨this.os, this.tape, this.output, this.size, this.block⟩)
  clear hw4
  generalize (w3.alloc (.cells #[.int .i64 1, .int .i64 3] 3)).drewN q4 = w4 at *
  go_wp2_with fail
  refine (len_any H4.out).mono ?_
  rintro e w5 ⟨rfl, rfl⟩
  go_wp2
  go_ret
  exact ⟨rfl, B4.out⟩
end Go.Proofs.Ytfmcgejoobbiiaa
