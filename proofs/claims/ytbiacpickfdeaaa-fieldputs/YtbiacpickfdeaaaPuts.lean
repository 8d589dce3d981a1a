/- The law FieldPuts, walked: of any word, field and number the word with it is the document's, or the error. -/
import Derived.Test.YtbiacpickfdeaaaAlive
import Derived.Test.YtbiacpickfdeaaaRef
namespace Go.Proofs.Ytbiacpickfdeaaa
open Go.RowKit

set_option maxHeartbeats 1000000 in
theorem puts_walk (x a b y : Int) (w : World) (hx : FM.Word x) (hy : FM.Word y) :
    Calls Try.prog 4 #[.int .u64 x, .agg #[.int .i64 a, .int .i64 b], .int .u64 y] w fun e w' => e = .returned (.bool true) ∧ Below w.heap.size w w' := by
  by_cases hr : FM.right a b = true
  · obtain ⟨h1, h2, h3, h4⟩ := (FM.right_iff a b).1 hr
    have h5 : b ≤ 64 := by omega
    by_cases hf : FM.fits y b = true
    · go_enter Try.func4, Try.ntmps4
      go_wp2_with (first
        | (go_at_call 18; refine (put_ok x a b y hx hy hr hf _).mono ?_; rintro e w1 ⟨rfl, hb1⟩; obtain ⟨hc1, hf1⟩ := bcell hb1)
        | (go_at_call 12; refine (refRight_any a b _).mono ?_; rintro e w2 ⟨rfl, rfl⟩)
        | (go_at_call 19; refine (fits_any y b hy h3 h5 _).mono ?_; rintro e w2 ⟨rfl, rfl⟩)
        | (go_at_call 20; refine (refPut_any x a b y hx hy hr hf _).mono ?_; rintro e w2 ⟨rfl, rfl⟩)
        | (go_at_call 13; refine (alive_any _).mono ?_; rintro e w3 ⟨rfl, hb3⟩; obtain ⟨hc3, hf3⟩ := bcell hb3; have hz3 : w.heap.size < w1.heap.size := by (have := hb1.size; simp at this; omega)))
      go_ret
      exact ⟨rfl, (((Below.refl _ _).alloc (Nat.le_refl _) _).trans (hb1.mono (by simp))).trans (hb3.mono (by omega))⟩
    · have hf' : FM.fits y b = false := by simpa using hf
      clear hf
      go_enter Try.func4, Try.ntmps4
      go_wp2_with (first
        | (go_at_call 18; refine (put_range x a b y hr hf' _).mono ?_; rintro e w1 ⟨rfl, hb1⟩; obtain ⟨hc1, hf1⟩ := bcell hb1)
        | (go_at_call 12; refine (refRight_any a b _).mono ?_; rintro e w2 ⟨rfl, rfl⟩)
        | (go_at_call 19; refine (fits_any y b hy h3 h5 _).mono ?_; rintro e w2 ⟨rfl, rfl⟩)
        | (go_at_call 13; refine (alive_any _).mono ?_; rintro e w3 ⟨rfl, hb3⟩))
      go_ret
      have hz3 := hb1.size
      simp at hz3
      exact ⟨rfl, (((Below.refl _ _).alloc (Nat.le_refl _) _).trans (hb1.mono (by simp))).trans (hb3.mono (by omega))⟩
  · have hr' : FM.right a b = false := by simpa using hr
    clear hr
    go_enter Try.func4, Try.ntmps4
    go_wp2_with (first
        | (go_at_call 18; refine (put_no x a b y hr' _).mono ?_; rintro e w1 ⟨rfl, hb1⟩; obtain ⟨hc1, hf1⟩ := bcell hb1)
        | (go_at_call 12; refine (refRight_any a b _).mono ?_; rintro e w2 ⟨rfl, rfl⟩)
        | (go_at_call 13; refine (alive_any _).mono ?_; rintro e w3 ⟨rfl, hb3⟩))
    go_ret
    have hz3 := hb1.size
    simp at hz3
    exact ⟨rfl, (((Below.refl _ _).alloc (Nat.le_refl _) _).trans (hb1.mono (by simp))).trans (hb3.mono (by omega))⟩
end Go.Proofs.Ytbiacpickfdeaaa
