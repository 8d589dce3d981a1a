/- The law FieldHalves: what a field has is what its lower part and its upper part have. -/
import Derived.Test.YtbiacpickfdeaaaAlive
namespace Go.Proofs.Ytbiacpickfdeaaa
open Go.RowKit

set_option maxHeartbeats 1000000 in
theorem halves_walk (x a b t : Int) (w : World) (hx : FM.Word x) (_ : -9223372036854775808 ≤ t ∧ t ≤ 9223372036854775807) :
    Calls Try.prog 9 #[.int .u64 x, .agg #[.int .i64 a, .int .i64 b], .int .i64 t] w fun e w' => e = .returned (.bool true) ∧ Below w.heap.size w w' := by
  by_cases hr : FM.right a b = true
  · by_cases h2 : b < 2
    · go_enter Try.func9, Try.ntmps9
      go_wp2_with (first
        | (go_at_call 12; refine (refRight_any a b _).mono ?_; rintro e w1 ⟨rfl, rfl⟩)
        | (go_at_call 13; refine (alive_any _).mono ?_; rintro e w2 ⟨rfl, hb2⟩))
      go_ret
      exact ⟨rfl, ((Below.refl _ _).alloc (Nat.le_refl _) _).trans (hb2.mono (by simp))⟩
    · obtain ⟨h3, h4, h5, h6⟩ := (FM.right_iff a b).1 hr
      have h7 : 2 ≤ b := by omega
      go_enter Try.func9, Try.ntmps9
      go_wp2_with (first
        | (go_at_call 12; refine (refRight_any a b _).mono ?_; rintro e w1 ⟨rfl, rfl⟩))
      obtain ⟨k, hk, hk1, hk2⟩ := FM.cut_ex t b h7 (by omega)
      rw [hk]
      clear hk
      have hE := FM.halves_eq x a b k hr hk1 hk2
      have hr1 : FM.right a k = true := (FM.right_iff a k).2 (by omega)
      have hr2 : FM.right (a + k) (b - k) = true := (FM.right_iff _ _).2 (by omega)
      refine (get_ok x a b hx hr _).mono ?_
      rintro e w1 ⟨rfl, hb1⟩
      obtain ⟨hc1, hf1⟩ := bcell hb1
      go_wp2_with fail
      refine (get_ok x a k hx hr1 _).mono ?_
      rintro e w2 ⟨rfl, hb2⟩
      have hz : w.heap.size < w1.heap.size := by have := hb1.size; simp at this; omega
      obtain ⟨hc2, hf2⟩ := bcell hb2
      go_wp2_with fail
      refine (get_ok x (a + k) (b - k) hx hr2 _).mono ?_
      rintro e w3 ⟨rfl, hb3⟩
      go_wp2_with (first
        | (go_at_call 13; refine (alive_any _).mono ?_; rintro e w4 ⟨rfl, hb4⟩))
      go_ret
      have s1 := hb1.size
      have s2 := hb2.size
      have s3 := hb3.size
      simp at s1
      exact ⟨rfl, ((((Below.refl _ _).alloc (Nat.le_refl _) _).trans (hb1.mono (by simp))).trans (hb2.mono (by omega))).trans ((hb3.mono (by omega)).trans (hb4.mono (by omega)))⟩
  · have hr' : FM.right a b = false := by simpa using hr
    clear hr
    go_enter Try.func9, Try.ntmps9
    go_wp2_with (first
        | (go_at_call 12; refine (refRight_any a b _).mono ?_; rintro e w1 ⟨rfl, rfl⟩)
        | (go_at_call 13; refine (alive_any _).mono ?_; rintro e w2 ⟨rfl, hb2⟩))
    go_ret
    exact ⟨rfl, ((Below.refl _ _).alloc (Nat.le_refl _) _).trans (hb2.mono (by simp))⟩
end Go.Proofs.Ytbiacpickfdeaaa
