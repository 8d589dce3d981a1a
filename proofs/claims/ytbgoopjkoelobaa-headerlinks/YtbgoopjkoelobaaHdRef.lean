/- Contracts of the document's answers for layer 5: May, Encode, Decode, MayLink, Word, Link. -/
import Derived.Test.YtbgoopjkoelobaaHdMath
import Derived.Test.YtbgoopjkoelobaaLeaf
namespace Go.Proofs.Ytbgoopjkoelobaa
open Go.RowKit

set_option maxHeartbeats 1000000 in
theorem rmay_any (L C S : Int) (w : World) : Calls Try.prog 10 #[.agg #[.int .i64 L, .int .i64 C, .int .i64 S]] w fun e w' => e = .returned (.bool (HM.may L C S)) ∧ w.alloc (.cells #[.int .i64 L, .int .i64 C, .int .i64 S] 23) = w' := by
  go_enter Try.func10, Try.ntmps10
  go_wp2
  all_goals go_ret
  all_goals refine ⟨ret_bool ?_, rfl⟩
  all_goals (unfold HM.may; rw [Bool.eq_iff_iff]; simp [*]; try omega)

theorem HM.rword {L C S : Int} (h : HM.may L C S = true) : IntKind.u64.wrap (IntKind.u64.wrap (IntKind.u64.wrap (IntKind.u64.wrap (IntKind.u64.wrap (2768240640 + IntKind.u64.wrap L) * 65536) + IntKind.u64.wrap C) * 65536) + IntKind.u64.wrap S) = HM.word L C S := by
  rw [HM.may_iff] at h
  simp only [IntKind.wrap_u64]
  unfold HM.word
  omega

set_option maxHeartbeats 1000000 in
theorem rencode_any (L C S : Int) (h : HM.may L C S = true) (w : World) : Calls Try.prog 11 #[.agg #[.int .i64 L, .int .i64 C, .int .i64 S]] w fun e w' => e = .returned (.int .u64 (HM.word L C S)) ∧ w.alloc (.cells #[.int .i64 L, .int .i64 C, .int .i64 S] 23) = w' := by
  have H := Lib.hid h
  clear h
  go_enter Try.func11, Try.ntmps11
  go_wp2
  go_ret
  exact ⟨ret_int (HM.rword H.out), rfl⟩
end Go.Proofs.Ytbgoopjkoelobaa
