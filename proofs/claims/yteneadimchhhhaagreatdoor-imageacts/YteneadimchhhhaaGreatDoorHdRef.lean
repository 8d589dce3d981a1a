/- Contracts of the document's answers for layer 5: May, Encode, Decode, MayLink, Word, Link. -/
import Derived.Test.YteneadimchhhhaaGreatDoorMgLyMath
import Derived.Test.YteneadimchhhhaaGreatDoorMgSl
namespace Go.Proofs.YteneadimchhhhaaGreatDoor
open Go.RowKit

set_option maxHeartbeats 1000000 in
theorem rmay_any (L C S : Int) (w : World) : Calls Tryz.prog 58 #[.agg #[.int .i64 L, .int .i64 C, .int .i64 S]] w fun e w' => e = .returned (.bool (HM.may L C S)) ∧ w.alloc (.cells #[.int .i64 L, .int .i64 C, .int .i64 S] 32) = w' := by
  go_enter Tryz.func58, Tryz.ntmps58
  go_wp2
  all_goals go_ret
  all_goals refine ⟨ret_bool ?_, rfl⟩
  all_goals (unfold HM.may; rw [Bool.eq_iff_iff]; simp [*]; try omega)

theorem HM.rword {L C S : Int} (h : HM.may L C S = true) : IntKind.u64.wrap (IntKind.u64.wrap (IntKind.u64.wrap (IntKind.u64.wrap (IntKind.u64.wrap (2768240640 + IntKind.u64.wrap L) * 65536) + IntKind.u64.wrap C) * 65536) + IntKind.u64.wrap S) = HM.word L C S := by
  rw [HM.may_iff] at h
  simp only [IntKind.wrap_u64]
  unfold HM.word
  omega

set_option maxHeartbeats 1000000 in
theorem rencode_any (L C S : Int) (h : HM.may L C S = true) (w : World) : Calls Tryz.prog 59 #[.agg #[.int .i64 L, .int .i64 C, .int .i64 S]] w fun e w' => e = .returned (.int .u64 (HM.word L C S)) ∧ w.alloc (.cells #[.int .i64 L, .int .i64 C, .int .i64 S] 32) = w' := by
  have H := Lib.hid h
  clear h
  go_enter Tryz.func59, Tryz.ntmps59
  go_wp2
  go_ret
  exact ⟨ret_int (HM.rword H.out), rfl⟩
end Go.Proofs.YteneadimchhhhaaGreatDoor
