/- Small words that several of the texts share. -/
import Derived.Test.YtehkcflbdmkjpaaRows
import Derived.WalkKit
import Derived.ProofKit
namespace Go.Proofs.Ytehkcflbdmkjpaa
open Go.RowKit

theorem ret_int {k : IntKind} {a b : Int} (h : a = b) : Ending.returned (.int k a) = .returned (.int k b) := by rw [h]
theorem ret_bool {a b : Bool} (h : a = b) : Ending.returned (.bool a) = .returned (.bool b) := by rw [h]
theorem own : ownKnob Try.prog.godebug = none := by kernel_rfl
theorem laidOut : laidOutB Try.prog = true := by kernel_rfl
end Go.Proofs.Ytehkcflbdmkjpaa
