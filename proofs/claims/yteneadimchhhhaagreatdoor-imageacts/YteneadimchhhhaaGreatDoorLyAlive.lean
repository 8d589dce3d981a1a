/- The contract of the law package's alive: the document's example holds. -/
import Derived.Test.YteneadimchhhhaaGreatDoorLySame
namespace Go.Proofs.YteneadimchhhhaaGreatDoor
open Go.RowKit

theorem i64s {x : Int} (h0 : -100000 ≤ x) (h1 : x ≤ 100000) : I64 x := ⟨by omega, by omega⟩
/-- The example's lists. -/
theorem ex_lists (w : World) : Lists (((w.alloc (.cells #[.int .i64 1] 3)).alloc (.cells #[.int .i64 0, .int .i64 2] 3)).alloc (.cells #[.int .i64 2, .slice (some ⟨w.heap.size, 0, none⟩) 1 1, .int .i64 3, .slice (some ⟨w.heap.size + 1, 0, none⟩) 2 2] 70)) w.heap.size (w.heap.size + 3) (some ⟨w.heap.size, 0, none⟩) 1 1 [1] (some ⟨w.heap.size + 1, 0, none⟩) 2 2 [0, 2] := by
  have h1 := ns_list (xs := [1]) (((Whole.fresh w 3 #[.int .i64 1]).alloc (.cells #[.int .i64 0, .int .i64 2] 3)).alloc (.cells #[.int .i64 2, .slice (some ⟨w.heap.size, 0, none⟩) 1 1, .int .i64 3, .slice (some ⟨w.heap.size + 1, 0, none⟩) 2 2] 70)) (by simp [wf_small])
  have h2 := ns_list (xs := [0, 2]) ((Whole.fresh' (w := w.alloc (.cells #[.int .i64 1] 3)) (b := w.heap.size + 1) (t := 3) (cs := #[.int .i64 0, .int .i64 2]) (by simp)).alloc (.cells #[.int .i64 2, .slice (some ⟨w.heap.size, 0, none⟩) 1 1, .int .i64 3, .slice (some ⟨w.heap.size + 1, 0, none⟩) 2 2] 70)) (by simp [wf_small])
  rw [World.size_alloc, World.size_alloc, World.size_alloc] at h1 h2
  exact ⟨⟨h1, fun a e => by cases e; exact Nat.le_refl _, fun e => by cases e⟩, ⟨h2, fun a e => by cases e; exact Nat.le_succ _, fun e => by cases e⟩⟩

end Go.Proofs.YteneadimchhhhaaGreatDoor
