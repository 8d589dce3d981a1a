/- The law package's own example (alive) holds in every world. -/
import Derived.Test.YtbiacpickfdeaaaPack
namespace Go.Proofs.Ytbiacpickfdeaaa
open Go.RowKit

theorem fs_pair (w1 : World) (a b c d : Int) (o : Obj) : FS ((w1.alloc (.cells #[.int .i64 a, .int .i64 b, .int .i64 c, .int .i64 d] 24)).alloc o) (w1.heap.size + 2) (some ⟨w1.heap.size, 0, none⟩) 2 [(a, b), (c, d)] := by
  refine ⟨rfl, fun _ => ⟨_, 0, rfl, by simp, ?_⟩⟩
  intro i f hi
  match i, hi with
  | 0, hi => simp at hi; subst hi; simp [World.cell?_alloc_past]
  | 1, hi => simp at hi; subst hi; simp [World.cell?_alloc_past]
theorem us_pair (w1 : World) (a b : Int) (o : Obj) (ha : FM.Word a) (hb : FM.Word b) : NS .u64 ((w1.alloc o).alloc (.cells #[.int .u64 a, .int .u64 b] 22)) (w1.heap.size + 2) (some ⟨w1.heap.size + 1, 0, none⟩) 2 [a, b] := by
  refine ⟨rfl, by simp [of_word ha, of_word hb], fun _ => ⟨_, 0, rfl, by simp, ?_⟩⟩
  intro i f hi
  have e : w1.heap.size + 1 = (w1.alloc o).heap.size := by simp
  rw [e]
  generalize w1.alloc o = W
  match i, hi with
  | 0, hi => simp at hi; subst hi; simp
  | 1, hi => simp at hi; subst hi; simp

theorem pack_example (w1 : World) : Calls Try.prog 21 #[.slice (some ⟨w1.heap.size, 0, none⟩) 2 2, .slice (some ⟨w1.heap.size + 1, 0, none⟩) 2 2]
    ((w1.alloc (.cells #[.int .i64 0, .int .i64 4, .int .i64 8, .int .i64 4] 24)).alloc (.cells #[.int .u64 3, .int .u64 9] 22))
    fun e w' => e = .returned (.tuple #[.int .u64 2307, .int .i64 0]) ∧ Below w1.heap.size w1 w' := by
  have hs : ((w1.alloc (.cells #[.int .i64 0, .int .i64 4, .int .i64 8, .int .i64 4] 24)).alloc (.cells #[.int .u64 3, .int .u64 9] 22)).heap.size = w1.heap.size + 2 := by simp
  refine (pack_any _ 2 2 [(0, 4), (8, 4)] _ 2 [3, 9] _ (by omega) ?_ ?_ (by decide)).mono ?_
  · rw [hs]; exact fs_pair w1 0 4 8 4 _
  · rw [hs]; exact us_pair w1 3 9 _ ⟨by decide, by decide⟩ ⟨by decide, by decide⟩
  · rintro e w' ⟨h, hb⟩
    have hp : FM.packGo 0 [(0, 4), (8, 4)] [3, 9] = some 2307 := by decide
    rw [hp] at h
    refine ⟨?_, (((Below.refl _ _).alloc (Nat.le_refl _) _).alloc (by simp) _).trans (hb.mono (by simp; omega))⟩
    rcases h with ⟨W, hW, _, he⟩ | ⟨h, _⟩
    · injection hW with hW; subst hW; exact he
    · cases h

set_option maxHeartbeats 1000000 in
theorem alive_any (w : World) : Calls Try.prog 13 #[] w fun e w' => e = .returned (.bool true) ∧ Below w.heap.size w w' := by
  have hr : FM.right 4 3 = true := by decide
  have hfit : FM.fits 5 3 = true := by decide
  have hp : FM.put 0 4 3 5 = 80 := by decide
  go_enter Try.func13, Try.ntmps13
  go_wp2_with (first
    | (go_at_call 18; refine (put_ok 0 4 3 5 ⟨by decide, by decide⟩ ⟨by decide, by decide⟩ hr hfit _).mono ?_; rintro e w1 ⟨rfl, hb1⟩)
    | (go_at_call 21; refine (pack_example _).mono ?_; rintro e w2 ⟨rfl, hb2⟩))
  go_ret
  exact ⟨rfl, hb1.trans (hb2.mono hb1.size)⟩
end Go.Proofs.Ytbiacpickfdeaaa
