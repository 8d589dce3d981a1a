/- Contracts of field.Put: each of its three ways. -/
import Derived.Test.YtbiacpickfdeaaaLeaf
namespace Go.Proofs.Ytbiacpickfdeaaa
open Go.RowKit

theorem ret_int2 {k l : IntKind} {a b c : Int} (h : a = b) : Ending.returned (.tuple #[.int k a, .int l c]) = .returned (.tuple #[.int k b, .int l c]) := by rw [h]
theorem bcell {W w1 : World} (hb : Below W.heap.size W w1) : (∀ b o, b < W.heap.size → w1.cell? ⟨b, o, none⟩ = W.cell? ⟨b, o, none⟩) ∧ (∀ b o, b < W.heap.size → w1.frozen? ⟨b, o, none⟩ = W.frozen? ⟨b, o, none⟩) :=
  ⟨fun b o h => hb.cell (p := ⟨b, o, none⟩) h, fun b o h => hb.frozen (p := ⟨b, o, none⟩) h⟩

set_option maxHeartbeats 400000 in
theorem put_no (x a b y : Int) (h : FM.right a b = false) (w : World) :
    Calls Try.prog 18 #[.int .u64 x, .agg #[.int .i64 a, .int .i64 b], .int .u64 y] w fun e w' => e = .returned (.tuple #[.int .u64 0, .int .i64 2]) ∧ Below w.heap.size w w' := by
  go_enter Try.func18, Try.ntmps18
  go_wp2_with (first
    | (go_at_call 14; refine (right_any a b _).mono ?_; rintro e w' ⟨rfl, rfl⟩))
  go_ret2
  exact ⟨rfl, (((Below.refl _ _).alloc (Nat.le_refl _) _).alloc (by simp) _)⟩

set_option maxHeartbeats 400000 in
theorem put_range (x a b y : Int) (h : FM.right a b = true) (hf : FM.fits y b = false) (w : World) :
    Calls Try.prog 18 #[.int .u64 x, .agg #[.int .i64 a, .int .i64 b], .int .u64 y] w fun e w' => e = .returned (.tuple #[.int .u64 0, .int .i64 3]) ∧ Below w.heap.size w w' := by
  obtain ⟨h1, h2, h3, h4⟩ := (FM.right_iff a b).1 h
  have h5 : b ≤ 64 := by omega
  have h6 : FM.gr b < y := by unfold FM.fits at hf; simpa using hf
  clear hf
  go_enter Try.func18, Try.ntmps18
  go_wp2_with (first
    | (go_at_call 14; refine (right_any a b _).mono ?_; rintro e w' ⟨rfl, rfl⟩)
    | (go_at_call 26; refine (greatest_any a b h3 h5 _).mono ?_; rintro e w' ⟨rfl, rfl⟩))
  go_ret2
  exact ⟨rfl, ((((Below.refl _ _).alloc (Nat.le_refl _) _).alloc (by simp) _).alloc (by simp; omega) _)⟩

set_option maxHeartbeats 400000 in
theorem put_ok (x a b y : Int) (hx : FM.Word x) (hy : FM.Word y) (h : FM.right a b = true) (hf : FM.fits y b = true) (w : World) :
    Calls Try.prog 18 #[.int .u64 x, .agg #[.int .i64 a, .int .i64 b], .int .u64 y] w fun e w' => e = .returned (.tuple #[.int .u64 (FM.put x a b y), .int .i64 0]) ∧ Below w.heap.size w w' := by
  obtain ⟨h1, h2, h3, h4⟩ := (FM.right_iff a b).1 h
  have h5 : b ≤ 64 := by omega
  have h6 : y ≤ FM.gr b := by unfold FM.fits at hf; simpa using hf
  have E := Lib.hid (FM.put_eq x a b y hx hy h hf)
  clear hf
  go_enter Try.func18, Try.ntmps18
  go_wp2_with (first
    | (go_at_call 14; refine (right_any a b _).mono ?_; rintro e w' ⟨rfl, rfl⟩)
    | (go_at_call 26; refine (greatest_any a b h3 h5 _).mono ?_; rintro e w' ⟨rfl, rfl⟩))
  go_region_held3 (fun w' => w'.cell? ⟨w.heap.size, 0, none⟩ = some (.int .i64 a) ∧ w'.cell? ⟨w.heap.size, 1, none⟩ = some (.int .i64 b)) (simp [go_sem, World.cell?_alloc_past, *])
    (first
      | (go_at_call 24; refine (bitsOf_any a b h _).mono ?_; rintro e w' ⟨rfl, hb⟩; obtain ⟨hc, hfz⟩ := bcell hb))
  go_wp2
  go_ret2
  exact ⟨ret_int2 E.out, (((((Below.refl _ _).alloc (Nat.le_refl _) _).alloc (by simp) _).alloc (by simp; omega) _).drew).trans (hb.mono (by simp; omega))⟩
end Go.Proofs.Ytbiacpickfdeaaa
