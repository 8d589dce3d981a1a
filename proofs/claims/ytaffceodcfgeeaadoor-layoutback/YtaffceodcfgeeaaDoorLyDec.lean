/- Contracts of Encode of the document's answers; what Unpack tells of a first raw word; what placesOf and places leave. -/
import Derived.Test.YtaffceodcfgeeaaDoorLyPl
import Derived.Test.YtaffceodcfgeeaaDoorUnpack
namespace Go.Proofs.YtaffceodcfgeeaaDoor
open Go.RowKit

/-- What the document's Encode leaves. -/
def REncPost (a b c : Int) (w : World) (e : Ending) (w' : World) : Prop :=
  ∃ g, e = .returned (.slice (some ⟨g, 0, none⟩) 3 3) ∧ w.heap.size ≤ g ∧ Whole w' g 32 #[.int .u64 a, .int .u64 b, .int .u64 c] ∧ Below w.heap.size w w'

set_option maxHeartbeats 2000000 in
theorem refEncode_any (F R : Int) (A : Option Addr) (n c : Nat) (xs : List Int) (D : Option Addr) (m d : Nat) (ys : List Int) (B : Nat) (w : World) (hB : B ≤ w.heap.size) (hn : n ≤ 1000000) (hm : m ≤ 1000000)
    (hx : NS .i64 w B A n xs) (hy : NS .i64 w B D m ys) (hr : LM.right F R xs ys = true) :
    Calls Tryd.prog 10 #[.agg #[.int .i64 F, .slice A n c, .int .i64 R, .slice D m d]] w (REncPost (F + 256 * R) (orAll 0 xs) (orAll 0 ys) w) := by
  obtain ⟨⟨g1, g2, g3, g4, -⟩, r1, r2⟩ := LM.right_parts hr
  have P1 := Lib.hid (show ∀ p ∈ xs, 0 ≤ p ∧ p < 64 from fun p hp => by have := (LM.rise_all xs 0 F r1).2 p hp; omega)
  have P2 := Lib.hid (show ∀ p ∈ ys, 0 ≤ p ∧ p < 64 from fun p hp => by have := (LM.rise_all ys 0 R r2).2 p hp; omega)
  obtain ⟨w1, hw1⟩ : ∃ w1, w1 = w.alloc (.cells #[.int .i64 F, .slice A n c, .int .i64 R, .slice D m d] 24) := ⟨_, rfl⟩
  have x1 : Whole w1 w.heap.size 24 #[.int .i64 F, .slice A n c, .int .i64 R, .slice D m d] := by rw [hw1]; exact Whole.fresh _ _ _
  have hb1 : Below w.heap.size w w1 := by rw [hw1]; exact (Below.refl _ _).alloc (Nat.le_refl _) _
  have Q1 := Lib.hid (hx.below (hb1.drew.mono hB))
  have Q2 := Lib.hid (hy.below (hb1.drew.mono hB))
  have p0 : w1.cell? ⟨w.heap.size, 0, none⟩ = some (.int .i64 F) := x1.cell 0
  have p1 : w1.cell? ⟨w.heap.size, 1, none⟩ = some (.slice A n c) := x1.cell 1
  have p2 : w1.cell? ⟨w.heap.size, 2, none⟩ = some (.int .i64 R) := x1.cell 2
  have p3 : w1.cell? ⟨w.heap.size, 3, none⟩ = some (.slice D m d) := x1.cell 3
  have hs1 := hb1.size
  have hlt1 := x1.lt
  have HB1 := Lib.hid hb1
  have HW := Lib.hid hw1
  clear hx hy hr r1 r2 hw1 x1 hb1
  have u1 : IntKind.i64.wrap (256 * R) = 256 * R := IntWalk.i64_in _ (by omega)
  have u2 : IntKind.i64.wrap (F + 256 * R) = F + 256 * R := IntWalk.i64_in _ (by omega)
  have u3 : IntKind.u64.wrap (F + 256 * R) = F + 256 * R := by rw [IntKind.wrap_u64]; omega
  go_enter Tryd.func10, Tryd.ntmps10
  go_wp2_with fail
  rw [← HW.out]
  go_region_held3 (fun w' => w'.cell? ⟨w.heap.size, 0, none⟩ = some (.int .i64 F) ∧ w'.cell? ⟨w.heap.size, 1, none⟩ = some (.slice A n c) ∧ w'.cell? ⟨w.heap.size, 2, none⟩ = some (.int .i64 R) ∧ w'.cell? ⟨w.heap.size, 3, none⟩ = some (.slice D m d)) (first | exact ⟨p0, p1, p2, p3⟩ | (simp [go_sem, World.cell?_alloc_lt, hlt1, p0, p1, p2, p3]))
    (first
      | (go_at_call 22; (with_reducible refine (word_any A n c xs B _ hn Q1.out P1.out).mono ?_); rintro e w' ⟨rfl, rfl⟩)
      | (go_at_call 22; (with_reducible refine (word_any D m d ys B _ hm Q2.out P2.out).mono ?_); rintro e w' ⟨rfl, rfl⟩))
  all_goals
    go_wp2
    go_ret
    exact ⟨_, rfl, hs1, Whole.fresh _ _ _, (Below.drew HB1.out).alloc hs1 _⟩

/-- What Unpack leaves of a first raw word. -/
def FirstPost (a : Nat) (W : World) (e : Ending) (w' : World) : Prop :=
  ∃ g, e = .returned (.tuple #[.slice (some ⟨g, 0, none⟩) 3 3, .int .i64 0]) ∧ g < w'.heap.size ∧ w'.cell? ⟨g, 0, none⟩ = some (.int .u64 (a % 256 : Nat)) ∧ w'.cell? ⟨g, 1, none⟩ = some (.int .u64 (a / 256 % 256 : Nat)) ∧ w'.cell? ⟨g, 2, none⟩ = some (.int .u64 (a / 65536 : Nat)) ∧ Below W.heap.size W w'
theorem unpack_first (a : Nat) (ha : a < 18446744073709551616) (W : World) (b : Nat) (h : Whole W b 56 #[.int .i64 0, .int .i64 8, .int .i64 8, .int .i64 8, .int .i64 16, .int .i64 48]) :
    Calls Tryd.prog 23 #[.int .u64 a, .slice (some ⟨b, 0, none⟩) 3 3] W (FirstPost a W) := by
  refine (unpack_ok a ⟨by omega, by omega⟩ _ 3 3 fw W (by omega) (fw_fs h) fw_apart).mono ?_
  rintro e w' ⟨g, he, hN, hb⟩
  obtain ⟨g', off, e1, hlt, hc⟩ := hN.2.2 (by omega)
  injection e1 with e1
  injection e1 with e1 e2
  subst e1 e2
  have k0 := hc 0 _ rfl
  have k1 := hc 1 _ rfl
  have k2 := hc 2 _ rfl
  refine ⟨g, he, hlt, ?_, ?_, ?_, hb⟩
  · rw [Nat.zero_add] at k0
    rw [k0]
    simp [FM.num, FM.numN]
  · rw [Nat.zero_add] at k1
    rw [k1]
    simp [FM.num, FM.numN]
  · rw [Nat.zero_add] at k2
    rw [k2]
    simp [FM.num, FM.numN]
    omega

/-- What placesOf and places leave. -/
def PlPost (W : Nat) (w : World) (e : Ending) (w' : World) : Prop :=
  ∃ A c, e = .returned (.slice A (LM.bl W).length c) ∧ NI w' w.heap.size w'.heap.size A (LM.bl W).length c (LM.bl W) ∧ Below w.heap.size w w'
theorem bl_wf (W : Nat) : ∀ x ∈ LM.bl W, (Lit.int .i64 x).wf = true := fun x hx => by
  have := (LM.mem_bl W x).1 hx
  exact wf_small this.1 (by omega)
theorem placesOf_pl (W : Nat) (w : World) (hW : W < 18446744073709551616) (hT : Tab w) (h0 : 0 < w.heap.size) : Calls Tryd.prog 24 #[.int .u64 W] w (PlPost W w) :=
  (placesOf_any W w hW hT h0).mono fun _ _ ⟨v, a, ho, b⟩ => by
    obtain ⟨A, c, rfl, hN⟩ := own_form ho (bl_wf W)
    exact ⟨A, c, a, hN, b⟩
theorem places_pl (W : Nat) (w : World) (hW : W < 18446744073709551616) : Calls Tryd.prog 25 #[.int .u64 W] w (PlPost W w) :=
  (places_ref W w hW).mono fun _ _ ⟨v, a, ho, b⟩ => by
    obtain ⟨A, c, rfl, hN⟩ := own_form ho (bl_wf W)
    exact ⟨A, c, a, hN, b⟩
end Go.Proofs.YtaffceodcfgeeaaDoor
