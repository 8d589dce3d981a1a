/- The contract of twin of package layout. -/
import Derived.Test.YteneadimchhhhaaGreatDoorMgSl
namespace Go.Proofs.YteneadimchhhhaaGreatDoor
open Go.RowKit

/-- A layout's lists, their memory between two blocks. -/
structure Lists (w : World) (lo hi : Nat) (A : Option Addr) (n c : Nat) (xs : List Int) (D : Option Addr) (m d : Nat) (ys : List Int) : Prop where
  fst : NI w lo hi A n c xs
  snd : NI w lo hi D m d ys
/-- What twin leaves. -/
def TwinPost (F R : Int) (n : Nat) (xs : List Int) (m : Nat) (ys : List Int) (w : World) (e : Ending) (w' : World) : Prop :=
  ∃ A c D d, e = .returned (.agg #[.int .i64 F, .slice A n c, .int .i64 R, .slice D m d]) ∧ Lists w' w.heap.size w'.heap.size A n c xs D m d ys ∧ Below w.heap.size w w' ∧ typedI w' A ∧ typedI w' D

set_option maxHeartbeats 2000000 in
theorem twin_any (F R : Int) (A : Option Addr) (n c : Nat) (xs : List Int) (D : Option Addr) (m d : Nat) (ys : List Int) (lo hi : Nat) (w : World) (hB : hi ≤ w.heap.size) (hn : n ≤ 1000000) (hm : m ≤ 1000000) (h : Lists w lo hi A n c xs D m d ys) :
    Calls Tryz.prog 57 #[.agg #[.int .i64 F, .slice A n c, .int .i64 R, .slice D m d]] w (TwinPost F R n xs m ys w) := by
  obtain ⟨i0, hi0, hz0, hz1, hz2⟩ := info_parts linfoInt
  have HX := Lib.hid h.fst
  have HY := Lib.hid h.snd
  clear h
  go_enter Tryz.func57, Tryz.ntmps57
  go_wp2_with (first
    | (at_builtin
       refine wpList_append_ni _ rfl _ _ 42 rfl (w.heap.size + 2) 3 i0 _ Tryz.underlying42 hi0 hz0 hz1 hz2 rfl (.slice none 0 0) 0 [] rfl (World.ownsRow_nil _ _ _ _) lo hi D m d ys rfl (HY.out.kept (K2.out.setCell (p := ⟨w.heap.size, 1, none⟩) (.inr hB) _)) (by omega) (by simp; omega) ?_
       intro v2 w2 ho2 hg2
       rw [Nat.zero_add, List.nil_append] at ho2
       obtain ⟨A2, c2, rfl, n2⟩ := own_form ho2 HY.out.ns.2.1
       have T2 := Lib.hid (own_typed ho2)
       have hb2 := (Below.refl _ _).grown hg2 (Nat.le_refl _) (by simp [Value.ownBlock])
       have hs2 := hg2.size
       simp at hs2
       have lt3 : w.heap.size < w2.heap.size := by omega
       have lt4 : w.heap.size + 1 < w2.heap.size := by omega
       have W2 : Whole w2 w.heap.size 70 #[.int .i64 F, .slice A1 n c1, .int .i64 R, .slice D m d] := (HW1.out.set 1 _).below hb2 (by simp; omega)
       have Z2 : Whole w2 (w.heap.size + 1) 70 #[.int .i64 0, .slice none 0 0, .int .i64 0, .slice none 0 0] := (HZ1.out.far (p := ⟨w.heap.size, 1, none⟩) (by simp) _).below hb2 (by simp; omega)
       have c20 : w2.cell? ⟨w.heap.size, 0, none⟩ = some (.int .i64 F) := W2.cell 0
       have c21 : w2.cell? ⟨w.heap.size, 1, none⟩ = some (.slice A1 n c1) := W2.cell 1
       have c22 : w2.cell? ⟨w.heap.size, 2, none⟩ = some (.int .i64 R) := W2.cell 2
       have c23 : w2.cell? ⟨w.heap.size, 3, none⟩ = some (.slice D m d) := W2.cell 3
       have f23 := W2.free 3
       have d20 : w2.cell? ⟨w.heap.size + 1, 0, none⟩ = some (.int .i64 0) := Z2.cell 0
       have d21 : w2.cell? ⟨w.heap.size + 1, 1, none⟩ = some (.slice none 0 0) := Z2.cell 1
       have d22 : w2.cell? ⟨w.heap.size + 1, 2, none⟩ = some (.int .i64 0) := Z2.cell 2
       have d23 : w2.cell? ⟨w.heap.size + 1, 3, none⟩ = some (.slice none 0 0) := Z2.cell 3
       have g20 := Z2.free 0
       have g21 := Z2.free 1
       have g22 := Z2.free 2
       have g23 := Z2.free 3
       have HZ2 := Lib.hid Z2
       clear W2 Z2
       have N2 := Lib.hid n2
       have G2 := Lib.hid hg2
       have L2 := Lib.hid hb2
       clear n2 ho2 hg2 hb2)
    | (at_builtin
       refine wpList_append_ni _ rfl _ _ 42 rfl (w.heap.size + 2) 3 i0 _ Tryz.underlying42 hi0 hz0 hz1 hz2 rfl (.slice none 0 0) 0 [] rfl (World.ownsRow_nil _ _ _ _) lo hi A n c xs rfl (HX.out.kept (((Kept.refl _ _ _).alloc hB _).alloc (by simp; omega) _)) (by omega) (by simp) ?_
       intro v1 w1 ho1 hg1
       rw [Nat.zero_add, List.nil_append] at ho1
       obtain ⟨A1, c1, rfl, n1⟩ := own_form ho1 HX.out.ns.2.1
       have T1 := Lib.hid (own_typed ho1)
       have hb1 := (Below.refl _ _).grown hg1 (Nat.le_refl _) (by simp [Value.ownBlock])
       have hs1 := hg1.size
       simp at hs1
       have lt1 : w.heap.size < w1.heap.size := by omega
       have lt2 : w.heap.size + 1 < w1.heap.size := by omega
       have K2 := Lib.hid ((((Kept.refl lo hi w).alloc hB _).alloc (by simp; omega) _).grown hg1 (by simp; omega) (by simp [Value.ownBlock]))
       have W1 : Whole w1 w.heap.size 70 #[.int .i64 F, .slice A n c, .int .i64 R, .slice D m d] := ((Whole.fresh w _ _).alloc _).below hb1 (by simp; omega)
       have Z1 : Whole w1 (w.heap.size + 1) 70 #[.int .i64 0, .slice none 0 0, .int .i64 0, .slice none 0 0] := (Whole.fresh' (by simp)).below hb1 (by simp)
       have c11 : w1.cell? ⟨w.heap.size, 1, none⟩ = some (.slice A n c) := W1.cell 1
       have c13 : w1.cell? ⟨w.heap.size, 3, none⟩ = some (.slice D m d) := W1.cell 3
       have f11 := W1.free 1
       have HW1 := Lib.hid W1
       have HZ1 := Lib.hid Z1
       clear W1 Z1
       have N1 := Lib.hid n1
       have G1 := Lib.hid hg1
       have L1 := Lib.hid hb1
       clear n1 ho1 hg1 hb1))
  have B1 : Below w.heap.size w w1 := (((Below.refl _ _).alloc (Nat.le_refl _) _).alloc (by simp) _).trans (L1.out.mono (by simp; omega))
  have B2 : Below w.heap.size w w2 := (B1.setCell (p := ⟨w.heap.size, 1, none⟩) (Nat.le_refl _) _).trans (L2.out.mono (by simp; omega))
  have M1 : Kept (w.heap.size + 2) w1.heap.size w1 w2 := ((Kept.refl _ _ _).setCell (p := ⟨w.heap.size, 1, none⟩) (.inl (by simp)) _).trans (Kept.of_below L2.out (by simp))
  refine bodyPost_ret (v := .agg #[.int .i64 F, .slice A1 n c1, .int .i64 R, .slice A2 m c2]) (by simp [results, Tryz.results57, go_sem, d20, d21, d22, d23]) rfl ⟨A1, c1, A2, c2, rfl, ⟨(N1.out.kept (((((M1.setCell (p := ⟨w.heap.size, 3, none⟩) ?_ _).setCell (p := ⟨w.heap.size + 1, 0, none⟩) ?_ _).setCell (p := ⟨w.heap.size + 1, 1, none⟩) ?_ _).setCell (p := ⟨w.heap.size + 1, 2, none⟩) ?_ _).setCell (p := ⟨w.heap.size + 1, 3, none⟩) ?_ _)).mono ?_ ?_,
    (N2.out.kept ((((((Kept.refl _ _ _).setCell (p := ⟨w.heap.size, 3, none⟩) ?_ _).setCell (p := ⟨w.heap.size + 1, 0, none⟩) ?_ _).setCell (p := ⟨w.heap.size + 1, 1, none⟩) ?_ _).setCell (p := ⟨w.heap.size + 1, 2, none⟩) ?_ _).setCell (p := ⟨w.heap.size + 1, 3, none⟩) ?_ _)).mono ?_ ?_⟩,
    ((((B2.setCell (p := ⟨w.heap.size, 3, none⟩) ?_ _).setCell (p := ⟨w.heap.size + 1, 0, none⟩) ?_ _).setCell (p := ⟨w.heap.size + 1, 1, none⟩) ?_ _).setCell (p := ⟨w.heap.size + 1, 2, none⟩) ?_ _).setCell (p := ⟨w.heap.size + 1, 3, none⟩) ?_ _,
    T1.out.kept N1.out.low (((((M1.setCell (p := ⟨w.heap.size, 3, none⟩) ?_ _).setCell (p := ⟨w.heap.size + 1, 0, none⟩) ?_ _).setCell (p := ⟨w.heap.size + 1, 1, none⟩) ?_ _).setCell (p := ⟨w.heap.size + 1, 2, none⟩) ?_ _).setCell (p := ⟨w.heap.size + 1, 3, none⟩) ?_ _),
    T2.out.kept N2.out.low ((((((Kept.refl _ _ _).setCell (p := ⟨w.heap.size, 3, none⟩) ?_ _).setCell (p := ⟨w.heap.size + 1, 0, none⟩) ?_ _).setCell (p := ⟨w.heap.size + 1, 1, none⟩) ?_ _).setCell (p := ⟨w.heap.size + 1, 2, none⟩) ?_ _).setCell (p := ⟨w.heap.size + 1, 3, none⟩) ?_ _)⟩
  all_goals (simp; try omega)
end Go.Proofs.YteneadimchhhhaaGreatDoor
