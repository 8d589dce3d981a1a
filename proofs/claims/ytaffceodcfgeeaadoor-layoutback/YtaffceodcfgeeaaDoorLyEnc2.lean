/- The contract of Encode of package layout. -/
import Derived.Test.YtaffceodcfgeeaaDoorLyEnc
namespace Go.Proofs.YtaffceodcfgeeaaDoor
open Go.RowKit

set_option maxHeartbeats 1000000 in
theorem encode_no (F R : Int) (A : Option Addr) (n c : Nat) (xs : List Int) (D : Option Addr) (m d : Nat) (ys : List Int) (B : Nat) (w : World) (hB : B ≤ w.heap.size) (hn : n ≤ 1000000) (hm : m ≤ 1000000)
    (hF : I64 F) (hR : I64 R) (hx : NS .i64 w B A n xs) (hy : NS .i64 w B D m ys) (hr : LM.right F R xs ys = false) :
    Calls Tryd.prog 8 #[.agg #[.int .i64 F, .slice A n c, .int .i64 R, .slice D m d]] w fun e w' => e = .returned (.tuple #[.slice none 0 0, .int .i64 2]) ∧ Below w.heap.size w w' := by
  have CR := lright_any F R A n c xs D m d ys B (w.alloc (.cells #[.int .i64 F, .slice A n c, .int .i64 R, .slice D m d] 24)) (by simp; omega) hn hm hF hR (hx.alloc hB _) (hy.alloc hB _)
  rw [hr] at CR
  have HC := Lib.hid CR
  clear CR hx hy hF hR hB hr
  go_enter Tryd.func8, Tryd.ntmps8
  go_wp2_with fail
  refine HC.out.mono ?_
  rintro e w' ⟨rfl, rfl⟩
  go_wp2
  go_ret2
  exact ⟨rfl, by exact ((Below.refl _ _).alloc (Nat.le_refl _) _).alloc (by simp) _⟩

/-- What Encode leaves of a right layout. -/
def EncPost (a b c : Int) (w : World) (e : Ending) (w' : World) : Prop :=
  ∃ g, e = .returned (.tuple #[.slice (some ⟨g, 0, none⟩) 3 3, .int .i64 0]) ∧ w.heap.size ≤ g ∧ Whole w' g 32 #[.int .u64 a, .int .u64 b, .int .u64 c] ∧ Below w.heap.size w w'

theorem pack_ord1 (F R : Int) (h1 : 0 ≤ F) (h2 : F ≤ 64) (h3 : 0 ≤ R) (h4 : R ≤ 64) (W : World) :
    Calls Tryd.prog 18 #[.slice (some ⟨W.heap.size, 0, none⟩) 3 3, .slice (some ⟨W.heap.size + 1, 0, none⟩) 3 3] ((W.alloc (.cells #[.int .i64 0, .int .i64 8, .int .i64 8, .int .i64 8, .int .i64 16, .int .i64 48] 56)).alloc (.cells #[.int .u64 F, .int .u64 R, .int .u64 0] 32)).drew fun e w' => e = .returned (.tuple #[.int .u64 (F + 256 * R), .int .i64 0]) ∧ Below W.heap.size W w' :=
  (pack_first F R h1 h2 h3 h4 _ _ _ ((Whole.fresh _ _ _).alloc _).drew (Whole.fresh' (by simp)).drew).mono fun _ _ ⟨h, hb⟩ => ⟨h, (((Below.refl _ _).alloc (Nat.le_refl _) _).alloc (by simp) _).drew.trans (hb.mono (by simp; omega))⟩
theorem pack_ord2 (F R : Int) (h1 : 0 ≤ F) (h2 : F ≤ 64) (h3 : 0 ≤ R) (h4 : R ≤ 64) (W : World) :
    Calls Tryd.prog 18 #[.slice (some ⟨W.heap.size + 1, 0, none⟩) 3 3, .slice (some ⟨W.heap.size, 0, none⟩) 3 3] ((W.alloc (.cells #[.int .u64 F, .int .u64 R, .int .u64 0] 32)).alloc (.cells #[.int .i64 0, .int .i64 8, .int .i64 8, .int .i64 8, .int .i64 16, .int .i64 48] 56)).drew fun e w' => e = .returned (.tuple #[.int .u64 (F + 256 * R), .int .i64 0]) ∧ Below W.heap.size W w' :=
  (pack_first F R h1 h2 h3 h4 _ _ _ (Whole.fresh' (by simp)).drew ((Whole.fresh _ _ _).alloc _).drew).mono fun _ _ ⟨h, hb⟩ => ⟨h, (((Below.refl _ _).alloc (Nat.le_refl _) _).alloc (by simp) _).drew.trans (hb.mono (by simp; omega))⟩

set_option maxHeartbeats 2000000 in
theorem encode_ok (F R : Int) (A : Option Addr) (n c : Nat) (xs : List Int) (D : Option Addr) (m d : Nat) (ys : List Int) (B : Nat) (w : World) (hB : B ≤ w.heap.size) (hn : n ≤ 1000000) (hm : m ≤ 1000000)
    (hF : I64 F) (hR : I64 R) (hx : NS .i64 w B A n xs) (hy : NS .i64 w B D m ys) (hr : LM.right F R xs ys = true) :
    Calls Tryd.prog 8 #[.agg #[.int .i64 F, .slice A n c, .int .i64 R, .slice D m d]] w (EncPost (F + 256 * R) (orAll 0 xs) (orAll 0 ys) w) := by
  have CR := lright_any F R A n c xs D m d ys B (w.alloc (.cells #[.int .i64 F, .slice A n c, .int .i64 R, .slice D m d] 24)) (by simp; omega) hn hm hF hR (hx.alloc hB _) (hy.alloc hB _)
  rw [hr] at CR
  obtain ⟨⟨g1, g2, g3, g4, -⟩, r1, r2⟩ := LM.right_parts hr
  have P1 := Lib.hid (show ∀ p ∈ xs, 0 ≤ p ∧ p < 64 from fun p hp => by have := (LM.rise_all xs 0 F r1).2 p hp; omega)
  have P2 := Lib.hid (show ∀ p ∈ ys, 0 ≤ p ∧ p < 64 from fun p hp => by have := (LM.rise_all ys 0 R r2).2 p hp; omega)
  have HC := Lib.hid CR
  have HX := Lib.hid hx
  have HY := Lib.hid hy
  clear CR hx hy hF hR hr r1 r2
  have u1 : IntKind.u64.wrap F = F := by rw [IntKind.wrap_u64]; omega
  have u2 : IntKind.u64.wrap R = R := by rw [IntKind.wrap_u64]; omega
  have U1 := Lib.hid u1
  have U2 := Lib.hid u2
  clear u1 u2
  go_enter Tryd.func8, Tryd.ntmps8
  go_wp2_with fail
  refine HC.out.mono ?_
  rintro e w' ⟨rfl, rfl⟩
  obtain ⟨w1, hw1⟩ : ∃ w1, w1 = (w.alloc (.cells #[.int .i64 F, .slice A n c, .int .i64 R, .slice D m d] 24)).alloc (.cells #[.int .i64 F, .slice A n c, .int .i64 R, .slice D m d] 24) := ⟨_, rfl⟩
  have hb1 : Below w.heap.size w w1 := by rw [hw1]; exact ((Below.refl _ _).alloc (Nat.le_refl _) _).alloc (by simp) _
  have hw : Whole w1 w.heap.size 24 #[.int .i64 F, .slice A n c, .int .i64 R, .slice D m d] := by rw [hw1]; exact (Whole.fresh _ _ _).alloc _
  rw [← hw1]
  have HW := Lib.hid hw
  clear hw1 hw
  go_upto_region 3 with fail
  go_cut [4, 5] (fun s4 s5 wx => s4 = .int .u64 (F + 256 * R) ∧ s5 = .int .i64 0 ∧ Below w1.heap.size w1 wx)
  case first =>
    have c0 := HW.out.cell 0
    have c2 := HW.out.cell 2
    simp at c0 c2
    have u1 := U1.out
    have u2 := U2.out
    have hlt := HW.out.lt
    have hz := hb1.size
    go_region_held3 (fun w' => w'.cell? ⟨w.heap.size, 0, none⟩ = some (.int .i64 F) ∧ w'.cell? ⟨w.heap.size, 2, none⟩ = some (.int .i64 R)) (first | exact ⟨hx0, hx2⟩ | (simp [go_sem, World.cell?_alloc_lt, hlt, Nat.lt_succ_of_lt, c0, c2]))
      (first
        | (go_at_call 19; refine (firstWord_any _).mono ?_; rintro e w' ⟨rfl, rfl⟩)
        | (go_at_call 18; (with_reducible refine (pack_ord1 F R g1 g2 g3 g4 _).mono ?_); rintro e w2 ⟨rfl, hb2⟩; have hb3 : Below w1.heap.size w1 w2 := hb2; have hx0 := (hb3.cell (p := ⟨w.heap.size, 0, none⟩) hlt).trans c0; have hx2 := (hb3.cell (p := ⟨w.heap.size, 2, none⟩) hlt).trans c2)
        | (go_at_call 18; (with_reducible refine (pack_ord2 F R g1 g2 g3 g4 _).mono ?_); rintro e w2 ⟨rfl, hb2⟩; have hb3 : Below w1.heap.size w1 w2 := hb2; have hx0 := (hb3.cell (p := ⟨w.heap.size, 0, none⟩) hlt).trans c0; have hx2 := (hb3.cell (p := ⟨w.heap.size, 2, none⟩) hlt).trans c2))
    all_goals (go_wp2_with fail; go_meet; exact ⟨rfl, rfl, by first | exact hb3 | exact hb3.drew⟩)
  case rest =>
    obtain ⟨rfl, rfl, hb2⟩ := hcut
    have hlt := HW.out.lt
    have hw2 := HW.out.below hb2 hlt
    have c1 := hw2.cell 1
    have c3 := hw2.cell 3
    simp at c1 c3
    have hb3 : Below w.heap.size w wc := hb1.trans (hb2.mono hb1.size)
    have Q1 := Lib.hid (HX.out.below (hb3.drew.mono hB))
    have Q2 := Lib.hid (HY.out.below (hb3.drew.mono hB))
    have hlt2 := hw2.lt
    clear hw2
    go_wp2
    go_region_held3 (fun w' => w'.cell? ⟨w.heap.size, 1, none⟩ = some (.slice A n c) ∧ w'.cell? ⟨w.heap.size, 3, none⟩ = some (.slice D m d)) (first | exact ⟨c1, c3⟩ | (simp [go_sem, World.cell?_alloc_lt, hlt2, c1, c3]))
      (first
        | (go_at_call 20; (with_reducible refine (bitsAt_any A n c xs B _ hn Q1.out P1.out).mono ?_); rintro e w' ⟨rfl, rfl⟩)
        | (go_at_call 20; (with_reducible refine (bitsAt_any D m d ys B _ hm Q2.out P2.out).mono ?_); rintro e w' ⟨rfl, rfl⟩)
        | fail)
    go_wp2
    go_ret2
    exact ⟨_, rfl, hb3.size, Whole.fresh _ _ _, (Below.drew hb3).alloc hb3.size _⟩
end Go.Proofs.YtaffceodcfgeeaaDoor
