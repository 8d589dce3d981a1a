/- Contracts of the small functions of package token and of the document's answers for it; what the listed variables of the library hold. -/
import Derived.Test.YtlmiiapmanklpaaDoorRows
import Derived.Test.YtlmiiapmanklpaaDoorBase
import Derived.Test.YtlmiiapmanklpaaDoorTkMath
import Derived.Test.YtlmiiapmanklpaaDoorTkSort
import Derived.Test.YtlmiiapmanklpaaDoorTkShelf
import Derived.WalkKit
import Derived.WalkSmall
import Derived.WalkSpells
import Derived.WalkLawsBesides
import Derived.Deep.RegionHeld3
import Derived.RowKit3
import Derived.Lib.Hide
namespace Go.Proofs.YtlmiiapmanklpaaDoor
open Go.RowKit Go.Sort

theorem below_grow {B : Nat} (w : World) (hB : B ≤ w.heap.size) (k : Nat) (os : Array Obj) : Below B w (grow (w.drewN k) os) :=
  ⟨rfl, rfl, rfl, by simp [grow], fun i hi => by simp [grow, Array.getElem?_append_left (by omega : i < w.heap.size)]⟩

theorem gPow : Tryd.prog.globalNamed "internal/strconv.uint64pow10" = some 0 := by kernel_rfl
theorem gSyn : Tryd.prog.globalNamed "strconv.ErrSyntax" = some 2 := by kernel_rfl
theorem gRan : Tryd.prog.globalNamed "strconv.ErrRange" = some 3 := by kernel_rfl

/-- The blocks of the variables lie below block B. -/
def TkB (B : Nat) : Prop := 0 < B ∧ 2 < B ∧ 3 < B
/-- What the variables of the library hold. -/
structure Tk (w : World) : Prop where
  six : TkB w.heap.size
  pow : Lib.TabIs Tryd.prog w "internal/strconv.uint64pow10" .u64 Lib.pow10Tab
  syn : ∃ tp p, w.var? Tryd.prog "strconv.ErrSyntax" = some #[.iface tp p]
  ran : ∃ tp p, w.var? Tryd.prog "strconv.ErrRange" = some #[.iface tp p]
theorem Tk.onB {w w' : World} {B : Nat} (h : Tk w) (hb : Below B w w') (hB : TkB B) : Tk w' := by
  obtain ⟨tp, p, h1⟩ := h.syn
  obtain ⟨tp', p', h2⟩ := h.ran
  have hs := hb.size
  exact ⟨⟨Nat.lt_of_lt_of_le h.six.1 hs, Nat.lt_of_lt_of_le h.six.2.1 hs, Nat.lt_of_lt_of_le h.six.2.2 hs⟩, var?_below hb gPow hB.1 h.pow, ⟨tp, p, var?_below hb gSyn hB.2.1 h1⟩, ⟨tp', p', var?_below hb gRan hB.2.2 h2⟩⟩
theorem Tk.on {w w' : World} (h : Tk w) (hb : Below w.heap.size w w') : Tk w' := h.onB hb h.six

set_option maxHeartbeats 400000 in
theorem tright_any (a b : Int) (w : World) :
    Calls Tryd.prog 10 #[.agg #[.int .i64 a, .int .i64 b]] w fun e w' => e = .returned (.bool (TM.right a b)) ∧ w.alloc (.cells #[.int .i64 a, .int .i64 b] 23) = w' := by
  go_enter Tryd.func10, Tryd.ntmps10
  go_wp2
  all_goals go_ret
  all_goals refine ⟨ret_bool ?_, rfl⟩
  all_goals (unfold TM.right; rw [Bool.eq_iff_iff]; simp [*]; try omega)

set_option maxHeartbeats 400000 in
theorem rright_any (a b : Int) (w : World) :
    Calls Tryd.prog 9 #[.agg #[.int .i64 a, .int .i64 b]] w fun e w' => e = .returned (.bool (TM.right a b)) ∧ w.alloc (.cells #[.int .i64 a, .int .i64 b] 23) = w' := by
  go_enter Tryd.func9, Tryd.ntmps9
  go_wp2
  all_goals go_ret
  all_goals refine ⟨ret_bool ?_, rfl⟩
  all_goals (unfold TM.right; rw [Bool.eq_iff_iff]; simp [*]; try omega)

theorem cmpInt_any (x y : Int) (w : World) : Calls Tryd.prog 21 #[.int .i64 x, .int .i64 y] w fun e w' => e = .returned (.int .i64 (Lib.compareInt x y)) ∧ w' = w := Any.cmp_Compare_int Tryd.lays122 x y w

set_option maxHeartbeats 1000000 in
theorem tcompare_any (x y : Int × Int) (W : World) : Calls Tryd.prog 15 #[.agg #[.int .i64 x.1, .int .i64 x.2], .agg #[.int .i64 y.1, .int .i64 y.2]] W fun e w' => e = .returned (.int .i64 (TM.cmp x y)) ∧ ∃ q os', w' = grow (W.drewN q) os' := by
  obtain ⟨a, b⟩ := x
  obtain ⟨c, d⟩ := y
  have h1 := cmpInt_any a c
  have h2 := cmpInt_any b d
  by_cases h : Lib.compareInt a c = 0
  · have hcmp : TM.cmp (a, b) (c, d) = Lib.compareInt b d := if_pos h
    rw [hcmp]
    rw [h] at h1
    clear h hcmp
    generalize Lib.compareInt b d = r at h2 ⊢
    go_enter Tryd.func15, Tryd.ntmps15
    go_wp2_with fail
    refine (h1 _).mono ?_
    rintro e w' ⟨rfl, rfl⟩
    go_wp2_with fail
    refine (h2 _).mono ?_
    rintro e w' ⟨rfl, rfl⟩
    go_wp2_with fail
    go_ret
    exact ⟨rfl, 0, _, by rw [alloc_eq_grow, alloc_eq_grow, grow_grow]; rfl⟩
  · have hcmp : TM.cmp (a, b) (c, d) = Lib.compareInt a c := if_neg h
    rw [hcmp]
    clear hcmp
    generalize Lib.compareInt a c = r at h1 h ⊢
    have h' : (r != 0) = true := by simpa using h
    go_enter Tryd.func15, Tryd.ntmps15
    go_wp2_with fail
    refine (h1 _).mono ?_
    rintro e w' ⟨rfl, rfl⟩
    go_wp2_with fail
    go_ret
    exact ⟨rfl, 0, _, by rw [alloc_eq_grow, alloc_eq_grow, grow_grow]; rfl⟩

theorem tcompare_below (x y : Int × Int) (W : World) : Calls Tryd.prog 15 #[.agg #[.int .i64 x.1, .int .i64 x.2], .agg #[.int .i64 y.1, .int .i64 y.2]] W fun e w' => e = .returned (.int .i64 (TM.cmp x y)) ∧ Below W.heap.size W w' :=
  (tcompare_any x y W).mono fun _ _ ⟨he, q, os', hw⟩ => ⟨he, by rw [hw]; exact below_grow W (Nat.le_refl _) q os'⟩

theorem rcmp_val {a b c d : Int} {r : Int} (h : (a < c ∨ a = c ∧ b < d) ∧ r = -1 ∨ (a = c ∧ b = d) ∧ r = 0 ∨ (c < a ∨ c = a ∧ d < b) ∧ r = 1) : r = TM.cmp (a, b) (c, d) := by
  rcases TM.cmp_cases (a, b) (c, d) with ⟨e, k⟩ | ⟨e, k⟩ | ⟨e, k⟩ <;> rw [e] <;> (simp only [TM.Lt, Prod.mk.injEq] at k; omega)

set_option maxHeartbeats 1000000 in
theorem rcompare_any (a b c d : Int) (W : World) : Calls Tryd.prog 16 #[.agg #[.int .i64 a, .int .i64 b], .agg #[.int .i64 c, .int .i64 d]] W fun e w' => e = .returned (.int .i64 (TM.cmp (a, b) (c, d))) ∧ Below W.heap.size W w' := by
  have hb : Below W.heap.size W ((W.alloc (.cells #[.int .i64 a, .int .i64 b] 23)).alloc (.cells #[.int .i64 c, .int .i64 d] 23)) := ((Below.refl _ _).alloc (Nat.le_refl _) _).alloc (by simp) _
  have HB := Lib.hid hb
  clear hb
  rcases Int.lt_trichotomy a c with h1 | h1 | h1
  · have h2 : TM.cmp (a, b) (c, d) = -1 := (rcmp_val (Or.inl ⟨Or.inl h1, rfl⟩)).symm
    rw [h2]
    clear h2
    go_enter Tryd.func16, Tryd.ntmps16
    go_wp2
    all_goals go_ret
    all_goals exact ⟨rfl, HB.out⟩
  · subst h1
    rcases Int.lt_trichotomy b d with h2 | h2 | h2
    · have h3 : TM.cmp (a, b) (a, d) = -1 := (rcmp_val (Or.inl ⟨Or.inr ⟨rfl, h2⟩, rfl⟩)).symm
      rw [h3]
      clear h3
      go_enter Tryd.func16, Tryd.ntmps16
      go_wp2
      all_goals go_ret
      all_goals exact ⟨rfl, HB.out⟩
    · subst h2
      have h3 : TM.cmp (a, b) (a, b) = 0 := (rcmp_val (Or.inr (Or.inl ⟨⟨rfl, rfl⟩, rfl⟩))).symm
      rw [h3]
      clear h3
      go_enter Tryd.func16, Tryd.ntmps16
      go_wp2
      all_goals go_ret
      all_goals exact ⟨rfl, HB.out⟩
    · have h3 : TM.cmp (a, b) (a, d) = 1 := (rcmp_val (Or.inr (Or.inr ⟨Or.inr ⟨rfl, h2⟩, rfl⟩))).symm
      rw [h3]
      clear h3
      have h4 : (b == d) = false := by simp; omega
      go_enter Tryd.func16, Tryd.ntmps16
      go_wp2
      all_goals go_ret
      all_goals exact ⟨rfl, HB.out⟩
  · have h2 : TM.cmp (a, b) (c, d) = 1 := (rcmp_val (Or.inr (Or.inr ⟨Or.inl h1, rfl⟩))).symm
    rw [h2]
    clear h2
    have h4 : (a == c) = false := by simp; omega
    go_enter Tryd.func16, Tryd.ntmps16
    go_wp2
    all_goals go_ret
    all_goals exact ⟨rfl, HB.out⟩
end Go.Proofs.YtlmiiapmanklpaaDoor
