/- The contract of the law package's alive: the document's example holds. -/
import Derived.Test.YthbclmolegnhiaaDoorBmAll
namespace Go.Proofs.YthbclmolegnhiaaDoor
open Go.RowKit

theorem Tab.pos {w : World} (h : Tab w) : 0 < w.heap.size := by
  have := h 0 (by decide)
  rcases Nat.lt_or_ge 0 w.heap.size with hl | hg
  · exact hl
  · simp [World.cell?, Array.getElem?_eq_none hg] at this

/-- The example's places. -/
def ex3 (q : Nat) : Bool := q == 0 || q == 1 || q == 3
theorem ex3_first : firstVal ex3 8 0 = .tuple #[.int .i64 2, .bool true] :=
  firstVal_yes (k := 2) (by decide) (by decide) (by decide) (fun q _ h => by
    have : q = 0 ∨ q = 1 := by omega
    rcases this with rfl | rfl <;> rfl)
theorem ex3_run : runVal ex3 8 2 = .tuple #[.int .i64 4, .bool true] :=
  runVal_yes (k := 2) (p := 4) (by decide) (BM.rn_eq _ _ _ _ (by decide) (fun a h => by
    have : a = 0 ∨ a = 1 ∨ a = 2 ∨ a = 3 := by omega
    rcases this with rfl | rfl | rfl | rfl <;> rfl) (fun _ => rfl)) (by decide)
theorem ex3_ons : BM.ons ex3 8 = [0, 1, 3] := by decide
theorem ex3_cnt : BM.cnt ex3 8 = 3 := by decide

theorem is_new (w : World) : IS (w.alloc (.cells #[.int .i64 0, .int .i64 1, .int .i64 3] 3)) (.slice (some ⟨w.heap.size, 0, none⟩) 3 3) [0, 1, 3] := by
  have W1 := Whole.fresh w 3 #[.int .i64 0, .int .i64 1, .int .i64 3]
  refine ⟨_, 3, rfl, fun i x hx => ⟨w.heap.size, 0, rfl, ?_⟩⟩
  rw [Nat.zero_add]
  refine (W1.cell i).trans ?_
  have hi : i < 3 := (List.getElem?_eq_some_iff.1 hx).1
  have : i = 0 ∨ i = 1 ∨ i = 2 := by omega
  rcases this with rfl | rfl | rfl <;> (simp at hx; subst hx; rfl)

theorem RowPost.use {xs : List Nat} {w w' : World} {e : Ending} (h : RowPost xs w e w') : ∃ A c, e = .returned (.slice A xs.length c) ∧ IS w' (.slice A xs.length c) xs ∧ Below w.heap.size w w' ∧ (∀ a, A = some a → w.heap.size ≤ a.block ∧ a.block < w'.heap.size) := by
  obtain ⟨v, rfl, ho, hb⟩ := h
  have hlt := ho.lt
  have his := IS.of_owns ho
  obtain ⟨A, c, rfl, hc⟩ := his
  exact ⟨A, c, rfl, ⟨A, c, rfl, hc⟩, hb, fun a e => by subst e; exact hlt _ rfl⟩

set_option maxHeartbeats 2000000 in
theorem alive_any (w : World) (hT : Tab w) :
    Calls Tryd.prog 11 #[] w fun e w' => e = .returned (.bool true) ∧ Below w.heap.size w w' := by
  have h0 := hT.pos
  have N : Calls Tryd.prog 18 #[.int .i64 8] w (NewPost 8 w) := new_ok 8 w (by decide) (by decide)
  have HN := Lib.hid N
  clear N
  go_enter Tryd.func11, Tryd.ntmps11
  go_wp2_with fail
  refine HN.out.mono ?_
  rintro e w1 ⟨rfl, hm1, hb1, hs1⟩
  obtain ⟨b, hb⟩ : ∃ b, b = w.heap.size + 1 := ⟨_, rfl⟩
  obtain ⟨c, hc⟩ : ∃ c, c = w.heap.size := ⟨_, rfl⟩
  rw [← hb] at hm1 ⊢
  rw [← hc] at hm1
  have c1 : w.heap.size ≤ c := by omega
  have c2 : c < w1.heap.size := by omega
  have c3 : b < w1.heap.size := by omega
  have HS1 := Lib.hid hs1
  have HB := Lib.hid hb
  have HC := Lib.hid hc
  clear hs1 hb hc
  go_wp2_with fail
  have F1 : Calls Tryd.prog 15 #[.pointer (some ⟨b, 0, none⟩), .int .i64 0, .int .i64 2, .bool true] w1 _ := fill_ok b c 8 0 2 _ true w1 hm1 (by decide)
  refine F1.mono ?_
  rintro e w2 ⟨rfl, ho2, ws2, hm2, hq2⟩
  have HQ2 := Lib.hid hq2
  clear hq2 F1
  go_wp2_with fail
  have F2 : Calls Tryd.prog 14 #[.pointer (some ⟨b, 0, none⟩), .int .i64 3, .bool true] w2 _ := set_ok b c 8 3 ws2 true w2 hm2 (by decide)
  refine F2.mono ?_
  rintro e w3 ⟨rfl, ho3, ws3, hm3, hq3⟩
  have hon : BM.on ws3 = ex3 := by
    funext q
    rw [hq3 q, HQ2.out q]
    have z : BM.on (fun _ => 0) q = false := by simp [BM.on]
    rw [z, Bool.eq_iff_iff]
    unfold ex3
    simp
    omega
  have B3 : Below w.heap.size w w3 := hb1.trans ((ho2.below c1).trans (ho3.below c1))
  have hT3 : Tab w3 := hT.below B3 h0
  have z3 : w3.heap.size = w1.heap.size := ho3.size.trans ho2.size
  have c4 : b < w3.heap.size := by omega
  have c5 : c < w3.heap.size := by omega
  have HON := Lib.hid hon
  have HZ := Lib.hid z3
  clear hq3 F2 hon z3
  go_wp2_with fail
  have F3 : Calls Tryd.prog 9 #[.pointer (some ⟨b, 0, none⟩), .int .i64 0] w3 _ := first_any b c 8 0 ws3 w3 hm3 hT3
  rw [HON.out, ex3_first] at F3
  refine F3.mono ?_
  rintro e w' ⟨rfl, rfl⟩
  clear F3
  go_wp2_with fail
  have F4 : Calls Tryd.prog 10 #[.pointer (some ⟨b, 0, none⟩), .int .i64 2] w3 _ := run_any b c 8 2 ws3 w3 hm3 hT3 (by decide)
  rw [HON.out, ex3_run] at F4
  refine F4.mono ?_
  rintro e w' ⟨rfl, rfl⟩
  clear F4
  go_wp2_with fail
  have F5 := all_map b c 8 ws3 w3 hm3 hT3 c4 c5
  rw [HON.out, ex3_ons] at F5
  refine F5.mono ?_
  intro e w4 hp
  obtain ⟨A, cc, rfl, his, hb4, hA⟩ := hp.use
  clear F5 hp
  have hA2 : ∀ g off n c, Value.slice A 3 cc = .slice (some ⟨g, off, none⟩) n c → g < w4.heap.size := by
    intro g off n c e
    cases e
    exact (hA _ rfl).2
  have i2 := his.below ((Below.refl w4.heap.size w4).alloc (Nat.le_refl _) (.cells #[.int .i64 0, .int .i64 1, .int .i64 3] 3)) hA2
  have F6 := same_any _ _ [0, 1, 3] _ (by decide) i2 (is_new w4)
  have HF6 := Lib.hid F6
  have HA := Lib.hid hA
  have HA2 := Lib.hid hA2
  clear F6 hA hA2
  go_wp2_with fail
  refine HF6.out.mono ?_
  rintro e w5 ⟨rfl, hb5⟩
  have B4 : Below w3.heap.size w3 w5 := hb4.trans (((Below.refl w3.heap.size w4).alloc hb4.size _).trans (hb5.mono (by have := hb4.size; simp; omega)))
  have hm5 := hm3.below B4 c4 c5
  have F7 := count_any b c 8 ws3 w5 hm5
  rw [HON.out, ex3_cnt] at F7
  have HF7 := Lib.hid F7
  clear F7
  go_wp2_with fail
  refine HF7.out.mono ?_
  rintro e w' ⟨rfl, rfl⟩
  go_wp2
  go_ret
  exact ⟨rfl, B3.trans (B4.mono B3.size)⟩
end Go.Proofs.YthbclmolegnhiaaDoor
