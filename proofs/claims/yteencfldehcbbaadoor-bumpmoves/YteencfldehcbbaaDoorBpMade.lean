/- Contracts of New, made, alive. -/
import Derived.Test.YteencfldehcbbaaDoorBpJoin
import Derived.Test.YteencfldehcbbaaDoorBpDrop
namespace Go.Proofs.YteencfldehcbbaaDoor
open Go.RowKit Go.Sort BP
set_option linter.unusedVariables false

theorem bnew_nil (w : World) (o : Int) : Calls Tryd.prog 27 #[.pointer none, .int .i64 o] w fun e w' => e = .returned (.tuple #[.pointer none, .int .i64 1]) ∧ Below w.heap.size w w' := by
  go_enter Tryd.func27, Tryd.ntmps27
  go_wp2
  go_ret2
  exact ⟨rfl, Below.refl _ _⟩
theorem bnew_arg (w : World) (s : Nat) (o : Int) (ho : o < 1) : Calls Tryd.prog 27 #[.pointer (some ⟨s, 0, none⟩), .int .i64 o] w fun e w' => e = .returned (.tuple #[.pointer none, .int .i64 2]) ∧ Below w.heap.size w w' := by
  have d : decide (o < 1) = true := by simpa using ho
  clear ho
  go_enter Tryd.func27, Tryd.ntmps27
  go_wp2
  go_ret2
  exact ⟨rfl, Below.refl _ _⟩
/-- What New leaves. -/
def BNewPost (s o : Nat) (w : World) (e : Ending) (w' : World) : Prop :=
  ∃ p, e = .returned (.tuple #[.pointer (some ⟨p, 0, none⟩), .int .i64 0]) ∧ SpAt w' w.heap.size p (.slice none 0 0) s o ⟨[], (0, 0), 0⟩ ∧ Below w.heap.size w w'
theorem bnew_ok (w : World) (s o : Nat) (ho : 1 ≤ o) : Calls Tryd.prog 27 #[.pointer (some ⟨s, 0, none⟩), .int .i64 (o : Nat)] w (BNewPost s o w) := by
  have hb := (Below.refl w.heap.size w).alloc (Nat.le_refl _) (.cells #[.pointer (some ⟨s, 0, none⟩), .int .i64 (o : Nat), .slice none 0 0, .int .i64 0, .int .i64 0, .int .i64 0] 79)
  have HB := Lib.hid hb
  clear hb
  go_enter Tryd.func27, Tryd.ntmps27
  go_wp2
  go_ret2
  exact ⟨w.heap.size, rfl, ⟨Whole.fresh w _ _, PR.nil _ _, Nat.le_refl _⟩, HB.out⟩
theorem Tab.later {w w' : World} (h : Tab w) (hb : Below w.heap.size w w') : Tab w' := h.below hb h.pos
def d0 : Dt := ⟨fun _ => 0, fun _ => 0, ⟨[], (0, 0), 0⟩, ⟨[], (0, 0), 0⟩⟩
theorem d0_good (C K : Nat) : Good2 C K 1 2 d0 := ⟨Good.none _ _ _ _, Good.none _ _ _ _, by decide, by decide, by decide⟩
/-- Both spaces, new on a store. -/
def BMadePost (C K : Nat) (w : World) (e : Ending) (w' : World) : Prop :=
  ∃ (B : SB) (p p' : Nat), e = .returned (.tuple #[.pointer (some ⟨B.s, 0, none⟩), .agg #[.pointer (some ⟨p, 0, none⟩), .pointer (some ⟨p', 0, none⟩)]]) ∧ Co w w' B C K 1 2 p p' (.slice none 0 0) (.slice none 0 0) d0
set_option maxHeartbeats 2000000 in
theorem made_ok (C K : Nat) (w : World) (hT : Tab w) (C1 : 1 ≤ C) (C2 : C ≤ 1024) (K1 : 1 ≤ K) (K2 : K ≤ 1024) :
    Calls Tryd.prog 11 #[.int .i64 (C : Nat), .int .i64 (K : Nat)] w (BMadePost C K w) := by
  have hb := (Below.refl w.heap.size w).alloc (Nat.le_refl _) (.cells #[.pointer none, .pointer none] 27)
  have HN := Lib.hid (snew_ok C K (w.alloc (.cells #[.pointer none, .pointer none] 27)) C1 C2 K1 K2)
  have HX := Lib.hid (Whole.fresh w 27 #[.pointer none, .pointer none])
  have HB := Lib.hid hb
  clear hb
  go_enter Tryd.func11, Tryd.ntmps11
  go_wp2_with fail
  refine HN.out.mono ?_
  rintro e w1 ⟨B, rfl, hs1, hb1, hw1⟩
  have HA1 := Lib.hid (bnew_ok w1 B.s 1 (by decide))
  have H1 := Lib.hid (show StAt w1 B C K (fun _ => 0) (fun _ => 0) ∧ Below w.heap.size w w1 ∧ B.within w.heap.size w1.heap.size ∧ Whole w1 w.heap.size 27 #[.pointer none, .pointer none] from ⟨hs1, HB.out.trans (hb1.mono (by simp)), (by obtain ⟨⟨a1, a2⟩, ⟨b1, b2⟩, ⟨c1, c2⟩, ⟨d1, d2⟩, e1, e2⟩ := hw1; simp at a1 b1 c1 d1 e1; refine ⟨⟨?_, a2⟩, ⟨?_, b2⟩, ⟨?_, c2⟩, ⟨?_, d2⟩, ?_, e2⟩ <;> omega), HX.out.below hb1 HX.out.lt⟩)
  have HOX := Lib.hid (show ∀ x ∈ B.bl, w.heap.size < x from fun x hx => by have := (hw1.mem hx).1; simp at this; omega)
  clear hs1 hb1 hw1 HN HB HX
  go_wp2_with fail
  refine HA1.out.mono ?_
  rintro e w2 ⟨p, rfl, hp2, hb2⟩
  have HA2 := Lib.hid (bnew_ok w2 B.s 2 (by decide))
  have H2 := Lib.hid (And.intro hp2 hb2)
  clear hp2 hb2 HA1
  go_wp2_with fail
  refine HA2.out.mono ?_
  rintro e w3 ⟨p', rfl, hp3, hb3⟩
  have hb12 := H2.out.2
  have hx3 := (H1.out.2.2.2.below hb12 H1.out.2.2.2.lt).below hb3 (Nat.lt_of_lt_of_le H1.out.2.2.2.lt hb12.size)
  have x0 := hx3.p0
  have x1 := hx3.p1
  have f0 := hx3.free 0
  have f1 := hx3.free 1
  have H3 := Lib.hid (And.intro hp3 hb3)
  have HX3 := Lib.hid hx3
  clear hp3 hb3 hb12 hx3 HA2
  go_wp2
  have hz := (HX3.out.set 0 (.pointer (some ⟨p, 0, none⟩))).set 1 (.pointer (some ⟨p', 0, none⟩))
  have z0 := (show Whole _ w.heap.size 27 #[.pointer (some ⟨p, 0, none⟩), .pointer (some ⟨p', 0, none⟩)] from hz).p0
  have z1 := (show Whole _ w.heap.size 27 #[.pointer (some ⟨p, 0, none⟩), .pointer (some ⟨p', 0, none⟩)] from hz).p1
  refine bodyPost_ret (v := .tuple #[.pointer (some ⟨B.s, 0, none⟩), .agg #[.pointer (some ⟨p, 0, none⟩), .pointer (some ⟨p', 0, none⟩)]]) (by simp [results, Tryd.results11, go_sem, z0, z1]) rfl ⟨B, p, p', rfl, ?_⟩
  obtain ⟨hs1, hb1, hw1, _⟩ := H1.out
  obtain ⟨hp2, hb2⟩ := H2.out
  obtain ⟨hp3, hb3⟩ := H3.out
  have hox := HOX.out
  have ho : OnlyAt w.heap.size w3 ((w3.setCell ⟨w.heap.size, 0, none⟩ (.pointer (some ⟨p, 0, none⟩))).setCell ⟨w.heap.size, 1, none⟩ (.pointer (some ⟨p', 0, none⟩))) := ((OnlyAt.refl _ _).setCell 0 _).setCell 1 _
  have hlo := hp2.lo
  have hlt := hp2.box.lt
  have hlo3 := hp3.lo
  have hs12 := hb1.size
  have hs23 := hb2.size
  have h1lt := H1.out.2.2.2.lt
  have hin : ∀ x ∈ B.bl, x < w1.heap.size := fun x hx => (hw1.mem hx).2
  have hbw : Below w.heap.size w3 ((w3.setCell ⟨w.heap.size, 0, none⟩ (.pointer (some ⟨p, 0, none⟩))).setCell ⟨w.heap.size, 1, none⟩ (.pointer (some ⟨p', 0, none⟩))) := ⟨rfl, rfl, rfl, by rw [ho.size]; exact Nat.le_refl _, fun k hk => ho.block k (by omega)⟩
  have hba := (hb1.trans (hb2.mono hs12)).trans ((hb3.mono (Nat.le_trans hs12 hs23)).trans hbw)
  have hs3 := hb3.size
  refine ⟨⟨hs1.blocks fun k hk => ?_, hba, hw1.more (by rw [ho.size]; omega), hT.later hba⟩, ⟨?_, PR.nil _ _, by omega⟩, ⟨?_, PR.nil _ _, by omega⟩, by omega, fun g hg => by simp [Value.ownBlock] at hg, fun x hx => ⟨?_, ?_, by simp [Value.ownBlock], by simp [Value.ownBlock]⟩⟩
  · have hk' : k ∈ B.bl := by simp [SB.bl]; omega
    have := hin k hk'
    have := hox k hk'
    exact (ho.block k (by omega)).trans ((hb3.block k (by omega)).trans (hb2.block k (by omega)))
  · exact (ho.block p (by omega)).trans ((hb3.block p hlt).trans hp2.box)
  · exact (ho.block p' (by omega)).trans hp3.box
  · have := hin x hx; omega
  · have := hin x hx; omega
end Go.Proofs.YteencfldehcbbaaDoor
