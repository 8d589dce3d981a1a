/- The contract of the law package's alive: the document's example holds. -/
import Derived.Test.YtpddiakpnibcgaaDoorStCopy
import Derived.Test.YtpddiakpnibcgaaDoorStNew
namespace Go.Proofs.YtpddiakpnibcgaaDoor
open Go.RowKit

theorem Tab.pos {w : World} (h : Tab w) : 0 < w.heap.size := by
  have := h 0 (by decide)
  rcases Nat.lt_or_ge 0 w.heap.size with hl | hg
  · exact hl
  · simp [World.cell?, Array.getElem?_eq_none hg] at this

/-- A store that was made since w0. -/
structure Held (w0 w : World) (B : SB) (C K : Nat) (own wd : Nat → Nat) : Prop where
  st : StAt w B C K own wd
  bel : Below w0.heap.size w0 w
  win : B.within w0.heap.size w.heap.size
  tab : Tab w
section
variable {w0 w w' : World} {B : SB} {C K : Nat} {own wd own' wd' : Nat → Nat}
theorem SB.within.only {lo hi : Nat} (h : B.within lo hi) {w w' : World} (ho : OnlyIn [B.o, B.c, B.v] w w') : Below lo w w' :=
  ho.below fun c hc => by
    obtain ⟨h1, h2, h3, h4, h5⟩ := h
    simp at hc
    rcases hc with rfl | rfl | rfl <;> omega
theorem SB.within.more {lo hi hi' : Nat} (h : B.within lo hi) (hh : hi ≤ hi') : B.within lo hi' := by
  obtain ⟨⟨a1, a2⟩, ⟨b1, b2⟩, ⟨c1, c2⟩, ⟨d1, d2⟩, e1, e2⟩ := h
  refine ⟨⟨a1, ?_⟩, ⟨b1, ?_⟩, ⟨c1, ?_⟩, ⟨d1, ?_⟩, e1, ?_⟩ <;> omega
/-- Behind a call of the store. -/
theorem Held.step (h : Held w0 w B C K own wd) (hT : Tab w0) (ho : OnlyIn [B.o, B.c, B.v] w w') (hs : StAt w' B C K own' wd') : Held w0 w' B C K own' wd' := by
  have hb := h.bel.trans (h.win.only ho)
  exact ⟨hs, hb, by rw [ho.size]; exact h.win, hT.below hb hT.pos⟩
/-- Behind a call that leaves all that was there. -/
theorem Held.later (h : Held w0 w B C K own wd) (hT : Tab w0) (hb : Below w.heap.size w w') : Held w0 w' B C K own wd := by
  have hb' := h.bel.trans (hb.mono h.bel.size)
  exact ⟨h.st.below hb h.win, hb', h.win.more hb.size, hT.below hb' hT.pos⟩
theorem Held.heap (h : Held w0 w B C K own wd) (e : ∃ m, w' = w.drewN m) : Held w0 w' B C K own wd := by
  obtain ⟨m, rfl⟩ := e
  exact ⟨h.st.heap rfl, below_drewN h.bel _, h.win, h.tab⟩
theorem held_new (hT : Tab w) {hs : StAt w' B C K own wd} (hb : Below w.heap.size w w') (hw : B.within w.heap.size w'.heap.size) : Held w w' B C K own wd := ⟨hs, hb, hw, hT.below hb hT.pos⟩
end

set_option maxHeartbeats 2000000 in
theorem alive_any (w : World) (hT : Tab w) :
    Calls Tryd.prog 11 #[] w fun e w' => e = .returned (.bool true) ∧ Below w.heap.size w w' := by
  have N : Calls Tryd.prog 26 #[.int .i64 4, .int .i64 8] w (SNewPost 4 8 w) := snew_ok 4 8 w (by decide) (by decide) (by decide) (by decide)
  have HN := Lib.hid N
  clear N
  go_enter Tryd.func11, Tryd.ntmps11
  go_wp2_with fail
  refine HN.out.mono ?_
  rintro e w1 ⟨B, rfl, hs1, hb1, hw1⟩
  have k1 : Held w w1 B 4 8 (fun _ => 0) (fun _ => 0) := ⟨hs1, hb1, hw1, hT.below hb1 hT.pos⟩
  have F1 : Calls Tryd.prog 16 #[.pointer (some ⟨B.s, 0, none⟩), .int .i64 5] w1 fun e w' => e = .returned (.tuple #[.int .i64 0, .int .i64 0]) ∧ _ := take_one (R := fun w' => OnlyIn [B.o, B.c, B.v] w1 w' ∧ StAt w' B 4 8 (tkOwn (fun _ => 0) 0 1 5) (tkWd (fun _ => 0) 8 0 1)) ((take_ok k1.st k1.tab 5 1 0 (by decide) (by decide) (by decide) (by decide) (by decide)).mono fun _ _ h => h)
  have HF1 := Lib.hid F1
  clear F1 hs1 hb1 hw1 HN
  go_wp2_with fail
  refine HF1.out.mono ?_
  rintro e w2 ⟨rfl, ho2, hs2⟩
  have k2 := k1.step hT ho2 hs2
  have F2 : Calls Tryd.prog 17 #[.pointer (some ⟨B.s, 0, none⟩), .int .i64 6, .int .i64 2] w2 _ := take_ok k2.st k2.tab 6 2 1 (by decide) (by decide) (by decide) (by decide) (by decide)
  have HF2 := Lib.hid F2
  clear F2 hs2 ho2 HF1
  go_wp2_with fail
  refine HF2.out.mono ?_
  rintro e w3 ⟨rfl, ho3, hs3⟩
  have k3 := k2.step hT ho3 hs3
  have F3 : Calls Tryd.prog 16 #[.pointer (some ⟨B.s, 0, none⟩), .int .i64 5] w3 fun e w' => e = .returned (.tuple #[.int .i64 3, .int .i64 0]) ∧ _ := take_one (R := fun w' => OnlyIn [B.o, B.c, B.v] w3 w' ∧ StAt w' B 4 8 _ _) ((take_ok k3.st k3.tab 5 1 3 (by decide) (by decide) (by decide) (by decide) (by decide)).mono fun _ _ h => h)
  have HF3 := Lib.hid F3
  clear F3 hs3 ho3 HF2
  go_wp2_with fail
  refine HF3.out.mono ?_
  rintro e w4 ⟨rfl, ho4, hs4⟩
  have k4 := k3.step hT ho4 hs4
  have F4 : Calls Tryd.prog 19 #[.pointer (some ⟨B.s, 0, none⟩), .int .i64 1] w4 _ := release_ok k4.st 1 (by decide) (by decide)
  have HF4 := Lib.hid F4
  clear F4 hs4 ho4 HF3
  go_wp2_with fail
  refine HF4.out.mono ?_
  rintro e w5 ⟨rfl, ho5, hs5⟩
  have k5 := k4.step hT ho5 hs5
  have F5 : Calls Tryd.prog 16 #[.pointer (some ⟨B.s, 0, none⟩), .int .i64 9] w5 fun e w' => e = .returned (.tuple #[.int .i64 1, .int .i64 0]) ∧ _ := take_one (R := fun w' => OnlyIn [B.o, B.c, B.v] w5 w' ∧ StAt w' B 4 8 _ _) ((take_ok k5.st k5.tab 9 1 1 (by decide) (by decide) (by decide) (by decide) (by decide)).mono fun _ _ h => h)
  have HF5 := Lib.hid F5
  clear F5 hs5 ho5 HF4
  go_wp2_with fail
  refine HF5.out.mono ?_
  rintro e w6 ⟨rfl, ho6, hs6⟩
  have k6 := k5.step hT ho6 hs6
  have F6 : Calls Tryd.prog 15 #[.pointer (some ⟨B.s, 0, none⟩), .int .i64 1] w6 fun e w' => e = .returned (.int .i64 9) ∧ w6 = w' := owner_any k6.st 1
  have HF6 := Lib.hid F6
  have bel := Lib.hid k6.bel
  clear F6 hs6 ho6 HF5 k1 k2 k3 k4 k5 k6
  go_wp2_with fail
  refine HF6.out.mono ?_
  rintro e w' ⟨rfl, rfl⟩
  go_wp2
  go_ret
  exact ⟨rfl, bel.out⟩
end Go.Proofs.YtpddiakpnibcgaaDoor
