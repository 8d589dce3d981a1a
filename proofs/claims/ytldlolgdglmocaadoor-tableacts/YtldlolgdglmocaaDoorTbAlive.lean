/- The contract of the law package's alive: the document's example holds. -/
import Derived.Test.YtldlolgdglmocaaDoorTbAdd
import Derived.Test.YtldlolgdglmocaaDoorTbNew
import Derived.Test.YtldlolgdglmocaaDoorTbDrop
namespace Go.Proofs.YtldlolgdglmocaaDoor
open Go.RowKit

/-- A table that was made since w0. -/
structure Ht (w0 w : World) (B : TB) (N : Nat) (S : Nat → Sl) : Prop where
  st : TbAt w B N S
  bel : Below w0.heap.size w0 w
  win : B.within w0.heap.size w.heap.size
  tab : Tab w
section
variable {w0 w w' : World} {B : TB} {N : Nat} {S S' : Nat → Sl}
theorem TB.within.aft {lo hi : Nat} (h : B.within lo hi) (ho : Aft B.wr w w') (hw : lo ≤ w.heap.size) : Below lo w w' :=
  ho.below (fun c hc => by
    obtain ⟨h1, h2, h3, h4, h5, h6⟩ := h
    simp [TB.wr] at hc
    rcases hc with rfl | rfl | rfl <;> omega) hw
theorem TB.within.more {lo hi hi' : Nat} (h : B.within lo hi) (hh : hi ≤ hi') : B.within lo hi' := by
  obtain ⟨⟨a1, a2⟩, ⟨b1, b2⟩, ⟨c1, c2⟩, ⟨d1, d2⟩, ⟨f1, f2⟩, e1, e2⟩ := h
  refine ⟨⟨a1, ?_⟩, ⟨b1, ?_⟩, ⟨c1, ?_⟩, ⟨d1, ?_⟩, ⟨f1, ?_⟩, e1, ?_⟩ <;> omega
theorem TB.within.not {lo hi g : Nat} (h : B.within lo hi) (hg : hi ≤ g) : g ∉ B.wr := by
  obtain ⟨⟨a1, a2⟩, ⟨b1, b2⟩, ⟨c1, c2⟩, ⟨d1, d2⟩, ⟨f1, f2⟩, e1, e2⟩ := h
  simp [TB.wr]
  omega
/-- Behind a call of the table. -/
theorem Ht.step (h : Ht w0 w B N S) (hT : Tab w0) (ho : Aft B.wr w w') (hs : TbAt w' B N S') : Ht w0 w' B N S' := by
  have hb := h.bel.trans (h.win.aft ho h.bel.size)
  exact ⟨hs, hb, h.win.more ho.size, hT.below hb hT.pos⟩
/-- Behind a call that leaves all that was there. -/
theorem Ht.later (h : Ht w0 w B N S) (hT : Tab w0) (hb : Below w.heap.size w w') : Ht w0 w' B N S := by
  have hb' := h.bel.trans (hb.mono h.bel.size)
  exact ⟨h.st.on hb, hb', h.win.more hb.size, hT.below hb' hT.pos⟩
theorem Ht.alloc (h : Ht w0 w B N S) (hT : Tab w0) (o : Obj) : Ht w0 (w.alloc o) B N S := h.later hT ((Below.refl _ _).alloc (Nat.le_refl _) o)
theorem Ht.drewN (h : Ht w0 w B N S) (m : Nat) : Ht w0 (w.drewN m) B N S := ⟨h.st.heap rfl, below_drewN h.bel _, h.win, h.tab⟩
theorem ht_new (hT : Tab w) (hs : TbAt w' B N S) (hb : Below w.heap.size w w') (hw : B.within w.heap.size w'.heap.size) : Ht w w' B N S := ⟨hs, hb, hw, hT.below hb hT.pos⟩
end

/-- The three adds of the example. -/
def a0 : Nat → Sl := fun _ => Sl.first
def a1 : Nat → Sl := addSt a0 4 ⟨5, 0, false, false⟩
def a2 : Nat → Sl := addSt a1 4 ⟨6, 0, false, false⟩
def a3 : Nat → Sl := dropSt a2 4 0 1
def a4 : Nat → Sl := addSt a3 4 ⟨7, 0, false, false⟩
theorem f0 : addI a0 4 = 0 ∧ addG a0 4 = 1 ∧ addE a0 4 = 0 := by decide +kernel
theorem f1 : addI a1 4 = 1 ∧ addG a1 4 = 1 ∧ addE a1 4 = 0 := by decide +kernel
theorem f2 : freshB a2 4 0 1 = true := by decide +kernel
theorem f3 : addI a3 4 = 0 ∧ addG a3 4 = 2 ∧ addE a3 4 = 0 := by decide +kernel
theorem f4 : freshB a4 4 0 1 = false := by decide +kernel
theorem f5 : freshB a4 4 0 2 = true ∧ (a4 0).e.a = 7 ∧ (a4 0).e.r = 0 ∧ (a4 0).e.h = false ∧ (a4 0).e.p = false := by decide +kernel
theorem add_at {w : World} {B : TB} {N : Nat} {S : Nat → Sl} {i g : Nat} {E : Int} (h : TbAt w B N S) (hT : Tab w) (x : En) (f : addI S N = i ∧ addG S N = g ∧ addE S N = E) :
    Calls Tryd.prog 15 #[.pointer (some ⟨B.t, 0, none⟩), .agg #[.int .i64 x.a, .int .i64 x.r, .bool x.h, .bool x.p]] w fun e w' => e = .returned (.tuple #[.agg #[.int .i64 (i : Nat), .int .i64 (g : Nat)], .int .i64 E]) ∧ Aft B.wr w w' ∧ TbAt w' B N (addSt S N x) := by
  have := add_all h hT x
  unfold AddPost at this
  rw [f.1, f.2.1, f.2.2] at this
  exact this

set_option maxRecDepth 100000 in
set_option maxHeartbeats 4000000 in
theorem alive_any (w : World) (hT : Tab w) :
    Calls Tryd.prog 10 #[] w fun e w' => e = .returned (.bool true) ∧ Below w.heap.size w w' := by
  have N : Calls Tryd.prog 9 #[.int .i64 4] w (TNewPost 4 w) := tnew_ok 4 w (by decide) (by decide)
  have HN := Lib.hid N
  clear N
  go_enter Tryd.func10, Tryd.ntmps10
  go_wp2_with fail
  refine HN.out.mono ?_
  rintro e w1 ⟨B, rfl, hs1, hb1, hw1⟩
  have k1 : Ht w w1 B 4 a0 := ht_new hT hs1 hb1 hw1
  have C1 : Calls Tryd.prog 15 #[.pointer (some ⟨B.t, 0, none⟩), .agg #[.int .i64 5, .int .i64 0, .bool false, .bool false]] w1 fun e w' => e = .returned (.tuple #[.agg #[.int .i64 0, .int .i64 1], .int .i64 0]) ∧ Aft B.wr w1 w' ∧ TbAt w' B 4 a1 := add_at k1.st k1.tab ⟨5, 0, false, false⟩ f0
  have HC1 := Lib.hid C1
  have HK1 := Lib.hid k1
  clear C1 k1 HN hs1 hb1 hw1
  go_wp2_with fail
  refine HC1.out.mono ?_
  rintro e w2 ⟨rfl, ho2, hs2⟩
  have k2 := (HK1.out.step hT ho2 hs2).alloc hT (.cells #[.int .i64 0, .int .i64 1] 33)
  have x2 := Whole.fresh w2 33 #[.int .i64 0, .int .i64 1]
  have C2 : Calls Tryd.prog 15 #[.pointer (some ⟨B.t, 0, none⟩), .agg #[.int .i64 6, .int .i64 0, .bool false, .bool false]] (w2.alloc (.cells #[.int .i64 0, .int .i64 1] 33)) fun e w' => e = .returned (.tuple #[.agg #[.int .i64 1, .int .i64 1], .int .i64 0]) ∧ Aft B.wr (w2.alloc (.cells #[.int .i64 0, .int .i64 1] 33)) w' ∧ TbAt w' B 4 a2 := add_at k2.st k2.tab ⟨6, 0, false, false⟩ f1
  have HC2 := Lib.hid C2
  have HK2 := Lib.hid k2
  have HX2 := Lib.hid x2
  have n2 : w2.heap.size ∉ B.wr := by
    have := HK1.out.step hT ho2 hs2
    exact this.win.not (Nat.le_refl _)
  have HN2 := Lib.hid n2
  clear C2 k2 x2 HC1 HK1 ho2 hs2 n2
  go_wp2_with fail
  refine HC2.out.mono ?_
  rintro e w3 ⟨rfl, ho3, hs3⟩
  have k3 := (HK2.out.step hT ho3 hs3).alloc hT (.cells #[.int .i64 1, .int .i64 1] 33)
  have y3 := (ho3.whole HX2.out HN2.out).alloc (.cells #[.int .i64 1, .int .i64 1] 33)
  have x3 := Whole.fresh w3 33 #[.int .i64 1, .int .i64 1]
  have n3 : w3.heap.size ∉ B.wr := (HK2.out.step hT ho3 hs3).win.not (Nat.le_refl _)
  have C3 : Calls Tryd.prog 19 #[.pointer (some ⟨B.t, 0, none⟩), .agg #[.int .i64 0, .int .i64 1]] (w3.alloc (.cells #[.int .i64 1, .int .i64 1] 33)) fun e w' => e = .returned (.int .i64 0) ∧ Aft B.wr (w3.alloc (.cells #[.int .i64 1, .int .i64 1] 33)) w' ∧ TbAt w' B 4 a3 := by
    have := drop_all k3.st 0 1
    rw [f2] at this
    exact this
  have HC3 := Lib.hid C3
  have HK3 := Lib.hid k3
  have HX3 := Lib.hid x3
  have HY3 := Lib.hid y3
  have HN3 := Lib.hid n3
  obtain ⟨t0, t1⟩ := y3.two
  clear C3 k3 x3 y3 HC2 HK2 ho3 hs3 n3 HX2
  go_wp2_with fail
  refine HC3.out.mono ?_
  rintro e w4 ⟨rfl, ho4, hs4⟩
  have k4 := HK3.out.step hT ho4 hs4
  have y4 := ho4.whole HY3.out HN2.out
  have x4 := ho4.whole HX3.out HN3.out
  have C4 : Calls Tryd.prog 15 #[.pointer (some ⟨B.t, 0, none⟩), .agg #[.int .i64 7, .int .i64 0, .bool false, .bool false]] w4 fun e w' => e = .returned (.tuple #[.agg #[.int .i64 0, .int .i64 2], .int .i64 0]) ∧ Aft B.wr w4 w' ∧ TbAt w' B 4 a4 := add_at k4.st k4.tab ⟨7, 0, false, false⟩ f3
  have HC4 := Lib.hid C4
  have HK4 := Lib.hid k4
  have HX4 := Lib.hid x4
  have HY4 := Lib.hid y4
  clear C4 k4 x4 y4 HC3 HK3 ho4 hs4 HX3 HY3 t0 t1
  go_wp2_with fail
  refine HC4.out.mono ?_
  rintro e w5 ⟨rfl, ho5, hs5⟩
  have k5 := (HK4.out.step hT ho5 hs5).alloc hT (.cells #[.int .i64 0, .int .i64 2] 33)
  have y5 := (ho5.whole HY4.out HN2.out).alloc (.cells #[.int .i64 0, .int .i64 2] 33)
  have x5 := (ho5.whole HX4.out HN3.out).alloc (.cells #[.int .i64 0, .int .i64 2] 33)
  have z5 := Whole.fresh w5 33 #[.int .i64 0, .int .i64 2]
  have C5 : Calls Tryd.prog 16 #[.pointer (some ⟨B.t, 0, none⟩), .agg #[.int .i64 0, .int .i64 1]] (w5.alloc (.cells #[.int .i64 0, .int .i64 2] 33)) fun e w' => e = .returned (.tuple #[.agg #[.int .i64 0, .int .i64 0, .bool false, .bool false], .int .i64 8]) ∧ Below (w5.alloc (.cells #[.int .i64 0, .int .i64 2] 33)).heap.size (w5.alloc (.cells #[.int .i64 0, .int .i64 2] 33)) w' := by
    have := get_any k5.st 0 1
    unfold getVal at this
    rw [f4] at this
    exact this
  have HC5 := Lib.hid C5
  have HK5 := Lib.hid k5
  have HX5 := Lib.hid x5
  have HY5 := Lib.hid y5
  have HZ5 := Lib.hid z5
  obtain ⟨t0, t1⟩ := y5.two
  clear C5 k5 x5 y5 z5 HC4 HK4 ho5 hs5 HX4 HY4
  go_wp2_with fail
  refine HC5.out.mono ?_
  rintro e w6 ⟨rfl, hb6⟩
  have k6 := (HK5.out.later hT hb6).alloc hT (.cells #[.int .i64 0, .int .i64 0, .bool false, .bool false] 35)
  have y6 := (HY5.out.below hb6 HY5.out.lt).alloc (.cells #[.int .i64 0, .int .i64 0, .bool false, .bool false] 35)
  have x6 := (HX5.out.below hb6 HX5.out.lt).alloc (.cells #[.int .i64 0, .int .i64 0, .bool false, .bool false] 35)
  have z6 := (HZ5.out.below hb6 HZ5.out.lt).alloc (.cells #[.int .i64 0, .int .i64 0, .bool false, .bool false] 35)
  have C6 : Calls Tryd.prog 16 #[.pointer (some ⟨B.t, 0, none⟩), .agg #[.int .i64 0, .int .i64 2]] (w6.alloc (.cells #[.int .i64 0, .int .i64 0, .bool false, .bool false] 35)) fun e w' => e = .returned (.tuple #[.agg #[.int .i64 7, .int .i64 0, .bool false, .bool false], .int .i64 0]) ∧ Below (w6.alloc (.cells #[.int .i64 0, .int .i64 0, .bool false, .bool false] 35)).heap.size (w6.alloc (.cells #[.int .i64 0, .int .i64 0, .bool false, .bool false] 35)) w' := by
    have := get_any k6.st 0 2
    unfold getVal En.v at this
    rw [f5.1] at this
    rw [show (0 : Int).toNat = 0 from rfl, f5.2.1, f5.2.2.1, f5.2.2.2.1, f5.2.2.2.2] at this
    exact this
  have HC6 := Lib.hid C6
  have HK6 := Lib.hid k6
  have HX6 := Lib.hid x6
  have HY6 := Lib.hid y6
  have HZ6 := Lib.hid z6
  obtain ⟨u0, u1⟩ := z6.two
  clear C6 k6 x6 y6 z6 HC5 HK5 hb6 HX5 HY5 HZ5 t0 t1
  go_wp2_with fail
  refine HC6.out.mono ?_
  rintro e w7 ⟨rfl, hb7⟩
  have k7 := (HK6.out.later hT hb7).alloc hT (.cells #[.int .i64 7, .int .i64 0, .bool false, .bool false] 35)
  obtain ⟨p0, p1⟩ := ((HY6.out.below hb7 HY6.out.lt).alloc (.cells #[.int .i64 7, .int .i64 0, .bool false, .bool false] 35)).two
  obtain ⟨q0, q1⟩ := ((HX6.out.below hb7 HX6.out.lt).alloc (.cells #[.int .i64 7, .int .i64 0, .bool false, .bool false] 35)).two
  obtain ⟨r0, r1⟩ := ((HZ6.out.below hb7 HZ6.out.lt).alloc (.cells #[.int .i64 7, .int .i64 0, .bool false, .bool false] 35)).two
  have HB := Lib.hid k7.bel
  clear k7 hb7 HC6 HK6 u0 u1
  go_wp2
  go_ret
  exact ⟨rfl, HB.out⟩
end Go.Proofs.YtldlolgdglmocaaDoor
