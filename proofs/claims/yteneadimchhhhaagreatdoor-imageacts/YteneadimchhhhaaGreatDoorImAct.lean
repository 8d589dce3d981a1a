/- An act of the laws, done to images and to the document's: the same answer, the same words. -/
import Derived.Test.YteneadimchhhhaaGreatDoorMgImRef
import Derived.Test.YteneadimchhhhaaGreatDoorImOpen
namespace Go.Proofs.YteneadimchhhhaaGreatDoor
open Go.RowKit

section
variable {w0 w w' : World} {I : IB} {J : DB} {q : Cf} {wd wd' wc wc' : Nat → Nat}
/-- The document's images where their store alone has turned. -/
theorem DcAt.aft (h : DcAt w J q wd) (ha : Aft [J.R.p, J.R.q] w w') (hr : RfAt w' J.R q.C q.K q.own wd') (hp : J.m ≠ J.R.p ∧ J.m ≠ J.R.q) (hv : J.v.ownBlock ≠ some J.R.p ∧ J.v.ownBlock ≠ some J.R.q)
    (hi : ∀ l ∈ J.ls, (0 < l.n → ∀ a, l.A = some a → a.block ≠ J.R.p ∧ a.block ≠ J.R.q) ∧ (0 < l.m → ∀ a, l.D = some a → a.block ≠ J.R.p ∧ a.block ≠ J.R.q)) : DcAt w' J q wd' := by
  refine ⟨hr, (ha.block _ h.box.lt (by simp; exact hp)).trans h.box, ⟨h.row.1, ?_⟩, fun l hl => ⟨Lists.same (h.each l hl).1 ha.size fun g hg => ⟨fun hn a e eg => ?_, fun hn a e eg => ?_⟩, (h.each l hl).2⟩, h.rts, h.lays, h.win.more ha.size, h.len⟩
  · rcases h.row.2 with h0 | ⟨g, cap, cur, e, hg, hh, hx⟩
    · exact .inl h0
    · refine .inr ⟨g, cap, cur, e, hg, (ha.block g (Array.getElem?_eq_some_iff.1 hh).1 ?_).trans hh, hx⟩
      rw [e] at hv
      simp [Value.ownBlock] at hv
      simp
      exact hv
  · subst eg
    exact ha.block _ hg (by simp; exact (hi l hl).1 hn a e)
  · subst eg
    exact ha.block _ hg (by simp; exact (hi l hl).2 hn a e)
/-- Behind a call of the document's that writes. -/
theorem Ms.docA (h : Ms w0 w I J q wd wc) {v : Value} {e : Ending} (hp : DaPost v J q wc' w e w') : Ms w0 w' I J q wd wc' := by
  obtain ⟨-, ha, hr⟩ := hp
  exact ⟨h.im.far ha fun g hg => (h.jlo g hg).2, h.dc.aft ha hr h.jm h.jv h.ji, h.bel.trans (ha.below (fun g hg => (h.jlo g hg).1) h.bel.size), h.ilo, h.jlo, h.jm, h.jv, h.ji⟩
/-- Behind a call of images that writes. -/
theorem Ms.iw (h : Ms w0 w I J q wd wc) {v : Value} {e : Ending} (hp : IwPost v I q wd' w e w') : Ms w0 w' I J q wd' wc := h.code hp.2.1 hp.2.2
/-- A block that came later is none that calls write. -/
theorem Ms.new (h : Ms w0 w I J q wd wc) {g : Nat} (hg : w.heap.size ≤ g) : g ∉ I.wr ∧ g ∉ [J.R.p, J.R.q] := by
  have h1 := h.dc.win.2.1.2
  have h2 := h.dc.win.2.2.2
  have h3 := h.im.lolt
  exact ⟨fun hx => by have := h.im.wrlt hx; omega, by simp; omega⟩
theorem Ms.drew (h : Ms w0 w I J q wd wc) : Ms w0 w.drew I J q wd wc := h.later (Below.refl _ _).drew
end

/-- The words behind an act. -/
def acW (q : Cf) (wd : Nat → Nat) (f : IAc) : Nat → Nat :=
  if f.k = 0 then IM.mkW q wd f.a f.L f.C f.S else if f.k = 2 then IM.svW q wd f.a f.p f.x.toNat else if f.k = 4 then IM.tiW q wd f.a f.p f.K f.J f.G else if f.k = 5 then IM.mvW q wd f.a f.p
  else if f.k = 6 then (if IM.adE q f.a = 0 then IM.upd wd f.a.toNat f.x.toNat else wd) else wd
/-- The blocks that calls of either side write. -/
def Both (I : IB) (J : DB) : List Nat := I.wr ++ [J.R.p, J.R.q]
/-- What an act leaves. -/
def DoIs (w0 w : World) (I : IB) (J : DB) (q : Cf) (wd : Nat → Nat) (e : Ending) (w' : World) : Prop := e = .returned (.bool true) ∧ Ms w0 w' I J q wd wd ∧ Aft (Both I J) w w'
theorem Aft.both_l {I : IB} {J : DB} {a b : World} (h : Aft I.wr a b) : Aft (Both I J) a b := h.sub fun _ hx => List.mem_append_left _ hx
theorem Aft.both_r {I : IB} {J : DB} {a b : World} (h : Aft [J.R.p, J.R.q] a b) : Aft (Both I J) a b := h.sub fun _ hx => List.mem_append_right _ hx
section
variable {w0 w : World} {I : IB} {J : DB} {q : Cf} {wd : Nat → Nat}
set_option maxRecDepth 100000 in
set_option maxHeartbeats 2000000 in
theorem do_make (h : Ms w0 w I J q wd wd) (a p L C S K I2 G : Int) (x : Nat) (ha : I64 a) (hC : I64 C) :
    Calls Tryz.prog 8 #[.agg #[.int .i64 0, .int .i64 a, .int .i64 p, .int .i64 L, .int .i64 C, .int .i64 S, .int .u64 (x : Nat), .int .i64 K, .int .i64 I2, .int .i64 G], .pointer (some ⟨I.B.s, 0, none⟩), .pointer (some ⟨I.p, 0, none⟩), .pointer (some ⟨J.m, 0, none⟩)] w (DoIs w0 w I J q (IM.mkW q wd a L C S)) := by
  obtain ⟨w1, hw1⟩ : ∃ w1, w1 = w.alloc (.cells #[.int .i64 0, .int .i64 a, .int .i64 p, .int .i64 L, .int .i64 C, .int .i64 S, .int .u64 (x : Nat), .int .i64 K, .int .i64 I2, .int .i64 G] 39) := ⟨_, rfl⟩
  have hb1 : Below w.heap.size w w1 := by rw [hw1]; exact (Below.refl _ _).alloc (Nat.le_refl _) _
  have Y1 : Whole w1 w.heap.size 39 #[.int .i64 0, .int .i64 a, .int .i64 p, .int .i64 L, .int .i64 C, .int .i64 S, .int .u64 (x : Nat), .int .i64 K, .int .i64 I2, .int .i64 G] := by rw [hw1]; exact Whole.fresh _ _ _
  have HN := Lib.hid (h.new (Nat.le_refl _))
  have HB1 := Lib.hid hb1
  have H1 := h.later hb1
  have wl := H1.im.st.wlt
  have c0 : w1.cell? ⟨w.heap.size, 0, none⟩ = some (.int .i64 0) := Y1.cell 0
  have c1 : w1.cell? ⟨w.heap.size, 1, none⟩ = some (.int .i64 a) := Y1.cell 1
  have c3 : w1.cell? ⟨w.heap.size, 3, none⟩ = some (.int .i64 L) := Y1.cell 3
  have c4 : w1.cell? ⟨w.heap.size, 4, none⟩ = some (.int .i64 C) := Y1.cell 4
  have c5 : w1.cell? ⟨w.heap.size, 5, none⟩ = some (.int .i64 S) := Y1.cell 5
  have CI := Lib.hid (imake_any H1.im a L C S hC)
  have CD := Lib.hid (fun (W : World) (hM : Ms w0 W I J q (IM.mkW q wd a L C S) wd) => rmake_any hM.dc a L C S ha hC)
  generalize IM.mkN q a L C S = nn at *
  generalize IM.mkE q a L C S = er at *
  generalize IM.mkW q wd a L C S = wd2 at *
  have HW1 := Lib.hid hw1
  have HY1 := Lib.hid Y1
  have HM1 := Lib.hid H1
  clear hw1 hb1 Y1 H1 h
  go_enter Tryz.func8, Tryz.ntmps8
  go_upto_region 1 with fail
  rw [← HW1.out]
  go_wp2_with fail
  refine CI.out.mono ?_
  rintro e w2 hp
  have hM2 := HM1.out.iw hp
  have hY2 := hp.2.2.whole HY1.out HN.out.1
  have HF2 := Lib.hid (Aft.both_l (J := J) hp.2.2)
  obtain ⟨rfl, -, -⟩ := hp
  clear c0 c1 c3 c4 c5
  have c1 : w2.cell? ⟨w.heap.size, 1, none⟩ = some (.int .i64 a) := hY2.cell 1
  have c3 : w2.cell? ⟨w.heap.size, 3, none⟩ = some (.int .i64 L) := hY2.cell 3
  have c4 : w2.cell? ⟨w.heap.size, 4, none⟩ = some (.int .i64 C) := hY2.cell 4
  have c5 : w2.cell? ⟨w.heap.size, 5, none⟩ = some (.int .i64 S) := hY2.cell 5
  have C2 := Lib.hid (CD.out w2 hM2)
  have HM2 := Lib.hid hM2
  clear hY2 hM2 CI CD HY1 HM1
  go_wp2_with fail
  refine C2.out.mono ?_
  rintro e w3 hp
  have HM3 := Lib.hid (HM2.out.docA hp)
  have HF3 := Lib.hid (Aft.both_r (I := I) hp.2.1)
  obtain ⟨rfl, -, -⟩ := hp
  clear C2 HM2
  go_wp2_with fail
  go_ret
  exact ⟨rfl, HM3.out, (Aft.of_below HB1.out).trans (HF2.out.trans HF3.out)⟩
set_option maxRecDepth 100000 in
set_option maxHeartbeats 2000000 in
theorem do_load (h : Ms w0 w I J q wd wd) (a p L C S K I2 G : Int) (x : Nat) (ha : I64 a) :
    Calls Tryz.prog 8 #[.agg #[.int .i64 1, .int .i64 a, .int .i64 p, .int .i64 L, .int .i64 C, .int .i64 S, .int .u64 (x : Nat), .int .i64 K, .int .i64 I2, .int .i64 G], .pointer (some ⟨I.B.s, 0, none⟩), .pointer (some ⟨I.p, 0, none⟩), .pointer (some ⟨J.m, 0, none⟩)] w (DoIs w0 w I J q (wd)) := by
  obtain ⟨w1, hw1⟩ : ∃ w1, w1 = w.alloc (.cells #[.int .i64 1, .int .i64 a, .int .i64 p, .int .i64 L, .int .i64 C, .int .i64 S, .int .u64 (x : Nat), .int .i64 K, .int .i64 I2, .int .i64 G] 39) := ⟨_, rfl⟩
  have hb1 : Below w.heap.size w w1 := by rw [hw1]; exact (Below.refl _ _).alloc (Nat.le_refl _) _
  have Y1 : Whole w1 w.heap.size 39 #[.int .i64 1, .int .i64 a, .int .i64 p, .int .i64 L, .int .i64 C, .int .i64 S, .int .u64 (x : Nat), .int .i64 K, .int .i64 I2, .int .i64 G] := by rw [hw1]; exact Whole.fresh _ _ _
  have HN := Lib.hid (h.new (Nat.le_refl _))
  have HB1 := Lib.hid hb1
  have H1 := h.later hb1
  have wl := H1.im.st.wlt
  have c0 : w1.cell? ⟨w.heap.size, 0, none⟩ = some (.int .i64 1) := Y1.cell 0
  have c1 : w1.cell? ⟨w.heap.size, 1, none⟩ = some (.int .i64 a) := Y1.cell 1
  have c2 : w1.cell? ⟨w.heap.size, 2, none⟩ = some (.int .i64 p) := Y1.cell 2
  have CI := Lib.hid (iload_any H1.im a p)
  have CD := Lib.hid (fun (W : World) (hM : Ms w0 W I J q wd wd) => rload_any hM.dc a p ha wl)
  generalize IM.ldV q wd a p = nn at *
  generalize IM.ldE q wd a p = er at *
  clear wl
  have HW1 := Lib.hid hw1
  have HY1 := Lib.hid Y1
  have HM1 := Lib.hid H1
  clear hw1 hb1 Y1 H1 h
  go_enter Tryz.func8, Tryz.ntmps8
  go_upto_region 1 with fail
  rw [← HW1.out]
  go_wp2_with fail
  refine CI.out.mono ?_
  rintro e w2 ⟨rfl, hb2⟩
  have hM2 := HM1.out.later hb2
  have hY2 := HY1.out.below hb2 HY1.out.lt
  clear c0 c1 c2
  have c1 : w2.cell? ⟨w.heap.size, 1, none⟩ = some (.int .i64 a) := hY2.cell 1
  have c2 : w2.cell? ⟨w.heap.size, 2, none⟩ = some (.int .i64 p) := hY2.cell 2
  have C2 := Lib.hid (CD.out w2 hM2)
  have HM2 := Lib.hid hM2
  have HB2 := Lib.hid hb2
  clear hY2 hM2 CI CD HY1 HM1 hb2
  go_wp2_with fail
  refine C2.out.mono ?_
  rintro e w3 ⟨rfl, hb3⟩
  have HM3 := Lib.hid (HM2.out.later hb3)
  have HB3 := Lib.hid hb3
  clear C2 HM2 hb3
  go_wp2_with fail
  go_ret
  exact ⟨rfl, HM3.out, (Aft.of_below HB1.out).trans ((Aft.of_below HB2.out).trans (Aft.of_below HB3.out))⟩
set_option maxRecDepth 100000 in
set_option maxHeartbeats 2000000 in
theorem do_follow (h : Ms w0 w I J q wd wd) (a p L C S K I2 G : Int) (x : Nat) (ha : I64 a) :
    Calls Tryz.prog 8 #[.agg #[.int .i64 3, .int .i64 a, .int .i64 p, .int .i64 L, .int .i64 C, .int .i64 S, .int .u64 (x : Nat), .int .i64 K, .int .i64 I2, .int .i64 G], .pointer (some ⟨I.B.s, 0, none⟩), .pointer (some ⟨I.p, 0, none⟩), .pointer (some ⟨J.m, 0, none⟩)] w (DoIs w0 w I J q (wd)) := by
  obtain ⟨w1, hw1⟩ : ∃ w1, w1 = w.alloc (.cells #[.int .i64 3, .int .i64 a, .int .i64 p, .int .i64 L, .int .i64 C, .int .i64 S, .int .u64 (x : Nat), .int .i64 K, .int .i64 I2, .int .i64 G] 39) := ⟨_, rfl⟩
  have hb1 : Below w.heap.size w w1 := by rw [hw1]; exact (Below.refl _ _).alloc (Nat.le_refl _) _
  have Y1 : Whole w1 w.heap.size 39 #[.int .i64 3, .int .i64 a, .int .i64 p, .int .i64 L, .int .i64 C, .int .i64 S, .int .u64 (x : Nat), .int .i64 K, .int .i64 I2, .int .i64 G] := by rw [hw1]; exact Whole.fresh _ _ _
  have HN := Lib.hid (h.new (Nat.le_refl _))
  have HB1 := Lib.hid hb1
  have H1 := h.later hb1
  have wl := H1.im.st.wlt
  have c0 : w1.cell? ⟨w.heap.size, 0, none⟩ = some (.int .i64 3) := Y1.cell 0
  have c1 : w1.cell? ⟨w.heap.size, 1, none⟩ = some (.int .i64 a) := Y1.cell 1
  have c2 : w1.cell? ⟨w.heap.size, 2, none⟩ = some (.int .i64 p) := Y1.cell 2
  have CI := Lib.hid (ifollow_any H1.im a p)
  have CD := Lib.hid (fun (W : World) (hM : Ms w0 W I J q wd wd) => rfollow_any hM.dc a p ha wl)
  unfold FolIs at CI CD
  generalize IM.flK q wd a p = fK at *
  generalize IM.flI q wd a p = fI at *
  generalize IM.flG q wd a p = fG at *
  generalize IM.flE q wd a p = er at *
  clear wl
  have HW1 := Lib.hid hw1
  have HY1 := Lib.hid Y1
  have HM1 := Lib.hid H1
  clear hw1 hb1 Y1 H1 h
  go_enter Tryz.func8, Tryz.ntmps8
  go_upto_region 1 with fail
  rw [← HW1.out]
  go_wp2_with fail
  refine CI.out.mono ?_
  rintro e w2 ⟨rfl, hb2⟩
  obtain ⟨w3, hw3⟩ : ∃ w3, w3 = w2.alloc (.cells #[.int .i64 fK, .int .i64 fI, .int .i64 fG] 37) := ⟨_, rfl⟩
  have hb3 : Below w1.heap.size w1 w3 := by rw [hw3]; exact hb2.alloc hb2.size _
  have O3 : Whole w3 w2.heap.size 37 #[.int .i64 fK, .int .i64 fI, .int .i64 fG] := by rw [hw3]; exact Whole.fresh _ _ _
  have hM2 := HM1.out.later hb3
  have hY2 := HY1.out.below hb3 HY1.out.lt
  clear c0 c1 c2
  have c1 : w3.cell? ⟨w.heap.size, 1, none⟩ = some (.int .i64 a) := hY2.cell 1
  have c2 : w3.cell? ⟨w.heap.size, 2, none⟩ = some (.int .i64 p) := hY2.cell 2
  have C2 := Lib.hid (CD.out w3 hM2)
  have HM2 := Lib.hid hM2
  have HW3 := Lib.hid hw3
  have HO3 := Lib.hid O3
  have HB3 := Lib.hid hb3
  clear hY2 hM2 CI CD HY1 HM1 hb2 hb3 hw3 O3
  go_upto_region 14 with fail
  rw [← HW3.out]
  go_wp2_with fail
  refine C2.out.mono ?_
  rintro e w4 ⟨rfl, hb4⟩
  obtain ⟨w5, hw5⟩ : ∃ w5, w5 = w4.alloc (.cells #[.int .i64 fK, .int .i64 fI, .int .i64 fG] 37) := ⟨_, rfl⟩
  have hb5 : Below w3.heap.size w3 w5 := by rw [hw5]; exact hb4.alloc hb4.size _
  have O5 : Whole w5 w4.heap.size 37 #[.int .i64 fK, .int .i64 fI, .int .i64 fG] := by rw [hw5]; exact Whole.fresh _ _ _
  obtain ⟨o0, o1, o2⟩ := (HO3.out.below hb5 HO3.out.lt).cells3
  obtain ⟨p0, p1, p2⟩ := O5.cells3
  have HM3 := Lib.hid (HM2.out.later hb5)
  have HB5 := Lib.hid hb5
  have HW5 := Lib.hid hw5
  clear C2 HM2 hb4 hb5 hw5 O5 HO3
  go_upto_region 15 with fail
  rw [← HW5.out]
  go_wp2_with fail
  go_ret
  exact ⟨rfl, HM3.out, (Aft.of_below HB1.out).trans ((Aft.of_below HB3.out).trans (Aft.of_below HB5.out))⟩
set_option maxRecDepth 100000 in
set_option maxHeartbeats 2000000 in
theorem do_move (h : Ms w0 w I J q wd wd) (a p L C S K I2 G : Int) (x : Nat) (hp2 : I64 p) :
    Calls Tryz.prog 8 #[.agg #[.int .i64 5, .int .i64 a, .int .i64 p, .int .i64 L, .int .i64 C, .int .i64 S, .int .u64 (x : Nat), .int .i64 K, .int .i64 I2, .int .i64 G], .pointer (some ⟨I.B.s, 0, none⟩), .pointer (some ⟨I.p, 0, none⟩), .pointer (some ⟨J.m, 0, none⟩)] w (DoIs w0 w I J q (IM.mvW q wd a p)) := by
  obtain ⟨w1, hw1⟩ : ∃ w1, w1 = w.alloc (.cells #[.int .i64 5, .int .i64 a, .int .i64 p, .int .i64 L, .int .i64 C, .int .i64 S, .int .u64 (x : Nat), .int .i64 K, .int .i64 I2, .int .i64 G] 39) := ⟨_, rfl⟩
  have hb1 : Below w.heap.size w w1 := by rw [hw1]; exact (Below.refl _ _).alloc (Nat.le_refl _) _
  have Y1 : Whole w1 w.heap.size 39 #[.int .i64 5, .int .i64 a, .int .i64 p, .int .i64 L, .int .i64 C, .int .i64 S, .int .u64 (x : Nat), .int .i64 K, .int .i64 I2, .int .i64 G] := by rw [hw1]; exact Whole.fresh _ _ _
  have HN := Lib.hid (h.new (Nat.le_refl _))
  have HB1 := Lib.hid hb1
  have H1 := h.later hb1
  have wl := H1.im.st.wlt
  have c0 : w1.cell? ⟨w.heap.size, 0, none⟩ = some (.int .i64 5) := Y1.cell 0
  have c1 : w1.cell? ⟨w.heap.size, 1, none⟩ = some (.int .i64 a) := Y1.cell 1
  have c2 : w1.cell? ⟨w.heap.size, 2, none⟩ = some (.int .i64 p) := Y1.cell 2
  have CI := Lib.hid (imove_any H1.im a p)
  have CD := Lib.hid (fun (W : World) (hM : Ms w0 W I J q (IM.mvW q wd a p) wd) => rmove_any hM.dc a p hp2 wl)
  generalize IM.mvN q wd a p = nn at *
  generalize IM.mvE q wd a p = er at *
  generalize IM.mvW q wd a p = wd2 at *
  clear wl
  have HW1 := Lib.hid hw1
  have HY1 := Lib.hid Y1
  have HM1 := Lib.hid H1
  clear hw1 hb1 Y1 H1 h
  go_enter Tryz.func8, Tryz.ntmps8
  go_upto_region 1 with fail
  rw [← HW1.out]
  go_wp2_with fail
  refine CI.out.mono ?_
  rintro e w2 hp
  have hM2 := HM1.out.iw hp
  have hY2 := hp.2.2.whole HY1.out HN.out.1
  have HF2 := Lib.hid (Aft.both_l (J := J) hp.2.2)
  obtain ⟨rfl, -, -⟩ := hp
  clear c0 c1 c2
  have c1 : w2.cell? ⟨w.heap.size, 1, none⟩ = some (.int .i64 a) := hY2.cell 1
  have c2 : w2.cell? ⟨w.heap.size, 2, none⟩ = some (.int .i64 p) := hY2.cell 2
  have C2 := Lib.hid (CD.out w2 hM2)
  have HM2 := Lib.hid hM2
  clear hY2 hM2 CI CD HY1 HM1
  go_wp2_with fail
  refine C2.out.mono ?_
  rintro e w3 hp
  have HM3 := Lib.hid (HM2.out.docA hp.da)
  have HF3 := Lib.hid (Aft.both_r (I := I) hp.da.2.1)
  obtain ⟨rfl, -⟩ := hp
  clear C2 HM2
  go_wp2_with fail
  go_ret
  exact ⟨rfl, HM3.out, (Aft.of_below HB1.out).trans (HF2.out.trans HF3.out)⟩
set_option maxRecDepth 100000 in
set_option maxHeartbeats 2000000 in
theorem do_none (h : Ms w0 w I J q wd wd) (k a p L C S K I2 G : Int) (x : Nat) (hk : k ≠ 0 ∧ k ≠ 1 ∧ k ≠ 2 ∧ k ≠ 3 ∧ k ≠ 4 ∧ k ≠ 5 ∧ k ≠ 6) :
    Calls Tryz.prog 8 #[.agg #[.int .i64 k, .int .i64 a, .int .i64 p, .int .i64 L, .int .i64 C, .int .i64 S, .int .u64 (x : Nat), .int .i64 K, .int .i64 I2, .int .i64 G], .pointer (some ⟨I.B.s, 0, none⟩), .pointer (some ⟨I.p, 0, none⟩), .pointer (some ⟨J.m, 0, none⟩)] w (DoIs w0 w I J q (wd)) := by
  obtain ⟨w1, hw1⟩ : ∃ w1, w1 = w.alloc (.cells #[.int .i64 k, .int .i64 a, .int .i64 p, .int .i64 L, .int .i64 C, .int .i64 S, .int .u64 (x : Nat), .int .i64 K, .int .i64 I2, .int .i64 G] 39) := ⟨_, rfl⟩
  have hb1 : Below w.heap.size w w1 := by rw [hw1]; exact (Below.refl _ _).alloc (Nat.le_refl _) _
  have Y1 : Whole w1 w.heap.size 39 #[.int .i64 k, .int .i64 a, .int .i64 p, .int .i64 L, .int .i64 C, .int .i64 S, .int .u64 (x : Nat), .int .i64 K, .int .i64 I2, .int .i64 G] := by rw [hw1]; exact Whole.fresh _ _ _
  have HN := Lib.hid (h.new (Nat.le_refl _))
  have HB1 := Lib.hid hb1
  have H1 := h.later hb1
  have wl := H1.im.st.wlt
  have c0 : w1.cell? ⟨w.heap.size, 0, none⟩ = some (.int .i64 k) := Y1.cell 0
  have d0 : (k == 0) = false := by simpa using hk.1
  have d1 : (k == 1) = false := by simpa using hk.2.1
  have d2 : (k == 2) = false := by simpa using hk.2.2.1
  have d3 : (k == 3) = false := by simpa using hk.2.2.2.1
  have d4 : (k == 4) = false := by simpa using hk.2.2.2.2.1
  have d5 : (k == 5) = false := by simpa using hk.2.2.2.2.2.1
  have d6 : (k == 6) = false := by simpa using hk.2.2.2.2.2.2
  clear wl hk
  have HW1 := Lib.hid hw1
  have HY1 := Lib.hid Y1
  have HM1 := Lib.hid H1
  clear hw1 hb1 Y1 H1 h
  go_enter Tryz.func8, Tryz.ntmps8
  go_upto_region 1 with fail
  rw [← HW1.out]
  go_wp2_with fail
  go_ret
  exact ⟨rfl, HM1.out, Aft.of_below HB1.out⟩
set_option maxRecDepth 100000 in
set_option maxHeartbeats 2000000 in
theorem do_save (h : Ms w0 w I J q wd wd) (a p L C S K I2 G : Int) (x : Nat) (ha : I64 a) (hx : x < 18446744073709551616) :
    Calls Tryz.prog 8 #[.agg #[.int .i64 2, .int .i64 a, .int .i64 p, .int .i64 L, .int .i64 C, .int .i64 S, .int .u64 (x : Nat), .int .i64 K, .int .i64 I2, .int .i64 G], .pointer (some ⟨I.B.s, 0, none⟩), .pointer (some ⟨I.p, 0, none⟩), .pointer (some ⟨J.m, 0, none⟩)] w (DoIs w0 w I J q (IM.svW q wd a p x)) := by
  obtain ⟨w1, hw1⟩ : ∃ w1, w1 = w.alloc (.cells #[.int .i64 2, .int .i64 a, .int .i64 p, .int .i64 L, .int .i64 C, .int .i64 S, .int .u64 (x : Nat), .int .i64 K, .int .i64 I2, .int .i64 G] 39) := ⟨_, rfl⟩
  have hb1 : Below w.heap.size w w1 := by rw [hw1]; exact (Below.refl _ _).alloc (Nat.le_refl _) _
  have Y1 : Whole w1 w.heap.size 39 #[.int .i64 2, .int .i64 a, .int .i64 p, .int .i64 L, .int .i64 C, .int .i64 S, .int .u64 (x : Nat), .int .i64 K, .int .i64 I2, .int .i64 G] := by rw [hw1]; exact Whole.fresh _ _ _
  have HN := Lib.hid (h.new (Nat.le_refl _))
  have HB1 := Lib.hid hb1
  have H1 := h.later hb1
  have wl := H1.im.st.wlt
  have c0 : w1.cell? ⟨w.heap.size, 0, none⟩ = some (.int .i64 2) := Y1.cell 0
  have c1 : w1.cell? ⟨w.heap.size, 1, none⟩ = some (.int .i64 a) := Y1.cell 1
  have c2 : w1.cell? ⟨w.heap.size, 2, none⟩ = some (.int .i64 p) := Y1.cell 2
  have c6 : w1.cell? ⟨w.heap.size, 6, none⟩ = some (.int .u64 (x : Nat)) := Y1.cell 6
  have CI := Lib.hid (isave_any H1.drew.im a p x hx)
  have CD := Lib.hid (fun (W : World) (hM : Ms w0 W I J q (IM.svW q wd a p x) wd) => (rsave_any hM.dc a p x ha wl).mono fun _ _ hp => hp.da)
  generalize IM.ldE q wd a p = er at *
  generalize IM.svW q wd a p x = wd2 at *
  clear wl
  have HCE := Lib.hid (show ∀ W : World, Whole W w.heap.size 39 #[.int .i64 2, .int .i64 a, .int .i64 p, .int .i64 L, .int .i64 C, .int .i64 S, .int .u64 (x : Nat), .int .i64 K, .int .i64 I2, .int .i64 G] → W.cell? ⟨w.heap.size, 1, none⟩ = some (.int .i64 a) ∧ W.cell? ⟨w.heap.size, 2, none⟩ = some (.int .i64 p) ∧ W.cell? ⟨w.heap.size, 6, none⟩ = some (.int .u64 (x : Nat)) from fun W hY => ⟨hY.cell 1, hY.cell 2, hY.cell 6⟩)
  have HW1 := Lib.hid hw1
  have HY1 := Lib.hid Y1
  have HM1 := Lib.hid H1
  clear hw1 hb1 Y1 H1 h
  go_enter Tryz.func8, Tryz.ntmps8
  go_upto_region 1 with fail
  rw [← HW1.out]
  go_upto_region 11 with fail
  go_region_held3 (fun w' => w'.cell? ⟨w.heap.size, 1, none⟩ = some (.int .i64 a) ∧ w'.cell? ⟨w.heap.size, 2, none⟩ = some (.int .i64 p) ∧ w'.cell? ⟨w.heap.size, 6, none⟩ = some (.int .u64 (x : Nat)))
    (first | (with_reducible exact HX3) | (with_reducible exact HX2) | (with_reducible exact ⟨c1, c2, c6⟩) | exact ⟨c1, c2, c6⟩ | fail)
    (first
      | (go_at_call 30; (with_reducible refine C2.out.mono ?_); rintro e w3 hp; have HX3 := HCE.out _ (hp.2.1.whole HY2.out HN.out.2); have HM3 := Lib.hid (HM2.out.docA hp); have HF3 := Lib.hid (Aft.both_r (I := I) hp.2.1); obtain ⟨rfl, -⟩ := hp)
      | (go_at_call 29; (with_reducible refine CI.out.mono ?_); rintro e w2 hp; have hM2 := HM1.out.drew.iw hp; have hY2 := hp.2.2.whole HY1.out.drew HN.out.1; have HX2 := HCE.out _ hY2; have HF2 := Lib.hid (Aft.both_l (J := J) hp.2.2); have C2 := Lib.hid (CD.out w2 hM2); have HM2 := Lib.hid hM2; have HY2 := Lib.hid hY2; obtain ⟨rfl, -, -⟩ := hp; clear hM2 hY2))
  go_wp2_with fail
  go_ret
  exact ⟨rfl, HM3.out, ((Aft.of_below HB1.out).trans (Aft.of_below (Below.refl _ _).drew)).trans (HF2.out.trans HF3.out)⟩
set_option maxRecDepth 100000 in
set_option maxHeartbeats 2000000 in
theorem do_tie (h : Ms w0 w I J q wd wd) (a p L C S K I2 G : Int) (x : Nat) (ha : I64 a) :
    Calls Tryz.prog 8 #[.agg #[.int .i64 4, .int .i64 a, .int .i64 p, .int .i64 L, .int .i64 C, .int .i64 S, .int .u64 (x : Nat), .int .i64 K, .int .i64 I2, .int .i64 G], .pointer (some ⟨I.B.s, 0, none⟩), .pointer (some ⟨I.p, 0, none⟩), .pointer (some ⟨J.m, 0, none⟩)] w (DoIs w0 w I J q (IM.tiW q wd a p K I2 G)) := by
  obtain ⟨w1, hw1⟩ : ∃ w1, w1 = w.alloc (.cells #[.int .i64 4, .int .i64 a, .int .i64 p, .int .i64 L, .int .i64 C, .int .i64 S, .int .u64 (x : Nat), .int .i64 K, .int .i64 I2, .int .i64 G] 39) := ⟨_, rfl⟩
  have hb1 : Below w.heap.size w w1 := by rw [hw1]; exact (Below.refl _ _).alloc (Nat.le_refl _) _
  have Y1 : Whole w1 w.heap.size 39 #[.int .i64 4, .int .i64 a, .int .i64 p, .int .i64 L, .int .i64 C, .int .i64 S, .int .u64 (x : Nat), .int .i64 K, .int .i64 I2, .int .i64 G] := by rw [hw1]; exact Whole.fresh _ _ _
  have HN := Lib.hid (h.new (Nat.le_refl _))
  have HB1 := Lib.hid hb1
  have H1 := h.later hb1
  have wl := H1.im.st.wlt
  have c0 : w1.cell? ⟨w.heap.size, 0, none⟩ = some (.int .i64 4) := Y1.cell 0
  have c1 : w1.cell? ⟨w.heap.size, 1, none⟩ = some (.int .i64 a) := Y1.cell 1
  have c2 : w1.cell? ⟨w.heap.size, 2, none⟩ = some (.int .i64 p) := Y1.cell 2
  have c7 : w1.cell? ⟨w.heap.size, 7, none⟩ = some (.int .i64 K) := Y1.cell 7
  have c8 : w1.cell? ⟨w.heap.size, 8, none⟩ = some (.int .i64 I2) := Y1.cell 8
  have c9 : w1.cell? ⟨w.heap.size, 9, none⟩ = some (.int .i64 G) := Y1.cell 9
  have CI := Lib.hid (itie_any H1.drew.im a p K I2 G)
  have CD := Lib.hid (fun (W : World) (hM : Ms w0 W I J q (IM.tiW q wd a p K I2 G) wd) => rtie_any hM.dc a p K I2 G ha wl)
  generalize IM.tiE q wd a p K I2 G = er at *
  generalize IM.tiW q wd a p K I2 G = wd2 at *
  clear wl
  have HCE := Lib.hid (show ∀ W : World, Whole W w.heap.size 39 #[.int .i64 4, .int .i64 a, .int .i64 p, .int .i64 L, .int .i64 C, .int .i64 S, .int .u64 (x : Nat), .int .i64 K, .int .i64 I2, .int .i64 G] → W.cell? ⟨w.heap.size, 1, none⟩ = some (.int .i64 a) ∧ W.cell? ⟨w.heap.size, 2, none⟩ = some (.int .i64 p) ∧ W.cell? ⟨w.heap.size, 7, none⟩ = some (.int .i64 K) ∧ W.cell? ⟨w.heap.size, 8, none⟩ = some (.int .i64 I2) ∧ W.cell? ⟨w.heap.size, 9, none⟩ = some (.int .i64 G) from fun W hY => ⟨hY.cell 1, hY.cell 2, hY.cell 7, hY.cell 8, hY.cell 9⟩)
  have HW1 := Lib.hid hw1
  have HY1 := Lib.hid Y1
  have HM1 := Lib.hid H1
  clear hw1 hb1 Y1 H1 h
  go_enter Tryz.func8, Tryz.ntmps8
  go_upto_region 1 with fail
  rw [← HW1.out]
  go_upto_region 17 with fail
  go_region_held3 (fun w' => w'.cell? ⟨w.heap.size, 1, none⟩ = some (.int .i64 a) ∧ w'.cell? ⟨w.heap.size, 2, none⟩ = some (.int .i64 p) ∧ w'.cell? ⟨w.heap.size, 7, none⟩ = some (.int .i64 K) ∧ w'.cell? ⟨w.heap.size, 8, none⟩ = some (.int .i64 I2) ∧ w'.cell? ⟨w.heap.size, 9, none⟩ = some (.int .i64 G))
    (first | (with_reducible exact HX3) | (with_reducible exact HX2) | (with_reducible exact ⟨c1, c2, c7, c8, c9⟩) | exact ⟨c1, c2, c7, c8, c9⟩ | fail)
    (first
      | (go_at_call 32; (with_reducible refine C2.out.mono ?_); rintro e w3 hp; have HX3 := HCE.out _ (hp.2.1.whole HY2.out HN.out.2); have HM3 := Lib.hid (HM2.out.docA hp); have HF3 := Lib.hid (Aft.both_r (I := I) hp.2.1); obtain ⟨rfl, -⟩ := hp)
      | (go_at_call 31; (with_reducible refine CI.out.mono ?_); rintro e w2 hp; have hM2 := HM1.out.drew.iw hp; have hY2 := hp.2.2.whole HY1.out.drew HN.out.1; have HX2 := HCE.out _ hY2; have HF2 := Lib.hid (Aft.both_l (J := J) hp.2.2); have C2 := Lib.hid (CD.out w2 hM2); have HM2 := Lib.hid hM2; have HY2 := Lib.hid hY2; obtain ⟨rfl, -, -⟩ := hp; clear hM2 hY2))
  go_wp2_with fail
  go_ret
  exact ⟨rfl, HM3.out, ((Aft.of_below HB1.out).trans (Aft.of_below (Below.refl _ _).drew)).trans (HF2.out.trans HF3.out)⟩
end
end Go.Proofs.YteneadimchhhhaaGreatDoor
