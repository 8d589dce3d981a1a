/- Contracts of objectOf, objectAt, At of images. -/
import Derived.Test.YteneadimchhhhaaDoorImRow
import Derived.Test.YteneadimchhhhaaDoorHdEnc2
import Derived.Test.YteneadimchhhhaaDoorLyTold
import Derived.Deep.DeepCutAuto
namespace Go.Proofs.YteneadimchhhhaaDoor
open Go.RowKit

theorem obj_none {D : List LD} {L : Int} (h : IM.gE D L ≠ 0) : IM.lay D L = none := by
  unfold IM.gE at h
  cases hl : IM.lay D L with
  | none => rfl
  | some l => rw [hl] at h; exact absurd rfl h
theorem cell_al {w : World} {o : Obj} {b i : Nat} (h : b < w.heap.size) : (w.alloc o).cell? ⟨b, i, none⟩ = w.cell? ⟨b, i, none⟩ := World.cell?_of_block (w := w) (Below.heap_alloc w o b h)
theorem cell_al_drew {w : World} {o : Obj} {b i : Nat} (h : b < w.heap.size) : (w.alloc o).drew.cell? ⟨b, i, none⟩ = w.cell? ⟨b, i, none⟩ := World.cell?_of_block (w := w) (Below.heap_alloc w o b h)
theorem cell_set {w : World} {a b i j : Nat} {u : Value} (h : a ≠ b) : (w.setCell ⟨b, j, none⟩ u).cell? ⟨a, i, none⟩ = w.cell? ⟨a, i, none⟩ := World.cell?_of_block (w := w) (Below.heap_setCell w ⟨b, j, none⟩ u a h)
theorem cell_set4 {w : World} {a b i : Nat} {u0 u1 u2 u3 : Value} (h : a ≠ b) : ((((w.setCell ⟨b, 0, none⟩ u0).setCell ⟨b, 1, none⟩ u1).setCell ⟨b, 2, none⟩ u2).setCell ⟨b, 3, none⟩ u3).cell? ⟨a, i, none⟩ = w.cell? ⟨a, i, none⟩ :=
  (((cell_set h).trans (cell_set h)).trans (cell_set h)).trans (cell_set h)
theorem set8_below {w wc : World} {B b : Nat} {u0 u1 u2 u3 u4 u5 u6 u7 : Value} (h : Below B w wc) (hb : B ≤ b) : Below B w ((((((((wc.setCell ⟨b, 0, none⟩ u0).setCell ⟨b, 1, none⟩ u1).setCell ⟨b, 2, none⟩ u2).setCell ⟨b, 3, none⟩ u3).setCell ⟨b, 4, none⟩ u4).setCell ⟨b, 5, none⟩ u5).setCell ⟨b, 6, none⟩ u6).setCell ⟨b, 7, none⟩ u7) :=
  (((((((h.setCell (p := ⟨b, 0, none⟩) hb _).setCell (p := ⟨b, 1, none⟩) hb _).setCell (p := ⟨b, 2, none⟩) hb _).setCell (p := ⟨b, 3, none⟩) hb _).setCell (p := ⟨b, 4, none⟩) hb _).setCell (p := ⟨b, 5, none⟩) hb _).setCell (p := ⟨b, 6, none⟩) hb _).setCell (p := ⟨b, 7, none⟩) hb _
theorem set8_kept {lo hi : Nat} {w wc : World} {b : Nat} {u0 u1 u2 u3 u4 u5 u6 u7 : Value} (h : Kept lo hi w wc) (hb : b < lo ∨ hi ≤ b) : Kept lo hi w ((((((((wc.setCell ⟨b, 0, none⟩ u0).setCell ⟨b, 1, none⟩ u1).setCell ⟨b, 2, none⟩ u2).setCell ⟨b, 3, none⟩ u3).setCell ⟨b, 4, none⟩ u4).setCell ⟨b, 5, none⟩ u5).setCell ⟨b, 6, none⟩ u6).setCell ⟨b, 7, none⟩ u7) :=
  (((((((h.setCell (p := ⟨b, 0, none⟩) hb _).setCell (p := ⟨b, 1, none⟩) hb _).setCell (p := ⟨b, 2, none⟩) hb _).setCell (p := ⟨b, 3, none⟩) hb _).setCell (p := ⟨b, 4, none⟩) hb _).setCell (p := ⟨b, 5, none⟩) hb _).setCell (p := ⟨b, 6, none⟩) hb _).setCell (p := ⟨b, 7, none⟩) hb _
theorem Whole.cells4 {W : World} {g : Nat} {t : TypeId} {a b c d : Value} (h : Whole W g t #[a, b, c, d]) : W.cell? ⟨g, 0, none⟩ = some a ∧ W.cell? ⟨g, 1, none⟩ = some b ∧ W.cell? ⟨g, 2, none⟩ = some c ∧ W.cell? ⟨g, 3, none⟩ = some d := ⟨h.cell 0, h.cell 1, h.cell 2, h.cell 3⟩
def zE (E x : Int) : Int := if E = 0 then x else 0
/-- An object, as it is told: its header, its layout, how many words. -/
def ObjIs (D : List LD) (L C S N E : Int) (w : World) (e : Ending) (w' : World) : Prop :=
  ∃ k : LV, e = .returned (.tuple #[.agg #[.int .i64 L, .int .i64 C, .int .i64 S, .int .i64 k.F, .slice k.A k.n k.c, .int .i64 k.R, .slice k.D k.m k.d, .int .i64 N], .int .i64 E]) ∧ Hid (GotIs D L E k w w') ∧ Below w.heap.size w w'

theorem GotIs.from {D : List LD} {L E : Int} {k : LV} {w w1 w' : World} (h : GotIs D L E k w1 w') (hs : w.heap.size ≤ w1.heap.size) : GotIs D L E k w w' := fun e => by
  obtain ⟨h1, h2, h3⟩ := h e
  exact ⟨h1, h2, Lists.mono h3 hs (Nat.le_refl _)⟩
theorem GotIs.on {D : List LD} {L E : Int} {k : LV} {w w1 w' : World} (h : GotIs D L E k w w1) (hb : Below w1.heap.size w1 w') : GotIs D L E k w w' := fun e => by
  obtain ⟨h1, h2, h3⟩ := h e
  exact ⟨h1, h2, Lists.mono (Lists.kept h3 (Kept.of_below hb (Nat.le_refl _))) (Nat.le_refl _) hb.size⟩
/-- Behind the call of Get: the box of the layout, the error. -/
def GotBox (D : List LD) (L gE : Int) (w1 : World) (s6 s7 : Value) (wx : World) : Prop :=
  ∃ (g : Nat) (k : LV), s6 = .pointer (some ⟨g, 0, none⟩) ∧ s7 = .int .i64 gE ∧ Hid (Whole wx g 56 #[.int .i64 k.F, .slice k.A k.n k.c, .int .i64 k.R, .slice k.D k.m k.d]) ∧ Hid (GotIs D L gE k w1 wx) ∧ Below w1.heap.size w1 wx
theorem obj_lit {D : List LD} {L gE : Int} {w1 w2 : World} {k : LV} (hb : Below w1.heap.size w1 w2) (hk : Hid (GotIs D L gE k w1.drew w2)) :
    GotBox D L gE w1 (.pointer (some ⟨w2.heap.size, 0, none⟩)) (.int .i64 gE) (w2.alloc (.cells #[.int .i64 k.F, .slice k.A k.n k.c, .int .i64 k.R, .slice k.D k.m k.d] 56)) :=
  ⟨_, k, rfl, rfl, Whole.fresh _ _ _, ((GotIs.from (w := w1) hk.out (Nat.le_refl _)).on ((Below.refl _ _).alloc (Nat.le_refl _) _)), hb.alloc hb.size _⟩
theorem obj_set {D : List LD} {L gE : Int} {w1 w2 : World} {k : LV} {z : Obj} {a b c d : Value} (hb : Below (w1.alloc z).drew.heap.size (w1.alloc z).drew w2) (hX : Whole w2 w1.heap.size 56 #[a, b, c, d]) (hk : Hid (GotIs D L gE k (w1.alloc z).drew w2)) :
    GotBox D L gE w1 (.pointer (some ⟨w1.heap.size, 0, none⟩)) (.int .i64 gE) ((((w2.setCell ⟨w1.heap.size, 0, none⟩ (.int .i64 k.F)).setCell ⟨w1.heap.size, 1, none⟩ (.slice k.A k.n k.c)).setCell ⟨w1.heap.size, 2, none⟩ (.int .i64 k.R)).setCell ⟨w1.heap.size, 3, none⟩ (.slice k.D k.m k.d)) := by
  have hsz : (w1.alloc z).drew.heap.size = w1.heap.size + 1 := by show (w1.alloc z).heap.size = _; simp
  have hXX := (((hX.set 0 (.int .i64 k.F)).set 1 (.slice k.A k.n k.c)).set 2 (.int .i64 k.R)).set 3 (.slice k.D k.m k.d)
  refine ⟨_, k, rfl, rfl, ?_, ?_, ?_⟩
  · exact hXX
  · have hg : GotIs D L gE k (w1.alloc z).drew ((((w2.setCell ⟨w1.heap.size, 0, none⟩ (.int .i64 k.F)).setCell ⟨w1.heap.size, 1, none⟩ (.slice k.A k.n k.c)).setCell ⟨w1.heap.size, 2, none⟩ (.int .i64 k.R)).setCell ⟨w1.heap.size, 3, none⟩ (.slice k.D k.m k.d)) := fun e => by
      obtain ⟨h1, h2, h3⟩ := hk.out e
      refine ⟨h1, h2, ?_⟩
      have := Lists.kept h3 (((((Kept.refl _ _ w2).setCell (p := ⟨w1.heap.size, 0, none⟩) (.inl (by rw [hsz]; simp)) (.int .i64 k.F)).setCell (p := ⟨w1.heap.size, 1, none⟩) (.inl (by rw [hsz]; simp)) (.slice k.A k.n k.c)).setCell (p := ⟨w1.heap.size, 2, none⟩) (.inl (by rw [hsz]; simp)) (.int .i64 k.R)).setCell (p := ⟨w1.heap.size, 3, none⟩) (.inl (by rw [hsz]; simp)) (.slice k.D k.m k.d))
      exact Lists.mono this (Nat.le_refl _) (by simp)
    exact GotIs.from (w := w1) hg (by rw [hsz]; omega)
  · exact ((((bl_alloc_drew hb).setCell (p := ⟨w1.heap.size, 0, none⟩) (Nat.le_refl _) _).setCell (p := ⟨w1.heap.size, 1, none⟩) (Nat.le_refl _) _).setCell (p := ⟨w1.heap.size, 2, none⟩) (Nat.le_refl _) _).setCell (p := ⟨w1.heap.size, 3, none⟩) (Nat.le_refl _) _
set_option maxHeartbeats 2000000 in
theorem objectOf_any {w : World} {I : IB} {q : Cf} {wd : Nat → Nat} (h : ImAt w I q wd) (L C S : Int) (hC : I64 C) :
    Calls Tryd.prog 25 #[.pointer (some ⟨I.p, 0, none⟩), .agg #[.int .i64 L, .int .i64 C, .int .i64 S]] w (ObjIs q.D (zE (IM.szE q.D L C) L) (zE (IM.szE q.D L C) C) (zE (IM.szE q.D L C) S) (IM.szN q.D L C) (IM.szE q.D L C) w) := by
  obtain ⟨w1, hw1⟩ : ∃ w1, w1 = (w.alloc (.cells #[.int .i64 L, .int .i64 C, .int .i64 S] 28)).alloc (.cells #[.int .i64 0, .int .i64 0, .int .i64 0, .int .i64 0, .slice none 0 0, .int .i64 0, .slice none 0 0, .int .i64 0] 79) := ⟨_, rfl⟩
  have hb1 : Below w.heap.size w w1 := by rw [hw1]; exact ((Below.refl _ _).alloc (Nat.le_refl _) _).alloc (by simp) _
  have X1 : Whole w1 w.heap.size 28 #[.int .i64 L, .int .i64 C, .int .i64 S] := by rw [hw1]; exact (Whole.fresh _ _ _).alloc _
  have Y1 : Whole w1 (w.heap.size + 1) 79 #[.int .i64 0, .int .i64 0, .int .i64 0, .int .i64 0, .slice none 0 0, .int .i64 0, .slice none 0 0, .int .i64 0] := by rw [hw1]; exact Whole.fresh' (by simp)
  have hs1 : w1.heap.size = w.heap.size + 2 := by rw [hw1]; simp
  have H1 := h.below hb1
  have CG : ∀ W : World, Below w1.heap.size w1 W → Calls Tryd.prog 47 #[.pointer (some ⟨I.b, 0, none⟩), .int .i64 L] W fun e w' => ∃ k : LV, e = .returned (.tuple #[.agg #[.int .i64 k.F, .slice k.A k.n k.c, .int .i64 k.R, .slice k.D k.m k.d], .int .i64 (IM.gE q.D L)]) ∧
      Hid (GotIs q.D L (IM.gE q.D L) k W w') ∧ Below W.heap.size W w' := fun W hW => by
    have := bookGet_any (H1.below hW).bk L
    rw [h.lays] at this
    exact this
  have C1 := CG w1.drew (Below.refl _ _).drew
  have Cz := CG (w1.alloc (.cells #[.int .i64 0, .slice none 0 0, .int .i64 0, .slice none 0 0] 56)).drew ((Below.refl _ _).alloc (Nat.le_refl _) _).drew
  obtain ⟨c0, c1, c2⟩ := X1.cells3
  have p1 : w1.cell? ⟨I.p, 1, none⟩ = some (.pointer (some ⟨I.b, 0, none⟩)) := H1.box.cell 1
  have plt := H1.box.lt
  have HC1 := Lib.hid C1
  have HCz := Lib.hid Cz
  have HX := Lib.hid X1
  have HY := Lib.hid Y1
  have HB1 := Lib.hid hb1
  have HS := Lib.hid hs1
  clear CG C1 Cz H1 X1 Y1 hb1 h hs1
  obtain ⟨gE, hgE⟩ : ∃ gE, gE = IM.gE q.D L := ⟨_, rfl⟩
  rw [← hgE] at HC1 HCz
  have HGE := Lib.hid hgE
  clear hgE
  go_enter Tryd.func25, Tryd.ntmps25
  go_upto_region 1 with fail
  rw [← hw1]
  clear hw1
  have hs1 := HS.out
  have hlw : w.heap.size < w1.heap.size := by omega
  have hn0 : w.heap.size ≠ w1.heap.size := by omega
  have hn1 : I.p ≠ w1.heap.size := by omega
  clear hs1
  have c0d : w1.drew.cell? ⟨w.heap.size, 0, none⟩ = some (.int .i64 L) := c0
  have p1d : w1.drew.cell? ⟨I.p, 1, none⟩ = some (.pointer (some ⟨I.b, 0, none⟩)) := p1
  go_cut [6, 7] (fun s6 s7 wx => GotBox q.D L gE w1 s6 s7 wx)
  case first =>
    go_region_held3 (fun w' => w'.cell? ⟨w.heap.size, 0, none⟩ = some (.int .i64 L) ∧ w'.cell? ⟨I.p, 1, none⟩ = some (.pointer (some ⟨I.b, 0, none⟩))) (first | (with_reducible exact ⟨hx0, hx1⟩) | (with_reducible exact ⟨(cell_al hl0).trans hx0, (cell_al hl1).trans hx1⟩) | (with_reducible exact ⟨(cell_set4 hn0).trans hx0, (cell_set4 hn1).trans hx1⟩) | (with_reducible exact ⟨c0, p1⟩) | (with_reducible exact ⟨c0d, p1d⟩) | (with_reducible exact ⟨(cell_al_drew hlw).trans c0, (cell_al_drew plt).trans p1⟩) | (with_reducible exact ⟨(cell_al (w := w1.drew) hlw).trans c0d, (cell_al (w := w1.drew) plt).trans p1d⟩) | fail)
      (first
        | (go_at_call 47; (with_reducible refine HCz.out.mono ?_); rintro e w2 ⟨k, rfl, hk, hb2⟩; have x2 := ((Whole.fresh w1 56 #[.int .i64 0, .slice none 0 0, .int .i64 0, .slice none 0 0]).drew).below hb2 (by show w1.heap.size < (w1.alloc _).heap.size; simp); obtain ⟨z0, z1, z2, z3⟩ := x2.cells4; have y0 := x2.free 0; have y1 := x2.free 1; have y2 := x2.free 2; have y3 := x2.free 3; have HK := Lib.hid hk; have HB2 := Lib.hid hb2; have hb3 := bl_alloc_drew hb2; have hx0 := (hb3.cell (p := ⟨w.heap.size, 0, none⟩) hlw).trans c0; have hx1 := (hb3.cell (p := ⟨I.p, 1, none⟩) plt).trans p1; have X2 := Lib.hid x2; clear hb2 hb3 hk x2)
        | (go_at_call 47; (with_reducible refine HC1.out.mono ?_); rintro e w2 ⟨k, rfl, hk, hb2⟩; have hb3 := bl_drew hb2; have hx0 := (hb3.cell (p := ⟨w.heap.size, 0, none⟩) hlw).trans c0; have hx1 := (hb3.cell (p := ⟨I.p, 1, none⟩) plt).trans p1; have hl0 : w.heap.size < w2.heap.size := Nat.lt_of_lt_of_le hlw hb3.size; have hl1 : I.p < w2.heap.size := Nat.lt_of_lt_of_le plt hb3.size; have HB3 := Lib.hid hb3; have HK := Lib.hid hk; clear hb2 hb3 hk))
    all_goals (go_wp2_with fail; go_meet)
    · exact obj_lit HB3.out HK.out
    · exact obj_set HB2.out X2.out HK.out
  case rest =>
    obtain ⟨g, k, rfl, rfl, hW, hG, hb⟩ := hcut
    have hb0 := HB1.out.trans (hb.mono HB1.out.size)
    have X := HX.out.below hb hlw
    have Y := HY.out.below hb (by rw [HS.out]; omega)
    obtain ⟨x0, x1, x2⟩ := X.cells3
    have y0 : wc.cell? ⟨w.heap.size + 1, 0, none⟩ = some (.int .i64 0) := Y.cell 0
    have y1 : wc.cell? ⟨w.heap.size + 1, 1, none⟩ = some (.int .i64 0) := Y.cell 1
    have y2 : wc.cell? ⟨w.heap.size + 1, 2, none⟩ = some (.int .i64 0) := Y.cell 2
    have y3 : wc.cell? ⟨w.heap.size + 1, 3, none⟩ = some (.int .i64 0) := Y.cell 3
    have y4 : wc.cell? ⟨w.heap.size + 1, 4, none⟩ = some (.slice none 0 0) := Y.cell 4
    have y5 : wc.cell? ⟨w.heap.size + 1, 5, none⟩ = some (.int .i64 0) := Y.cell 5
    have y6 : wc.cell? ⟨w.heap.size + 1, 6, none⟩ = some (.slice none 0 0) := Y.cell 6
    have y7 : wc.cell? ⟨w.heap.size + 1, 7, none⟩ = some (.int .i64 0) := Y.cell 7
    have f0 := Y.free 0
    have f1 := Y.free 1
    have f2 := Y.free 2
    have f3 := Y.free 3
    have f4 := Y.free 4
    have f5 := Y.free 5
    have f6 := Y.free 6
    have f7 := Y.free 7
    obtain ⟨g0, g1, g2, g3⟩ := hW.out.cells4
    have HB := Lib.hid hb0
    have HY2 := Lib.hid Y
    have HX2 := Lib.hid X
    clear HX HY HB1 HC1 HCz X Y hb hb0 c0 c1 c2 c0d p1d p1 hlw hn0 hn1 plt
    by_cases hz : gE = 0
    · subst hz
      obtain ⟨hlay, hfit, hL3⟩ := hG.out rfl
      have CS := lsize_any k.F k.R k.A k.n k.c k.xs k.D k.m k.d k.ys C wc.heap.size wc (Nat.le_refl _) hfit.hn hfit.hm hfit.hF hfit.hR hL3.fst.ns hL3.snd.ns hC
      have hbd := LM.size_bd k.F k.R k.xs k.ys C
      have hE : IM.szE q.D L C = LM.code k.F k.R k.xs k.ys C := by unfold IM.szE; rw [hlay]; rfl
      have hN : IM.szN q.D L C = if LM.code k.F k.R k.xs k.ys C = 0 then 1 + LM.size k.F k.R k.xs k.ys C else 0 := by unfold IM.szN; rw [hE, hlay]; rfl
      obtain ⟨sz, hsz⟩ : ∃ sz, sz = LM.size k.F k.R k.xs k.ys C := ⟨_, rfl⟩
      obtain ⟨er, her⟩ : ∃ er, er = LM.code k.F k.R k.xs k.ys C := ⟨_, rfl⟩
      rw [← hsz, ← her] at CS
      rw [← hsz] at hbd
      rw [← her] at hE
      rw [← her, ← hsz] at hN
      have HF := Lib.hid (And.intro hE hN)
      have HCS := Lib.hid CS
      have HLY := Lib.hid hlay
      have HFT := Lib.hid hfit
      have HL3 := Lib.hid hL3
      have HBD := Lib.hid hbd
      obtain ⟨hbd0, hbd1⟩ := hbd
      have X2 := HX2.out
      clear hE hN CS hlay hfit hL3 hsz her hC
      go_wp2_with fail
      refine HCS.out.mono ?_
      rintro e w2 ⟨rfl, hb2⟩
      have hb3 := HB.out.trans (hb2.mono HB.out.size)
      have X := HX2.out.below hb2 HX2.out.lt
      have Y := HY2.out.below hb2 HY2.out.lt
      have G := hW.out.below hb2 hW.out.lt
      clear x0 x1 x2 y0 y1 y2 y3 y4 y5 y6 y7 f0 f1 f2 f3 f4 f5 f6 f7 g0 g1 g2 g3 X2
      obtain ⟨x0, x1, x2⟩ := X.cells3
      obtain ⟨g0, g1, g2, g3⟩ := G.cells4
      have y0 : w2.cell? ⟨w.heap.size + 1, 0, none⟩ = some (.int .i64 0) := Y.cell 0
      have y1 : w2.cell? ⟨w.heap.size + 1, 1, none⟩ = some (.int .i64 0) := Y.cell 1
      have y2 : w2.cell? ⟨w.heap.size + 1, 2, none⟩ = some (.int .i64 0) := Y.cell 2
      have y3 : w2.cell? ⟨w.heap.size + 1, 3, none⟩ = some (.int .i64 0) := Y.cell 3
      have y4 : w2.cell? ⟨w.heap.size + 1, 4, none⟩ = some (.slice none 0 0) := Y.cell 4
      have y5 : w2.cell? ⟨w.heap.size + 1, 5, none⟩ = some (.int .i64 0) := Y.cell 5
      have y6 : w2.cell? ⟨w.heap.size + 1, 6, none⟩ = some (.slice none 0 0) := Y.cell 6
      have y7 : w2.cell? ⟨w.heap.size + 1, 7, none⟩ = some (.int .i64 0) := Y.cell 7
      have f0 := Y.free 0
      have f1 := Y.free 1
      have f2 := Y.free 2
      have f3 := Y.free 3
      have f4 := Y.free 4
      have f5 := Y.free 5
      have f6 := Y.free 6
      have f7 := Y.free 7
      have HB3 := Lib.hid hb3
      have HK2 := Lib.hid (Kept.of_below (lo := w.heap.size + 2) (hi := wc.heap.size) hb2 (Nat.le_refl _))
      have HB2 := Lib.hid hb2
      clear X Y G hb3 hb2
      by_cases hz : er = 0
      · subst hz
        go_wp2_with fail
        refine bodyPost_ret (v := .tuple #[.agg #[.int .i64 L, .int .i64 C, .int .i64 S, .int .i64 k.F, .slice k.A k.n k.c, .int .i64 k.R, .slice k.D k.m k.d, .int .i64 (1 + sz)], .int .i64 0]) (by simp [results, Tryd.results25, go_sem, y0, y1, y2, y3, y4, y5, y6, y7]) rfl ?_
        rw [HF.out.1, HF.out.2]
        refine ⟨k, rfl, fun _ => ⟨HLY.out, HFT.out, ?_⟩, set8_below HB3.out (Nat.le_succ _)⟩
        exact Lists.mono (Lists.kept HL3.out (set8_kept (Kept.of_below HB2.out (Nat.le_refl _)) (.inl (by rw [HS.out]; omega)))) (by rw [HS.out]; omega) (by simpa using HB2.out.size)
      · have hd : (er != 0) = true := by simpa using hz
        have hz' : ¬ er = 0 := hz
        go_wp2_with fail
        refine bodyPost_ret (v := .tuple #[.agg #[.int .i64 0, .int .i64 0, .int .i64 0, .int .i64 0, .slice none 0 0, .int .i64 0, .slice none 0 0, .int .i64 0], .int .i64 er]) (by simp [results, Tryd.results25, go_sem, y0, y1, y2, y3, y4, y5, y6, y7]) rfl ?_
        rw [HF.out.1, HF.out.2]
        unfold zE
        rw [if_neg hz', if_neg hz', if_neg hz', if_neg hz']
        exact ⟨zLV, rfl, fun e => absurd e hz', set8_below HB3.out (Nat.le_succ _)⟩
    · have hN : IM.lay q.D L = none := obj_none (HGE.out ▸ hz)
      have hE : IM.szE q.D L C = 6 := by unfold IM.szE; rw [hN]
      have hG6 : gE = 6 := by rw [HGE.out]; unfold IM.gE; rw [hN]; rfl
      have hNn : IM.szN q.D L C = 0 := by unfold IM.szN; rw [hE]; rfl
      have HF := Lib.hid (And.intro hE hNn)
      subst hG6
      clear hz hN hE hNn HGE
      go_wp2_with fail
      refine bodyPost_ret (v := .tuple #[.agg #[.int .i64 0, .int .i64 0, .int .i64 0, .int .i64 0, .slice none 0 0, .int .i64 0, .slice none 0 0, .int .i64 0], .int .i64 6]) (by simp [results, Tryd.results25, go_sem, y0, y1, y2, y3, y4, y5, y6, y7]) rfl ?_
      rw [HF.out.1, HF.out.2]
      exact ⟨zLV, rfl, fun e => absurd e (by decide), set8_below HB.out (Nat.le_succ _)⟩
end Go.Proofs.YteneadimchhhhaaDoor
