/- Texts of this claim, laid into one file. -/
import Derived.Test.YteneadimchhhhaaGreatDoorImRow
import Derived.Test.YteneadimchhhhaaGreatDoorMgUnpack
import Derived.Test.YteneadimchhhhaaGreatDoorLyTold
import Derived.Deep.DeepCutAuto
import Derived.Test.YteneadimchhhhaaGreatDoorMgSl
/- Contracts of objectOf, objectAt, At of images. -/
namespace Go.Proofs.YteneadimchhhhaaGreatDoor
open Go.RowKit

theorem obj_none {D : List LD} {L : Int} (h : IM.gE D L ≠ 0) : IM.lay D L = none := by
  unfold IM.gE at h
  cases hl : IM.lay D L with
  | none => rfl
  | some l => rw [hl] at h; exact absurd rfl h
theorem cell_al {w : World} {o : Obj} {b i : Nat} (h : b < w.heap.size) : (w.alloc o).cell? ⟨b, i, none⟩ = w.cell? ⟨b, i, none⟩ := World.cell?_of_block (w := w) (Below.heap_alloc w o b h)
theorem cell_al_drew {w : World} {o : Obj} {b i : Nat} (h : b < w.heap.size) : (w.alloc o).drew.cell? ⟨b, i, none⟩ = w.cell? ⟨b, i, none⟩ := World.cell?_of_block (w := w) (Below.heap_alloc w o b h)
theorem cell_set {w : World} {a b i j : Nat} {u : Value} (h : a ≠ b) : (w.setCell ⟨b, j, none⟩ u).cell? ⟨a, i, none⟩ = w.cell? ⟨a, i, none⟩ := World.cell?_of_block (w := w) (Below.heap_setCell w ⟨b, j, none⟩ u a h)
theorem cell_set4 {w : World} {a b i : Nat} {u0 u1 u2 u3 : Value} (h : a ≠ b) : ((((w.setCell ⟨b, 0, none⟩ u0).setCell ⟨b, 1, none⟩ u1).setCell ⟨b, 2, none⟩ u2).setCell ⟨b, 3, none⟩ u3).cell? ⟨a, i, none⟩ = w.cell? ⟨a, i, none⟩ :=
  (((cell_set h).trans (cell_set h)).trans (cell_set h)).trans (cell_set h)
theorem set8_below {w wc : World} {B b : Nat} {u0 u1 u2 u3 u4 u5 u6 u7 : Value} (h : Below B w wc) (hb : B ≤ b) : Below B w ((((((((wc.setCell ⟨b, 0, none⟩ u0).setCell ⟨b, 1, none⟩ u1).setCell ⟨b, 2, none⟩ u2).setCell ⟨b, 3, none⟩ u3).setCell ⟨b, 4, none⟩ u4).setCell ⟨b, 5, none⟩ u5).setCell ⟨b, 6, none⟩ u6).setCell ⟨b, 7, none⟩ u7) :=
  (((((((h.setCell (p := ⟨b, 0, none⟩) hb _).setCell (p := ⟨b, 1, none⟩) hb _).setCell (p := ⟨b, 2, none⟩) hb _).setCell (p := ⟨b, 3, none⟩) hb _).setCell (p := ⟨b, 4, none⟩) hb _).setCell (p := ⟨b, 5, none⟩) hb _).setCell (p := ⟨b, 6, none⟩) hb _).setCell (p := ⟨b, 7, none⟩) hb _
theorem set8_kept {lo hi : Nat} {w wc : World} {b : Nat} {u0 u1 u2 u3 u4 u5 u6 u7 : Value} (h : Kept lo hi w wc) (hb : b < lo ∨ hi ≤ b) : Kept lo hi w ((((((((wc.setCell ⟨b, 0, none⟩ u0).setCell ⟨b, 1, none⟩ u1).setCell ⟨b, 2, none⟩ u2).setCell ⟨b, 3, none⟩ u3).setCell ⟨b, 4, none⟩ u4).setCell ⟨b, 5, none⟩ u5).setCell ⟨b, 6, none⟩ u6).setCell ⟨b, 7, none⟩ u7) :=
  (((((((h.setCell (p := ⟨b, 0, none⟩) hb _).setCell (p := ⟨b, 1, none⟩) hb _).setCell (p := ⟨b, 2, none⟩) hb _).setCell (p := ⟨b, 3, none⟩) hb _).setCell (p := ⟨b, 4, none⟩) hb _).setCell (p := ⟨b, 5, none⟩) hb _).setCell (p := ⟨b, 6, none⟩) hb _).setCell (p := ⟨b, 7, none⟩) hb _
theorem Whole.cells4 {W : World} {g : Nat} {t : TypeId} {a b c d : Value} (h : Whole W g t #[a, b, c, d]) : W.cell? ⟨g, 0, none⟩ = some a ∧ W.cell? ⟨g, 1, none⟩ = some b ∧ W.cell? ⟨g, 2, none⟩ = some c ∧ W.cell? ⟨g, 3, none⟩ = some d := ⟨h.cell 0, h.cell 1, h.cell 2, h.cell 3⟩
def zE (E x : Int) : Int := if E = 0 then x else 0
/-- An object, as it is told: its header, its layout, how many words. -/
def ObjIs (D : List LD) (L C S N E : Int) (w : World) (e : Ending) (w' : World) : Prop :=
  ∃ k : LV, e = .returned (.tuple #[.agg #[.int .i64 L, .int .i64 C, .int .i64 S, .int .i64 k.F, .slice k.A k.n k.c, .int .i64 k.R, .slice k.D k.m k.d, .int .i64 N], .int .i64 E]) ∧ Hid (GotIs D L E k w w') ∧ Below w.heap.size w w'

theorem GotIs.from {D : List LD} {L E : Int} {k : LV} {w w1 w' : World} (h : GotIs D L E k w1 w') (hs : w.heap.size ≤ w1.heap.size) : GotIs D L E k w w' := fun e => by
  obtain ⟨h1, h2, h3⟩ := h e
  exact ⟨h1, h2, Lists.mono h3 hs (Nat.le_refl _)⟩
theorem GotIs.on {D : List LD} {L E : Int} {k : LV} {w w1 w' : World} (h : GotIs D L E k w w1) (hb : Below w1.heap.size w1 w') : GotIs D L E k w w' := fun e => by
  obtain ⟨h1, h2, h3⟩ := h e
  exact ⟨h1, h2, Lists.mono (Lists.kept h3 (Kept.of_below hb (Nat.le_refl _))) (Nat.le_refl _) hb.size⟩
/-- Behind the call of Get: the box of the layout, the error. -/
def GotBox (D : List LD) (L gE : Int) (w1 : World) (s6 s7 : Value) (wx : World) : Prop :=
  ∃ (g : Nat) (k : LV), s6 = .pointer (some ⟨g, 0, none⟩) ∧ s7 = .int .i64 gE ∧ Hid (Whole wx g 70 #[.int .i64 k.F, .slice k.A k.n k.c, .int .i64 k.R, .slice k.D k.m k.d]) ∧ Hid (GotIs D L gE k w1 wx) ∧ Below w1.heap.size w1 wx
theorem obj_lit {D : List LD} {L gE : Int} {w1 w2 : World} {k : LV} (hb : Below w1.heap.size w1 w2) (hk : Hid (GotIs D L gE k w1.drew w2)) :
    GotBox D L gE w1 (.pointer (some ⟨w2.heap.size, 0, none⟩)) (.int .i64 gE) (w2.alloc (.cells #[.int .i64 k.F, .slice k.A k.n k.c, .int .i64 k.R, .slice k.D k.m k.d] 70)) :=
  ⟨_, k, rfl, rfl, Whole.fresh _ _ _, ((GotIs.from (w := w1) hk.out (Nat.le_refl _)).on ((Below.refl _ _).alloc (Nat.le_refl _) _)), hb.alloc hb.size _⟩
theorem obj_set {D : List LD} {L gE : Int} {w1 w2 : World} {k : LV} {z : Obj} {a b c d : Value} (hb : Below (w1.alloc z).drew.heap.size (w1.alloc z).drew w2) (hX : Whole w2 w1.heap.size 70 #[a, b, c, d]) (hk : Hid (GotIs D L gE k (w1.alloc z).drew w2)) :
    GotBox D L gE w1 (.pointer (some ⟨w1.heap.size, 0, none⟩)) (.int .i64 gE) ((((w2.setCell ⟨w1.heap.size, 0, none⟩ (.int .i64 k.F)).setCell ⟨w1.heap.size, 1, none⟩ (.slice k.A k.n k.c)).setCell ⟨w1.heap.size, 2, none⟩ (.int .i64 k.R)).setCell ⟨w1.heap.size, 3, none⟩ (.slice k.D k.m k.d)) := by
  have hsz : (w1.alloc z).drew.heap.size = w1.heap.size + 1 := by show (w1.alloc z).heap.size = _; simp
  have hXX := (((hX.set 0 (.int .i64 k.F)).set 1 (.slice k.A k.n k.c)).set 2 (.int .i64 k.R)).set 3 (.slice k.D k.m k.d)
  refine ⟨_, k, rfl, rfl, ?_, ?_, ?_⟩
  · exact hXX
  · have hg : GotIs D L gE k (w1.alloc z).drew ((((w2.setCell ⟨w1.heap.size, 0, none⟩ (.int .i64 k.F)).setCell ⟨w1.heap.size, 1, none⟩ (.slice k.A k.n k.c)).setCell ⟨w1.heap.size, 2, none⟩ (.int .i64 k.R)).setCell ⟨w1.heap.size, 3, none⟩ (.slice k.D k.m k.d)) := fun e => by
      obtain ⟨h1, h2, h3⟩ := hk.out e
      refine ⟨h1, h2, ?_⟩
      have := Lists.kept h3 (((((Kept.refl _ _ w2).setCell (p := ⟨w1.heap.size, 0, none⟩) (.inl (by rw [hsz]; simp)) (.int .i64 k.F)).setCell (p := ⟨w1.heap.size, 1, none⟩) (.inl (by rw [hsz]; simp)) (.slice k.A k.n k.c)).setCell (p := ⟨w1.heap.size, 2, none⟩) (.inl (by rw [hsz]; simp)) (.int .i64 k.R)).setCell (p := ⟨w1.heap.size, 3, none⟩) (.inl (by rw [hsz]; simp)) (.slice k.D k.m k.d))
      exact Lists.mono this (Nat.le_refl _) (by simp)
    exact GotIs.from (w := w1) hg (by rw [hsz]; omega)
  · exact ((((bl_alloc_drew hb).setCell (p := ⟨w1.heap.size, 0, none⟩) (Nat.le_refl _) _).setCell (p := ⟨w1.heap.size, 1, none⟩) (Nat.le_refl _) _).setCell (p := ⟨w1.heap.size, 2, none⟩) (Nat.le_refl _) _).setCell (p := ⟨w1.heap.size, 3, none⟩) (Nat.le_refl _) _
set_option maxHeartbeats 2000000 in
theorem objectOf_any {w : World} {I : IB} {q : Cf} {wd : Nat → Nat} (h : ImAt w I q wd) (L C S : Int) (hC : I64 C) :
    Calls Tryz.prog 50 #[.pointer (some ⟨I.p, 0, none⟩), .agg #[.int .i64 L, .int .i64 C, .int .i64 S]] w (ObjIs q.D (zE (IM.szE q.D L C) L) (zE (IM.szE q.D L C) C) (zE (IM.szE q.D L C) S) (IM.szN q.D L C) (IM.szE q.D L C) w) := by
  obtain ⟨w1, hw1⟩ : ∃ w1, w1 = (w.alloc (.cells #[.int .i64 L, .int .i64 C, .int .i64 S] 32)).alloc (.cells #[.int .i64 0, .int .i64 0, .int .i64 0, .int .i64 0, .slice none 0 0, .int .i64 0, .slice none 0 0, .int .i64 0] 96) := ⟨_, rfl⟩
  have hb1 : Below w.heap.size w w1 := by rw [hw1]; exact ((Below.refl _ _).alloc (Nat.le_refl _) _).alloc (by simp) _
  have X1 : Whole w1 w.heap.size 32 #[.int .i64 L, .int .i64 C, .int .i64 S] := by rw [hw1]; exact (Whole.fresh _ _ _).alloc _
  have Y1 : Whole w1 (w.heap.size + 1) 96 #[.int .i64 0, .int .i64 0, .int .i64 0, .int .i64 0, .slice none 0 0, .int .i64 0, .slice none 0 0, .int .i64 0] := by rw [hw1]; exact Whole.fresh' (by simp)
  have hs1 : w1.heap.size = w.heap.size + 2 := by rw [hw1]; simp
  have H1 := h.below hb1
  have CG : ∀ W : World, Below w1.heap.size w1 W → Calls Tryz.prog 80 #[.pointer (some ⟨I.b, 0, none⟩), .int .i64 L] W fun e w' => ∃ k : LV, e = .returned (.tuple #[.agg #[.int .i64 k.F, .slice k.A k.n k.c, .int .i64 k.R, .slice k.D k.m k.d], .int .i64 (IM.gE q.D L)]) ∧
      Hid (GotIs q.D L (IM.gE q.D L) k W w') ∧ Below W.heap.size W w' := fun W hW => by
    have := bookGet_any (H1.below hW).bk L
    rw [h.lays] at this
    exact this
  have C1 := CG w1.drew (Below.refl _ _).drew
  have Cz := CG (w1.alloc (.cells #[.int .i64 0, .slice none 0 0, .int .i64 0, .slice none 0 0] 70)).drew ((Below.refl _ _).alloc (Nat.le_refl _) _).drew
  obtain ⟨c0, c1, c2⟩ := X1.cells3
  have p1 : w1.cell? ⟨I.p, 1, none⟩ = some (.pointer (some ⟨I.b, 0, none⟩)) := H1.box.cell 1
  have plt := H1.box.lt
  have HC1 := Lib.hid C1
  have HCz := Lib.hid Cz
  have HX := Lib.hid X1
  have HY := Lib.hid Y1
  have HB1 := Lib.hid hb1
  have HS := Lib.hid hs1
  clear CG C1 Cz H1 X1 Y1 hb1 h hs1
  obtain ⟨gE, hgE⟩ : ∃ gE, gE = IM.gE q.D L := ⟨_, rfl⟩
  rw [← hgE] at HC1 HCz
  have HGE := Lib.hid hgE
  clear hgE
  go_enter Tryz.func50, Tryz.ntmps50
  go_upto_region 1 with fail
  rw [← hw1]
  clear hw1
  have hs1 := HS.out
  have hlw : w.heap.size < w1.heap.size := by omega
  have hn0 : w.heap.size ≠ w1.heap.size := by omega
  have hn1 : I.p ≠ w1.heap.size := by omega
  clear hs1
  have c0d : w1.drew.cell? ⟨w.heap.size, 0, none⟩ = some (.int .i64 L) := c0
  have p1d : w1.drew.cell? ⟨I.p, 1, none⟩ = some (.pointer (some ⟨I.b, 0, none⟩)) := p1
  go_cut [6, 7] (fun s6 s7 wx => GotBox q.D L gE w1 s6 s7 wx)
  case first =>
    go_region_held3 (fun w' => w'.cell? ⟨w.heap.size, 0, none⟩ = some (.int .i64 L) ∧ w'.cell? ⟨I.p, 1, none⟩ = some (.pointer (some ⟨I.b, 0, none⟩))) (first | (with_reducible exact ⟨hx0, hx1⟩) | (with_reducible exact ⟨(cell_al hl0).trans hx0, (cell_al hl1).trans hx1⟩) | (with_reducible exact ⟨(cell_set4 hn0).trans hx0, (cell_set4 hn1).trans hx1⟩) | (with_reducible exact ⟨c0, p1⟩) | (with_reducible exact ⟨c0d, p1d⟩) | (with_reducible exact ⟨(cell_al_drew hlw).trans c0, (cell_al_drew plt).trans p1⟩) | (with_reducible exact ⟨(cell_al (w := w1.drew) hlw).trans c0d, (cell_al (w := w1.drew) plt).trans p1d⟩) | fail)
      (first
        | (go_at_call 80; (with_reducible refine HCz.out.mono ?_); rintro e w2 ⟨k, rfl, hk, hb2⟩; have x2 := ((Whole.fresh w1 70 #[.int .i64 0, .slice none 0 0, .int .i64 0, .slice none 0 0]).drew).below hb2 (by show w1.heap.size < (w1.alloc _).heap.size; simp); obtain ⟨z0, z1, z2, z3⟩ := x2.cells4; have y0 := x2.free 0; have y1 := x2.free 1; have y2 := x2.free 2; have y3 := x2.free 3; have HK := Lib.hid hk; have HB2 := Lib.hid hb2; have hb3 := bl_alloc_drew hb2; have hx0 := (hb3.cell (p := ⟨w.heap.size, 0, none⟩) hlw).trans c0; have hx1 := (hb3.cell (p := ⟨I.p, 1, none⟩) plt).trans p1; have X2 := Lib.hid x2; clear hb2 hb3 hk x2)
        | (go_at_call 80; (with_reducible refine HC1.out.mono ?_); rintro e w2 ⟨k, rfl, hk, hb2⟩; have hb3 := bl_drew hb2; have hx0 := (hb3.cell (p := ⟨w.heap.size, 0, none⟩) hlw).trans c0; have hx1 := (hb3.cell (p := ⟨I.p, 1, none⟩) plt).trans p1; have hl0 : w.heap.size < w2.heap.size := Nat.lt_of_lt_of_le hlw hb3.size; have hl1 : I.p < w2.heap.size := Nat.lt_of_lt_of_le plt hb3.size; have HB3 := Lib.hid hb3; have HK := Lib.hid hk; clear hb2 hb3 hk))
    all_goals (go_wp2_with fail; go_meet)
    · exact obj_lit HB3.out HK.out
    · exact obj_set HB2.out X2.out HK.out
  case rest =>
    obtain ⟨g, k, rfl, rfl, hW, hG, hb⟩ := hcut
    have hb0 := HB1.out.trans (hb.mono HB1.out.size)
    have X := HX.out.below hb hlw
    have Y := HY.out.below hb (by rw [HS.out]; omega)
    obtain ⟨x0, x1, x2⟩ := X.cells3
    have y0 : wc.cell? ⟨w.heap.size + 1, 0, none⟩ = some (.int .i64 0) := Y.cell 0
    have y1 : wc.cell? ⟨w.heap.size + 1, 1, none⟩ = some (.int .i64 0) := Y.cell 1
    have y2 : wc.cell? ⟨w.heap.size + 1, 2, none⟩ = some (.int .i64 0) := Y.cell 2
    have y3 : wc.cell? ⟨w.heap.size + 1, 3, none⟩ = some (.int .i64 0) := Y.cell 3
    have y4 : wc.cell? ⟨w.heap.size + 1, 4, none⟩ = some (.slice none 0 0) := Y.cell 4
    have y5 : wc.cell? ⟨w.heap.size + 1, 5, none⟩ = some (.int .i64 0) := Y.cell 5
    have y6 : wc.cell? ⟨w.heap.size + 1, 6, none⟩ = some (.slice none 0 0) := Y.cell 6
    have y7 : wc.cell? ⟨w.heap.size + 1, 7, none⟩ = some (.int .i64 0) := Y.cell 7
    have f0 := Y.free 0
    have f1 := Y.free 1
    have f2 := Y.free 2
    have f3 := Y.free 3
    have f4 := Y.free 4
    have f5 := Y.free 5
    have f6 := Y.free 6
    have f7 := Y.free 7
    obtain ⟨g0, g1, g2, g3⟩ := hW.out.cells4
    have HB := Lib.hid hb0
    have HY2 := Lib.hid Y
    have HX2 := Lib.hid X
    clear HX HY HB1 HC1 HCz X Y hb hb0 c0 c1 c2 c0d p1d p1 hlw hn0 hn1 plt
    by_cases hz : gE = 0
    · subst hz
      obtain ⟨hlay, hfit, hL3⟩ := hG.out rfl
      have CS := lsize_any k.F k.R k.A k.n k.c k.xs k.D k.m k.d k.ys C wc.heap.size wc (Nat.le_refl _) hfit.hn hfit.hm hfit.hF hfit.hR hL3.fst.ns hL3.snd.ns hC
      have hbd := LM.size_bd k.F k.R k.xs k.ys C
      have hE : IM.szE q.D L C = LM.code k.F k.R k.xs k.ys C := by unfold IM.szE; rw [hlay]; rfl
      have hN : IM.szN q.D L C = if LM.code k.F k.R k.xs k.ys C = 0 then 1 + LM.size k.F k.R k.xs k.ys C else 0 := by unfold IM.szN; rw [hE, hlay]; rfl
      obtain ⟨sz, hsz⟩ : ∃ sz, sz = LM.size k.F k.R k.xs k.ys C := ⟨_, rfl⟩
      obtain ⟨er, her⟩ : ∃ er, er = LM.code k.F k.R k.xs k.ys C := ⟨_, rfl⟩
      rw [← hsz, ← her] at CS
      rw [← hsz] at hbd
      rw [← her] at hE
      rw [← her, ← hsz] at hN
      have HF := Lib.hid (And.intro hE hN)
      have HCS := Lib.hid CS
      have HLY := Lib.hid hlay
      have HFT := Lib.hid hfit
      have HL3 := Lib.hid hL3
      have HBD := Lib.hid hbd
      obtain ⟨hbd0, hbd1⟩ := hbd
      have X2 := HX2.out
      clear hE hN CS hlay hfit hL3 hsz her hC
      go_wp2_with fail
      refine HCS.out.mono ?_
      rintro e w2 ⟨rfl, hb2⟩
      have hb3 := HB.out.trans (hb2.mono HB.out.size)
      have X := HX2.out.below hb2 HX2.out.lt
      have Y := HY2.out.below hb2 HY2.out.lt
      have G := hW.out.below hb2 hW.out.lt
      clear x0 x1 x2 y0 y1 y2 y3 y4 y5 y6 y7 f0 f1 f2 f3 f4 f5 f6 f7 g0 g1 g2 g3 X2
      obtain ⟨x0, x1, x2⟩ := X.cells3
      obtain ⟨g0, g1, g2, g3⟩ := G.cells4
      have y0 : w2.cell? ⟨w.heap.size + 1, 0, none⟩ = some (.int .i64 0) := Y.cell 0
      have y1 : w2.cell? ⟨w.heap.size + 1, 1, none⟩ = some (.int .i64 0) := Y.cell 1
      have y2 : w2.cell? ⟨w.heap.size + 1, 2, none⟩ = some (.int .i64 0) := Y.cell 2
      have y3 : w2.cell? ⟨w.heap.size + 1, 3, none⟩ = some (.int .i64 0) := Y.cell 3
      have y4 : w2.cell? ⟨w.heap.size + 1, 4, none⟩ = some (.slice none 0 0) := Y.cell 4
      have y5 : w2.cell? ⟨w.heap.size + 1, 5, none⟩ = some (.int .i64 0) := Y.cell 5
      have y6 : w2.cell? ⟨w.heap.size + 1, 6, none⟩ = some (.slice none 0 0) := Y.cell 6
      have y7 : w2.cell? ⟨w.heap.size + 1, 7, none⟩ = some (.int .i64 0) := Y.cell 7
      have f0 := Y.free 0
      have f1 := Y.free 1
      have f2 := Y.free 2
      have f3 := Y.free 3
      have f4 := Y.free 4
      have f5 := Y.free 5
      have f6 := Y.free 6
      have f7 := Y.free 7
      have HB3 := Lib.hid hb3
      have HK2 := Lib.hid (Kept.of_below (lo := w.heap.size + 2) (hi := wc.heap.size) hb2 (Nat.le_refl _))
      have HB2 := Lib.hid hb2
      clear X Y G hb3 hb2
      by_cases hz : er = 0
      · subst hz
        go_wp2_with fail
        refine bodyPost_ret (v := .tuple #[.agg #[.int .i64 L, .int .i64 C, .int .i64 S, .int .i64 k.F, .slice k.A k.n k.c, .int .i64 k.R, .slice k.D k.m k.d, .int .i64 (1 + sz)], .int .i64 0]) (by simp [results, Tryz.results50, go_sem, y0, y1, y2, y3, y4, y5, y6, y7]) rfl ?_
        rw [HF.out.1, HF.out.2]
        refine ⟨k, rfl, fun _ => ⟨HLY.out, HFT.out, ?_⟩, set8_below HB3.out (Nat.le_succ _)⟩
        exact Lists.mono (Lists.kept HL3.out (set8_kept (Kept.of_below HB2.out (Nat.le_refl _)) (.inl (by rw [HS.out]; omega)))) (by rw [HS.out]; omega) (by simpa using HB2.out.size)
      · have hd : (er != 0) = true := by simpa using hz
        have hz' : ¬ er = 0 := hz
        go_wp2_with fail
        refine bodyPost_ret (v := .tuple #[.agg #[.int .i64 0, .int .i64 0, .int .i64 0, .int .i64 0, .slice none 0 0, .int .i64 0, .slice none 0 0, .int .i64 0], .int .i64 er]) (by simp [results, Tryz.results50, go_sem, y0, y1, y2, y3, y4, y5, y6, y7]) rfl ?_
        rw [HF.out.1, HF.out.2]
        unfold zE
        rw [if_neg hz', if_neg hz', if_neg hz', if_neg hz']
        exact ⟨zLV, rfl, fun e => absurd e hz', set8_below HB3.out (Nat.le_succ _)⟩
    · have hN : IM.lay q.D L = none := obj_none (HGE.out ▸ hz)
      have hE : IM.szE q.D L C = 6 := by unfold IM.szE; rw [hN]
      have hG6 : gE = 6 := by rw [HGE.out]; unfold IM.gE; rw [hN]; rfl
      have hNn : IM.szN q.D L C = 0 := by unfold IM.szN; rw [hE]; rfl
      have HF := Lib.hid (And.intro hE hNn)
      subst hG6
      clear hz hN hE hNn HGE
      go_wp2_with fail
      refine bodyPost_ret (v := .tuple #[.agg #[.int .i64 0, .int .i64 0, .int .i64 0, .int .i64 0, .slice none 0 0, .int .i64 0, .slice none 0 0, .int .i64 0], .int .i64 6]) (by simp [results, Tryz.results50, go_sem, y0, y1, y2, y3, y4, y5, y6, y7]) rfl ?_
      rw [HF.out.1, HF.out.2]
      exact ⟨zLV, rfl, fun e => absurd e (by decide), set8_below HB.out (Nat.le_succ _)⟩
end Go.Proofs.YteneadimchhhhaaGreatDoor
/- Contracts of objectAt and At of images. -/
namespace Go.Proofs.YteneadimchhhhaaGreatDoor
open Go.RowKit

theorem at_bad {q : Cf} {wd : Nat → Nat} {a : Int} (h : IM.adE q a ≠ 0) : IM.atE q wd a = IM.adE q a ∧ IM.atL q wd a = 0 ∧ IM.atC q wd a = 0 ∧ IM.atS q wd a = 0 ∧ IM.atN q wd a = 0 := by
  have e : IM.atE q wd a = IM.adE q a := by unfold IM.atE; rw [if_neg h]
  unfold IM.atL IM.atC IM.atS IM.atN
  rw [e, if_neg h, if_neg h, if_neg h, if_neg h]
  exact ⟨rfl, rfl, rfl, rfl, rfl⟩
theorem at_form {q : Cf} {wd : Nat → Nat} {a : Int} (h : IM.adE q a = 0) (h2 : HM.dE (IM.hd wd a) ≠ 0) : IM.atE q wd a = 4 ∧ IM.atL q wd a = 0 ∧ IM.atC q wd a = 0 ∧ IM.atS q wd a = 0 ∧ IM.atN q wd a = 0 := by
  have e : IM.atE q wd a = 4 := by unfold IM.atE; rw [if_pos h, if_neg h2]
  unfold IM.atL IM.atC IM.atS IM.atN
  rw [e]
  exact ⟨rfl, rfl, rfl, rfl, rfl⟩
theorem at_size {q : Cf} {wd : Nat → Nat} {a : Int} (h : IM.adE q a = 0) (h2 : HM.dE (IM.hd wd a) = 0) :
    IM.atE q wd a = IM.szE q.D (HM.dL (IM.hd wd a)) (HM.dC (IM.hd wd a)) ∧ IM.atL q wd a = zE (IM.atE q wd a) (HM.dL (IM.hd wd a)) ∧ IM.atC q wd a = zE (IM.atE q wd a) (HM.dC (IM.hd wd a)) ∧ IM.atS q wd a = zE (IM.atE q wd a) (HM.dS (IM.hd wd a)) ∧
      IM.atN q wd a = IM.szN q.D (HM.dL (IM.hd wd a)) (HM.dC (IM.hd wd a)) := by
  have e : IM.atE q wd a = IM.szE q.D (HM.dL (IM.hd wd a)) (HM.dC (IM.hd wd a)) := by unfold IM.atE; rw [if_pos h, if_pos h2]
  refine ⟨e, rfl, rfl, rfl, ?_⟩
  unfold IM.atN
  rw [e]
  unfold IM.szN
  split
  · rfl
  · rfl
theorem dE_cases (x : Int) : HM.dE x = 0 ∨ HM.dE x = 4 := by unfold HM.dE; split <;> simp
theorem dL_bd (x : Int) : 0 ≤ HM.dL x ∧ HM.dL x ≤ 64 := by
  unfold HM.dL
  split
  · rename_i h; have := (HM.hok_iff x).1 h; omega
  · omega
theorem dC_bd (x : Int) : 0 ≤ HM.dC x ∧ HM.dC x ≤ 1024 ∨ ¬ 0 ≤ x := by
  by_cases h0 : 0 ≤ x
  · left
    unfold HM.dC
    split
    · rename_i h; have := (HM.hok_iff x).1 h; omega
    · omega
  · exact .inr h0
theorem dS_bd (x : Int) : 0 ≤ HM.dS x ∧ HM.dS x ≤ 4095 ∨ ¬ 0 ≤ x := by
  by_cases h0 : 0 ≤ x
  · left
    unfold HM.dS
    split
    · rename_i h; have := (HM.hok_iff x).1 h; omega
    · omega
  · exact .inr h0
theorem GotIs.to {D : List LD} {L E : Int} {k : LV} {w w' : World} (L' E' : Int) (h : GotIs D L E k w w') (hE : E' = E) (hL : E' = 0 → L' = L) : GotIs D L' E' k w w' := fun e => by
  obtain ⟨h1, h2, h3⟩ := h (hE ▸ e)
  exact ⟨by rw [hL e]; exact h1, h2, h3⟩

theorem GotIs.set8 {D : List LD} {L E : Int} {k : LV} {w W w3 : World} {b : Nat} {u0 u1 u2 u3 u4 u5 u6 u7 : Value} (h : GotIs D L E k W w3) (hb : b < W.heap.size) (hs : w.heap.size ≤ W.heap.size) :
    GotIs D L E k w ((((((((w3.setCell ⟨b, 0, none⟩ u0).setCell ⟨b, 1, none⟩ u1).setCell ⟨b, 2, none⟩ u2).setCell ⟨b, 3, none⟩ u3).setCell ⟨b, 4, none⟩ u4).setCell ⟨b, 5, none⟩ u5).setCell ⟨b, 6, none⟩ u6).setCell ⟨b, 7, none⟩ u7) := fun e => by
  obtain ⟨h1, h2, h3⟩ := h e
  exact ⟨h1, h2, Lists.mono (Lists.kept h3 (set8_kept (Kept.refl _ _ _) (.inl hb))) hs (by simp)⟩
set_option maxHeartbeats 2000000 in
theorem objectAt_any {w : World} {I : IB} {q : Cf} {wd : Nat → Nat} (h : ImAt w I q wd) (a : Int) :
    Calls Tryz.prog 37 #[.pointer (some ⟨I.p, 0, none⟩), .int .i64 a] w (ObjIs q.D (IM.atL q wd a) (IM.atC q wd a) (IM.atS q wd a) (IM.atN q wd a) (IM.atE q wd a) w) := by
  obtain ⟨w1, hw1⟩ : ∃ w1, w1 = w.alloc (.cells #[.int .i64 0, .int .i64 0, .int .i64 0, .int .i64 0, .slice none 0 0, .int .i64 0, .slice none 0 0, .int .i64 0] 96) := ⟨_, rfl⟩
  have hb1 : Below w.heap.size w w1 := by rw [hw1]; exact (Below.refl _ _).alloc (Nat.le_refl _) _
  have Y1 : Whole w1 w.heap.size 96 #[.int .i64 0, .int .i64 0, .int .i64 0, .int .i64 0, .slice none 0 0, .int .i64 0, .slice none 0 0, .int .i64 0] := by rw [hw1]; exact Whole.fresh _ _ _
  have H1 := h.below hb1
  have p0 : w1.cell? ⟨I.p, 0, none⟩ = some (.pointer (some ⟨I.B.s, 0, none⟩)) := H1.box.cell 0
  have CR := read_any H1.st a
  have HW := Lib.hid (h.word a)
  have hs1 : w1.heap.size = w.heap.size + 1 := by rw [hw1]; simp
  have HS := Lib.hid hs1
  clear hs1
  by_cases h1 : IM.adE q a = 0
  · have hx : readV q.own wd q.C q.K a = wd a.toNat := by unfold readV; rw [if_pos (show addrE q.own q.C q.K a = 0 from h1)]
    rw [hx, show addrE q.own q.C q.K a = 0 from h1] at CR
    have CD := fun W => hdecode_any (IM.hd wd a) (h.word a) W
    unfold IM.hd at CD
    have CO := fun (W : World) (hW : Below w1.heap.size w1 W) => objectOf_any (H1.below hW) (HM.dL (IM.hd wd a)) (HM.dC (IM.hd wd a)) (HM.dS (IM.hd wd a)) (by rcases dC_bd (IM.hd wd a) with hd | hd; · unfold I64; omega
                                                                                                                                                               · exact absurd (h.word a).1 hd)
    unfold IM.hd at CO
    have H2 := Lib.hid h1
    obtain ⟨x, hx2⟩ : ∃ x : Nat, x = wd a.toNat := ⟨_, rfl⟩
    rw [← hx2] at CR CD CO
    have HX := Lib.hid hx2
    by_cases h3 : HM.dE (IM.hd wd a) = 0
    · have HAT := Lib.hid (at_size h1 h3)
      unfold IM.hd at h3
      rw [← hx2] at h3
      rw [h3] at CD
      obtain ⟨dl, hdl⟩ : ∃ dl, dl = HM.dL (x : Nat) := ⟨_, rfl⟩
      obtain ⟨dc, hdc⟩ : ∃ dc, dc = HM.dC (x : Nat) := ⟨_, rfl⟩
      obtain ⟨ds, hds⟩ : ∃ ds, ds = HM.dS (x : Nat) := ⟨_, rfl⟩
      rw [← hdl, ← hdc, ← hds] at CD CO
      have HLT := Lib.hid (And.intro hdl (And.intro hdc hds))
      have HR := Lib.hid CR
      have HD := Lib.hid CD
      have HO := Lib.hid CO
      have HB1 := Lib.hid hb1
      have HY := Lib.hid Y1
      have plt := H1.box.lt
      have HP := Lib.hid p0
      clear CR CD CO hb1 Y1 H1 h1 h3 hdl hdc hds hx hx2 h
      go_enter Tryz.func37, Tryz.ntmps37
      go_upto_region 3 with fail
      rw [← hw1]
      clear hw1
      go_wp2_with fail
      refine HR.out.mono ?_
      rintro e w' ⟨rfl, rfl⟩
      go_wp2_with fail
      refine (HD.out _).mono ?_
      rintro e w2 ⟨rfl, hb2⟩
      have hb3 := hb2.alloc hb2.size (.cells #[.int .i64 dl, .int .i64 dc, .int .i64 ds] 32)
      have HCO := Lib.hid (HO.out _ hb3)
      have HB3 := Lib.hid hb3
      clear hb2 hb3
      go_wp2_with fail
      refine HCO.out.mono ?_
      rintro e w3 ⟨k, rfl, hk, hb4⟩
      have Y := HY.out.below (HB3.out.trans (hb4.mono HB3.out.size)) HY.out.lt
      have y0 : w3.cell? ⟨w.heap.size, 0, none⟩ = some (.int .i64 0) := Y.cell 0
      have y1 : w3.cell? ⟨w.heap.size, 1, none⟩ = some (.int .i64 0) := Y.cell 1
      have y2 : w3.cell? ⟨w.heap.size, 2, none⟩ = some (.int .i64 0) := Y.cell 2
      have y3 : w3.cell? ⟨w.heap.size, 3, none⟩ = some (.int .i64 0) := Y.cell 3
      have y4 : w3.cell? ⟨w.heap.size, 4, none⟩ = some (.slice none 0 0) := Y.cell 4
      have y5 : w3.cell? ⟨w.heap.size, 5, none⟩ = some (.int .i64 0) := Y.cell 5
      have y6 : w3.cell? ⟨w.heap.size, 6, none⟩ = some (.slice none 0 0) := Y.cell 6
      have y7 : w3.cell? ⟨w.heap.size, 7, none⟩ = some (.int .i64 0) := Y.cell 7
      have f0 := Y.free 0
      have f1 := Y.free 1
      have f2 := Y.free 2
      have f3 := Y.free 3
      have f4 := Y.free 4
      have f5 := Y.free 5
      have f6 := Y.free 6
      have f7 := Y.free 7
      obtain ⟨er, her⟩ : ∃ er, er = IM.szE q.D dl dc := ⟨_, rfl⟩
      obtain ⟨n, hn⟩ : ∃ n, n = IM.szN q.D dl dc := ⟨_, rfl⟩
      obtain ⟨l1, hl1⟩ : ∃ n, n = zE er dl := ⟨_, rfl⟩
      obtain ⟨l2, hl2⟩ : ∃ n, n = zE er dc := ⟨_, rfl⟩
      obtain ⟨l3, hl3⟩ : ∃ n, n = zE er ds := ⟨_, rfl⟩
      rw [← her, ← hn, ← hl1, ← hl2, ← hl3]
      rw [← her] at hk
      have HE := Lib.hid (And.intro her (And.intro hn (And.intro hl1 (And.intro hl2 hl3))))
      have HB4 := Lib.hid hb4
      have HK := Lib.hid hk
      clear her hn hl1 hl2 hl3 hb4 hk Y
      go_wp2_with fail
      refine bodyPost_ret (v := .tuple #[.agg #[.int .i64 l1, .int .i64 l2, .int .i64 l3, .int .i64 k.F, .slice k.A k.n k.c, .int .i64 k.R, .slice k.D k.m k.d, .int .i64 n], .int .i64 er]) (by simp [results, Tryz.results37, go_sem, y0, y1, y2, y3, y4, y5, y6, y7]) rfl ?_
      obtain ⟨a1, a2, a3, a4, a5⟩ := HAT.out
      obtain ⟨e1, e2, e3, e4, e5⟩ := HE.out
      have hxx : IM.hd wd a = (x : Int) := by unfold IM.hd; rw [HX.out]
      rw [hxx, ← HLT.out.1, ← HLT.out.2.1] at a1 a5
      rw [hxx, a1, ← e1, ← HLT.out.1, ← e3] at a2
      rw [hxx, a1, ← e1, ← HLT.out.2.1, ← e4] at a3
      rw [hxx, a1, ← e1, ← HLT.out.2.2, ← e5] at a4
      rw [a2, a3, a4, a5, a1, ← e1, ← e2]
      have hs8 := HB3.out.size
      rw [HS.out] at hs8
      refine ⟨k, rfl, ?_, set8_below (HB1.out.trans ((HB3.out.trans (HB4.out.mono HB3.out.size)).mono HB1.out.size)) (Nat.le_refl _)⟩
      rw [e3]
      exact GotIs.set8 HK.out (by omega) (by omega)
    · obtain ⟨a1, a2, a3, a4, a5⟩ := at_form h1 h3
      have h4 : HM.dE (IM.hd wd a) = 4 := by rcases dE_cases (IM.hd wd a) with h | h <;> first | exact absurd h h3 | exact h
      have HAT := Lib.hid (at_form h1 h3)
      unfold IM.hd at h4
      rw [← hx2] at h4
      rw [h4] at CD
      obtain ⟨dl, hdl⟩ : ∃ dl, dl = HM.dL (x : Nat) := ⟨_, rfl⟩
      obtain ⟨dc, hdc⟩ : ∃ dc, dc = HM.dC (x : Nat) := ⟨_, rfl⟩
      obtain ⟨ds, hds⟩ : ∃ ds, ds = HM.dS (x : Nat) := ⟨_, rfl⟩
      rw [← hdl, ← hdc, ← hds] at CD
      have HR := Lib.hid CR
      have HD := Lib.hid CD
      have HB1 := Lib.hid hb1
      have HY := Lib.hid Y1
      clear CR CD CO hb1 Y1 H1 h1 h3 hdl hdc hds hx hx2 h a1 a2 a3 a4 a5 h4
      go_enter Tryz.func37, Tryz.ntmps37
      go_upto_region 3 with fail
      rw [← hw1]
      clear hw1
      go_wp2_with fail
      refine HR.out.mono ?_
      rintro e w' ⟨rfl, rfl⟩
      go_wp2_with fail
      refine (HD.out _).mono ?_
      rintro e w2 ⟨rfl, hb2⟩
      have hb3 := hb2.alloc hb2.size (.cells #[.int .i64 dl, .int .i64 dc, .int .i64 ds] 32)
      have HB3 := Lib.hid hb3
      have Y := HY.out.below hb3 HY.out.lt
      clear hb2 hb3
      go_upto_region 7 with fail
      obtain ⟨w3, hw3⟩ : ∃ w3, w3 = w2.alloc (.cells #[.int .i64 dl, .int .i64 dc, .int .i64 ds] 32) := ⟨_, rfl⟩
      rw [← hw3] at Y HB3 ⊢
      have y0 : w3.cell? ⟨w.heap.size, 0, none⟩ = some (.int .i64 0) := Y.cell 0
      have y1 : w3.cell? ⟨w.heap.size, 1, none⟩ = some (.int .i64 0) := Y.cell 1
      have y2 : w3.cell? ⟨w.heap.size, 2, none⟩ = some (.int .i64 0) := Y.cell 2
      have y3 : w3.cell? ⟨w.heap.size, 3, none⟩ = some (.int .i64 0) := Y.cell 3
      have y4 : w3.cell? ⟨w.heap.size, 4, none⟩ = some (.slice none 0 0) := Y.cell 4
      have y5 : w3.cell? ⟨w.heap.size, 5, none⟩ = some (.int .i64 0) := Y.cell 5
      have y6 : w3.cell? ⟨w.heap.size, 6, none⟩ = some (.slice none 0 0) := Y.cell 6
      have y7 : w3.cell? ⟨w.heap.size, 7, none⟩ = some (.int .i64 0) := Y.cell 7
      have f0 := Y.free 0
      have f1 := Y.free 1
      have f2 := Y.free 2
      have f3 := Y.free 3
      have f4 := Y.free 4
      have f5 := Y.free 5
      have f6 := Y.free 6
      have f7 := Y.free 7
      clear hw3 Y
      go_wp2_with fail
      refine bodyPost_ret (v := .tuple #[.agg #[.int .i64 0, .int .i64 0, .int .i64 0, .int .i64 0, .slice none 0 0, .int .i64 0, .slice none 0 0, .int .i64 0], .int .i64 4]) (by simp [results, Tryz.results37, go_sem, y0, y1, y2, y3, y4, y5, y6, y7]) rfl ?_
      obtain ⟨a1, a2, a3, a4, a5⟩ := HAT.out
      rw [a1, a2, a3, a4, a5]
      exact ⟨zLV, rfl, fun e => absurd e (by decide), set8_below (HB1.out.trans (HB3.out.mono HB1.out.size)) (Nat.le_refl _)⟩
  · have HAT := Lib.hid (at_bad (wd := wd) h1)
    have hx : readV q.own wd q.C q.K a = 0 := by unfold readV; rw [if_neg (show ¬ addrE q.own q.C q.K a = 0 from h1)]
    rw [hx] at CR
    obtain ⟨ad, had⟩ : ∃ ad, ad = IM.adE q a := ⟨_, rfl⟩
    rw [show addrE q.own q.C q.K a = ad from had.symm] at CR
    rw [← had] at h1
    have HA := Lib.hid had
    have hd : (ad != 0) = true := by simpa using h1
    have HN := Lib.hid h1
    have HR := Lib.hid CR
    have HB1 := Lib.hid hb1
    have Y := Y1
    have y0 : w1.cell? ⟨w.heap.size, 0, none⟩ = some (.int .i64 0) := Y.cell 0
    have y1 : w1.cell? ⟨w.heap.size, 1, none⟩ = some (.int .i64 0) := Y.cell 1
    have y2 : w1.cell? ⟨w.heap.size, 2, none⟩ = some (.int .i64 0) := Y.cell 2
    have y3 : w1.cell? ⟨w.heap.size, 3, none⟩ = some (.int .i64 0) := Y.cell 3
    have y4 : w1.cell? ⟨w.heap.size, 4, none⟩ = some (.slice none 0 0) := Y.cell 4
    have y5 : w1.cell? ⟨w.heap.size, 5, none⟩ = some (.int .i64 0) := Y.cell 5
    have y6 : w1.cell? ⟨w.heap.size, 6, none⟩ = some (.slice none 0 0) := Y.cell 6
    have y7 : w1.cell? ⟨w.heap.size, 7, none⟩ = some (.int .i64 0) := Y.cell 7
    have f0 := Y.free 0
    have f1 := Y.free 1
    have f2 := Y.free 2
    have f3 := Y.free 3
    have f4 := Y.free 4
    have f5 := Y.free 5
    have f6 := Y.free 6
    have f7 := Y.free 7
    clear CR hb1 Y1 H1 h1 hx h had Y
    go_enter Tryz.func37, Tryz.ntmps37
    go_upto_region 3 with fail
    rw [← hw1]
    clear hw1
    go_wp2_with fail
    refine HR.out.mono ?_
    rintro e w' ⟨rfl, rfl⟩
    go_wp2_with fail
    refine bodyPost_ret (v := .tuple #[.agg #[.int .i64 0, .int .i64 0, .int .i64 0, .int .i64 0, .slice none 0 0, .int .i64 0, .slice none 0 0, .int .i64 0], .int .i64 ad]) (by simp [results, Tryz.results37, go_sem, y0, y1, y2, y3, y4, y5, y6, y7]) rfl ?_
    obtain ⟨a1, a2, a3, a4, a5⟩ := HAT.out
    rw [a1, a2, a3, a4, a5, ← HA.out]
    exact ⟨zLV, rfl, fun e => absurd e HN.out, set8_below HB1.out (Nat.le_refl _)⟩
end Go.Proofs.YteneadimchhhhaaGreatDoor
/- Contracts of At, addressOf of images. -/
namespace Go.Proofs.YteneadimchhhhaaGreatDoor
open Go.RowKit

set_option maxHeartbeats 2000000 in
theorem iat_any {w : World} {I : IB} {q : Cf} {wd : Nat → Nat} (h : ImAt w I q wd) (a : Int) :
    Calls Tryz.prog 9 #[.pointer (some ⟨I.p, 0, none⟩), .int .i64 a] w fun e w' => e = .returned (.tuple #[.agg #[.int .i64 (IM.atL q wd a), .int .i64 (IM.atC q wd a), .int .i64 (IM.atS q wd a)], .int .i64 (IM.atN q wd a), .int .i64 (IM.atE q wd a)]) ∧ Below w.heap.size w w' := by
  obtain ⟨w1, hw1⟩ : ∃ w1, w1 = w.alloc (.cells #[.int .i64 0, .int .i64 0, .int .i64 0] 32) := ⟨_, rfl⟩
  have hb1 : Below w.heap.size w w1 := by rw [hw1]; exact (Below.refl _ _).alloc (Nat.le_refl _) _
  have Y1 : Whole w1 w.heap.size 32 #[.int .i64 0, .int .i64 0, .int .i64 0] := by rw [hw1]; exact Whole.fresh _ _ _
  have CO := objectAt_any (h.below hb1) a
  generalize IM.atL q wd a = l1 at *
  generalize IM.atC q wd a = l2 at *
  generalize IM.atS q wd a = l3 at *
  generalize IM.atN q wd a = n at *
  generalize IM.atE q wd a = er at *
  rw [hw1] at CO
  have HO := Lib.hid CO
  have HB1 := Lib.hid hb1
  have HY := Lib.hid Y1
  have HW := Lib.hid hw1
  clear CO h hb1 Y1 hw1
  go_enter Tryz.func9, Tryz.ntmps9
  go_wp2_with fail
  refine HO.out.mono ?_
  rw [← HW.out]
  rintro e w2 ⟨k, rfl, -, hb2⟩
  go_upto_region 2 with fail
  obtain ⟨w3, hw3⟩ : ∃ w3, w3 = w2.alloc (.cells #[.int .i64 l1, .int .i64 l2, .int .i64 l3, .int .i64 k.F, .slice k.A k.n k.c, .int .i64 k.R, .slice k.D k.m k.d, .int .i64 n] 96) := ⟨_, rfl⟩
  have hb3 : Below w1.heap.size w1 w3 := by rw [hw3]; exact hb2.alloc hb2.size _
  have hb4 := HB1.out.trans (hb3.mono HB1.out.size)
  have O : Whole w3 w2.heap.size 96 #[.int .i64 l1, .int .i64 l2, .int .i64 l3, .int .i64 k.F, .slice k.A k.n k.c, .int .i64 k.R, .slice k.D k.m k.d, .int .i64 n] := by rw [hw3]; exact Whole.fresh _ _ _
  have hlt := HY.out.lt
  have hle : w.heap.size < w2.heap.size := by have := hb2.size; omega
  rw [← hw3]
  obtain ⟨y0, y1, y2⟩ := (HY.out.below hb3 hlt).cells3
  have f0 := (HY.out.below hb3 hlt).free 0
  have f1 := (HY.out.below hb3 hlt).free 1
  have f2 := (HY.out.below hb3 hlt).free 2
  have o0 : w3.cell? ⟨w2.heap.size, 0, none⟩ = some (.int .i64 l1) := O.cell 0
  have o1 : w3.cell? ⟨w2.heap.size, 1, none⟩ = some (.int .i64 l2) := O.cell 1
  have o2 : w3.cell? ⟨w2.heap.size, 2, none⟩ = some (.int .i64 l3) := O.cell 2
  have o7 : w3.cell? ⟨w2.heap.size, 7, none⟩ = some (.int .i64 n) := O.cell 7
  have HB4 := Lib.hid hb4
  clear hb2 hb3 hb4 O hw3
  go_region
  all_goals
    go_wp2_with fail
    refine bodyPost_ret (v := .tuple #[.agg #[.int .i64 l1, .int .i64 l2, .int .i64 l3], .int .i64 n, .int .i64 er]) (by simp [results, Tryz.results9, go_sem, y0, y1, y2]) rfl ⟨rfl, ?_⟩
    exact ((HB4.out.drew.setCell (p := ⟨w.heap.size, 0, none⟩) (Nat.le_refl _) _).setCell (p := ⟨w.heap.size, 1, none⟩) (Nat.le_refl _) _).setCell (p := ⟨w.heap.size, 2, none⟩) (Nat.le_refl _) _

/-- What IsRef says of a layout whose size may be. -/
def refE (k : LV) (C p : Int) : Int := if p < 0 ∨ LM.size k.F k.R k.xs k.ys C ≤ p then 3 else 0
def refB (k : LV) (C p : Int) : Bool := if p < 0 ∨ LM.size k.F k.R k.xs k.ys C ≤ p then false else LM.isRef k.F k.R k.xs k.ys p
theorem lisRef_any {w W : World} {k : LV} (C p : Int) (hL : k.lists W w.heap.size W.heap.size) (hf : k.fits) (hC : I64 C) (hcode : LM.code k.F k.R k.xs k.ys C = 0) :
    Calls Tryz.prog 90 #[.agg #[.int .i64 k.F, .slice k.A k.n k.c, .int .i64 k.R, .slice k.D k.m k.d], .int .i64 C, .int .i64 p] W fun e w' => e = .returned (.tuple #[.bool (refB k C p), .int .i64 (refE k C p)]) ∧ Below W.heap.size W w' := by
  unfold refB refE
  have hs := LM.size_ok hcode
  by_cases hp : p < 0 ∨ LM.size k.F k.R k.xs k.ys C ≤ p
  · rw [if_pos hp, if_pos hp]
    rw [hs] at hp
    exact isRef_out k.F k.R k.A k.n k.c k.xs k.D k.m k.d k.ys C p W.heap.size W (Nat.le_refl _) hf.hn hf.hm hf.hF hf.hR hL.fst.ns hL.snd.ns hC hcode hp
  · rw [if_neg hp, if_neg hp]
    rw [hs] at hp
    exact isRef_ok k.F k.R k.A k.n k.c k.xs k.D k.m k.d k.ys C p W.heap.size W (Nat.le_refl _) hf.hn hf.hm hf.hF hf.hR hL.fst.ns hL.snd.ns hC hcode (by omega) (by omega)
theorem at_ok {q : Cf} {wd : Nat → Nat} {a : Int} (h : IM.atE q wd a = 0) : IM.adE q a = 0 ∧ HM.dE (IM.hd wd a) = 0 ∧ IM.atL q wd a = HM.dL (IM.hd wd a) ∧ IM.atC q wd a = HM.dC (IM.hd wd a) ∧ IM.atS q wd a = HM.dS (IM.hd wd a) ∧ IM.szE q.D (IM.atL q wd a) (IM.atC q wd a) = 0 ∧ IM.atN q wd a = IM.szN q.D (IM.atL q wd a) (IM.atC q wd a) := by
  have hL : IM.atL q wd a = HM.dL (IM.hd wd a) := by unfold IM.atL; rw [if_pos h]
  have hC : IM.atC q wd a = HM.dC (IM.hd wd a) := by unfold IM.atC; rw [if_pos h]
  have hS : IM.atS q wd a = HM.dS (IM.hd wd a) := by unfold IM.atS; rw [if_pos h]
  have hN : IM.atN q wd a = IM.szN q.D (HM.dL (IM.hd wd a)) (HM.dC (IM.hd wd a)) := by unfold IM.atN; rw [if_pos h]
  unfold IM.atE at h
  by_cases h1 : IM.adE q a = 0
  · rw [if_pos h1] at h
    by_cases h2 : HM.dE (IM.hd wd a) = 0
    · rw [if_pos h2] at h
      exact ⟨h1, h2, hL, hC, hS, by rw [hL, hC]; exact h, by rw [hL, hC]; exact hN⟩
    · rw [if_neg h2] at h
      omega
  · rw [if_neg h1] at h
    exact absurd h h1
theorem at_got {q : Cf} {wd : Nat → Nat} {a : Int} {k : LV} (h : IM.atE q wd a = 0) (hl : IM.lay q.D (IM.atL q wd a) = some k.ld) :
    LM.code k.F k.R k.xs k.ys (IM.atC q wd a) = 0 ∧ IM.atN q wd a = 1 + LM.size k.F k.R k.xs k.ys (IM.atC q wd a) ∧ ∀ p, IM.isR q.D (IM.atL q wd a) p = LM.isRef k.F k.R k.xs k.ys p := by
  obtain ⟨-, -, -, -, -, h6, h7⟩ := at_ok h
  have hz := h6
  unfold IM.szN at h7
  rw [if_pos h6, hl] at h7
  unfold IM.szE at h6
  rw [hl] at h6
  exact ⟨h6, h7, fun p => by unfold IM.isR; rw [hl]; rfl⟩
theorem atC_i64 (q : Cf) (wd : Nat → Nat) (a : Int) : I64 (IM.atC q wd a) := by
  unfold IM.atC
  split
  · have h0 : 0 ≤ IM.hd wd a := by unfold IM.hd; omega
    rcases dC_bd (IM.hd wd a) with h | h
    · unfold I64; omega
    · exact absurd h0 h
  · unfold I64; omega
theorem pl_of {q : Cf} {wd : Nat → Nat} {a p : Int} {k : LV} {r : Bool} (h : IM.atE q wd a = 0) (hl : IM.lay q.D (IM.atL q wd a) = some k.ld) :
    (refE k (IM.atC q wd a) p ≠ 0 → IM.plE q wd a p r = refE k (IM.atC q wd a) p) ∧ (refE k (IM.atC q wd a) p = 0 → refB k (IM.atC q wd a) p ≠ r → IM.plE q wd a p r = 9) ∧ (refE k (IM.atC q wd a) p = 0 → refB k (IM.atC q wd a) p = r → IM.plE q wd a p r = 0) := by
  obtain ⟨h1, h2, h3⟩ := at_got h hl
  unfold IM.plE refE refB
  rw [if_pos h, h2, h3]
  by_cases hp : p < 0 ∨ LM.size k.F k.R k.xs k.ys (IM.atC q wd a) ≤ p
  · rw [if_pos hp, if_pos (by omega)]
    exact ⟨fun _ => rfl, fun e => absurd e (by decide), fun e => absurd e (by decide)⟩
  · rw [if_neg hp, if_neg hp, if_neg (by omega)]
    exact ⟨fun e => absurd rfl e, fun _ e => if_neg e, fun _ e => if_pos e⟩
theorem refE_cases (k : LV) (C p : Int) : refE k C p = 0 ∨ refE k C p = 3 := by unfold refE; split <;> simp
theorem ad_bd {q : Cf} {a : Int} (hC : q.C ≤ 1024) (hK : q.K ≤ 1024) (h : IM.adE q a = 0) : 0 ≤ a ∧ a < 1048576 := by
  obtain ⟨j, rfl, hj, _⟩ := addrE_ok h
  have := Nat.mul_le_mul hC hK
  omega
theorem pl_bd {q : Cf} {wd : Nat → Nat} {a p : Int} {r : Bool} (h : IM.plE q wd a p r = 0) : IM.atE q wd a = 0 ∧ 0 ≤ p ∧ p < IM.atN q wd a - 1 := by
  unfold IM.plE at h
  by_cases h1 : IM.atE q wd a = 0
  · rw [if_pos h1] at h
    by_cases h2 : p < 0 ∨ IM.atN q wd a - 1 ≤ p
    · rw [if_pos h2] at h
      omega
    · exact ⟨h1, by omega, by omega⟩
  · rw [if_neg h1] at h
    exact absurd h h1
theorem atN_bd (q : Cf) (wd : Nat → Nat) (a : Int) : 0 ≤ IM.atN q wd a ∧ IM.atN q wd a ≤ 8192 := by
  unfold IM.atN
  split
  · unfold IM.szN
    split
    · split
      · omega
      · rename_i l _
        have := LM.size_bd l.F l.R l.xs l.ys (HM.dC (IM.hd wd a))
        omega
    · omega
  · omega

set_option maxHeartbeats 2000000 in
theorem addressOf_any {w : World} {I : IB} {q : Cf} {wd : Nat → Nat} (h : ImAt w I q wd) (a p : Int) (r : Bool) :
    Calls Tryz.prog 76 #[.pointer (some ⟨I.p, 0, none⟩), .int .i64 a, .int .i64 p, .bool r] w fun e w' => e = .returned (.tuple #[.int .i64 (IM.plA q wd a p r), .int .i64 (IM.plE q wd a p r)]) ∧ Below w.heap.size w w' := by
  have CO := objectAt_any h a
  have hCi := atC_i64 q wd a
  by_cases hz : IM.atE q wd a = 0
  · have P := fun k hl => pl_of (q := q) (wd := wd) (a := a) (p := p) (k := k) (r := r) hz hl
    have Q := fun k hl => at_got (q := q) (wd := wd) (a := a) (k := k) hz hl
    have hb := ad_bd h.st.C2 h.st.K2 (at_ok hz).1
    have hpl := fun e => pl_bd (q := q) (wd := wd) (a := a) (p := p) (r := r) e
    have hnb := (atN_bd q wd a).2
    have hA : ∀ E, IM.plE q wd a p r = E → IM.plA q wd a p r = if E = 0 then a + 1 + p else 0 := fun E e => by unfold IM.plA; rw [e]
    have HA := Lib.hid hA
    have HPL := Lib.hid hpl
    have HP := Lib.hid P
    have HQ := Lib.hid Q
    have HNB := Lib.hid hnb
    rw [hz] at CO
    obtain ⟨l1, h1⟩ : ∃ x, x = IM.atL q wd a := ⟨_, rfl⟩
    obtain ⟨l2, h2⟩ : ∃ x, x = IM.atC q wd a := ⟨_, rfl⟩
    obtain ⟨l3, h3⟩ : ∃ x, x = IM.atS q wd a := ⟨_, rfl⟩
    obtain ⟨n, h4⟩ : ∃ x, x = IM.atN q wd a := ⟨_, rfl⟩
    rw [← h1, ← h2, ← h3, ← h4] at CO
    rw [← h1, ← h2] at HP HQ
    rw [← h4] at HPL HNB HQ
    rw [← h2] at hCi
    have HO := Lib.hid CO
    have HCi := Lib.hid hCi
    clear CO hCi P Q hpl hA h1 h2 h3 h4 hz h hnb
    go_enter Tryz.func76, Tryz.ntmps76
    go_wp2_with fail
    refine HO.out.mono ?_
    rintro e w2 ⟨k, rfl, hg, hb2⟩
    obtain ⟨hl, hf, hL⟩ := hg.out rfl
    obtain ⟨q1, q2, q3⟩ := HQ.out k hl
    obtain ⟨p1, p2, p3⟩ := HP.out k hl
    obtain ⟨w3, hw3⟩ : ∃ w3, w3 = w2.alloc (.cells #[.int .i64 l1, .int .i64 l2, .int .i64 l3, .int .i64 k.F, .slice k.A k.n k.c, .int .i64 k.R, .slice k.D k.m k.d, .int .i64 n] 96) := ⟨_, rfl⟩
    have hb3 : Below w2.heap.size w2 w3 := by rw [hw3]; exact (Below.refl _ _).alloc (Nat.le_refl _) _
    have hL3 : k.lists w3 w.heap.size w3.heap.size := Lists.mono (Lists.kept hL (Kept.of_below hb3 (Nat.le_refl _))) (Nat.le_refl _) hb3.size
    have CI := lisRef_any (w := w) (W := w3) l2 p hL3 hf HCi.out q1
    have hb4 := hb2.trans (hb3.mono hb2.size)
    have O : Whole w3 w2.heap.size 96 #[.int .i64 l1, .int .i64 l2, .int .i64 l3, .int .i64 k.F, .slice k.A k.n k.c, .int .i64 k.R, .slice k.D k.m k.d, .int .i64 n] := by rw [hw3]; exact Whole.fresh _ _ _
    obtain ⟨rb, hrb⟩ : ∃ x, x = refB k l2 p := ⟨_, rfl⟩
    obtain ⟨re, hre⟩ : ∃ x, x = refE k l2 p := ⟨_, rfl⟩
    rw [← hrb, ← hre] at CI p2 p3
    rw [← hre] at p1
    have o1 : w3.cell? ⟨w2.heap.size, 1, none⟩ = some (.int .i64 l2) := O.cell 1
    have o3 : w3.cell? ⟨w2.heap.size, 3, none⟩ = some (.int .i64 k.F) := O.cell 3
    have o4 : w3.cell? ⟨w2.heap.size, 4, none⟩ = some (.slice k.A k.n k.c) := O.cell 4
    have o5 : w3.cell? ⟨w2.heap.size, 5, none⟩ = some (.int .i64 k.R) := O.cell 5
    have o6 : w3.cell? ⟨w2.heap.size, 6, none⟩ = some (.slice k.D k.m k.d) := O.cell 6
    have HCI := Lib.hid CI
    have P1 := Lib.hid p1
    have P2 := Lib.hid p2
    have P3 := Lib.hid p3
    have HB4 := Lib.hid hb4
    clear hg hl hf hL q1 q2 q3 p1 p2 p3 hb3 hL3 CI hb4 O hrb hre HQ HP hb2 HO
    go_upto_region 4 with fail
    rw [← hw3]
    clear hw3
    go_wp2_with fail
    refine HCI.out.mono ?_
    rintro e w4 ⟨rfl, hb5⟩
    have hb6 := Lib.hid (HB4.out.trans (hb5.mono HB4.out.size))
    clear hb5 o1 o3 o4 o5 o6 HCI
    by_cases hre : re = 0
    · subst hre
      cases rb <;> cases r
      all_goals first
        | (have E := P3.out rfl rfl
           have EA := HA.out 0 E
           rw [if_pos rfl] at EA
           obtain ⟨-, b1, b2⟩ := HPL.out E
           have b3 := HNB.out
           obtain ⟨b4, b5⟩ := hb
           have HE := Lib.hid (And.intro E EA)
           clear E EA P1 P2 P3 HPL HA HNB
           go_wp2_with fail
           go_ret2
           exact ⟨by rw [HE.out.1, HE.out.2]; rfl, hb6.out⟩)
        | (have E := P2.out rfl (by decide)
           have EA := HA.out 9 E
           rw [if_neg (by decide)] at EA
           have HE := Lib.hid (And.intro E EA)
           clear E EA P1 P2 P3 HPL HA HNB
           go_wp2_with fail
           go_ret2
           exact ⟨by rw [HE.out.1, HE.out.2]; rfl, hb6.out⟩)
    · have E := P1.out hre
      have EA := HA.out re E
      have hne : (re != 0) = true := by simpa using hre
      rw [if_neg hre] at EA
      have HE := Lib.hid (And.intro E EA)
      clear E EA P1 P2 P3 HPL HA hre HNB
      go_wp2_with fail
      go_ret2
      exact ⟨by rw [HE.out.1, HE.out.2]; rfl, hb6.out⟩
  · have hE : IM.plE q wd a p r = IM.atE q wd a := by unfold IM.plE; rw [if_neg hz]
    have hA : IM.plA q wd a p r = 0 := by unfold IM.plA; rw [hE, if_neg hz]
    rw [hE, hA]
    clear hE hA hCi
    generalize IM.atL q wd a = l1 at *
    generalize IM.atC q wd a = l2 at *
    generalize IM.atS q wd a = l3 at *
    generalize IM.atN q wd a = n at *
    generalize IM.atE q wd a = er at *
    have hd : (er != 0) = true := by simpa using hz
    have HO := Lib.hid CO
    clear CO hz h
    go_enter Tryz.func76, Tryz.ntmps76
    go_wp2_with fail
    refine HO.out.mono ?_
    rintro e w2 ⟨k, rfl, -, hb2⟩
    go_wp2_with fail
    go_ret2
    exact ⟨rfl, hb2.alloc hb2.size _⟩
end Go.Proofs.YteneadimchhhhaaGreatDoor
/- Contracts of Load, Follow of images. -/
namespace Go.Proofs.YteneadimchhhhaaGreatDoor
open Go.RowKit

section
variable {w : World} {I : IB} {q : Cf} {wd : Nat → Nat}
set_option maxHeartbeats 1000000 in
theorem readAtU_any (h : ImAt w I q wd) (a p : Int) :
    Calls Tryz.prog 48 #[.pointer (some ⟨I.p, 0, none⟩), .int .i64 a, .int .i64 p, .bool false, .func (.func 13) #[.pointer (some ⟨I.B.s, 0, none⟩)] #[]] w fun e w' => e = .returned (.tuple #[.int .u64 (IM.ldV q wd a p : Nat), .int .i64 (IM.ldE q wd a p)]) ∧ Below w.heap.size w w' := by
  have CA := addressOf_any h a p false
  have HA : ∀ w', Below w.heap.size w w' → Calls Tryz.prog 13 #[.pointer (some ⟨I.B.s, 0, none⟩), .int .i64 (a + 1 + p)] w' fun e w'' => e = .returned (.tuple #[.int .u64 (readV q.own wd q.C q.K (a + 1 + p) : Nat), .int .i64 (addrE q.own q.C q.K (a + 1 + p))]) ∧ w' = w'' := fun w' hb => read_any (h.below hb).st (a + 1 + p)
  by_cases hz : IM.plE q wd a p false = 0
  · have hE : IM.ldE q wd a p = IM.adE q (a + 1 + p) := by unfold IM.ldE; rw [if_pos hz]
    have hV : IM.ldV q wd a p = readV q.own wd q.C q.K (a + 1 + p) := by unfold IM.ldV readV; rw [hE]; rfl
    have hP : IM.plA q wd a p false = a + 1 + p := by unfold IM.plA; rw [if_pos hz]
    rw [hE, hV]
    unfold IM.adE
    rw [hP, hz] at CA
    clear hE hV hP hz h
    generalize a + 1 + p = i at *
    generalize readV q.own wd q.C q.K i = x at *
    generalize addrE q.own q.C q.K i = er at *
    have HC := Lib.hid CA
    have HR := Lib.hid HA
    clear CA HA
    go_enter Tryz.func48, Tryz.ntmps48
    go_wp2_with fail
    refine HC.out.mono ?_
    rintro e w2 ⟨rfl, hb⟩
    have HR2 := Lib.hid (HR.out _ hb)
    clear HR HC
    go_wp2_with fail
    refine HR2.out.mono ?_
    rintro e w3 ⟨rfl, rfl⟩
    go_wp2_with fail
    go_ret2
    exact ⟨rfl, hb⟩
  · have hE : IM.ldE q wd a p = IM.plE q wd a p false := by unfold IM.ldE; rw [if_neg hz]
    have hV : IM.ldV q wd a p = 0 := by unfold IM.ldV; rw [hE, if_neg hz]
    rw [hE, hV]
    generalize IM.plA q wd a p false = i at *
    generalize IM.plE q wd a p false = er at *
    have hd : (er != 0) = true := by simpa using hz
    have HC := Lib.hid CA
    clear CA HA hz hE hV h
    go_enter Tryz.func48, Tryz.ntmps48
    go_wp2_with fail
    refine HC.out.mono ?_
    rintro e w2 ⟨rfl, hb⟩
    go_wp2_with fail
    go_ret2
    exact ⟨rfl, hb⟩
set_option maxHeartbeats 1000000 in
theorem iload_any (h : ImAt w I q wd) (a p : Int) :
    Calls Tryz.prog 17 #[.pointer (some ⟨I.p, 0, none⟩), .int .i64 a, .int .i64 p] w fun e w' => e = .returned (.tuple #[.int .u64 (IM.ldV q wd a p : Nat), .int .i64 (IM.ldE q wd a p)]) ∧ Below w.heap.size w w' := by
  have HC := Lib.hid (readAtU_any h a p)
  have p0 : w.cell? ⟨I.p, 0, none⟩ = some (.pointer (some ⟨I.B.s, 0, none⟩)) := h.box.cell 0
  generalize IM.ldV q wd a p = x at *
  generalize IM.ldE q wd a p = er at *
  clear h
  go_enter Tryz.func17, Tryz.ntmps17
  go_wp2_with fail
  refine HC.out.mono ?_
  rintro e w2 ⟨rfl, hb⟩
  go_wp2_with fail
  go_ret2
  exact ⟨rfl, hb⟩

/-- What the word at an address tells, as a link. -/
def rlE (q : Cf) (wd : Nat → Nat) (i : Int) : Int := if IM.adE q i = 0 then HM.kE (IM.hd wd i) else IM.adE q i
theorem k_zero {x : Int} (h : HM.kE x ≠ 0) : HM.kK x = 0 ∧ HM.kI x = 0 ∧ HM.kG x = 0 := by
  unfold HM.kE at h
  unfold HM.kK HM.kI HM.kG
  by_cases ht : HM.tok x = true
  · rw [if_pos ht] at h
    exact absurd rfl h
  · rw [if_neg ht, if_neg ht, if_neg ht]
    rw [if_neg ht] at h
    by_cases h1 : x = 1
    · rw [if_pos h1] at h
      exact absurd rfl h
    · rw [if_neg h1]
      exact ⟨rfl, rfl, rfl⟩
set_option maxHeartbeats 1000000 in
theorem readLink_any (h : ImAt w I q wd) (i : Int) :
    Calls Tryz.prog 47 #[.pointer (some ⟨I.p, 0, none⟩), .int .i64 i] w (LinkIs (zE (rlE q wd i) (HM.kK (IM.hd wd i))) (zE (rlE q wd i) (HM.kI (IM.hd wd i))) (zE (rlE q wd i) (HM.kG (IM.hd wd i))) (rlE q wd i) w) := by
  obtain ⟨w1, hw1⟩ : ∃ w1, w1 = w.alloc (.cells #[.int .i64 0, .int .i64 0, .int .i64 0] 37) := ⟨_, rfl⟩
  have hb1 : Below w.heap.size w w1 := by rw [hw1]; exact (Below.refl _ _).alloc (Nat.le_refl _) _
  have Y1 : Whole w1 w.heap.size 37 #[.int .i64 0, .int .i64 0, .int .i64 0] := by rw [hw1]; exact Whole.fresh _ _ _
  have H1 := h.below hb1
  have p0 : w1.cell? ⟨I.p, 0, none⟩ = some (.pointer (some ⟨I.B.s, 0, none⟩)) := H1.box.cell 0
  have CR := read_any H1.st i
  by_cases hz : IM.adE q i = 0
  · have CL := fun W => hlink_any (IM.hd wd i) (h.word i) W
    have hE : rlE q wd i = HM.kE (IM.hd wd i) := by unfold rlE; rw [if_pos hz]
    have hx : readV q.own wd q.C q.K i = wd i.toNat := by unfold readV; rw [if_pos (show addrE q.own q.C q.K i = 0 from hz)]
    have hK : zE (rlE q wd i) (HM.kK (IM.hd wd i)) = HM.kK (IM.hd wd i) ∧ zE (rlE q wd i) (HM.kI (IM.hd wd i)) = HM.kI (IM.hd wd i) ∧ zE (rlE q wd i) (HM.kG (IM.hd wd i)) = HM.kG (IM.hd wd i) := by
      rw [hE]
      unfold zE
      by_cases hk : HM.kE (IM.hd wd i) = 0
      · rw [if_pos hk, if_pos hk, if_pos hk]
        exact ⟨rfl, rfl, rfl⟩
      · obtain ⟨k1, k2, k3⟩ := k_zero hk
        rw [k1, k2, k3]
        simp
    rw [hK.1, hK.2.1, hK.2.2, hE]
    rw [hx, show addrE q.own q.C q.K i = 0 from hz] at CR
    unfold IM.hd at *
    generalize wd i.toNat = x at *
    generalize HM.kK (x : Nat) = k1 at *
    generalize HM.kI (x : Nat) = k2 at *
    generalize HM.kG (x : Nat) = k3 at *
    generalize HM.kE (x : Nat) = er at *
    have HR := Lib.hid CR
    have HL := Lib.hid CL
    have HB1 := Lib.hid hb1
    have HY := Lib.hid Y1
    clear CR CL hE hx hK hz h H1 hb1 Y1
    go_enter Tryz.func47, Tryz.ntmps47
    go_upto_region 1 with fail
    rw [← hw1]
    clear hw1
    go_wp2_with fail
    refine HR.out.mono ?_
    rintro e w' ⟨rfl, rfl⟩
    go_wp2_with fail
    refine (HL.out _).mono ?_
    rintro e w2 ⟨rfl, hb2⟩
    have Y := HY.out.below hb2 HY.out.lt
    obtain ⟨y0, y1, y2⟩ := Y.cells3
    have f0 := Y.free 0
    have f1 := Y.free 1
    have f2 := Y.free 2
    have HB2 := Lib.hid (HB1.out.trans (hb2.mono HB1.out.size))
    clear hb2 Y
    go_wp2_with fail
    refine bodyPost_ret (v := .tuple #[.agg #[.int .i64 k1, .int .i64 k2, .int .i64 k3], .int .i64 er]) (by simp [results, Tryz.results47, go_sem, y0, y1, y2]) rfl ⟨rfl, ?_⟩
    exact ((HB2.out.setCell (p := ⟨w.heap.size, 0, none⟩) (Nat.le_refl _) _).setCell (p := ⟨w.heap.size, 1, none⟩) (Nat.le_refl _) _).setCell (p := ⟨w.heap.size, 2, none⟩) (Nat.le_refl _) _
  · have hE : rlE q wd i = IM.adE q i := by unfold rlE; rw [if_neg hz]
    have hx : readV q.own wd q.C q.K i = 0 := by unfold readV; rw [if_neg (show ¬ addrE q.own q.C q.K i = 0 from hz)]
    rw [hE]
    unfold zE
    rw [if_neg hz, if_neg hz, if_neg hz]
    rw [hx] at CR
    unfold IM.adE at *
    generalize addrE q.own q.C q.K i = er at *
    have hd : (er != 0) = true := by simpa using hz
    obtain ⟨y0, y1, y2⟩ := Y1.cells3
    have f0 := Y1.free 0
    have f1 := Y1.free 1
    have f2 := Y1.free 2
    have HR := Lib.hid CR
    have HB1 := Lib.hid hb1
    clear CR hE hx hz h H1 hb1 Y1
    go_enter Tryz.func47, Tryz.ntmps47
    go_upto_region 1 with fail
    rw [← hw1]
    clear hw1
    go_wp2_with fail
    refine HR.out.mono ?_
    rintro e w' ⟨rfl, rfl⟩
    go_wp2_with fail
    refine bodyPost_ret (v := .tuple #[.agg #[.int .i64 0, .int .i64 0, .int .i64 0], .int .i64 er]) (by simp [results, Tryz.results47, go_sem, y0, y1, y2]) rfl ⟨rfl, ?_⟩
    exact ((HB1.out.setCell (p := ⟨w.heap.size, 0, none⟩) (Nat.le_refl _) _).setCell (p := ⟨w.heap.size, 1, none⟩) (Nat.le_refl _) _).setCell (p := ⟨w.heap.size, 2, none⟩) (Nat.le_refl _) _

/-- What Follow answers. -/
def FolIs (q : Cf) (wd : Nat → Nat) (a p : Int) : World → Ending → World → Prop := LinkIs (IM.flK q wd a p) (IM.flI q wd a p) (IM.flG q wd a p) (IM.flE q wd a p)
set_option maxHeartbeats 1000000 in
theorem readAtL_any (h : ImAt w I q wd) (a p : Int) :
    Calls Tryz.prog 46 #[.pointer (some ⟨I.p, 0, none⟩), .int .i64 a, .int .i64 p, .bool true, .func (.func 47) #[.pointer (some ⟨I.p, 0, none⟩)] #[]] w (FolIs q wd a p w) := by
  obtain ⟨w1, hw1⟩ : ∃ w1, w1 = w.alloc (.cells #[.int .i64 0, .int .i64 0, .int .i64 0] 37) := ⟨_, rfl⟩
  have hb1 : Below w.heap.size w w1 := by rw [hw1]; exact (Below.refl _ _).alloc (Nat.le_refl _) _
  have Y1 : Whole w1 w.heap.size 37 #[.int .i64 0, .int .i64 0, .int .i64 0] := by rw [hw1]; exact Whole.fresh _ _ _
  have H1 := h.below hb1
  have CA := addressOf_any H1 a p true
  have CR := fun w' (hb : Below w1.heap.size w1 w') => readLink_any (H1.below hb) (a + 1 + p)
  unfold FolIs IM.flK IM.flI IM.flG
  by_cases hz : IM.plE q wd a p true = 0
  · have hE : IM.flE q wd a p = rlE q wd (a + 1 + p) := by unfold IM.flE rlE; rw [if_pos hz]
    have hP : IM.plA q wd a p true = a + 1 + p := by unfold IM.plA; rw [if_pos hz]
    rw [hE]
    rw [hP, hz] at CA
    clear hE hP hz h H1
    generalize a + 1 + p = i at *
    unfold zE at CR
    generalize rlE q wd i = er at *
    generalize (if er = 0 then HM.kK (IM.hd wd i) else 0) = k1 at *
    generalize (if er = 0 then HM.kI (IM.hd wd i) else 0) = k2 at *
    generalize (if er = 0 then HM.kG (IM.hd wd i) else 0) = k3 at *
    have HC := Lib.hid CA
    have HR := Lib.hid CR
    have HB1 := Lib.hid hb1
    have HY := Lib.hid Y1
    clear CA CR hb1 Y1
    go_enter Tryz.func46, Tryz.ntmps46
    go_upto_region 1 with fail
    rw [← hw1]
    clear hw1
    go_wp2_with fail
    refine HC.out.mono ?_
    rintro e w2 ⟨rfl, hb⟩
    have HR2 := Lib.hid (HR.out _ hb)
    have HB := Lib.hid hb
    clear HR HC hb
    go_wp2_with fail
    refine HR2.out.mono ?_
    rintro e w3 ⟨rfl, hb2⟩
    have hb3 := HB.out.trans (hb2.mono HB.out.size)
    have Y := HY.out.below hb3 HY.out.lt
    obtain ⟨y0, y1, y2⟩ := Y.cells3
    have f0 := Y.free 0
    have f1 := Y.free 1
    have f2 := Y.free 2
    have HB2 := Lib.hid (HB1.out.trans (hb3.mono HB1.out.size))
    clear hb2 hb3 Y
    go_wp2_with fail
    refine bodyPost_ret (v := .tuple #[.agg #[.int .i64 k1, .int .i64 k2, .int .i64 k3], .int .i64 er]) (by simp [results, Tryz.results46, go_sem, y0, y1, y2]) rfl ⟨rfl, ?_⟩
    exact ((HB2.out.setCell (p := ⟨w.heap.size, 0, none⟩) (Nat.le_refl _) _).setCell (p := ⟨w.heap.size, 1, none⟩) (Nat.le_refl _) _).setCell (p := ⟨w.heap.size, 2, none⟩) (Nat.le_refl _) _
  · have hE : IM.flE q wd a p = IM.plE q wd a p true := by unfold IM.flE; rw [if_neg hz]
    rw [hE, if_neg hz, if_neg hz, if_neg hz]
    generalize IM.plA q wd a p true = i at *
    generalize IM.plE q wd a p true = er at *
    have hd : (er != 0) = true := by simpa using hz
    have HC := Lib.hid CA
    have HB1 := Lib.hid hb1
    have HY := Lib.hid Y1
    clear CA CR hz hE h H1 hb1 Y1
    go_enter Tryz.func46, Tryz.ntmps46
    go_upto_region 1 with fail
    rw [← hw1]
    clear hw1
    go_wp2_with fail
    refine HC.out.mono ?_
    rintro e w2 ⟨rfl, hb⟩
    have hb3 := hb.alloc hb.size (.cells #[.int .i64 0, .int .i64 0, .int .i64 0] 37)
    have Y := HY.out.below hb3 HY.out.lt
    have HB2 := Lib.hid (HB1.out.trans (hb3.mono HB1.out.size))
    go_upto_region 4 with fail
    obtain ⟨w3, hw3⟩ : ∃ w3, w3 = w2.alloc (.cells #[.int .i64 0, .int .i64 0, .int .i64 0] 37) := ⟨_, rfl⟩
    obtain ⟨z0, z1, z2⟩ := (Whole.fresh w2 37 #[.int .i64 0, .int .i64 0, .int .i64 0]).cells3
    rw [← hw3] at Y HB2 z0 z1 z2 ⊢
    obtain ⟨y0, y1, y2⟩ := Y.cells3
    have f0 := Y.free 0
    have f1 := Y.free 1
    have f2 := Y.free 2
    clear hb hb3 Y hw3
    go_wp2_with fail
    refine bodyPost_ret (v := .tuple #[.agg #[.int .i64 0, .int .i64 0, .int .i64 0], .int .i64 er]) (by simp [results, Tryz.results46, go_sem, y0, y1, y2]) rfl ⟨rfl, ?_⟩
    exact ((HB2.out.setCell (p := ⟨w.heap.size, 0, none⟩) (Nat.le_refl _) _).setCell (p := ⟨w.heap.size, 1, none⟩) (Nat.le_refl _) _).setCell (p := ⟨w.heap.size, 2, none⟩) (Nat.le_refl _) _
set_option maxHeartbeats 1000000 in
theorem ifollow_any (h : ImAt w I q wd) (a p : Int) :
    Calls Tryz.prog 16 #[.pointer (some ⟨I.p, 0, none⟩), .int .i64 a, .int .i64 p] w (FolIs q wd a p w) := by
  obtain ⟨w1, hw1⟩ : ∃ w1, w1 = w.alloc (.cells #[.int .i64 0, .int .i64 0, .int .i64 0] 37) := ⟨_, rfl⟩
  have hb1 : Below w.heap.size w w1 := by rw [hw1]; exact (Below.refl _ _).alloc (Nat.le_refl _) _
  have Y1 : Whole w1 w.heap.size 37 #[.int .i64 0, .int .i64 0, .int .i64 0] := by rw [hw1]; exact Whole.fresh _ _ _
  have CR := readAtL_any (h.below hb1) a p
  unfold FolIs at *
  generalize IM.flK q wd a p = k1 at *
  generalize IM.flI q wd a p = k2 at *
  generalize IM.flG q wd a p = k3 at *
  generalize IM.flE q wd a p = er at *
  have HR := Lib.hid CR
  have HB1 := Lib.hid hb1
  have HY := Lib.hid Y1
  clear CR h hb1 Y1
  go_enter Tryz.func16, Tryz.ntmps16
  go_upto_region 1 with fail
  rw [← hw1]
  clear hw1
  go_wp2_with fail
  refine HR.out.mono ?_
  rintro e w3 ⟨rfl, hb3⟩
  have Y := HY.out.below hb3 HY.out.lt
  obtain ⟨y0, y1, y2⟩ := Y.cells3
  have f0 := Y.free 0
  have f1 := Y.free 1
  have f2 := Y.free 2
  have HB2 := Lib.hid (HB1.out.trans (hb3.mono HB1.out.size))
  clear hb3 Y
  go_wp2_with fail
  refine bodyPost_ret (v := .tuple #[.agg #[.int .i64 k1, .int .i64 k2, .int .i64 k3], .int .i64 er]) (by simp [results, Tryz.results16, go_sem, y0, y1, y2]) rfl ⟨rfl, ?_⟩
  exact ((HB2.out.setCell (p := ⟨w.heap.size, 0, none⟩) (Nat.le_refl _) _).setCell (p := ⟨w.heap.size, 1, none⟩) (Nat.le_refl _) _).setCell (p := ⟨w.heap.size, 2, none⟩) (Nat.le_refl _) _
end
end Go.Proofs.YteneadimchhhhaaGreatDoor
/- Contracts of Save, Tie, Move of images. -/
namespace Go.Proofs.YteneadimchhhhaaGreatDoor
open Go.RowKit

theorem Aft.of_only {S : List Nat} {w w' : World} (h : OnlyIn S w w') : Aft S w w' := ⟨h.os, h.tape, h.output, by rw [h.size]; exact Nat.le_refl _, fun k _ hk => h.block k hk⟩
/-- The blocks that images write. -/
def IB.wr (I : IB) : List Nat := [I.B.o, I.B.c, I.B.v]
/-- What a writing call leaves. -/
def IwPost (v : Value) (I : IB) (q : Cf) (wd' : Nat → Nat) (w : World) (e : Ending) (w' : World) : Prop := e = .returned v ∧ ImAt w' I q wd' ∧ Aft I.wr w w'
section
variable {w w' w2 : World} {I : IB} {q : Cf} {wd wd' : Nat → Nat}
theorem ImAt.wrote (h : ImAt w I q wd) (hb : Below w.heap.size w w2) {v : Value} {e : Ending} (hp : StPost v I.B q.C q.K q.own wd' w2 e w') : IwPost v I q wd' w e w' := by
  obtain ⟨he, ho, hs⟩ := hp
  exact ⟨he, (h.below hb).only ho hs, (Aft.of_below hb).trans (Aft.of_only ho)⟩
theorem ImAt.wrlt (h : ImAt w I q wd) {g : Nat} (hg : g ∈ I.wr) : g < I.lo := by
  obtain ⟨⟨a1, a2⟩, ⟨b1, b2⟩, ⟨c1, c2⟩, ⟨d1, d2⟩, e1, e2⟩ := h.low
  simp [IB.wr] at hg
  omega
set_option maxHeartbeats 1000000 in
theorem writeAtU_any (h : ImAt w I q wd) (a p : Int) (x : Nat) (hx : x < 18446744073709551616) :
    Calls Tryz.prog 60 #[.pointer (some ⟨I.p, 0, none⟩), .int .i64 a, .int .i64 p, .bool false, .func (.func 36) #[.pointer (some ⟨I.B.s, 0, none⟩)] #[], .int .u64 x] w (IwPost (.int .i64 (IM.ldE q wd a p)) I q (IM.svW q wd a p x) w) := by
  have CA := addressOf_any h a p false
  have HA : ∀ w', Below w.heap.size w w' → Calls Tryz.prog 36 #[.pointer (some ⟨I.B.s, 0, none⟩), .int .i64 (a + 1 + p), .int .u64 x] w' (IwPost (.int .i64 (addrE q.own q.C q.K (a + 1 + p))) I q (wrWd q.own wd q.C q.K (a + 1 + p) x) w) := fun w' hb => (write_all (h.below hb).st (a + 1 + p) x hx).mono fun _ _ hp => h.wrote hb hp
  by_cases hz : IM.plE q wd a p false = 0
  · have hE : IM.ldE q wd a p = IM.adE q (a + 1 + p) := by unfold IM.ldE; rw [if_pos hz]
    have hV : IM.svW q wd a p x = wrWd q.own wd q.C q.K (a + 1 + p) x := by unfold IM.svW wrWd; rw [hE]; rfl
    have hP : IM.plA q wd a p false = a + 1 + p := by unfold IM.plA; rw [if_pos hz]
    rw [hE, hV]
    unfold IM.adE
    rw [hP, hz] at CA
    clear hE hV hP hz h
    generalize a + 1 + p = i at *
    generalize wrWd q.own wd q.C q.K i x = wd2 at *
    generalize addrE q.own q.C q.K i = er at *
    have HC := Lib.hid CA
    have HR := Lib.hid HA
    clear CA HA
    go_enter Tryz.func60, Tryz.ntmps60
    go_wp2_with fail
    refine HC.out.mono ?_
    rintro e w2 ⟨rfl, hb⟩
    have HR2 := Lib.hid (HR.out _ hb)
    clear HR HC
    go_wp2_with fail
    refine HR2.out.mono ?_
    rintro e w3 ⟨rfl, hi, ha⟩
    go_wp2_with fail
    go_ret
    exact ⟨rfl, hi, ha⟩
  · have hE : IM.ldE q wd a p = IM.plE q wd a p false := by unfold IM.ldE; rw [if_neg hz]
    have hV : IM.svW q wd a p x = wd := by unfold IM.svW; rw [hE, if_neg hz]
    rw [hE, hV]
    generalize IM.plA q wd a p false = i at *
    generalize IM.plE q wd a p false = er at *
    have hd : (er != 0) = true := by simpa using hz
    have HC := Lib.hid CA
    have HH := Lib.hid h
    clear CA HA hz hE hV h
    go_enter Tryz.func60, Tryz.ntmps60
    go_wp2_with fail
    refine HC.out.mono ?_
    rintro e w2 ⟨rfl, hb⟩
    go_wp2_with fail
    go_ret
    exact ⟨rfl, HH.out.below hb, Aft.of_below hb⟩
set_option maxHeartbeats 1000000 in
theorem isave_any (h : ImAt w I q wd) (a p : Int) (x : Nat) (hx : x < 18446744073709551616) :
    Calls Tryz.prog 29 #[.pointer (some ⟨I.p, 0, none⟩), .int .i64 a, .int .i64 p, .int .u64 x] w (IwPost (.int .i64 (IM.ldE q wd a p)) I q (IM.svW q wd a p x) w) := by
  have HC := Lib.hid (writeAtU_any h a p x hx)
  have p0 : w.cell? ⟨I.p, 0, none⟩ = some (.pointer (some ⟨I.B.s, 0, none⟩)) := h.box.cell 0
  generalize IM.svW q wd a p x = wd2 at *
  generalize IM.ldE q wd a p = er at *
  clear h
  go_enter Tryz.func29, Tryz.ntmps29
  go_wp2_with fail
  refine HC.out.mono ?_
  rintro e w2 ⟨rfl, hi, ha⟩
  go_wp2_with fail
  go_ret
  exact ⟨rfl, hi, ha⟩

def wlE (q : Cf) (i K J G : Int) : Int := if HM.wE K J G = 0 then IM.adE q i else 2
def wlW (q : Cf) (wd : Nat → Nat) (i K J G : Int) : Nat → Nat := if wlE q i K J G = 0 then IM.upd wd i.toNat (HM.wW K J G).toNat else wd
set_option maxHeartbeats 1000000 in
theorem writeLink_any (h : ImAt w I q wd) (i K J G : Int) :
    Calls Tryz.prog 62 #[.pointer (some ⟨I.p, 0, none⟩), .int .i64 i, .agg #[.int .i64 K, .int .i64 J, .int .i64 G]] w (IwPost (.int .i64 (wlE q i K J G)) I q (wlW q wd i K J G) w) := by
  obtain ⟨w1, hw1⟩ : ∃ w1, w1 = w.alloc (.cells #[.int .i64 K, .int .i64 J, .int .i64 G] 37) := ⟨_, rfl⟩
  have hb1 : Below w.heap.size w w1 := by rw [hw1]; exact (Below.refl _ _).alloc (Nat.le_refl _) _
  have CW := hword_any K J G w1
  obtain ⟨x, hx⟩ := Int.eq_ofNat_of_zero_le (HM.wW_word K J G).1
  have hx2 : x < 18446744073709551616 := by have := (HM.wW_word K J G).2; omega
  rw [hx] at CW
  have CR : ∀ w', Below w1.heap.size w1 w' → Calls Tryz.prog 36 #[.pointer (some ⟨I.B.s, 0, none⟩), .int .i64 i, .int .u64 x] w' (IwPost (.int .i64 (addrE q.own q.C q.K i)) I q (wrWd q.own wd q.C q.K i x) w) := fun w' hb => by
    have hb2 := hb1.trans (hb.mono hb1.size)
    exact (write_all (h.below hb2).st i x hx2).mono fun _ _ hp => h.wrote hb2 hp
  have CP : ∀ w', Below w1.heap.size w1 w' → w'.cell? ⟨I.p, 0, none⟩ = some (.pointer (some ⟨I.B.s, 0, none⟩)) := fun w' hb => ((h.below hb1).below hb).box.cell 0
  by_cases hz : HM.wE K J G = 0
  · have hE : wlE q i K J G = addrE q.own q.C q.K i := by unfold wlE; rw [if_pos hz]; rfl
    have hV : wlW q wd i K J G = wrWd q.own wd q.C q.K i x := by unfold wlW wrWd; rw [hE, hx]; rfl
    rw [hE, hV]
    rw [hz] at CW
    generalize wrWd q.own wd q.C q.K i x = wd2 at *
    generalize addrE q.own q.C q.K i = er at *
    have HW := Lib.hid CW
    have HR := Lib.hid CR
    have HP := Lib.hid CP
    clear CW CR CP hE hV hz hx hx2 h
    go_enter Tryz.func62, Tryz.ntmps62
    go_upto_region 1 with fail
    obtain ⟨c0, c1, c2⟩ := (Whole.fresh w 37 #[.int .i64 K, .int .i64 J, .int .i64 G]).cells3
    rw [← hw1] at c0 c1 c2 ⊢
    clear hw1
    go_wp2_with fail
    refine HW.out.mono ?_
    rintro e w2 ⟨rfl, hb⟩
    have HR2 := Lib.hid (HR.out _ hb)
    have p0 := HP.out _ hb
    clear HR HW
    go_wp2_with fail
    refine HR2.out.mono ?_
    rintro e w3 ⟨rfl, hi, ha⟩
    go_wp2_with fail
    go_ret
    exact ⟨rfl, hi, ha⟩
  · have hE : wlE q i K J G = 2 := by unfold wlE; rw [if_neg hz]
    have hV : wlW q wd i K J G = wd := by unfold wlW; rw [hE]; rfl
    rw [hE, hV]
    generalize HM.wE K J G = er at *
    have hd : (er != 0) = true := by simpa using hz
    have HW := Lib.hid CW
    have HH := Lib.hid h
    clear CW CR CP hE hV hz hx hx2 h
    go_enter Tryz.func62, Tryz.ntmps62
    go_upto_region 1 with fail
    obtain ⟨c0, c1, c2⟩ := (Whole.fresh w 37 #[.int .i64 K, .int .i64 J, .int .i64 G]).cells3
    rw [← hw1] at c0 c1 c2 ⊢
    clear hw1
    go_wp2_with fail
    refine HW.out.mono ?_
    rintro e w2 ⟨rfl, hb⟩
    have hb3 := hb1.trans (hb.mono hb1.size)
    go_wp2_with fail
    go_ret
    exact ⟨rfl, HH.out.below hb3, Aft.of_below hb3⟩
set_option maxHeartbeats 1000000 in
theorem writeAtL_any (h : ImAt w I q wd) (a p K J G : Int) :
    Calls Tryz.prog 61 #[.pointer (some ⟨I.p, 0, none⟩), .int .i64 a, .int .i64 p, .bool true, .func (.func 62) #[.pointer (some ⟨I.p, 0, none⟩)] #[], .agg #[.int .i64 K, .int .i64 J, .int .i64 G]] w (IwPost (.int .i64 (IM.tiE q wd a p K J G)) I q (IM.tiW q wd a p K J G) w) := by
  obtain ⟨w1, hw1⟩ : ∃ w1, w1 = w.alloc (.cells #[.int .i64 K, .int .i64 J, .int .i64 G] 37) := ⟨_, rfl⟩
  have hb1 : Below w.heap.size w w1 := by rw [hw1]; exact (Below.refl _ _).alloc (Nat.le_refl _) _
  have Y1 : Whole w1 w.heap.size 37 #[.int .i64 K, .int .i64 J, .int .i64 G] := by rw [hw1]; exact Whole.fresh _ _ _
  have CA := addressOf_any (h.below hb1) a p true
  have HA : ∀ w', Below w1.heap.size w1 w' → Calls Tryz.prog 62 #[.pointer (some ⟨I.p, 0, none⟩), .int .i64 (a + 1 + p), .agg #[.int .i64 K, .int .i64 J, .int .i64 G]] w' (IwPost (.int .i64 (wlE q (a + 1 + p) K J G)) I q (wlW q wd (a + 1 + p) K J G) w) := fun w' hb => by
    have hb2 := hb1.trans (hb.mono hb1.size)
    exact (writeLink_any (h.below hb2) (a + 1 + p) K J G).mono fun _ _ ⟨h1, h2, h3⟩ => ⟨h1, h2, (Aft.of_below hb2).trans h3⟩
  by_cases hz : IM.plE q wd a p true = 0
  · have hE : IM.tiE q wd a p K J G = wlE q (a + 1 + p) K J G := by unfold IM.tiE; rw [if_pos hz]; rfl
    have hV : IM.tiW q wd a p K J G = wlW q wd (a + 1 + p) K J G := by unfold IM.tiW wlW; rw [hE]
    have hP : IM.plA q wd a p true = a + 1 + p := by unfold IM.plA; rw [if_pos hz]
    rw [hE, hV]
    rw [hP, hz] at CA
    clear hE hV hP hz h
    generalize a + 1 + p = i at *
    generalize wlW q wd i K J G = wd2 at *
    generalize wlE q i K J G = er at *
    have HC := Lib.hid CA
    have HR := Lib.hid HA
    have HY := Lib.hid Y1
    clear CA HA Y1
    go_enter Tryz.func61, Tryz.ntmps61
    go_upto_region 1 with fail
    rw [← hw1]
    clear hw1
    go_wp2_with fail
    refine HC.out.mono ?_
    rintro e w2 ⟨rfl, hb⟩
    have HR2 := Lib.hid (HR.out _ hb)
    obtain ⟨c0, c1, c2⟩ := (HY.out.below hb HY.out.lt).cells3
    clear HR HC
    go_wp2_with fail
    refine HR2.out.mono ?_
    rintro e w3 ⟨rfl, hi, ha⟩
    go_wp2_with fail
    go_ret
    exact ⟨rfl, hi, ha⟩
  · have hE : IM.tiE q wd a p K J G = IM.plE q wd a p true := by unfold IM.tiE; rw [if_neg hz]
    have hV : IM.tiW q wd a p K J G = wd := by unfold IM.tiW; rw [hE, if_neg hz]
    rw [hE, hV]
    generalize IM.plA q wd a p true = i at *
    generalize IM.plE q wd a p true = er at *
    have hd : (er != 0) = true := by simpa using hz
    have HC := Lib.hid CA
    have HH := Lib.hid h
    clear CA HA hz hE hV h Y1
    go_enter Tryz.func61, Tryz.ntmps61
    go_upto_region 1 with fail
    rw [← hw1]
    clear hw1
    go_wp2_with fail
    refine HC.out.mono ?_
    rintro e w2 ⟨rfl, hb⟩
    have hb3 := hb1.trans (hb.mono hb1.size)
    go_wp2_with fail
    go_ret
    exact ⟨rfl, HH.out.below hb3, Aft.of_below hb3⟩
set_option maxHeartbeats 1000000 in
theorem itie_any (h : ImAt w I q wd) (a p K J G : Int) :
    Calls Tryz.prog 31 #[.pointer (some ⟨I.p, 0, none⟩), .int .i64 a, .int .i64 p, .agg #[.int .i64 K, .int .i64 J, .int .i64 G]] w (IwPost (.int .i64 (IM.tiE q wd a p K J G)) I q (IM.tiW q wd a p K J G) w) := by
  obtain ⟨w1, hw1⟩ : ∃ w1, w1 = w.alloc (.cells #[.int .i64 K, .int .i64 J, .int .i64 G] 37) := ⟨_, rfl⟩
  have hb1 : Below w.heap.size w w1 := by rw [hw1]; exact (Below.refl _ _).alloc (Nat.le_refl _) _
  have C := (writeAtL_any (h.below hb1) a p K J G).mono (fun _ _ ⟨h1, h2, h3⟩ => (show IwPost (.int .i64 (IM.tiE q wd a p K J G)) I q (IM.tiW q wd a p K J G) w _ _ from ⟨h1, h2, (Aft.of_below hb1).trans h3⟩))
  generalize IM.tiW q wd a p K J G = wd2 at *
  generalize IM.tiE q wd a p K J G = er at *
  have HC := Lib.hid C
  clear h C
  go_enter Tryz.func31, Tryz.ntmps31
  go_upto_region 1 with fail
  obtain ⟨c0, c1, c2⟩ := (Whole.fresh w 37 #[.int .i64 K, .int .i64 J, .int .i64 G]).cells3
  rw [← hw1] at c0 c1 c2 ⊢
  clear hw1
  go_wp2_with fail
  refine HC.out.mono ?_
  rintro e w2 ⟨rfl, hi, ha⟩
  go_wp2_with fail
  go_ret
  exact ⟨rfl, hi, ha⟩

set_option maxHeartbeats 1000000 in
theorem imove_any (h : ImAt w I q wd) (t f : Int) :
    Calls Tryz.prog 33 #[.pointer (some ⟨I.p, 0, none⟩), .int .i64 t, .int .i64 f] w (IwPost (.tuple #[.int .i64 (IM.mvN q wd t f), .int .i64 (IM.mvE q wd t f)]) I q (IM.mvW q wd t f) w) := by
  have CO := objectAt_any h f
  have CR : ∀ w', Below w.heap.size w w' → Calls Tryz.prog 51 #[.pointer (some ⟨I.B.s, 0, none⟩), .int .i64 t, .int .i64 f, .int .i64 (IM.atN q wd f)] w' (fun e w'' => e = .returned (.int .i64 (copyE q.own q.C q.K t f (IM.atN q wd f))) ∧ ImAt w'' I q (cpWdA q.own wd q.C q.K t f (IM.atN q wd f)) ∧ Aft I.wr w w'' ∧ OnlyIn I.wr w' w'') := fun w' hb =>
    (copy_all (h.below hb).st t f (IM.atN q wd f)).mono fun _ _ hp => by
      obtain ⟨h1, h2, h3⟩ := h.wrote hb hp
      exact ⟨h1, h2, h3, hp.2.1⟩
  have CP : ∀ w', Below w.heap.size w w' → w'.cell? ⟨I.p, 0, none⟩ = some (.pointer (some ⟨I.B.s, 0, none⟩)) := fun w' hb => (h.below hb).box.cell 0
  by_cases hz : IM.atE q wd f = 0
  · have hE : IM.mvE q wd t f = copyE q.own q.C q.K t f (IM.atN q wd f) := by unfold IM.mvE; rw [if_pos hz]
    have hN : IM.mvN q wd t f = zE (copyE q.own q.C q.K t f (IM.atN q wd f)) (IM.atN q wd f) := by unfold IM.mvN zE; rw [hE]
    have hV : IM.mvW q wd t f = cpWdA q.own wd q.C q.K t f (IM.atN q wd f) := by unfold IM.mvW cpWdA; rw [hE]
    rw [hE, hN, hV]
    rw [hz] at CO
    have wlo : ∀ g ∈ I.wr, g < w.heap.size := fun g hg => Nat.lt_trans (h.wrlt hg) h.lolt
    have plo : I.p ∉ I.wr := fun hg => by have := h.wrlt hg; have := h.plo; omega
    have plt := h.box.lt
    have HH := Lib.hid h
    generalize IM.atL q wd f = l1 at *
    generalize IM.atC q wd f = l2 at *
    generalize IM.atS q wd f = l3 at *
    generalize IM.atN q wd f = n at *
    generalize cpWdA q.own wd q.C q.K t f n = wd2 at *
    generalize copyE q.own q.C q.K t f n = er at *
    have HO := Lib.hid CO
    have HR := Lib.hid CR
    have HP := Lib.hid CP
    have HL := Lib.hid wlo
    have HPL := Lib.hid plo
    clear CO CR CP wlo plo hE hN hV hz h
    go_enter Tryz.func33, Tryz.ntmps33
    go_wp2_with fail
    refine HO.out.mono ?_
    rintro e w2 ⟨k, rfl, -, hb2⟩
    go_upto_region 4 with fail
    have O := Whole.fresh w2 96 #[.int .i64 l1, .int .i64 l2, .int .i64 l3, .int .i64 k.F, .slice k.A k.n k.c, .int .i64 k.R, .slice k.D k.m k.d, .int .i64 n]
    have hb3 := hb2.alloc hb2.size (.cells #[.int .i64 l1, .int .i64 l2, .int .i64 l3, .int .i64 k.F, .slice k.A k.n k.c, .int .i64 k.R, .slice k.D k.m k.d, .int .i64 n] 96)
    obtain ⟨w3, hw3⟩ : ∃ w3, w3 = w2.alloc (.cells #[.int .i64 l1, .int .i64 l2, .int .i64 l3, .int .i64 k.F, .slice k.A k.n k.c, .int .i64 k.R, .slice k.D k.m k.d, .int .i64 n] 96) := ⟨_, rfl⟩
    rw [← hw3] at O hb3 ⊢
    have o7 : w3.cell? ⟨w2.heap.size, 7, none⟩ = some (.int .i64 n) := O.cell 7
    have p0 := HP.out w3 hb3
    have ob : w2.heap.size ∉ I.wr := fun hg => by have := HL.out _ hg; have := hb2.size; omega
    have C := Lib.hid (HR.out w3.drew (hb3.drew))
    have OB := Lib.hid ob
    clear hw3 hb2 hb3 O HR HO ob
    go_region_held3 (fun w' => w'.cell? ⟨w2.heap.size, 7, none⟩ = some (.int .i64 n) ∧ w'.cell? ⟨I.p, 0, none⟩ = some (.pointer (some ⟨I.B.s, 0, none⟩))) (first | (with_reducible exact ⟨hx0, hx1⟩) | (with_reducible exact ⟨o7, p0⟩) | exact ⟨o7, p0⟩)
      (first
        | (go_at_call 51; (with_reducible refine C.out.mono ?_); rintro e w4 ⟨rfl, hi, ha, ho⟩; have hx0 := (ho.cell (p := ⟨w2.heap.size, 7, none⟩) OB.out).trans o7; have hx1 := (ho.cell (p := ⟨I.p, 0, none⟩) HPL.out).trans p0; have HI := Lib.hid hi; have HA := Lib.hid ha; clear hi ha ho))
    by_cases he : er = 0
    · subst he
      go_wp2_with fail
      go_ret2
      exact ⟨rfl, HI.out, HA.out⟩
    · have hd : (er != 0) = true := by simpa using he
      have HZ := Lib.hid (show zE er n = 0 from if_neg he)
      clear he
      go_wp2_with fail
      go_ret2
      exact ⟨by rw [HZ.out]; rfl, HI.out, HA.out⟩
  · have hE : IM.mvE q wd t f = IM.atE q wd f := by unfold IM.mvE; rw [if_neg hz]
    have hN : IM.mvN q wd t f = 0 := by unfold IM.mvN; rw [hE, if_neg hz]
    have hV : IM.mvW q wd t f = wd := by unfold IM.mvW; rw [hE, if_neg hz]
    rw [hE, hN, hV]
    generalize IM.atL q wd f = l1 at *
    generalize IM.atC q wd f = l2 at *
    generalize IM.atS q wd f = l3 at *
    generalize IM.atN q wd f = n at *
    generalize IM.atE q wd f = er at *
    have hd : (er != 0) = true := by simpa using hz
    have HO := Lib.hid CO
    have HH := Lib.hid h
    clear CO CR CP hE hN hV hz h
    go_enter Tryz.func33, Tryz.ntmps33
    go_wp2_with fail
    refine HO.out.mono ?_
    rintro e w2 ⟨k, rfl, -, hb2⟩
    have hb3 := hb2.alloc hb2.size (.cells #[.int .i64 l1, .int .i64 l2, .int .i64 l3, .int .i64 k.F, .slice k.A k.n k.c, .int .i64 k.R, .slice k.D k.m k.d, .int .i64 n] 96)
    go_wp2_with fail
    go_ret2
    exact ⟨rfl, HH.out.below hb3, Aft.of_below hb3⟩
end
end Go.Proofs.YteneadimchhhhaaGreatDoor
/- The contract of Make of images. -/
namespace Go.Proofs.YteneadimchhhhaaGreatDoor
open Go.RowKit

theorem cp_self {q : Cf} {wd : Nat → Nat} {a n : Int} : cpWdA q.own wd q.C q.K a a n = wd := by
  unfold cpWdA
  split
  · funext k
    unfold cpWd
    split
    · rw [show a.toNat + (k - a.toNat) = k by omega]
    · rfl
  · rfl
theorem laid_one (wd : Nat → Nat) (i x : Nat) : IM.laid wd i 1 x = IM.upd wd i x := by
  funext k
  unfold IM.laid IM.upd
  split
  · rfl
  · rw [if_neg (by omega)]
theorem laid_next (wd : Nat → Nat) (i j x : Nat) (hj : 1 ≤ j) : IM.upd (IM.laid wd i j x) (i + j) 0 = IM.laid wd i (j + 1) x := by
  funext k
  unfold IM.laid IM.upd
  dsimp only
  by_cases h : k = i + j
  · rw [if_pos h, if_neg (by omega), if_pos (by omega)]
  · rw [if_neg h]
    by_cases h2 : k = i
    · rw [if_pos h2, if_pos h2]
    · rw [if_neg h2, if_neg h2]
      by_cases h3 : i < k ∧ k < i + j
      · rw [if_pos h3, if_pos (by omega)]
      · rw [if_neg h3, if_neg (by omega)]
theorem ad_of_any {own : Nat → Nat} {C K a n i : Nat} (h : anyFree own K a n = false) (hi : i < n) (hn : a + n ≤ C * K) : addrE own C K ((a + i : Nat) : Int) = 0 := by
  rw [addrE_in (by omega), if_neg ((anyFree_not own K a n).1 h i hi)]

section
variable {w w' w2 : World} {I : IB} {q : Cf} {wd wd' : Nat → Nat}
/-- How far the loop is. -/
def MkAt (wc : World) (I : IB) (q : Cf) (wd : Nat → Nat) (a n x : Nat) (v : Value) (wr : World) : Prop :=
  ∃ j : Nat, 1 ≤ j ∧ j ≤ n ∧ v = .int .i64 ((a : Int) + (j : Int)) ∧ ImAt wr I q (IM.laid wd a j x) ∧ Aft I.wr wc wr
set_option maxHeartbeats 2000000 in
theorem imake_any (h : ImAt w I q wd) (a L C S : Int) (hC : I64 C) :
    Calls Tryz.prog 18 #[.pointer (some ⟨I.p, 0, none⟩), .int .i64 a, .agg #[.int .i64 L, .int .i64 C, .int .i64 S]] w (IwPost (.tuple #[.int .i64 (IM.mkN q a L C S), .int .i64 (IM.mkE q a L C S)]) I q (IM.mkW q wd a L C S) w) := by
  obtain ⟨w1, hw1⟩ : ∃ w1, w1 = w.alloc (.cells #[.int .i64 L, .int .i64 C, .int .i64 S] 32) := ⟨_, rfl⟩
  have hb1 : Below w.heap.size w w1 := by rw [hw1]; exact (Below.refl _ _).alloc (Nat.le_refl _) _
  have Y1 : Whole w1 w.heap.size 32 #[.int .i64 L, .int .i64 C, .int .i64 S] := by rw [hw1]; exact Whole.fresh _ _ _
  have H1 := h.below hb1
  have CE := hencode_any L C S w1
  have CO : ∀ w', Below w1.heap.size w1 w' → Calls Tryz.prog 50 #[.pointer (some ⟨I.p, 0, none⟩), .agg #[.int .i64 L, .int .i64 C, .int .i64 S]] w' (ObjIs q.D (zE (IM.szE q.D L C) L) (zE (IM.szE q.D L C) C) (zE (IM.szE q.D L C) S) (IM.szN q.D L C) (IM.szE q.D L C) w') := fun w' hb => objectOf_any (H1.below hb) L C S hC
  obtain ⟨c0, c1, c2⟩ := Y1.cells3
  obtain ⟨x, hx⟩ := Int.eq_ofNat_of_zero_le (HM.eW_word L C S).1
  have hx2 : x < 18446744073709551616 := by have := (HM.eW_word L C S).2; omega
  rw [hx] at CE
  by_cases he : HM.eE L C S = 0
  · rw [he] at CE
    by_cases hz : IM.szE q.D L C = 0
    · have hE : IM.mkE q a L C S = copyE q.own q.C q.K a a (IM.szN q.D L C) := by unfold IM.mkE; rw [if_pos he, if_pos hz]
      have hN : IM.mkN q a L C S = zE (copyE q.own q.C q.K a a (IM.szN q.D L C)) (IM.szN q.D L C) := by unfold IM.mkN zE; rw [hE]
      have hV : IM.mkW q wd a L C S = if copyE q.own q.C q.K a a (IM.szN q.D L C) = 0 then IM.laid wd a.toNat (IM.szN q.D L C).toNat x else wd := by unfold IM.mkW; rw [hE, hx]; rfl
      have hn1 : 1 ≤ IM.szN q.D L C := by
        unfold IM.szN
        rw [if_pos hz]
        unfold IM.szE at hz
        split at hz
        · omega
        · have := LM.size_bd (by assumption : LD).F (by assumption : LD).R (by assumption : LD).xs (by assumption : LD).ys C
          omega
      rw [hE, hN, hV]
      simp only [hz] at CO
      have CR : ∀ w', Below w.heap.size w w' → Calls Tryz.prog 51 #[.pointer (some ⟨I.B.s, 0, none⟩), .int .i64 a, .int .i64 a, .int .i64 (IM.szN q.D L C)] w' (fun e w'' => e = .returned (.int .i64 (copyE q.own q.C q.K a a (IM.szN q.D L C))) ∧ ImAt w'' I q wd ∧ Aft I.wr w w'' ∧ OnlyIn I.wr w' w'') := fun w' hb =>
        (copy_all (h.below hb).st a a (IM.szN q.D L C)).mono fun _ _ hp => by
          obtain ⟨h1, h2, h3⟩ := h.wrote hb hp
          rw [cp_self] at h2
          exact ⟨h1, h2, h3, hp.2.1⟩
      have wlo : ∀ g ∈ I.wr, g < w.heap.size := fun g hg => Nat.lt_trans (h.wrlt hg) h.lolt
      have plo : I.p ∉ I.wr := fun hg => by have := h.wrlt hg; have := h.plo; omega
      have plt := H1.box.lt
      have p0 := H1.box.cell 0
      have hM := h.st.all
      have hco := copyE_ok (own := q.own) (C := q.C) (K := q.K) (t := a) (f := a) (n := IM.szN q.D L C)
      have HH := Lib.hid h
      have HP := Lib.hid (fun w' (hb : Below w1.heap.size w1 w') => (H1.below hb).box.cell 0)
      clear hE hN hV hz he hx H1 h
      generalize IM.szN q.D L C = n at *
      generalize copyE q.own q.C q.K a a n = er at *
      obtain ⟨wd2, hwd2⟩ : ∃ f : Nat → Nat, f = (if er = 0 then IM.laid wd a.toNat n.toNat x else wd) := ⟨_, rfl⟩
      rw [← hwd2]
      have HWD := Lib.hid hwd2
      clear hwd2
      obtain ⟨nn, hnn⟩ : ∃ z : Int, z = zE er n := ⟨_, rfl⟩
      rw [← hnn]
      have HNN := Lib.hid hnn
      clear hnn
      generalize zE 0 L = l1 at *
      generalize zE 0 C = l2 at *
      generalize zE 0 S = l3 at *
      have HE := Lib.hid CE
      have HO := Lib.hid CO
      have HR := Lib.hid CR
      have HL := Lib.hid wlo
      have HPL := Lib.hid plo
      have HY := Lib.hid Y1
      have HB1 := Lib.hid hb1
      have HCO := Lib.hid hco
      have HM := Lib.hid hM
      clear CE CO CR wlo plo Y1 hb1 hco hM
      go_enter Tryz.func18, Tryz.ntmps18
      go_upto_region 3 with fail
      rw [← hw1]
      clear hw1
      go_wp2_with fail
      refine HE.out.mono ?_
      rintro e w2 ⟨rfl, hb2⟩
      obtain ⟨d0, d1, d2⟩ := (HY.out.below hb2 HY.out.lt).cells3
      have HO2 := Lib.hid (HO.out _ hb2)
      have HB2 := Lib.hid hb2
      clear c0 c1 c2 p0 hb2 HE HO
      go_wp2_with fail
      refine HO2.out.mono ?_
      rintro e w3 ⟨k, rfl, -, hb3⟩
      go_upto_region 9 with fail
      have O := Whole.fresh w3 96 #[.int .i64 l1, .int .i64 l2, .int .i64 l3, .int .i64 k.F, .slice k.A k.n k.c, .int .i64 k.R, .slice k.D k.m k.d, .int .i64 n]
      have hb4 := HB2.out.trans ((hb3.alloc hb3.size (.cells #[.int .i64 l1, .int .i64 l2, .int .i64 l3, .int .i64 k.F, .slice k.A k.n k.c, .int .i64 k.R, .slice k.D k.m k.d, .int .i64 n] 96)).mono HB2.out.size)
      obtain ⟨w4, hw4⟩ : ∃ w4, w4 = w3.alloc (.cells #[.int .i64 l1, .int .i64 l2, .int .i64 l3, .int .i64 k.F, .slice k.A k.n k.c, .int .i64 k.R, .slice k.D k.m k.d, .int .i64 n] 96) := ⟨_, rfl⟩
      rw [← hw4] at O hb4 ⊢
      have o7 : w4.cell? ⟨w3.heap.size, 7, none⟩ = some (.int .i64 n) := O.cell 7
      have p0 := HP.out w4 hb4
      have hs3 : w.heap.size ≤ w3.heap.size := by have := HB1.out.size; have := HB2.out.size; have := hb3.size; omega
      have ob : w3.heap.size ∉ I.wr := fun hg => by have := HL.out _ hg; omega
      have C2 := Lib.hid (HR.out w4.drew (HB1.out.trans (hb4.mono HB1.out.size)).drew)
      have OB := Lib.hid ob
      have HO4 := Lib.hid O
      clear hw4 hb3 hb4 O HR HO2 ob hs3
      change w4.cell? ⟨I.p, 0, none⟩ = some (.pointer (some ⟨I.B.s, 0, none⟩)) at p0
      go_region_held3 (fun w' => w'.cell? ⟨w3.heap.size, 7, none⟩ = some (.int .i64 n) ∧ w'.cell? ⟨I.p, 0, none⟩ = some (.pointer (some ⟨I.B.s, 0, none⟩))) (first | (with_reducible exact ⟨hx0, hx1⟩) | (with_reducible exact ⟨o7, p0⟩) | exact ⟨o7, p0⟩)
        (first
          | (go_at_call 51; (with_reducible refine C2.out.mono ?_); rintro e w5 ⟨rfl, hi, ha, ho⟩; have hx0 := (ho.cell (p := ⟨w3.heap.size, 7, none⟩) OB.out).trans o7; have hx1 := (ho.cell (p := ⟨I.p, 0, none⟩) HPL.out).trans p0; have HI := Lib.hid hi; have HA := Lib.hid ha; have HW5 := Lib.hid (ho.block _ OB.out); clear hi ha ho))
      by_cases hz : er = 0
      · subst hz
        obtain ⟨i, i', m, ha, hb, hn, g1, g2, g3, g4⟩ := HCO.out rfl
        obtain rfl : i = i' := by omega
        subst ha hn
        have HG3 := Lib.hid g3
        have HG1 := Lib.hid g1
        have hm : 1 ≤ m := by omega
        have hM := HM.out
        have hmb : m ≤ 1048576 := by omega
        have hib : i ≤ 1048576 := by omega
        have O5 := Lib.hid (HW5.out.trans HO4.out)
        have W1 := write_all HI.out.st (i : Int) x hx2
        have ad := fun j (hj : j < m) => ad_of_any g3 hj g1
        rw [show addrE q.own q.C q.K (i : Int) = 0 from by simpa using ad 0 (by omega)] at W1
        have HW1 := Lib.hid W1
        have AD := Lib.hid ad
        clear HCO g1 g2 g3 g4 hM W1 ad hb
        go_wp2_with fail
        refine HW1.out.mono ?_
        rintro e w6 ⟨rfl, ho6, hs6⟩
        have hi6 := HI.out.only ho6 hs6
        have ha6 := HA.out.trans (Aft.of_only ho6)
        have hwd : wrWd q.own wd q.C q.K (i : Int) x = IM.laid wd i 1 x := by
          rw [laid_one]
          unfold wrWd
          rw [if_pos (by simpa using AD.out 0 (by omega))]
          rfl
        rw [hwd] at hi6
        have O6 := Lib.hid ((ho6.block _ OB.out).trans O5.out)
        have HI6 := Lib.hid hi6
        have HA6 := Lib.hid ha6
        clear hx0 hx1 HW1 ho6 hs6 hi6 ha6 hwd O5 HI HA
        go_wp2_with fail
        go_loopw [12] (MkAt w6 I q wd i m x) (fun v _ => (i + m - (intOf v).toNat))
        case atStart => exact ⟨1, Nat.le_refl _, hm, by go_num, HI6.out, Aft.refl _ _⟩
        case round =>
          obtain ⟨j, hj1, hj2, rfl, hi, ha⟩ := hrel
          have OW := ha.whole O6.out OB.out
          have o7 : wr.cell? ⟨w3.heap.size, 7, none⟩ = some (.int .i64 m) := OW.cell 7
          have p0 : wr.cell? ⟨I.p, 0, none⟩ = some (.pointer (some ⟨I.B.s, 0, none⟩)) := hi.box.cell 0
          by_cases hlt : j < m
          · have W2 := write_all hi.st ((i : Int) + (j : Int)) 0 (by omega)
            have hij : (i : Int) + (j : Int) = ((i + j : Nat) : Int) := by simp
            rw [hij, AD.out j hlt, ← hij] at W2
            have hwd : wrWd q.own (IM.laid wd i j x) q.C q.K ((i : Int) + (j : Int)) 0 = IM.laid wd i (j + 1) x := by
              rw [← laid_next wd i j x hj1]
              unfold wrWd
              rw [hij, if_pos (AD.out j hlt)]
              rfl
            rw [hwd] at W2
            have HW2 := Lib.hid W2
            have HI2 := Lib.hid hi
            have HA2 := Lib.hid ha
            clear W2 hwd hij hi ha OW
            go_wp2_with fail
            refine HW2.out.mono ?_
            rintro e w7 ⟨rfl, ho7, hs7⟩
            have HI7 := Lib.hid (HI2.out.only ho7 hs7)
            have HA7 := Lib.hid (HA2.out.trans (Aft.of_only ho7))
            clear ho7 hs7 o7 p0
            go_wp2_with fail
            go_roundw
            case rel => exact ⟨j + 1, by omega, by omega, by go_num, HI7.out, HA7.out⟩
            case measure => simp [intOf]; omega
          · obtain rfl : j = m := by omega
            have HI2 := Lib.hid hi
            have HA2 := Lib.hid (HA6.out.trans ha)
            clear hi ha OW
            go_wp2_with fail
            go_ret2
            exact ⟨by rw [HNN.out]; rfl, by rw [HWD.out]; simpa using HI2.out, HA2.out⟩
      · have hd : (er != 0) = true := by simpa using hz
        have HZ := Lib.hid (show nn = 0 from by rw [HNN.out]; exact if_neg hz)
        have HV := Lib.hid (show wd2 = wd from by rw [HWD.out]; exact if_neg hz)
        clear hz HCO
        go_wp2_with fail
        go_ret2
        exact ⟨by rw [HZ.out]; rfl, by rw [HV.out]; exact HI.out, HA.out⟩
    · have hE : IM.mkE q a L C S = IM.szE q.D L C := by unfold IM.mkE; rw [if_pos he, if_neg hz]
      have hN : IM.mkN q a L C S = 0 := by unfold IM.mkN; rw [hE, if_neg hz]
      have hV : IM.mkW q wd a L C S = wd := by unfold IM.mkW; rw [hE, if_neg hz]
      rw [hE, hN, hV]
      generalize IM.szE q.D L C = er at *
      generalize IM.szN q.D L C = n at *
      generalize zE er L = l1 at *
      generalize zE er C = l2 at *
      generalize zE er S = l3 at *
      have hd : (er != 0) = true := by simpa using hz
      have HE := Lib.hid CE
      have HO := Lib.hid CO
      have HY := Lib.hid Y1
      have HB1 := Lib.hid hb1
      have HH := Lib.hid h
      clear CE CO Y1 hb1 hE hN hV hz he hx H1 h
      go_enter Tryz.func18, Tryz.ntmps18
      go_upto_region 3 with fail
      rw [← hw1]
      clear hw1
      go_wp2_with fail
      refine HE.out.mono ?_
      rintro e w2 ⟨rfl, hb2⟩
      obtain ⟨d0, d1, d2⟩ := (HY.out.below hb2 HY.out.lt).cells3
      have HO2 := Lib.hid (HO.out _ hb2)
      have HB2 := Lib.hid hb2
      clear c0 c1 c2 hb2 HE HO
      go_wp2_with fail
      refine HO2.out.mono ?_
      rintro e w3 ⟨k, rfl, -, hb3⟩
      have hb4 := HB1.out.trans ((HB2.out.trans ((hb3.alloc hb3.size (.cells #[.int .i64 l1, .int .i64 l2, .int .i64 l3, .int .i64 k.F, .slice k.A k.n k.c, .int .i64 k.R, .slice k.D k.m k.d, .int .i64 n] 96)).mono HB2.out.size)).mono HB1.out.size)
      go_wp2_with fail
      go_ret2
      exact ⟨rfl, HH.out.below hb4, Aft.of_below hb4⟩
  · have hE : IM.mkE q a L C S = HM.eE L C S := by unfold IM.mkE; rw [if_neg he]
    have hN : IM.mkN q a L C S = 0 := by unfold IM.mkN; rw [hE, if_neg he]
    have hV : IM.mkW q wd a L C S = wd := by unfold IM.mkW; rw [hE, if_neg he]
    rw [hE, hN, hV]
    generalize HM.eE L C S = er at *
    have hd : (er != 0) = true := by simpa using he
    have HE := Lib.hid CE
    have HB1 := Lib.hid hb1
    have HH := Lib.hid h
    clear CE CO Y1 hb1 hE hN hV he hx H1 h
    go_enter Tryz.func18, Tryz.ntmps18
    go_upto_region 3 with fail
    rw [← hw1]
    clear hw1
    go_wp2_with fail
    refine HE.out.mono ?_
    rintro e w2 ⟨rfl, hb2⟩
    have hb4 := HB1.out.trans (hb2.mono HB1.out.size)
    go_wp2_with fail
    go_ret2
    exact ⟨rfl, HH.out.below hb4, Aft.of_below hb4⟩
end
end Go.Proofs.YteneadimchhhhaaGreatDoor
