/- The contract of Decode of the document's answers, for every words. -/
import Derived.Test.YtaffceodcfgeeaaDoorLyDec2
namespace Go.Proofs.YtaffceodcfgeeaaDoor
open Go.RowKit

/-- Where the document's Decode stands. -/
structure RDecAt (w : World) (bw off : Nat) (a b c : Nat) (W : World) : Prop where
  bel : Below w.heap.size w W
  box : Whole W w.heap.size 24 #[.int .i64 0, .slice none 0 0, .int .i64 0, .slice none 0 0]
  e0 : W.cell? ⟨bw, off, none⟩ = some (.int .u64 a)
  e1 : W.cell? ⟨bw, off + 1, none⟩ = some (.int .u64 b)
  e2 : W.cell? ⟨bw, off + 2, none⟩ = some (.int .u64 c)
  bwlt : bw < w.heap.size
theorem RDecAt.later {w W W' : World} {bw off a b c : Nat} (h : RDecAt w bw off a b c W) (hb : Below W.heap.size W W') : RDecAt w bw off a b c W' := by
  have hs := h.bel.size
  have h1 := h.bwlt
  exact ⟨h.bel.trans (hb.mono hs), h.box.below hb h.box.lt, (hb.cell (p := ⟨bw, _, none⟩) (by show bw < _; omega)).trans h.e0, (hb.cell (p := ⟨bw, _, none⟩) (by show bw < _; omega)).trans h.e1, (hb.cell (p := ⟨bw, _, none⟩) (by show bw < _; omega)).trans h.e2, h.bwlt⟩
theorem RDecAt.set {w W : World} {bw off a b c q i : Nat} {u : Value} (h : RDecAt w bw off a b c W) (h1 : w.heap.size < q) : RDecAt w bw off a b c (W.setCell ⟨q, i, none⟩ u) := by
  have k1 := h.bwlt
  have hc : ∀ p : Addr, p.block ≠ q → (W.setCell ⟨q, i, none⟩ u).cell? p = W.cell? p := fun p hp => World.cell?_of_block (Below.heap_setCell W ⟨q, i, none⟩ u p.block hp)
  exact ⟨h.bel.setCell (p := ⟨q, i, none⟩) (by show w.heap.size ≤ q; omega) u, h.box.far (p := ⟨q, i, none⟩) (by show w.heap.size ≠ q; omega) u, (hc _ (show bw ≠ q by omega)).trans h.e0, (hc _ (show bw ≠ q by omega)).trans h.e1, (hc _ (show bw ≠ q by omega)).trans h.e2, h.bwlt⟩
theorem RDecAt.bw' {w W : World} {bw off a b c : Nat} (h : RDecAt w bw off a b c W) : bw < W.heap.size := Nat.lt_of_lt_of_le h.bwlt h.bel.size
/-- Where it stands behind the literal: the layout is in its box. -/
def RDecBox (w : World) (bw off : Nat) (f0 f1 a b c : Nat) (s : Value) (W : World) : Prop :=
  ∃ q A5 c5 A6 c6, s = .pointer (some ⟨q, 0, none⟩) ∧ RDecAt w bw off a b c W ∧ w.heap.size < q ∧ Whole W q 24 #[.int .i64 f0, .slice A5 (LM.bl b).length c5, .int .i64 f1, .slice A6 (LM.bl c).length c6] ∧ Lists W (w.heap.size + 1) W.heap.size A5 (LM.bl b).length c5 (LM.bl b) A6 (LM.bl c).length c6 (LM.bl c)
theorem rdec_end_lit {w W : World} {bw off f0 f1 a b c lo5 hi5 lo6 hi6 c5 c6 : Nat} {A5 A6 : Option Addr} (h : RDecAt w bw off a b c W) (hl : w.heap.size + 1 ≤ lo5 ∧ w.heap.size + 1 ≤ lo6 ∧ hi5 ≤ W.heap.size ∧ hi6 ≤ W.heap.size) (h5 : NI W lo5 hi5 A5 (LM.bl b).length c5 (LM.bl b)) (h6 : NI W lo6 hi6 A6 (LM.bl c).length c6 (LM.bl c)) :
    RDecBox w bw off f0 f1 a b c (.pointer (some ⟨W.heap.size, 0, none⟩)) (W.alloc (.cells #[.int .i64 f0, .slice A5 (LM.bl b).length c5, .int .i64 f1, .slice A6 (LM.bl c).length c6] 24)) := by
  obtain ⟨a1, a2, a3, a4⟩ := hl
  have hs := h.box.lt
  have hb := (Below.refl W.heap.size W).alloc (Nat.le_refl _) (.cells #[.int .i64 f0, .slice A5 (LM.bl b).length c5, .int .i64 f1, .slice A6 (LM.bl c).length c6] 24)
  exact ⟨_, A5, c5, A6, c6, rfl, h.later hb, hs, Whole.fresh _ _ _, (h5.kept (Kept.of_below hb a3)).mono a1 (by simp; omega), (h6.kept (Kept.of_below hb a4)).mono a2 (by simp; omega)⟩
theorem rdec_end_set {w W : World} {bw off f0 f1 a b c q lo5 hi5 lo6 hi6 c5 c6 : Nat} {A5 A6 : Option Addr} (h : RDecAt w bw off a b c W) (hx : Whole W q 24 #[.int .i64 0, .slice none 0 0, .int .i64 0, .slice none 0 0]) (hq : w.heap.size < q) (hl : w.heap.size + 1 ≤ lo5 ∧ w.heap.size + 1 ≤ lo6 ∧ hi5 ≤ W.heap.size ∧ hi6 ≤ W.heap.size) (h5 : NI W lo5 hi5 A5 (LM.bl b).length c5 (LM.bl b)) (h6 : NI W lo6 hi6 A6 (LM.bl c).length c6 (LM.bl c)) (ho : (q < lo5 ∨ hi5 ≤ q) ∧ (q < lo6 ∨ hi6 ≤ q)) :
    RDecBox w bw off f0 f1 a b c (.pointer (some ⟨q, 0, none⟩)) ((((W.setCell ⟨q, 0, none⟩ (.int .i64 f0)).setCell ⟨q, 1, none⟩ (.slice A5 (LM.bl b).length c5)).setCell ⟨q, 2, none⟩ (.int .i64 f1)).setCell ⟨q, 3, none⟩ (.slice A6 (LM.bl c).length c6)) := by
  obtain ⟨a1, a2, a3, a4⟩ := hl
  refine ⟨q, A5, c5, A6, c6, rfl, (((h.set hq).set hq).set hq).set hq, hq, ?_, ?_, ?_⟩
  · exact (((hx.set 0 _).set 1 _).set 2 _).set 3 _
  · exact (h5.kept (set4_kept (Kept.refl _ _ _) ho.1)).mono a1 (by simp; omega)
  · exact (h6.kept (set4_kept (Kept.refl _ _ _) ho.2)).mono a2 (by simp; omega)
/-- What the document's Decode leaves of the words of a right layout, of others, of three words; ok: they are a right layout's. -/
def RDecPost (F R b c : Nat) (w : World) (e : Ending) (w' : World) : Prop :=
  ∃ A n D m, e = .returned (.tuple #[.agg #[.int .i64 F, .slice A (LM.bl b).length n, .int .i64 R, .slice D (LM.bl c).length m], .bool true]) ∧ Lists w' w.heap.size w'.heap.size A (LM.bl b).length n (LM.bl b) D (LM.bl c).length m (LM.bl c) ∧ Below w.heap.size w w'
def RDecErr (w : World) (e : Ending) (w' : World) : Prop := e = .returned (.tuple #[.agg #[.int .i64 0, .slice none 0 0, .int .i64 0, .slice none 0 0], .bool false]) ∧ Below w.heap.size w w'
def RDecRes (ok : Bool) (F R b c : Nat) (w : World) (e : Ending) (w' : World) : Prop := (ok = true ∧ RDecPost F R b c w e w') ∨ (ok = false ∧ RDecErr w e w')

set_option maxHeartbeats 1000000 in
theorem rdecode_short (A : Option Addr) (n c : Nat) (w : World) (hn : n ≠ 3) :
    Calls Tryd.prog 12 #[.slice A n c] w (RDecErr w) := by
  have d0 : ((n : Int) != 3) = true := by simp; omega
  go_enter Tryd.func12, Tryd.ntmps12
  go_wp2
  exact bodyPost_ret (v := .tuple #[.agg #[.int .i64 0, .slice none 0 0, .int .i64 0, .slice none 0 0], .bool false]) (by simp [results, Tryd.results12, go_sem]) rfl ⟨rfl, (Below.refl _ _).alloc (Nat.le_refl _) _⟩

set_option maxRecDepth 100000 in
set_option maxHeartbeats 8000000 in
theorem rdecode_any (bw off cap : Nat) (a b c f0 f1 : Nat) (w : World) (ha : a < 18446744073709551616) (hb : b < 18446744073709551616) (hc : c < 18446744073709551616)
    (e0 : w.cell? ⟨bw, off, none⟩ = some (.int .u64 a)) (e1 : w.cell? ⟨bw, off + 1, none⟩ = some (.int .u64 b)) (e2 : w.cell? ⟨bw, off + 2, none⟩ = some (.int .u64 c)) (hlt : bw < w.heap.size) (q0 : f0 = a % 256) (q1 : f1 = a / 256) :
    Calls Tryd.prog 12 #[.slice (some ⟨bw, off, none⟩) 3 cap] w (RDecRes (decide (a < 65536) && LM.right f0 f1 (LM.bl b) (LM.bl c)) f0 f1 b c w) := by
  have hla := LM.bl_len b
  have hlc := LM.bl_len c
  obtain ⟨w1, hw1⟩ : ∃ w1, w1 = w.alloc (.cells #[.int .i64 0, .slice none 0 0, .int .i64 0, .slice none 0 0] 24) := ⟨_, rfl⟩
  have hb1 : Below w.heap.size w w1 := by rw [hw1]; exact (Below.refl _ _).alloc (Nat.le_refl _) _
  have x1 : Whole w1 w.heap.size 24 #[.int .i64 0, .slice none 0 0, .int .i64 0, .slice none 0 0] := by rw [hw1]; exact Whole.fresh _ _ _
  have HD : RDecAt w bw off a b c w1 := ⟨hb1, x1, (hb1.cell (p := ⟨bw, _, none⟩) hlt).trans e0, (hb1.cell (p := ⟨bw, _, none⟩) hlt).trans e1, (hb1.cell (p := ⟨bw, _, none⟩) hlt).trans e2, hlt⟩
  have d0 := HD.e0
  have d2 := HD.e1
  have d3 := HD.e2
  have szc := HD.box.lt
  have bwc := HD.bw'
  have HD := Lib.hid HD
  have HW := Lib.hid hw1
  clear e1 e2 hw1 hb1 x1
  by_cases h1 : 65536 ≤ a
  · have t0 : decide ((65536 : Int) ≤ (a : Int)) = true := by simp; omega
    have t1 : decide (a < 65536) = false := by simp; omega
    have T1 := Lib.hid t1
    clear t1 h1 q0 q1
    go_enter Tryd.func12, Tryd.ntmps12
    go_wp2
    exact bodyPost_ret (v := .tuple #[.agg #[.int .i64 0, .slice none 0 0, .int .i64 0, .slice none 0 0], .bool false]) (by simp [results, Tryd.results12, go_sem]) rfl (.inr ⟨by rw [T1.out]; rfl, rfl, (Below.refl _ _).alloc (Nat.le_refl _) _⟩)
  · have t0 : decide ((65536 : Int) ≤ (a : Int)) = false := by simp; omega
    have Q0 := Lib.hid q0
    have Q1 := Lib.hid q1
    have hf0 : f0 < 256 := by omega
    have hf1 : f1 < 256 := by omega
    have H1 := Lib.hid h1
    clear q0 q1 h1
    go_enter Tryd.func12, Tryd.ntmps12
    go_wp2_with fail
    rw [← HW.out]
    clear HW e0
    have r0 : (a : Int).tmod 256 = f0 := by rw [Q0.out]; exact (Int.tmod_eq_emod_of_nonneg (by omega)).trans (by omega)
    have r1 : (a : Int).tdiv 256 = f1 := by rw [Q1.out]; exact (Int.tdiv_eq_ediv_of_nonneg (by omega)).trans (by omega)
    have wr0 : IntKind.i64.wrap (f0 : Int) = (f0 : Int) := IntWalk.i64_in _ (by omega)
    have wr1 : IntKind.i64.wrap (f1 : Int) = (f1 : Int) := IntWalk.i64_in _ (by omega)
    have wu0 : IntKind.u64.wrap (f0 : Int) = (f0 : Int) := by rw [IntKind.wrap_u64]; omega
    have wu1 : IntKind.u64.wrap (f1 : Int) = (f1 : Int) := by rw [IntKind.wrap_u64]; omega
    go_upto_region 3 with (fail)
    go_cut [4] (fun s wc => RDecBox w bw off f0 f1 a b c s wc)
    case first =>
      have C1 := Lib.hid (places_pl b w1.drew hb)
      have C1z := Lib.hid (places_pl b (w1.alloc (.cells #[.int .i64 0, .slice none 0 0, .int .i64 0, .slice none 0 0] 24)).drew hb)
      go_region_held3 (fun w' => w'.cell? ⟨bw, off, none⟩ = some (.int .u64 a) ∧ w'.cell? ⟨bw, off + 1, none⟩ = some (.int .u64 b) ∧ w'.cell? ⟨bw, off + 2, none⟩ = some (.int .u64 c)) (first | exact ⟨l0, l2, l3⟩ | exact ⟨m0, m2, m3⟩ | exact ⟨d0, d2, d3⟩ | (simp [go_sem, World.cell?_alloc_lt, bw6, l0, l2, l3]; done) | (simp [go_sem, World.cell?_alloc_lt, bw5, m0, m2, m3]; done) | (simp [go_sem, World.cell?_alloc_lt, bwc, d0, d2, d3]; done) | (simp [go_sem, *]; done))
        (first
          | (go_at_call 25; (with_reducible refine C5b.out.mono ?_); rintro e w6 ⟨A6, c6, rfl, n6, hb6⟩; have k6 := D5.out.later hb6; have x6 := X5.out.below hb6 X5.out.lt; have z0 := x6.cell 0; have z1 := x6.cell 1; have z2 := x6.cell 2; have z3 := x6.cell 3; have y0 := x6.free 0; have y1 := x6.free 1; have y2 := x6.free 2; have y3 := x6.free 3; simp at z0 z1 z2 z3; have M5 := Lib.hid (N5.out.kept (Kept.of_below hb6 (Nat.le_refl _))); have l0 := k6.e0; have l2 := k6.e1; have l3 := k6.e2; have s6 : w5.heap.size ≤ w6.heap.size := hb6.size; have M6 := Lib.hid n6; have D6 := Lib.hid k6; have bw6 := k6.bw'; have sz6 := k6.box.lt; have X6 := Lib.hid x6; clear hb6 n6 k6 x6)
          | (go_at_call 25; (with_reducible refine C5a.out.mono ?_); rintro e w6 ⟨A6, c6, rfl, n6, hb6⟩; have k6 := D5.out.later hb6; have M5 := Lib.hid (N5.out.kept (Kept.of_below hb6 (Nat.le_refl _))); have l0 := k6.e0; have l2 := k6.e1; have l3 := k6.e2; have s6 : w5.heap.size ≤ w6.heap.size := hb6.size; have M6 := Lib.hid n6; have D6 := Lib.hid k6; have bw6 := k6.bw'; have sz6 := k6.box.lt; have nb6 : ¬ bw = w6.heap.size := (by omega); clear hb6 n6 k6)
          | (go_at_call 25; (with_reducible refine C5z.out.mono ?_); rintro e w6 ⟨A6, c6, rfl, n6, hb6⟩; have k6 := D5.out.later (below_alloc hb6); have x6 := (Whole.fresh w5 24 #[.int .i64 0, .slice none 0 0, .int .i64 0, .slice none 0 0]).below hb6 (by simp); have z0 := x6.cell 0; have z1 := x6.cell 1; have z2 := x6.cell 2; have z3 := x6.cell 3; have y0 := x6.free 0; have y1 := x6.free 1; have y2 := x6.free 2; have y3 := x6.free 3; simp at z0 z1 z2 z3; have M5 := Lib.hid (N5.out.kept (Kept.of_below (below_alloc hb6) (Nat.le_refl _))); have l0 := k6.e0; have l2 := k6.e1; have l3 := k6.e2; have s6 : w5.heap.size + 1 ≤ w6.heap.size := (by have := hb6.size; simpa using this); have M6 := Lib.hid (show NI w6 (w5.heap.size + 1) w6.heap.size A6 (LM.bl c).length c6 (LM.bl c) from n6.mono (by simp) (Nat.le_refl _)); have D6 := Lib.hid k6; have bw6 := k6.bw'; have sz6 := k6.box.lt; have X6 := Lib.hid x6; clear hb6 n6 k6 x6)
          | (go_at_call 25; (with_reducible refine C1.out.mono ?_); rintro e w5 ⟨A5, c5, rfl, n5, hb5⟩; have k5 : RDecAt w bw off a b c w5 := HD.out.later (below_of_drew' hb5); have m0 := k5.e0; have m2 := k5.e1; have m3 := k5.e2; have s5 : w1.heap.size ≤ w5.heap.size := hb5.size; have N5 := Lib.hid (show NI w5 w1.heap.size w5.heap.size A5 (LM.bl b).length c5 (LM.bl b) from n5); have D5 := Lib.hid k5; have bw5 := k5.bw'; have sz5 := k5.box.lt; have nb5 : ¬ bw = w5.heap.size := (by omega); have C5a := Lib.hid (places_pl c w5 hc); have C5z := Lib.hid (places_pl c (w5.alloc (.cells #[.int .i64 0, .slice none 0 0, .int .i64 0, .slice none 0 0] 24)) hc); clear hb5 n5 k5)
          | (go_at_call 25; (with_reducible refine C1z.out.mono ?_); rintro e w5 ⟨A5, c5, rfl, n5, hb5⟩; have k5 : RDecAt w bw off a b c w5 := HD.out.later (below_alloc_drew hb5); have x5 := ((Whole.fresh w1 24 #[.int .i64 0, .slice none 0 0, .int .i64 0, .slice none 0 0]).drew).below hb5 (by show w1.heap.size < (w1.alloc _).heap.size; simp); have z0 := x5.cell 0; have z1 := x5.cell 1; have z2 := x5.cell 2; have z3 := x5.cell 3; have y0 := x5.free 0; have y1 := x5.free 1; have y2 := x5.free 2; have y3 := x5.free 3; simp at z0 z1 z2 z3; have m0 := k5.e0; have m2 := k5.e1; have m3 := k5.e2; have s5 : w1.heap.size + 1 ≤ w5.heap.size := (by have := hb5.size; simpa using this); have N5 := Lib.hid (show NI w5 (w1.heap.size + 1) w5.heap.size A5 (LM.bl b).length c5 (LM.bl b) from n5.mono (by simp) (Nat.le_refl _)); have D5 := Lib.hid k5; have bw5 := k5.bw'; have sz5 := k5.box.lt; have nb5 : ¬ bw = w5.heap.size := (by omega); have C5b := Lib.hid (places_pl c w5 hc); have X5 := Lib.hid x5; clear hb5 n5 k5 x5))
      all_goals (go_wp2_with fail; go_meet; first | (refine rdec_end_lit D6.out ?_ M5.out M6.out; exact ⟨by omega, by omega, by omega, by omega⟩) | (refine rdec_end_set D6.out X6.out ?_ ?_ M5.out M6.out ?_; omega; exact ⟨by omega, by omega, by omega, by omega⟩; exact ⟨by omega, by omega⟩))
    case rest =>
      obtain ⟨q, A5, c5, A6, c6, rfl, hD, hq, hX, hL⟩ := hcut
      clear d0 d2 d3 szc bwc HD r0 r1 wr0 wr1 wu0 wu1
      have hbel := hD.bel
      have hs := hbel.size
      have hbox := hD.box
      have qlt := hX.lt
      have x0 : wc.cell? ⟨q, 0, none⟩ = some (.int .i64 f0) := hX.cell 0
      have x1 : wc.cell? ⟨q, 1, none⟩ = some (.slice A5 (LM.bl b).length c5) := hX.cell 1
      have x2 : wc.cell? ⟨q, 2, none⟩ = some (.int .i64 f1) := hX.cell 2
      have x3 : wc.cell? ⟨q, 3, none⟩ = some (.slice A6 (LM.bl c).length c6) := hX.cell 3
      have b0 : wc.cell? ⟨w.heap.size, 0, none⟩ = some (.int .i64 0) := hbox.cell 0
      have b1 : wc.cell? ⟨w.heap.size, 1, none⟩ = some (.slice none 0 0) := hbox.cell 1
      have b2 : wc.cell? ⟨w.heap.size, 2, none⟩ = some (.int .i64 0) := hbox.cell 2
      have b3 : wc.cell? ⟨w.heap.size, 3, none⟩ = some (.slice none 0 0) := hbox.cell 3
      have y0 := hbox.free 0
      have y1 := hbox.free 1
      have y2 := hbox.free 2
      have y3 := hbox.free 3
      have blt := hbox.lt
      have HB := Lib.hid hbel
      have CR := refRight_any f0 f1 A5 _ c5 (LM.bl b) A6 _ c6 (LM.bl c) wc.heap.size wc (Nat.le_refl _) (by omega) (by omega) ⟨by omega, by omega⟩ ⟨by omega, by omega⟩ hL.fst.ns hL.snd.ns
      have HL := Lib.hid hL
      have T1 : decide (a < 65536) = true := by have := H1.out; simp; omega
      have T1 := Lib.hid T1
      clear hD hbel hbox hX hL
      cases hr : LM.right f0 f1 (LM.bl b) (LM.bl c)
      · rw [hr] at CR
        have HR := Lib.hid hr
        have HC := Lib.hid CR
        clear CR hr
        go_wp2_with fail
        refine HC.out.mono ?_
        rintro e w' ⟨rfl, rfl⟩
        go_wp2
        refine bodyPost_ret (v := .tuple #[.agg #[.int .i64 0, .slice none 0 0, .int .i64 0, .slice none 0 0], .bool false]) (by simp [results, Tryd.results12, go_sem, World.cell?_alloc_lt, blt, b0, b1, b2, b3]) rfl (.inr ⟨by rw [HR.out, T1.out]; rfl, rfl, ?_⟩)
        exact (set4_below HB.out (Nat.le_refl _)).alloc (by simp; omega) _
      · rw [hr] at CR
        have HR := Lib.hid hr
        have HC := Lib.hid CR
        clear CR hr
        go_wp2_with fail
        refine HC.out.mono ?_
        rintro e w' ⟨rfl, rfl⟩
        go_wp2
        refine bodyPost_ret (v := .tuple #[.agg #[.int .i64 f0, .slice A5 (LM.bl b).length c5, .int .i64 f1, .slice A6 (LM.bl c).length c6], .bool true]) (by simp [results, Tryd.results12, go_sem, World.cell?_alloc_lt, blt, b0, b1, b2, b3]) rfl (.inl ⟨by rw [HR.out, T1.out]; rfl, A5, c5, A6, c6, rfl, ?_, ?_⟩)
        · exact ⟨(HL.out.fst.kept ((set4_kept (Kept.refl (w.heap.size + 1) wc.heap.size wc) (g := w.heap.size) (.inl (by omega))).alloc (by simp) _)).mono (by omega) (by simp), (HL.out.snd.kept ((set4_kept (Kept.refl (w.heap.size + 1) wc.heap.size wc) (g := w.heap.size) (.inl (by omega))).alloc (by simp) _)).mono (by omega) (by simp)⟩
        · exact (set4_below HB.out (Nat.le_refl _)).alloc (by simp; omega) _
end Go.Proofs.YtaffceodcfgeeaaDoor
