/- The law TableNews: how many slots there may be; of none nothing is told. -/
import Derived.Test.YtldlolgdglmocaaDoorTbIter0
namespace Go.Proofs.YtldlolgdglmocaaDoor
open Go.RowKit Go.Shelf
attribute [local go_sem] Oper.semAt_some

/-- What the walk carries behind the loop: the result's box, the block for deferred calls, the table of math/bits. -/
structure NewsAt (w W : World) (D : Nat) : Prop where
  box : Boxed W w.heap.size 4 (.bool false)
  bel : Below w.heap.size w W
  dd : W.heap[D]? = some (.deferred (some []))
  dlt : w.heap.size ≤ D
theorem NewsAt.later {w W W' : World} {D : Nat} (h : NewsAt w W D) (hb : Below W.heap.size W W') : NewsAt w W' D :=
  ⟨(hb.block _ h.box.lt).trans h.box, h.bel.trans (hb.mono h.bel.size), (hb.block D (Array.getElem?_eq_some_iff.1 h.dd).1).trans h.dd, h.dlt⟩
theorem NewsAt.tab {w W : World} {D : Nat} (h : NewsAt w W D) (hT : Tab w) : Tab W := hT.below h.bel hT.pos
theorem NewsAt.drewN {w W : World} {D : Nat} (h : NewsAt w W D) (m : Nat) : NewsAt w (W.drewN m) D := ⟨h.box, below_drewN h.bel m, h.dd, h.dlt⟩
set_option maxRecDepth 100000 in
set_option maxHeartbeats 8000000 in
theorem news_walk (n : Int) (w : World) (hT : Tab w) :
    Calls Tryd.prog 4 #[.int .i64 n] w fun e w' => e = .returned (.bool true) ∧ Below w.heap.size w w' := by
  have h0 := hT.pos
  have hb0 := (Below.refl w.heap.size w).alloc (Nat.le_refl _) (.cells #[.bool false] 4)
  have T0 := hT.below hb0 hT.pos
  have bR := Boxed.new w 4 (.bool false)
  have AL := Lib.hid (alive_any _ T0)
  have HR := Lib.hid bR
  have HB0 := Lib.hid hb0
  clear hb0 T0 bR
  refine (callsIn_wide (n := 4)).1 ?_
  refine callsIn_of_wp_marks Tryd.func4 rfl trivial ?_ rfl
  simp only [Tryd.ntmps4, List.size_toArray, List.length_cons, List.length_nil, Nat.reduceAdd, Nat.reduceSub, Array.replicate_succ, Array.replicate_zero, List.push_toArray, List.append_toArray, List.nil_append, List.cons_append]
  gi_wp2_with (first
      | (refine ⟨trivial, ?_⟩; gi_at_call 10; refine (callsIn_wide.2 (AL.out)).mono ?_; rintro e w1 ⟨rfl, hb1⟩; have HB1 := Lib.hid hb1; clear hb1)
      | (gi_at_call 10; refine (callsIn_wide.2 (AL.out)).mono ?_; rintro e w1 ⟨rfl, hb1⟩; have HB1 := Lib.hid hb1; clear hb1)
      | (refine ⟨trivial, ?_⟩; gi_at_call 15; refine (callsIn_wide.2 (add_nil _ _ _ _ _)).mono ?_; rintro e w2 ⟨rfl, hb2⟩; have HB2 := Lib.hid hb2; clear hb2)
      | (gi_at_call 15; refine (callsIn_wide.2 (add_nil _ _ _ _ _)).mono ?_; rintro e w2 ⟨rfl, hb2⟩; have HB2 := Lib.hid hb2; clear hb2)
      | (refine ⟨trivial, ?_⟩; gi_at_call 16; refine (callsIn_wide.2 (get_nil _ _ _)).mono ?_; rintro e w3 ⟨rfl, hb3⟩; have HB3 := Lib.hid hb3; clear hb3)
      | (gi_at_call 16; refine (callsIn_wide.2 (get_nil _ _ _)).mono ?_; rintro e w3 ⟨rfl, hb3⟩; have HB3 := Lib.hid hb3; clear hb3)
      | (refine ⟨trivial, ?_⟩; gi_at_call 13; refine (callsIn_wide.2 (at_nil _ _)).mono ?_; rintro e w4 ⟨rfl, hb4⟩; have HB4 := Lib.hid hb4; clear hb4)
      | (gi_at_call 13; refine (callsIn_wide.2 (at_nil _ _)).mono ?_; rintro e w4 ⟨rfl, hb4⟩; have HB4 := Lib.hid hb4; clear hb4)
      | (refine ⟨trivial, ?_⟩; gi_at_call 17; refine (tall_in _ _ _).mono ?_; rintro e w5 ⟨rfl, rfl⟩)
      | (gi_at_call 17; refine (tall_in _ _ _).mono ?_; rintro e w5 ⟨rfl, rfl⟩))
  have b2 := HB1.out.trans (HB2.out.mono HB1.out.size)
  have b2' := b2.alloc b2.size (.cells #[.int .i64 0, .int .i64 0] 33)
  have b3 := b2'.trans (HB3.out.mono b2'.size)
  have b3' := b3.alloc b3.size (.cells #[.int .i64 0, .int .i64 0, .bool false, .bool false] 35)
  have b4 := b3'.trans (HB4.out.mono b3'.size)
  have b4' := (b4.alloc b4.size (.cells #[.int .i64 0, .int .i64 0] 33))
  have b5 := b4'.alloc b4'.size (.cells #[.pointer none] 23)
  have bN := Boxed.new (w4.alloc (.cells #[.int .i64 0, .int .i64 0] 33)) 23 (.pointer none)
  rw [World.size_alloc] at bN
  have hBel : Below w.heap.size w ((w4.alloc (.cells #[.int .i64 0, .int .i64 0] 33)).alloc (.cells #[.pointer none] 23)) := HB0.out.trans (b5.mono (by simp))
  have hBox : Boxed ((w4.alloc (.cells #[.int .i64 0, .int .i64 0] 33)).alloc (.cells #[.pointer none] 23)) w.heap.size 4 (.bool false) := (b5.block w.heap.size (by simp)).trans HR.out
  clear b2 b2' b3 b3' b4 b4' b5 HB1 HB2 HB3 HB4 HR HB0 AL
  refine wpIn_rangeFunc_ownH rfl (by decide) (gf := 35) (lb := #[.pointer (some ⟨w4.heap.size + 1, 0, none⟩)]) rfl trivial (enters_of Tryd.func35 (by kernel_rfl) rfl)
    (tall_nil 3 (w4.heap.size + 1) _ bN) (fun _ _ => trivial) (fun _ _ _ _ _ _ _ _ => trivial) (Below.refl _ _) (fun _ => rfl)
    (fun _ W => Boxed W w.heap.size 4 (.bool false) ∧ Below w.heap.size w W) (fun _ _ _ => False)
    (OwnFrom.and (Own.from (boxed_own _ _ _) _) (ownFrom_below (Nat.le_refl _) hBel.size))
    (fun _ _ _ _ _ hs _ _ => hs)
    ⟨hBox, hBel⟩ (fun _ _ _ => True) (fun _ _ _ _ _ _ _ _ _ => trivial) ?assign ?body ?done ?stop
  case assign =>
    intro l pre x W K hI hK
    gi_wp2
    exact hK _ _ (KeepsFrom.refl _ _) trivial hI trivial
  case body =>
    intro l pre x a' W _ _ _ _ hlt
    exact absurd hlt (Nat.not_lt_zero _)
  case stop =>
    rintro D c pre W _ _ h _
    exact h.elim
  case done =>
    rintro D ys W hD rfl ⟨hBx, hBl⟩ hK
    have hA : NewsAt w W D := ⟨hBx, hBl, hK, Nat.le_trans hBel.size hD⟩
    have HA := Lib.hid hA
    have AL := Lib.hid (alive_any W (hA.tab hT))
    clear hA hBx hBl hK hD hBel hBox bN
    gi_wp2_with (first
      | (refine ⟨trivial, ?_⟩; gi_at_call 10; refine (callsIn_wide.2 (AL.out)).mono ?_; rintro e w6 ⟨rfl, hb6⟩; have HB6 := Lib.hid hb6; clear hb6)
      | (gi_at_call 10; refine (callsIn_wide.2 (AL.out)).mono ?_; rintro e w6 ⟨rfl, hb6⟩; have HB6 := Lib.hid hb6; clear hb6)
      | (refine ⟨trivial, ?_⟩; gi_at_call 18; refine (callsIn_wide.2 (set_nil' _ _ _ _ _ _ _)).mono ?_; rintro e w7 ⟨rfl, hb7⟩; have HB7 := Lib.hid hb7; clear hb7)
      | (gi_at_call 18; refine (callsIn_wide.2 (set_nil' _ _ _ _ _ _ _)).mono ?_; rintro e w7 ⟨rfl, hb7⟩; have HB7 := Lib.hid hb7; clear hb7)
      | (refine ⟨trivial, ?_⟩; gi_at_call 19; refine (callsIn_wide.2 (drop_nil _ _ _)).mono ?_; rintro e w8 ⟨rfl, hb8⟩; have HB8 := Lib.hid hb8; clear hb8)
      | (gi_at_call 19; refine (callsIn_wide.2 (drop_nil _ _ _)).mono ?_; rintro e w8 ⟨rfl, hb8⟩; have HB8 := Lib.hid hb8; clear hb8)
      | (refine ⟨trivial, ?_⟩; gi_at_call 20; refine (callsIn_wide.2 (used_nil _)).mono ?_; rintro e w' ⟨rfl, rfl⟩)
      | (gi_at_call 20; refine (callsIn_wide.2 (used_nil _)).mono ?_; rintro e w' ⟨rfl, rfl⟩)
      | (refine ⟨trivial, ?_⟩; gi_at_call 21; refine (callsIn_wide.2 (left_nil _)).mono ?_; rintro e w' ⟨rfl, rfl⟩)
      | (gi_at_call 21; refine (callsIn_wide.2 (left_nil _)).mono ?_; rintro e w' ⟨rfl, rfl⟩)
      | (refine ⟨trivial, ?_⟩; gi_at_call 22; refine (callsIn_wide.2 (retired_nil _)).mono ?_; rintro e w' ⟨rfl, rfl⟩)
      | (gi_at_call 22; refine (callsIn_wide.2 (retired_nil _)).mono ?_; rintro e w' ⟨rfl, rfl⟩))
    have hA9 := ((HA.out.later HB6.out).later HB7.out).later HB8.out
    have HA9 := Lib.hid hA9
    clear HA HB6 HB7 HB8 AL hA9
    by_cases hin : 1 ≤ n ∧ n ≤ 4096
    · obtain ⟨k, rfl⟩ := Int.eq_ofNat_of_zero_le (show 0 ≤ n by omega)
      have h1 : 1 ≤ k := by omega
      have h2 : k ≤ 4096 := by omega
      clear hin
      refine ⟨trivial, ?_⟩
      refine (callsIn_wide.2 (tnew_ok k _ h1 h2)).mono ?_
      rintro e w9 ⟨B, rfl, hs9, hb9, hw9⟩
      have hA := HA9.out.later hb9
      have L1 := left_any hs9
      have U1 := fun m => used_any (hs9.heap (w' := w9.drewN m) rfl)
      rw [BM.cnt_none (isTaken fun _ => Sl.first) k (fun _ _ => rfl)] at L1
      rw [BM.cnt_none (isUsed fun _ => Sl.first) k (fun _ _ => rfl)] at U1
      rw [Nat.sub_zero] at L1
      have HL := Lib.hid L1
      have HU := Lib.hid U1
      have HAA := Lib.hid hA
      clear L1 U1 hA hs9 hb9 hw9 HA9
      gi_wp2_with (first
        | (refine ⟨trivial, ?_⟩; gi_at_call 21; refine (callsIn_wide.2 HL.out).mono ?_; rintro e w' ⟨rfl, m, rfl⟩; have hAm := HAA.out.drewN m; have c0 := hAm.box.cell; have f0 := hAm.box.frozen; have HAM := Lib.hid hAm; clear hAm)
        | (gi_at_call 21; refine (callsIn_wide.2 HL.out).mono ?_; rintro e w' ⟨rfl, m, rfl⟩; have hAm := HAA.out.drewN m; have c0 := hAm.box.cell; have f0 := hAm.box.frozen; have HAM := Lib.hid hAm; clear hAm)
        | (refine ⟨trivial, ?_⟩; gi_at_call 20; refine (callsIn_wide.2 (HU.out _)).mono ?_; rintro e w' ⟨rfl, rfl⟩)
        | (gi_at_call 20; refine (callsIn_wide.2 (HU.out _)).mono ?_; rintro e w' ⟨rfl, rfl⟩))
      have hK2 := (KeepsOthers.setCell (w9.drewN m) ⟨w.heap.size, 0, none⟩ (.bool true)).same D _ HAM.out.dd rfl
      refine ⟨by simp, .inl ⟨_, _, rfl, run_takeDeferred hK2, ?_⟩⟩
      have hc1 : ((w9.drewN m).setCell ⟨w.heap.size, 0, none⟩ (.bool true)).cell? ⟨w.heap.size, 0, none⟩ = some (.bool true) := World.cell?_setCell_same' _ _ _ (by rw [HAM.out.box.cell]; rfl)
      have hc5 := cell_kept hc1 (grownBy_putObj' _ D (.deferred none)) (fun r e => by cases e; exact ⟨_, hK2, rfl⟩)
      refine ⟨.bool true, ?_, rfl, ?_⟩
      · simp [results, Tryd.f4, go_sem, hc5]
      · exact (HAM.out.bel.setCell (p := ⟨w.heap.size, 0, none⟩) (Nat.le_refl _) _).trans (belowK_b (w := w) (Nat.le_refl _) _ D _ _ HAM.out.dlt hK2 rfl rfl)
    · have hout : n < 1 ∨ (1 ≤ n ∧ 4096 < n) := by omega
      clear hin
      have c0 := HA9.out.box.cell
      have f0 := HA9.out.box.frozen
      have TN := Lib.hid (tnew_no n w8 (by omega))
      rcases hout with hout | ⟨hout, hout2⟩
      all_goals
        refine ⟨trivial, ?_⟩
        refine (callsIn_wide.2 TN.out).mono ?_
        rintro e w' ⟨rfl, rfl⟩
        gi_wp2
        have hK2 := (KeepsOthers.setCell w8 ⟨w.heap.size, 0, none⟩ (.bool true)).same D _ HA9.out.dd rfl
        refine ⟨by simp, .inl ⟨_, _, rfl, run_takeDeferred hK2, ?_⟩⟩
        have hc1 : (w8.setCell ⟨w.heap.size, 0, none⟩ (.bool true)).cell? ⟨w.heap.size, 0, none⟩ = some (.bool true) := World.cell?_setCell_same' _ _ _ (by rw [HA9.out.box.cell]; rfl)
        have hc5 := cell_kept hc1 (grownBy_putObj' _ D (.deferred none)) (fun r e => by cases e; exact ⟨_, hK2, rfl⟩)
        refine ⟨.bool true, ?_, rfl, ?_⟩
        · simp [results, Tryd.f4, go_sem, hc5]
        · exact (HA9.out.bel.setCell (p := ⟨w.heap.size, 0, none⟩) (Nat.le_refl _) _).trans (belowK_b (w := w) (Nat.le_refl _) _ D _ _ HA9.out.dlt hK2 rfl rfl)
end Go.Proofs.YtldlolgdglmocaaDoor
