/- Contracts of Less and Join of a bag of numbers. -/
import Derived.Test.YtfmcgejoobbiiaaBgMeth
import Derived.Deep.RegionLaw
namespace Go.Proofs.Ytfmcgejoobbiiaa
open Go.RowKit Go.Lib Go.Sort

theorem row_of_own {w : World} {base n : Nat} {v : Value} {xs : List Int} (h : w.ownsRow base 3 1 v n (xs.map (Value.int .i64))) (hb : base < w.heap.size) : ∃ r, IRow w r v xs ∧ base ≤ r ∧ r < w.heap.size := by
  rcases h.2 with ⟨rfl, _⟩ | ⟨g, cap, cur, rfl, hg, hh, _⟩
  · exact ⟨base, Row.of_own h rfl (fun k e => by simp [Value.ownBlock] at e), Nat.le_refl _, hb⟩
  · exact ⟨g, Row.of_own h rfl (fun k e => by simp [Value.ownBlock] at e; omega), hg, (Array.getElem?_eq_some_iff.1 hh).1⟩
theorem less_snoc_in {l m : List Int} {k : Nat} (hk : k < l.length) (h : l[k] ∈ m) : BG.less (l.take (k + 1)) m = BG.less (l.take k) m := by
  have e : [l[k]].filter (fun y => decide (y ∉ m)) = [] := by simp [h]
  unfold BG.less
  rw [List.take_succ_eq_append_getElem hk, List.filter_append, e, List.append_nil]
theorem less_snoc_out {l m : List Int} {k : Nat} (hk : k < l.length) (h : l[k] ∉ m) : BG.less (l.take (k + 1)) m = BG.less (l.take k) m ++ [l[k]] := by
  have e : [l[k]].filter (fun y => decide (y ∉ m)) = [l[k]] := by simp [h]
  unfold BG.less
  rw [List.take_succ_eq_append_getElem hk, List.filter_append, e]

theorem join_nil (o : Value) (w : World) : Calls Try.prog 9 #[.pointer none, o] w fun e w' => e = .returned (.tuple #[]) ∧ w = w' := by
  go_enter Try.func9, Try.ntmps9
  go_wp2
  refine bodyPost_ret (results_none rfl _ _ _) rfl ?_
  exact ⟨rfl, rfl⟩
theorem less_nil (o : Value) (w : World) : Calls Try.prog 10 #[.pointer none, o] w fun e w' => e = .returned (.tuple #[]) ∧ w = w' := by
  go_enter Try.func10, Try.ntmps10
  go_wp2
  refine bodyPost_ret (results_none rfl _ _ _) rfl ?_
  exact ⟨rfl, rfl⟩

set_option maxRecDepth 10000 in
set_option maxHeartbeats 2000000 in
theorem less_of {w : World} {b r : Nat} {l : List Int} (h : IBag w b r l) (hl : l.length ≤ 400000) (p : Option Addr) (ro : Nat) (u : Value) (m : List Int) (ho : Has w p u) (hr : IRow w ro u m) (hu : BG.Rises m) (hm : m.length ≤ 1000000) :
    Calls Try.prog 10 #[.pointer (some ⟨b, 0, none⟩), .pointer p] w (WPost 59 3 (Value.int .i64) b r (.tuple #[]) (BG.less l m) w) := by
  obtain ⟨v, h1, h2⟩ := h.box
  have HU := Lib.hid h.up
  have hlt := h.lt
  have H1 := Lib.hid h1
  have H2 := Lib.hid h2
  have hb := h1.lt
  have c0 : w.cell? ⟨b, 0, none⟩ = some v := by rw [h1.cell]; rfl
  obtain ⟨A, c, rfl, _⟩ := h2.slice
  have HO := Lib.hid ho
  have HR := Lib.hid hr
  have HM := Lib.hid hu
  clear h1 h2 h ho hr hu
  go_enter Try.func10, Try.ntmps10
  go_wp2
  go_loopg [4, 14] l.length (fun g lv i wr => ∃ k : Nat, k ≤ l.length ∧ Hid (l.length - k ≤ g) ∧ i = .int .i64 k ∧ Hid (wr.ownsRow w.heap.size 3 1 lv (BG.less (l.take k) m).length ((BG.less (l.take k) m).map (Value.int .i64))) ∧ Hid (Below w.heap.size w wr))
  case atStart => exact ⟨0, Nat.zero_le _, Lib.hid (Nat.le_refl _), rfl, Lib.hid (World.ownsRow_nil _ _ _ _), Lib.hid (Below.refl _ _)⟩
  case round =>
    obtain ⟨k, hk, HG, rfl, HL, HB⟩ := hrel
    have hbs := HB.out.size
    by_cases hkl : k < l.length
    · obtain ⟨cap, e0, _, hc⟩ := H2.out.cell hkl
      injection e0 with e1 _ e2
      subst e1 e2
      have hc' := (HB.out.cell (p := ⟨r, k, none⟩) hlt).trans hc
      have HS := Lib.hid (has_of p ro u m l[k] wr (HO.out.aft (S := []) (Aft.of_below HB.out) (by simp)) (HR.out.below HB.out) HM.out hm)
      have I1 := Lib.hid (less_snoc_in (l := l) (m := m) hkl)
      have I2 := Lib.hid (less_snoc_out (l := l) (m := m) hkl)
      clear hc
      generalize l[k] = x at *
      by_cases hx : x ∈ m
      · have d1 : decide (x ∈ m) = true := by simp [hx]
        rw [d1] at HS
        have e3 := I1.out hx
        rw [← e3] at HL
        clear d1 e3 hx
        go_wp2_with fail
        refine HS.out.mono ?_
        rintro e w1 ⟨rfl, q, rfl⟩
        go_wp2
        go_roundg (l.length - (k + 1))
        case measure => have := HG.out; omega
        case rel => exact ⟨k + 1, by omega, Lib.hid (Nat.le_refl _), by go_num, Lib.hid (HL.out), Lib.hid ⟨HB.out.os, HB.out.tape, HB.out.output, HB.out.size, HB.out.block⟩⟩
      · have d1 : decide (x ∈ m) = false := by simp [hx]
        rw [d1] at HS
        have E3 := Lib.hid (I2.out hx)
        have hlen : (BG.less (l.take k) m).length ≤ 400000 := by
          have := BG.less_len (l.take k) m
          simp at this
          omega
        clear d1 hx
        go_wp2_with fail
        refine HS.out.mono ?_
        rintro e w1 ⟨rfl, q, rfl⟩
        have HL1 : Hid ((wr.drewN q).ownsRow w.heap.size 3 1 u4 (BG.less (l.take k) m).length ((BG.less (l.take k) m).map (Value.int .i64))) := Lib.hid HL.out
        have HB1 : Hid (Below w.heap.size w (wr.drewN q)) := Lib.hid ⟨HB.out.os, HB.out.tape, HB.out.output, HB.out.size, HB.out.block⟩
        have hbs1 : w.heap.size ≤ (wr.drewN q).heap.size := hbs
        clear HL HB hbs hc' HS
        generalize wr.drewN q = w2 at *
        go_wp2_with (first
          | (at_builtin
             refine wpList_append_rowI _ rfl _ _ rfl w.heap.size _ _ (BG.less (l.take k) m) rfl (HL1.out.alloc _) w2.heap.size (.slice (some ⟨w2.heap.size, 0, none⟩) 1 1) [x] rfl (Row.mk' (l := [x]) (Whole.fresh w2 _ _) (Nat.le_refl _) (by decide) rfl (fun j hj => by (obtain rfl : j = 0 := by simpa using hj); rfl)) (by simp; omega) (by simp; omega) ?_
             intro v2 w3 ho2 hg2
             have HO2 := Lib.hid ho2
             have HB2 := Lib.hid ((HB1.out.alloc hbs1 _).grown hg2 (by simp; omega) (fun k hk => (HL1.out.lt k hk).1))
             clear ho2 hg2))
        go_roundg (l.length - (k + 1))
        case measure => have := HG.out; omega
        case rel => exact ⟨k + 1, by omega, Lib.hid (Nat.le_refl _), by go_num, Lib.hid (by rw [E3.out, List.length_append]; exact HO2.out), HB2⟩
    · obtain rfl : k = l.length := by omega
      have hw3 : Whole wr b 59 #[.slice A l.length c] := H1.out.below HB.out hb
      have c3 : wr.cell? ⟨b, 0, none⟩ = some (.slice A l.length c) := by rw [hw3.cell]; rfl
      have f3 := hw3.free 0
      have hown := HL.out
      rw [List.take_length] at hown
      have HW := Lib.hid hw3
      obtain ⟨A', c', rfl⟩ : ∃ A' c', u4 = .slice A' (BG.less l m).length c' := by
        rcases hown.2 with ⟨e, e0⟩ | ⟨g, cap, cur, e, _⟩
        · exact ⟨none, 0, by rw [e, e0]⟩
        · exact ⟨_, cap, e⟩
      have HOw := Lib.hid hown
      clear hown hw3 HL HG
      go_wp2
      go_end0
      refine ⟨rfl, ?_⟩
      have hA : Aft [b, r] w wr := Aft.of_below HB.out
      by_cases hgrow : w.heap.size < wr.heap.size
      · obtain ⟨r', hr', h3, h4⟩ := row_of_own HOw.out hgrow
        exact ⟨r', Bag.store HW.out hr' h4 (BG.less_rises HU.out) (by decide), .inr h3, hA.setCell (by simp) _ _⟩
      · rcases HOw.out.2 with ⟨e, e0⟩ | ⟨g, cap, cur, e, hg, hh, _⟩
        · refine ⟨r, Bag.store HW.out (Row.of_own HOw.out rfl (fun k hk => ?_)) (Nat.lt_of_lt_of_le hlt hbs) (BG.less_rises HU.out) (by decide), .inl rfl, hA.setCell (by simp) _ _⟩
          rw [e] at hk
          simp [Value.ownBlock] at hk
        · have := (Array.getElem?_eq_some_iff.1 hh).1
          omega

set_option maxRecDepth 10000 in
set_option maxHeartbeats 2000000 in
theorem join_of {w : World} {b r : Nat} {l : List Int} (h : IBag w b r l) (hl : l.length ≤ 400000) (p : Option Addr) (ro : Nat) (u : Value) (m : List Int) (ho : Has w p u) (hr : IRow w ro u m) (hm : m.length ≤ 400000) :
    Calls Try.prog 9 #[.pointer (some ⟨b, 0, none⟩), .pointer p] w (WPost 59 3 (Value.int .i64) b r (.tuple #[]) (BG.join l m) w) := by
  obtain ⟨v, h1, h2⟩ := h.box
  have hlt := h.lt
  have H1 := Lib.hid h1
  have H2 := Lib.hid h2
  have hb := h1.lt
  have c0 : w.cell? ⟨b, 0, none⟩ = some v := by rw [h1.cell]; rfl
  have f0 := h1.free 0
  obtain ⟨A, c, rfl, _⟩ := h2.slice
  obtain ⟨A2, c2, rfl, _⟩ := hr.slice
  have HO := Lib.hid ho
  have HR := Lib.hid hr
  clear h1 h2 h ho hr
  have CC := Lib.hid (fun (W : World) (hW : W.heap = (w.alloc (.cells #[.slice A l.length c, .slice A2 m.length c2] 22)).heap) =>
    concat_any w.heap.size r ro _ _ l m W (by unfold Whole; rw [hW]; exact Whole.fresh w _ _) (H2.out.keep fun hl => by rw [hW]; exact Below.heap_alloc w _ r hl) (HR.out.keep fun hl => by rw [hW]; exact Below.heap_alloc w _ ro hl) hl hm)
  obtain ⟨lm, hlm⟩ : ∃ lm, lm = l ++ m := ⟨_, rfl⟩
  have hlml : lm.length ≤ 1000000 := by rw [hlm, List.length_append]; omega
  rw [← hlm] at CC
  have HLM := Lib.hid hlm
  clear hlm
  have C2 : Hid (∀ W : World, W.heap = (w.alloc (.cells #[.slice A l.length c, .slice A2 m.length c2] 22)).heap → W.os = w.os → W.tape = w.tape → W.output = w.output →
      Calls Try.prog 35 #[.slice (some ⟨w.heap.size, 0, none⟩) 2 2] W fun e w3 => ∃ A3 c3, e = .returned (.slice A3 lm.length c3) ∧ w3.cell? ⟨b, 0, none⟩ = some (.slice A l.length c) ∧
        Hid (∃ r3, IRow w3 r3 (.slice A3 lm.length c3) lm ∧ w.heap.size ≤ r3 ∧ r3 < w3.heap.size ∧ Below w.heap.size w w3)) := Lib.hid (fun W hW e1 e2 e3 => (CC.out W hW).mono (by
    rintro e w3 ⟨v3, rfl, h3, hb3⟩
    have hsz : W.heap.size = w.heap.size + 1 := by rw [hW]; simp
    have hb0 : Below w.heap.size w W := ⟨e1, e2, e3, by omega, fun k hk => by rw [hW]; exact Below.heap_alloc w _ k hk⟩
    have hb1 := hb0.trans (hb3.mono (by omega))
    have hlt3 : w.heap.size < w3.heap.size := by have := hb3.size; omega
    obtain ⟨r3, hr3, hr4, hr5⟩ := row_of_own (h3.mono (show w.heap.size ≤ W.heap.size by omega)) hlt3
    obtain ⟨A3, c3, rfl, _⟩ := hr3.slice
    exact ⟨A3, c3, rfl, (hb1.cell (p := ⟨b, 0, none⟩) hb).trans c0, Lib.hid ⟨r3, hr3, hr4, hr5, hb1⟩⟩))
  have I2 : Hid (∀ (w3 W : World) (A3 : Option Addr) (c3 : Nat), Hid (∃ r3, IRow w3 r3 (.slice A3 lm.length c3) lm ∧ w.heap.size ≤ r3 ∧ r3 < w3.heap.size ∧ Below w.heap.size w w3) → W.heap = w3.heap → W.os = w3.os → W.tape = w3.tape → W.output = w3.output →
      Calls Try.prog 34 #[.slice A3 lm.length c3] W fun e w4 => ∃ A4 n4 c4, e = .returned (.slice A4 n4 c4) ∧ w4.cell? ⟨b, 0, none⟩ = some (.slice A l.length c) ∧ w4.frozen? ⟨b, 0, none⟩ = false ∧
        Hid (∃ r3, IRow w4 r3 (.slice A4 n4 c4) (BG.norm lm) ∧ w.heap.size ≤ r3 ∧ r3 < w4.heap.size ∧ Below w.heap.size w w4)) := Lib.hid (fun w3 W A3 c3 h3 hW e1 e2 e3 => by
    obtain ⟨r3, hr3, hr4, hr5, hb1⟩ := h3.out
    have hb2 : Below w.heap.size w W := ⟨e1.trans hb1.os, e2.trans hb1.tape, e3.trans hb1.output, by rw [hW]; exact hb1.size, fun k hk => by rw [hW]; exact hb1.block k hk⟩
    refine (inOrder_any r3 _ lm W (hr3.keep fun _ => by rw [hW]) hlml).mono ?_
    rintro e w4 ⟨v4, rfl, h4, a4⟩
    obtain ⟨A4, c4, rfl, _⟩ := h4.slice
    have hb3 := hb2.trans (a4.below (B := w.heap.size) (by simpa using hr4) hb2.size)
    have hw4 : Whole w4 b 59 #[.slice A l.length c] := H1.out.below hb3 hb
    exact ⟨A4, _, c4, rfl, (hw4.cell 0).trans rfl, hw4.free 0, Lib.hid ⟨r3, h4, hr4, by have := a4.size; rw [hW] at this; omega, hb3⟩⟩)
  clear CC
  go_enter Try.func9, Try.ntmps9
  go_wp2_with fail
  go_region_law (first
    | (go_simp; go_at_call 36; refine (ball_any p (.slice A2 m.length c2) _ (HO.out.heap (by exact rfl))).mono ?_; rintro e w1 ⟨rfl, rfl⟩)
    | (go_simp; go_at_call 35; refine (C2.out _ (by exact rfl) (by exact rfl) (by exact rfl) (by exact rfl)).mono ?_; rintro e w3 ⟨A3, c3, rfl, k3, J3⟩)
    | (go_simp; go_at_call 34; refine (I2.out w3 _ A3 c3 J3 (by exact rfl) (by exact rfl) (by exact rfl) (by exact rfl)).mono ?_; rintro e w4 ⟨A4, n4, c4, rfl, k4, f4, J4⟩)
    | fail)
  all_goals
    go_wp2
    go_end0
    obtain ⟨r3, hr3, hr4, hr5, hb3⟩ := J4.out
    have hJ : BG.join l m = BG.norm lm := by rw [HLM.out]; rfl
    rw [hJ]
    exact ⟨rfl, r3, Bag.store (H1.out.below hb3 hb) hr3 hr5 (BG.norm_rises _) (by decide), .inr hr4, (Aft.of_below (S := [b, r]) hb3).setCell (by simp) _ _⟩
theorem join_same {w : World} {b r : Nat} {l : List Int} (h : IBag w b r l) (hl : l.length ≤ 400000) : Calls Try.prog 9 #[.pointer (some ⟨b, 0, none⟩), .pointer (some ⟨b, 0, none⟩)] w (WPost 59 3 (Value.int .i64) b r (.tuple #[]) l w) := by
  obtain ⟨v, h1, h2⟩ := h.box
  have e : BG.join l l = l := BG.ext _ _ (BG.join_rises l l) h.up fun x => by rw [BG.mem_join]; exact or_self_iff
  have hc := join_of h hl (some ⟨b, 0, none⟩) r v l (.inr ⟨b, rfl, h1⟩) h2 hl
  rwa [e] at hc
theorem join_none {w : World} {b r : Nat} {l : List Int} (h : IBag w b r l) (hl : l.length ≤ 400000) : Calls Try.prog 9 #[.pointer (some ⟨b, 0, none⟩), .pointer none] w (WPost 59 3 (Value.int .i64) b r (.tuple #[]) l w) := by
  have e : BG.join l [] = l := BG.ext _ _ (BG.join_rises l []) h.up fun x => by rw [BG.mem_join]; simp
  have hc := join_of h hl none 0 _ [] (Has.none w) (Row.nil _ _ w 0) (by decide)
  rwa [e] at hc
theorem join_any {w : World} {b r o ro : Nat} {l m : List Int} (h : IBag w b r l) (k : IBag w o ro m) (hl : l.length ≤ 400000) (hm : m.length ≤ 400000) : Calls Try.prog 9 #[.pointer (some ⟨b, 0, none⟩), .pointer (some ⟨o, 0, none⟩)] w (WPost 59 3 (Value.int .i64) b r (.tuple #[]) (BG.join l m) w) := by
  obtain ⟨v, h1, h2⟩ := k.box
  exact join_of h hl (some ⟨o, 0, none⟩) ro v m (.inr ⟨o, rfl, h1⟩) h2 hm
theorem less_same {w : World} {b r : Nat} {l : List Int} (h : IBag w b r l) (hl : l.length ≤ 400000) : Calls Try.prog 10 #[.pointer (some ⟨b, 0, none⟩), .pointer (some ⟨b, 0, none⟩)] w (WPost 59 3 (Value.int .i64) b r (.tuple #[]) [] w) := by
  obtain ⟨v, h1, h2⟩ := h.box
  have e : BG.less l l = [] := BG.ext _ _ (BG.less_rises h.up) up_nil fun x => by rw [BG.mem_less]; simp
  have hc := less_of h hl (some ⟨b, 0, none⟩) r v l (.inr ⟨b, rfl, h1⟩) h2 h.up (by omega)
  rwa [e] at hc
theorem less_none {w : World} {b r : Nat} {l : List Int} (h : IBag w b r l) (hl : l.length ≤ 400000) : Calls Try.prog 10 #[.pointer (some ⟨b, 0, none⟩), .pointer none] w (WPost 59 3 (Value.int .i64) b r (.tuple #[]) l w) := by
  have e : BG.less l [] = l := BG.ext _ _ (BG.less_rises h.up) h.up fun x => by rw [BG.mem_less]; simp
  have hc := less_of h hl none 0 _ [] (Has.none w) (Row.nil _ _ w 0) up_nil (by decide)
  rwa [e] at hc
theorem less_any {w : World} {b r o ro : Nat} {l m : List Int} (h : IBag w b r l) (k : IBag w o ro m) (hl : l.length ≤ 400000) (hm : m.length ≤ 1000000) : Calls Try.prog 10 #[.pointer (some ⟨b, 0, none⟩), .pointer (some ⟨o, 0, none⟩)] w (WPost 59 3 (Value.int .i64) b r (.tuple #[]) (BG.less l m) w) := by
  obtain ⟨v, h1, h2⟩ := k.box
  exact less_of h hl (some ⟨o, 0, none⟩) ro v m (.inr ⟨o, rfl, h1⟩) h2 k.up hm
end Go.Proofs.Ytfmcgejoobbiiaa
