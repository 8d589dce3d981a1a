/- Contracts of the document's Same, Cut, ahead. -/
import Derived.Test.YtehkcflbdmkjpaaRsRef
namespace Go.Proofs.Ytehkcflbdmkjpaa
open Go.RowKit Go.Maps Go.Sort

theorem below_drew (w : World) : Below w.heap.size w w.drew := ⟨rfl, rfl, rfl, Nat.le_refl _, fun _ _ => rfl⟩
theorem below_drewN (w : World) (n : Nat) : Below w.heap.size w (w.drewN n) := ⟨rfl, rfl, rfl, Nat.le_refl _, fun _ _ => rfl⟩
set_option maxHeartbeats 1000000 in
theorem dsame_any {w : World} {b1 b2 : Nat} {v1 v2 : Value} {l1 l2 : List RM.R} (h1 : NewT b1 w v1 l1) (h2 : NewT b2 w v2 l2) (hn1 : l1.length ≤ 1000000) (hn2 : l2.length ≤ 1000000) :
    Calls Try.prog 20 #[v1, v2] w fun e w' => e = .returned (.bool (decide (l1 = l2))) ∧ Below w.heap.size w w' := by
  obtain ⟨A1, c1, rfl, _⟩ := h1.slice
  obtain ⟨A2, c2, rfl, _⟩ := h2.slice
  have HA := Lib.hid h1
  have HB := Lib.hid h2
  clear h1 h2
  by_cases hl : l1.length = l2.length
  · have hl' : l2.length = l1.length := hl.symm
    have HL := Lib.hid hl
    rw [hl'] at HB ⊢
    clear hl hl'
    go_enter Try.func20, Try.ntmps20
    go_wp2
    go_loopw [5] (fun i wr => ∃ k : Nat, k ≤ l1.length ∧ i = .int .i64 k ∧ Hid (l1.take k = l2.take k) ∧ Below w.heap.size w wr) (fun i _ => l1.length - (intOf i).toNat)
    case atStart => exact ⟨0, Nat.zero_le _, rfl, Lib.hid rfl, Below.refl _ _⟩
    case round =>
      obtain ⟨k, hk, rfl, hto, hbw⟩ := hrel
      by_cases hlt : k < l1.length
      · obtain ⟨g, cap, e1, _, _, x1, x2⟩ := (HA.out.below hbw).cell hlt
        have hb' : NewT b2 wr (.slice A2 l1.length c2) l2 := HB.out.below hbw
        obtain ⟨g', cap', e2, _, _, y1, y2⟩ := hb'.cell (by rw [← HL.out]; exact hlt)
        rw [← HL.out] at e2
        injection e1 with e1 _ e1'
        injection e2 with e2 _ e2'
        subst e1 e1' e2 e2'
        have HS : Hid (l1[k]'hlt = l2[k]'(by rw [← HL.out]; exact hlt) → l1.take (k + 1) = l2.take (k + 1)) := Lib.hid fun e => by
          rw [List.take_succ_eq_append_getElem hlt, List.take_succ_eq_append_getElem (by rw [← HL.out]; exact hlt), hto.out, e]
        have HN : Hid (l1[k]'hlt ≠ l2[k]'(by rw [← HL.out]; exact hlt) → l1 ≠ l2) := Lib.hid fun e e2 => e (by subst e2; rfl)
        generalize l1[k]'hlt = p at *
        generalize l2[k]'(by rw [← HL.out]; exact hlt) = q at *
        obtain ⟨p1, p2⟩ := p
        obtain ⟨q1, q2⟩ := q
        dsimp only at x1 x2 y1 y2
        clear hb' hto
        have HBW := Lib.hid hbw
        by_cases e : ((p1, p2) : RM.R) = (q1, q2)
        · have HT := Lib.hid (HS.out e)
          injection e with ea eb
          subst ea eb
          have heq : ∀ w', (binOp .neq 24 (.agg #[.int .i64 p1, .int .i64 p2]) (.agg #[.int .i64 p1, .int .i64 p2])).run Try.prog w' = .ok (.bool false) w' := fun w' => by
            have := neq_ref (p1, p2) (p1, p2) w'
            simpa using this
          clear HS HN hbw
          go_wp2
          go_quiet (fail)
          go_wp2
          go_roundw
          case rel => exact ⟨k + 1, by omega, by go_num, HT, HBW.out.trans ⟨rfl, rfl, rfl, Nat.le_refl _, fun _ _ => rfl⟩⟩
          case measure => simp [intOf]; omega
        · have HT := Lib.hid (HN.out e)
          have heq : ∀ w', (binOp .neq 24 (.agg #[.int .i64 p1, .int .i64 p2]) (.agg #[.int .i64 q1, .int .i64 q2])).run Try.prog w' = .ok (.bool true) w' := fun w' => by
            have := neq_ref (p1, p2) (q1, q2) w'
            rw [show ((p1, p2) == (q1, q2)) = false by simpa using e] at this
            exact this
          clear HS HN hbw e
          go_wp2
          go_quiet (fail)
          go_wp2
          go_ret
          exact ⟨ret_bool (by simp [HT.out]), HBW.out.trans ⟨rfl, rfl, rfl, Nat.le_refl _, fun _ _ => rfl⟩⟩
      · obtain rfl : k = l1.length := by omega
        have HE : Hid (l1 = l2) := Lib.hid (by
          have := hto.out
          rw [List.take_length] at this
          rw [this, HL.out, List.take_length])
        clear hto
        go_wp2
        go_ret
        exact ⟨ret_bool (by simp [HE.out]), hbw⟩
  · have HN : Hid (l1 ≠ l2) := Lib.hid fun e => hl (by rw [e])
    have hd : (((l1.length : Nat) : Int) != ((l2.length : Nat) : Int)) = true := by simp; omega
    generalize l1.length = n1 at *
    generalize l2.length = n2 at *
    go_enter Try.func20, Try.ntmps20
    go_wp2
    go_ret
    exact ⟨ret_bool (by simp [HN.out]), Below.refl _ _⟩

theorem ahead_val {a b c d : Int} {v : Bool} (h : v = true ↔ a < c ∨ a = c ∧ b < d) : v = TM.lt (a, b) (c, d) := by
  have := TM.lt_iff (x := (a, b)) (y := (c, d))
  unfold TM.Lt at this
  rw [Bool.eq_iff_iff, this, h]
set_option maxHeartbeats 1000000 in
theorem dahead_any (x y : RM.R) (W : World) : Calls Try.prog 28 #[.agg #[.int .i64 x.1, .int .i64 x.2], .agg #[.int .i64 y.1, .int .i64 y.2]] W fun e w' => e = .returned (.bool (TM.lt x y)) ∧ Below W.heap.size W w' := by
  obtain ⟨a, b⟩ := x
  obtain ⟨c, d⟩ := y
  have HB := Lib.hid (((Below.refl W.heap.size W).alloc (Nat.le_refl _) (.cells #[.int .i64 a, .int .i64 b] 24)).alloc (by simp) (.cells #[.int .i64 c, .int .i64 d] 24))
  rcases Int.lt_trichotomy a c with h1 | h1 | h1
  · rw [← ahead_val (v := true) (a := a) (b := b) (c := c) (d := d) (by simp; omega)]
    go_enter Try.func28, Try.ntmps28
    go_wp2
    all_goals go_ret
    all_goals exact ⟨rfl, HB.out⟩
  · subst h1
    by_cases h2 : b < d
    · rw [← ahead_val (v := true) (a := a) (b := b) (c := a) (d := d) (by simp; omega)]
      go_enter Try.func28, Try.ntmps28
      go_wp2
      all_goals go_ret
      all_goals exact ⟨rfl, HB.out⟩
    · rw [← ahead_val (v := false) (a := a) (b := b) (c := a) (d := d) (by simp; omega)]
      go_enter Try.func28, Try.ntmps28
      go_wp2
      all_goals go_ret
      all_goals exact ⟨rfl, HB.out⟩
  · have h2 : ¬ a < c := by omega
    have h3 : (a == c) = false := by simp; omega
    rw [← ahead_val (v := false) (a := a) (b := b) (c := c) (d := d) (by simp; omega)]
    go_enter Try.func28, Try.ntmps28
    go_wp2
    all_goals go_ret
    all_goals exact ⟨rfl, HB.out⟩

/-- What a call that writes the document's set leaves. -/
def DocE (r : Nat) (L : RM.L) (v : Value) (w : World) (e : Ending) (w' : World) : Prop := e = .returned v ∧ DocAt w' r w.heap.size L ∧ Aft [r] w w'
section
variable {w w' : World} {r lo base : Nat} {L : RM.L} {v : Value} {l : List RM.R}
theorem NewP.set (h : NewP base w v L) {u : Value} (hb : Whole w r 39 #[u]) (z : Value) : NewP base (w.setCell ⟨r, 0, none⟩ z) v L := h.keep fun g _ _ ⟨_, hg⟩ => Below.heap_setCell _ _ _ _ fun e => by
  have e : g = r := e
  subst e
  unfold Whole at hg hb
  rw [hb] at hg
  injection hg with hg
  injection hg with _ hg
  exact absurd hg (by decide)
theorem NewT.doc (h : NewT base w v l) {cs : Array Value} (hb : Whole w r 39 cs) (k : Aft [r] w w') : NewT base w' v l := h.keep fun g _ _ ⟨_, hg⟩ => k.block g hg.lt fun e => by
  have e : g = r := by simpa using e
  subst e
  unfold Whole at hg hb
  rw [hb] at hg
  injection hg with hg
  injection hg with _ hg
  exact absurd hg (by decide)
set_option maxHeartbeats 2000000 in
theorem dcut_any (h : DocAt w r lo L) (hl : L.length ≤ 1000000) (x : RM.R) : Calls Try.prog 18 #[.pointer (some ⟨r, 0, none⟩), refV x] w (DocE r (RM.cut L x) (.bool (RM.has L x)) w) := by
  obtain ⟨i0, hi, hz0, hz1, hz2⟩ := infoPair
  have hb1 := (Below.refl w.heap.size w).alloc (Nat.le_refl _) (.cells #[.int .i64 x.1, .int .i64 x.2] 24)
  have HT := Lib.hid (h.below hb1)
  have HX := Lib.hid (Whole.fresh w 24 #[.int .i64 x.1, .int .i64 x.2])
  have HB1 := Lib.hid hb1
  have hr := h.lt
  have HAS : Hid (decide (((RM.cut L x).length : Int) < (L.length : Int)) = RM.has L x) := Lib.hid (by
    rw [RM.cut_len h.up]
    cases hh : RM.has L x
    · simp
    · obtain ⟨t, ht⟩ := (RM.has_iff h.up).1 hh
      have := List.length_pos_of_mem ht
      simp
      omega)
  have HCL := Lib.hid (RM.cut_le L x)
  have HUP := Lib.hid (RM.cut_up h.up x)
  obtain ⟨x1, x2⟩ := x
  unfold refV
  clear h hb1
  go_enter Try.func18, Try.ntmps18
  go_wp2
  go_loopw [5, 6] (fun u i wr => ∃ k : Nat, k ≤ L.length ∧ i = .int .i64 k ∧ NewP (w.heap.size + 1) wr u (RM.cut (L.take k) (x1, x2)) ∧ Below (w.heap.size + 1) (w.alloc (.cells #[.int .i64 x1, .int .i64 x2] 24)) wr) (fun _ i _ => L.length - (intOf i).toNat)
  case atStart => exact ⟨0, Nat.zero_le _, rfl, by simpa [RM.cut] using NewP.nil _ _, Below.refl _ _⟩
  case round =>
    obtain ⟨k, hk, rfl, hu, hbw⟩ := hrel
    have ht := HT.out.below (hbw.mono (by simp))
    obtain ⟨A, c, c0, hbx, hrow⟩ := ht.rd
    have hx2 := HX.out.below hbw (by simp)
    have x0 := hx2.cell 0
    have x1c := hx2.cell 1
    simp only [List.getElem?_toArray, List.getElem?_cons_zero, List.getElem?_cons_succ] at x0 x1c
    have hs := hbw.size
    simp only [World.size_alloc] at hs
    have HBW := Lib.hid hbw
    by_cases hlt : k < L.length
    · obtain ⟨g, cap, e1, _, _, c1, c2, c3⟩ := hrow.cell hlt
      injection e1 with e1 _ e1'
      subst e1 e1'
      have hul : (RM.cut (L.take k) (x1, x2)).length ≤ L.length := by have := RM.cut_le (L.take k) (x1, x2); simp at this; omega
      obtain ⟨p, hp⟩ : ∃ p, p = L[k] := ⟨_, rfl⟩
      by_cases e : p.1 = (x1, x2)
      · have HST := Lib.hid (RM.cut_take_no hlt (hp ▸ e))
        rw [← hp] at c1 c2 c3
        rw [e] at c1 c2
        have heq : ∀ w', (binOp .neq 24 (.agg #[.int .i64 x1, .int .i64 x2]) (.agg #[.int .i64 x1, .int .i64 x2])).run Try.prog w' = .ok (.bool false) w' := fun w' => by
          have := neq_ref (x1, x2) (x1, x2) w'
          simpa using this
        have HU := Lib.hid hu
        clear hu ht hrow hbx hp e hx2 hbw
        go_wp2
        go_quiet (fail)
        go_wp2
        go_roundw
        case rel => exact ⟨k + 1, by omega, by go_num, by rw [HST.out]; exact HU.out.below (below_drewN _ _), HBW.out.trans ((below_drewN _ _).mono (by omega))⟩
        case measure => simp [intOf]; omega
      · have HST := Lib.hid (RM.cut_take_yes hlt (hp ▸ e))
        rw [← hp] at c1 c2 c3 HST
        generalize RM.cut (L.take k) (x1, x2) = l at *
        obtain ⟨⟨p1, p2⟩, pt⟩ := p
        have heq : ∀ w', (binOp .neq 24 (.agg #[.int .i64 p1, .int .i64 p2]) (.agg #[.int .i64 x1, .int .i64 x2])).run Try.prog w' = .ok (.bool true) w' := fun w' => by
          have := neq_ref (p1, p2) (x1, x2) w'
          rw [show ((p1, p2) == (x1, x2)) = false by simpa using e] at this
          exact this
        dsimp only at c1 c2 c3
        obtain ⟨Au, cu, rfl, _⟩ := hu.slice
        have HU := Lib.hid fun n => (hu.below (below_drewN _ n)).own
        have HUB := Lib.hid hu.lt
        clear hu ht hrow hbx hp e hx2 hbw
        go_wp2
        go_quiet (fail)
        go_wp2_with (first
          | (at_builtin; refine wpList_append_own _ rfl _ _ 37 rfl (w.heap.size + 1) 57 i0 _ 3 24 Try.underlying37 hi hz0 hz1 hz2 rfl (by decide) (.slice Au l.length cu) _ _ rfl ((HU.out _).alloc _) ⟨wr.heap.size, 0, none⟩ 1 1 [.int .i64 p1, .int .i64 p2, .int .i64 pt] rfl rfl (cell_three_new _ _ _ _ _) (by simp [Value.oneCell']) (by unfold maxLen; omega) (by omega) (by simp; omega) ?_; intro v' w2 hown' hgrow _; have HO2 := Lib.hid hown'; have HG := Lib.hid hgrow; clear hown' hgrow))
        go_roundw
        case rel => exact ⟨k + 1, by omega, by go_num, by rw [HST.out]; exact NewP.snoc HO2.out, ((HBW.out.trans ((below_drewN _ _).mono (by omega))).alloc (by simp; omega) _).grown HG.out (by simp; omega) (fun g hg => (HUB.out g hg).1)⟩
        case measure => simp [intOf]; omega
    · obtain rfl : k = L.length := by omega
      rw [List.take_length] at hu
      obtain ⟨A', c', rfl, _⟩ := hu.slice
      have HBX := Lib.hid hbx
      have HU := Lib.hid hu
      have f0 := hbx.free 0
      clear hu ht hrow hbx hx2 hbw
      generalize hlen : (RM.cut L (x1, x2)).length = len at *
      have HLEN := Lib.hid hlen
      clear hlen
      go_wp2
      go_ret
      refine ⟨ret_bool (by first | exact HAS.out | simpa using HAS.out), ⟨⟨_, HBX.out.set 0 _, (HU.out.set HBX.out _).less (by omega)⟩, HUP.out⟩, ?_⟩
      exact ((Aft.of_below HB1.out).trans (Aft.of_below (HBW.out.mono (by simp)))).setCell (by simp) _ _
end
end Go.Proofs.Ytehkcflbdmkjpaa
