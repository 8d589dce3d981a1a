/- The document's Drop. -/
import Derived.Test.YteencfldehcbbaaDoorBpRh
namespace Go.Proofs.YteencfldehcbbaaDoor
open Go.RowKit Go.Sort BP
set_option linter.unusedVariables false

section
variable {w0 w : World} {R : RB} {C K o o' p p' : Nat} {v v' : Value} {D : Dt}
/-- Is it the present one? -/
theorem pr_cases {C K o : Nat} {own : Nat → Nat} {S : Sp} (hG : BP.Good C K o own S) {a b : Nat} (hm : (a, b) ∈ S.parts) : (decide (1 < b) = true ∧ rmS S (a, b) = ⟨S.parts.filter (fun y => decide (y ≠ (a, b))), S.pr, S.fl⟩) ∨
    (decide (1 < b) = false ∧ ((a : Int) == prI S.pr) = false ∧ rmS S (a, b) = ⟨S.parts.filter (fun y => decide (y ≠ (a, b))), S.pr, S.fl⟩) ∨
    (decide (1 < b) = false ∧ ((a : Int) == prI S.pr) = true ∧ rmS S (a, b) = ⟨S.parts.filter (fun y => decide (y ≠ (a, b))), (0, 0), 0⟩) := by
  have h1 : 1 ≤ b := hG.one _ hm
  unfold rmS
  by_cases e : (a, b) = S.pr
  · have hlt := hG.prlt.1
    rw [← e] at hlt
    simp only at hlt
    refine .inr (.inr ⟨by simp; omega, ?_, by rw [if_pos e, if_pos e]⟩)
    unfold prI
    rw [← e, if_neg (by simp; omega)]
    simp
  · rw [if_neg e, if_neg e]
    by_cases h2 : 1 < b
    · exact .inl ⟨by simp [h2], rfl⟩
    · refine .inr (.inl ⟨by simp [h2], ?_, rfl⟩)
      unfold prI
      rcases hG.pr with h3 | ⟨h3, h4⟩
      · rw [if_pos h3]
        simp
      · split
        · simp
        · rw [beq_eq_false_iff_ne]
          intro e3
          apply e
          exact Prod.ext (show a = S.pr.1 by omega) (show b = S.pr.2 by omega)
set_option maxHeartbeats 4000000 in
set_option maxRecDepth 100000 in
theorem rdrop_any (h : Ro w0 w R C K o o' p p' v v' D) (hG : BP.Good C K o D.own D.S) (ho1 : 1 ≤ o) (first : Int) :
    Calls Tryd.prog 37 #[.pointer (some ⟨p, 0, none⟩), .int .i64 first] w (RoPost (.int .i64 (dropE D first)) w0 R C K o o' p p' v v' (dropD D first) w) := by
  have hC := h.rf.C2
  obtain ⟨hall, hlen⟩ := parts_le hG hC
  have htk := rtake_part h hall hlen first false
  unfold dropE dropD
  rcases tk_drop (f := first) hG.nod hG.one with ⟨hz, hb0, hl0⟩ | ⟨hz, hmem, hfe, hb0, hl0, hx0⟩
  · rw [if_pos hz, if_pos hz]
    rw [hb0, hl0] at htk
    have HTK := Lib.hid htk
    generalize tkX first false D.S.parts = X at *
    obtain ⟨a, b⟩ := X
    simp only [part3] at HTK
    generalize decide (1 < b) = c at HTK
    clear h hG hall hlen htk hz hb0 hl0
    go_enter Tryd.func37, Tryd.ntmps37
    go_wp2_with (first | (go_at_call 59; refine HTK.out.mono ?_; rintro e w1 ⟨rfl, u, hr1, ht1⟩; have HR1 := Lib.hid hr1; have HT1 := Lib.hid ht1; clear hr1 ht1))
    go_ret
    exact ⟨rfl, u, HR1.out.alloc _, HT1.out.trans (Turn.of_below ((Below.refl _ _).alloc (Nat.le_refl _) _))⟩
  · have hpt := hG.part hmem
    rw [if_neg hz, if_neg hz]
    rw [hb0, hl0, hx0] at htk
    have hown : ∀ c, (fromP D.S.parts first).1 ≤ c → c < (fromP D.S.parts first).1 + (fromP D.S.parts first).2 → D.own c ≠ 0 := fun c h1 h2 => by
      rw [(hG.has c (cs_sub hmem (cs_mem.2 ⟨h1, h2⟩))).2]
      omega
    have HTK := Lib.hid htk
    generalize hx : fromP D.S.parts first = x at *
    obtain ⟨a, b⟩ := x
    simp only [part3] at HTK hpt hown
    have hcs := pr_cases hG hmem
    obtain ⟨c, hcc⟩ : ∃ c, c = decide (1 < b) := ⟨_, rfl⟩
    rw [← hcc] at HTK hcs
    have HCS := Lib.hid hcs
    have HOW := Lib.hid hown
    have HPT := Lib.hid hpt
    have hb1 : 1 ≤ b := hpt.1
    have hfb : a + b ≤ 1024 := by omega
    clear h hG hall hlen htk hz hb0 hl0 hx0 hx hmem hfe hown hcs hcc hpt
    go_enter Tryd.func37, Tryd.ntmps37
    go_wp2_with (first | (go_at_call 59; refine HTK.out.mono ?_; rintro e w1 ⟨rfl, u, hr1, ht1⟩; have HX1 := Lib.hid (Whole.fresh w1 81 #[.int .i64 (a : Nat), .int .i64 (b : Nat), .bool c]); have HN1 := Lib.hid (hr1.not (Nat.le_refl _)); have HR1 := Lib.hid (hr1.alloc (.cells #[.int .i64 (a : Nat), .int .i64 (b : Nat), .bool c] 81)); have HT1 := Lib.hid (ht1.trans (Turn.of_below ((Below.refl _ _).alloc (Nat.le_refl _) (.cells #[.int .i64 (a : Nat), .int .i64 (b : Nat), .bool c] 81)))); clear hr1 ht1))
    obtain ⟨wa, ha⟩ : ∃ wa, wa = w1.alloc (.cells #[.int .i64 (a : Nat), .int .i64 (b : Nat), .bool c] 81) := ⟨_, rfl⟩
    rw [← ha] at HX1 HR1 HT1 ⊢
    clear ha
    go_loopw [7] (fun y wr => ∃ j : Nat, j ≤ b ∧ y = .int .i64 j ∧ Hid (Ro w0 wr R C K o o' p p' u v' ⟨setO D.own ((cs (a, b)).take j) 0, D.wd, ⟨D.S.parts.filter (fun y => decide (y ≠ (a, b))), D.S.pr, D.S.fl⟩, D.T⟩ ∧ Turn (roF R p p' u v') (roF R p p' u v') wa wr)) (fun y _ => b - (intOf y).toNat)
    case atStart => exact ⟨0, Nat.zero_le _, rfl, Lib.hid ⟨by rw [List.take_zero, setO_nil]; exact HR1.out, Turn.refl _ _⟩⟩
    case round =>
      obtain ⟨j, hj, rfl, HR⟩ := hrel
      have hx2 := turn_keep HR.out.2 HX1.out HN1.out
      have x0 := hx2.q0
      have x1 := hx2.q1
      have x2 := hx2.q2
      have p0 := HR.out.1.a.c0
      by_cases hlt : j < b
      · have hg := fun (W : World) (hW : W.heap = wr.heap) => rrelease_ok (HR.out.1.rf.heap hW) (a + j) (by have := HPT.out.2; omega) (by
          show setO D.own ((cs (a, b)).take j) 0 (a + j) ≠ 0
          rw [setO_out fun hx => by have := (cs_take_mem (by omega)).1 hx; omega]
          exact HOW.out _ (by omega) (by omega))
        have HC := Lib.hid hg
        rw [show ((a + j : Nat) : Int) = (a : Int) + (j : Int) by omega] at HC
        have z4 := wrapOk ((a : Int) + (j : Int)) (by omega) (by omega)
        clear hg hx2
        go_wp2_with fail
        go_region_held3 (fun w' => w'.cell? ⟨p, 0, none⟩ = some (.pointer (some ⟨R.m, 0, none⟩)) ∧ w'.cell? ⟨w1.heap.size, 0, none⟩ = some (.int .i64 (a : Nat))) (simp [go_sem, *])
          (first | (go_at_call 60; refine (HC.out _ (by exact rfl)).mono ?_; rintro e w2 ⟨rfl, ho2, hs2⟩; have hst := HR.out.1.store ⟨ho2.os, ho2.tape, ho2.output, ho2.size, ho2.block⟩ hs2; have HR2 := Lib.hid (And.intro hst.1 (HR.out.2.trans hst.2)); have k0 := hst.1.a.c0; have k1 : w2.cell? ⟨w1.heap.size, 0, none⟩ = some (.int .i64 (a : Nat)) := (turn_keep HR2.out.2 HX1.out HN1.out).q0; clear ho2 hs2 hst))
        all_goals
          go_wp2
          go_roundw
          case rel => exact ⟨j + 1, by omega, by go_num, Lib.hid ⟨by rw [setO_next hlt]; exact HR2.out.1, HR2.out.2⟩⟩
          case measure => simp [intOf]; omega
      · obtain rfl : j = b := by omega
        have hr := HR.out.1
        rw [setO_full] at hr
        have HRF := Lib.hid hr
        have HTF := Lib.hid (HT1.out.trans HR.out.2)
        obtain ⟨z, hz, hbx⟩ := hr.a.box
        simp only at hz hbx
        have HZ := Lib.hid (And.intro hz hbx)
        have p3 := (hbx.cell 3).trans rfl
        have p4 := (hbx.cell 4).trans rfl
        have pf := hbx.free
        clear hr hx2 p0 hz hbx
        rcases HCS.out with ⟨rfl, hrm⟩ | ⟨rfl, d, hrm⟩ | ⟨rfl, d, hrm⟩
        all_goals
          have HRM := Lib.hid hrm
          clear hrm
          go_wp2_with fail
          go_quiet (fail)
          go_wp2
          go_ret
        · refine ⟨rfl, u, ?_, HTF.out.trans (Turn.same rfl rfl rfl rfl)⟩
          rw [HRM.out]
          exact HRF.out.same rfl rfl rfl rfl
        · refine ⟨rfl, u, ?_, HTF.out.trans (Turn.same rfl rfl rfl rfl)⟩
          rw [HRM.out]
          exact HRF.out.same rfl rfl rfl rfl
        · have hs := (HRF.out.same (W := wr.drewN nq) rfl rfl rfl rfl).box_set (P := D.S.parts.filter (fun y => decide (y ≠ (a, j)))) (pr := (0, 0)) (fl := 0) (z := 0) rfl (((OnlyAt.refl p _).setCell 3 (.int .i64 (-1))).setCell 4 (.int .i64 0)) (fun hh => absurd rfl hh) (((HZ.out.2.drewN nq).set 3 (.int .i64 (-1))).set 4 (.int .i64 0))
          refine ⟨rfl, u, ?_, (HTF.out.trans (Turn.same (W := wr.drewN nq) rfl rfl rfl rfl)).trans hs.2⟩
          rw [HRM.out]
          exact hs.1
end
end Go.Proofs.YteencfldehcbbaaDoor
