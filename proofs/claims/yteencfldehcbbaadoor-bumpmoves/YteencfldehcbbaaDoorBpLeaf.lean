/- Contracts of what a space's functions ask of parts and of the store. -/
import Derived.Test.YteencfldehcbbaaDoorBpRow
import Derived.Lib.SliceRun
import Derived.Lib.QuietBelow
namespace Go.Proofs.YteencfldehcbbaaDoor
open Go.RowKit Go.Sort BP
set_option linter.unusedVariables false

theorem bcellB {w w' : World} (hb : Below w.heap.size w w') {p : Addr} {v : Value} (h : w.cell? p = some v) : w'.cell? p = some v := (hb.cell (World.block_lt_of_cell? w p h)).trans h
theorem mixedO : Tryd.prog.follows .mixedOrders = true := by kernel_rfl
/-- A part as a value. -/
def pv (f k : Nat) : Value := .agg #[.int .i64 f, .int .i64 k]
theorem isRun_any (f k : Nat) (w : World) : Calls Tryd.prog 44 #[.agg #[.int .i64 f, .int .i64 k]] w fun e w' => e = .returned (.bool (decide (1 < k))) ∧ Below w.heap.size w w' := by
  have hb := (Below.refl w.heap.size w).alloc (Nat.le_refl _) (.cells #[.int .i64 f, .int .i64 k] 77)
  have HB := Lib.hid hb
  clear hb
  go_enter Tryd.func44, Tryd.ntmps44
  go_wp2
  go_ret
  exact ⟨ret_bool (by simp; try omega), HB.out⟩
set_option maxHeartbeats 1000000 in
theorem has_any (f k : Nat) (c : Int) (w : World) (hf : f ≤ 1024) (hc : -9223372036854775808 ≤ c ∧ c ≤ 9223372036854775807) : Calls Tryd.prog 45 #[.agg #[.int .i64 f, .int .i64 k], .int .i64 c] w fun e w' => e = .returned (.bool (decide ((f : Int) ≤ c) && decide (c - f < k))) ∧ Below w.heap.size w w' := by
  have hb := (Below.refl w.heap.size w).alloc (Nat.le_refl _) (.cells #[.int .i64 f, .int .i64 k] 77)
  have HB := Lib.hid hb
  clear hb
  by_cases h : (f : Int) ≤ c
  · have y1 := wrapOk (c - (f : Int)) (by omega) (by omega)
    have d : decide ((f : Int) ≤ c) = true := by simpa using h
    rw [d]
    go_enter Tryd.func45, Tryd.ntmps45
    go_wp2
    go_ret
    exact ⟨ret_bool (by simp; try omega), HB.out⟩
  · have d : decide ((f : Int) ≤ c) = false := by simpa using h
    rw [d]
    go_enter Tryd.func45, Tryd.ntmps45
    go_wp2
    go_ret
    exact ⟨ret_bool (by simp; try omega), HB.out⟩
/-- A row of whole numbers that was made just now. -/
def AllPost (f k : Nat) (w : World) (e : Ending) (w' : World) : Prop :=
  ∃ g, e = .returned (.slice (some ⟨g, 0, none⟩) k k) ∧ w.heap.size ≤ g ∧ g < w'.heap.size ∧ Row .i64 w' g k (fun i => f + i) ∧ Below w.heap.size w w'
set_option maxHeartbeats 2000000 in
theorem pall_any (f k : Nat) (w : World) (hf : f ≤ 1024) (hk : k ≤ 1024) : Calls Tryd.prog 39 #[.agg #[.int .i64 f, .int .i64 k]] w (AllPost f k w) := by
  have hmi := fun W => run_make_row' (P := Tryd.prog) 39 3 (.int .i64 0) 8 Tryd.underlying39 (by kernel_rfl) rfl .i64 .i64 k (by omega) (by omega) W
  have hx := ((Whole.fresh w 77 #[.int .i64 f, .int .i64 k]).alloc (.cells (madeCells #[.int .i64 0] k) 3))
  have hr := Row.fresh (n := k) (Whole.fresh (w.alloc (.cells #[.int .i64 f, .int .i64 k] 77)) 3 (madeCells #[.int .i64 0] k)) (Nat.le_refl _)
  have hb := ((Below.refl w.heap.size w).alloc (Nat.le_refl _) (.cells #[.int .i64 f, .int .i64 k] 77)).alloc (by simp) (.cells (madeCells #[.int .i64 0] k) 3)
  rw [World.size_alloc] at hr
  have HX := Lib.hid hx
  have HR := Lib.hid hr
  have HB := Lib.hid hb
  clear hx hr hb
  go_enter Tryd.func39, Tryd.ntmps39
  go_wp2
  go_loopw [4, 10] (fun _ x wr => ∃ j : Nat, j ≤ k ∧ x = .int .i64 j ∧ Hid (Whole wr w.heap.size 77 #[.int .i64 f, .int .i64 k]) ∧ Hid (Row .i64 wr (w.heap.size + 1) k (fun i => if i < j then f + i else 0)) ∧ Hid (Below w.heap.size w wr ∧ w.heap.size + 1 < wr.heap.size)) (fun _ x _ => k - (intOf x).toNat)
  case atStart => exact ⟨0, Nat.zero_le _, rfl, HX, Lib.hid (HR.out.congr fun i _ => by simp), Lib.hid ⟨HB.out, by simp⟩⟩
  case round =>
    obtain ⟨j, hj, rfl, HW, HRW, HBW⟩ := hrel
    by_cases hlt : j < k
    · have c0 := HW.out.p0
      have t1 := HRW.out.cell j hlt
      have t2 := HRW.out.thaw j hlt
      rw [if_neg (by omega)] at t1
      go_wp2
      go_roundw
      case rel =>
        refine ⟨j + 1, by omega, by go_num, Lib.hid (HW.out.far (by simp) _), Lib.hid ?_, Lib.hid ⟨HBW.out.1.setCell (by simp) _, by simp [World.setCell]; exact HBW.out.2⟩⟩
        have := HRW.out.stored j (f + j)
        rw [show ((f + j : Nat) : Int) = (f : Int) + (j : Int) by omega] at this
        exact this.congr fun i hi => by
          by_cases e : i = j
          · subst e; rw [if_pos rfl, if_pos (by omega)]
          · rw [if_neg e]
            by_cases e2 : i < j
            · rw [if_pos e2, if_pos (by omega)]
            · rw [if_neg e2, if_neg (by omega)]
      case measure => simp [intOf]; omega
    · obtain rfl : j = k := by omega
      go_wp2
      go_ret
      exact ⟨w.heap.size + 1, rfl, by omega, HBW.out.2, HRW.out.congr fun i hi => by rw [if_pos hi], HBW.out.1⟩

/-- How many words a chunk has, by that one cell. -/
theorem words_of {w : World} {s K : Nat} (c2 : w.cell? ⟨s, 0, none⟩ = some (.int .i64 K)) : Calls Tryd.prog 40 #[.pointer (some ⟨s, 0, none⟩)] w fun e w' => e = .returned (.int .i64 K) ∧ w = w' := by
  go_enter Tryd.func40, Tryd.ntmps40
  go_wp2
  go_ret
  exact ⟨rfl, rfl⟩
theorem words_below {w : World} {s K : Nat} (c2 : w.cell? ⟨s, 0, none⟩ = some (.int .i64 K)) : Calls Tryd.prog 40 #[.pointer (some ⟨s, 0, none⟩)] w fun e w' => e = .returned (.int .i64 K) ∧ Below w.heap.size w w' :=
  (words_of c2).mono fun _ _ ⟨e, h⟩ => ⟨e, by subst h; exact Below.refl _ _⟩
set_option maxHeartbeats 1000000 in
theorem address_any {w : World} {p s K : Nat} (h0 : w.cell? ⟨p, 0, none⟩ = some (.pointer (some ⟨s, 0, none⟩))) (h1 : w.cell? ⟨s, 0, none⟩ = some (.int .i64 K)) (f k : Nat) (hf : f ≤ 1024) (hK : K ≤ 1024) : Calls Tryd.prog 50 #[.pointer (some ⟨p, 0, none⟩), .agg #[.int .i64 f, .int .i64 k]] w fun e w' => e = .returned (.int .i64 (f * K : Nat)) ∧ Below w.heap.size w w' := by
  have hM : f * K ≤ 1024 * 1024 := Nat.mul_le_mul hf hK
  have hP : (f : Int) * (K : Int) = ((f * K : Nat) : Int) := by simp
  generalize f * K = M at *
  have hb := (Below.refl w.heap.size w).alloc (Nat.le_refl _) (.cells #[.int .i64 f, .int .i64 k] 77)
  have hX := Whole.fresh w 77 #[.int .i64 f, .int .i64 k]
  have d0 := bcellB hb h0
  have d1 := bcellB hb h1
  have c0 := hX.p0
  have HB := Lib.hid hb
  clear h0 h1 hX hb
  go_enter Tryd.func50, Tryd.ntmps50
  go_wp2_with fail
  obtain ⟨w1, hw1⟩ : ∃ w1, w1 = w.alloc (.cells #[.int .i64 f, .int .i64 k] 77) := ⟨_, rfl⟩
  rw [← hw1] at HB d0 d1 c0 ⊢
  clear hw1
  have q0 : ∀ d os, (grow (redrawn w1 d) os).cell? ⟨w.heap.size, 0, none⟩ = some (.int .i64 f) := fun d os => cell_regrown c0 d os
  have q1 : ∀ d os, (grow (redrawn w1 d) os).cell? ⟨p, 0, none⟩ = some (.pointer (some ⟨s, 0, none⟩)) := fun d os => cell_regrown d0 d os
  have q2 := Lib.hid (fun d os => cell_regrown d1 d os)
  clear c0 d0 d1
  refine wp_region_quiet_below mixedO (by kernel_rfl) ?_
  repeat (quiet_step (first
    | (go_at_call 40; (with_reducible refine Calls.regrown_of (words_below (q2.out _ _))))))
  refine wpQuiet_nil ?_
  intro _ hw'
  obtain ⟨⟨nq, osq⟩, hw''⟩ := hw'
  subst hw''
  have HB2 := Lib.hid (HB.out.trans ((below_regrown w1 nq osq).mono HB.out.size))
  go_wp2
  go_ret
  exact ⟨ret_int (wrapOk _ (by omega) (by omega)), HB2.out⟩

section
variable {w w' : World} {B : SB} {C K : Nat} {own wd : Nat → Nat} {base p o s : Nat} {v : Value} {S : Sp}
set_option maxHeartbeats 1000000 in
theorem room_any (h : SpAt w base p v s o S) (h1 : w.cell? ⟨s, 0, none⟩ = some (.int .i64 K)) (hK : K ≤ 1024) (hf : S.fl ≤ K) : Calls Tryd.prog 18 #[.pointer (some ⟨p, 0, none⟩)] w fun e w' => e = .returned (.int .i64 (room K S : Nat)) ∧ Below w.heap.size w w' := by
  have c0 := h.c0
  have c3 := h.c3
  have c4 := h.c4
  have c5 := h.c5
  obtain ⟨P, ⟨a, b⟩, fl⟩ := S
  simp only at c3 c4 c5 hf
  clear h
  unfold room
  by_cases hz : (a, b) = (0, 0)
  · rw [if_pos hz]
    injection hz with ha hb
    subst ha hb
    go_enter Tryd.func18, Tryd.ntmps18
    go_wp2
    go_ret
    exact ⟨rfl, Below.refl _ _⟩
  · rw [if_neg hz]
    simp only
    have e2 : ((K - fl : Nat) : Int) = (K : Int) - (fl : Int) := by omega
    have e1 := Lib.hid e2
    have hc : a ≠ 0 ∨ (a = 0 ∧ b ≠ 0) := by
      by_cases ha : a = 0
      · exact .inr ⟨ha, fun hb => hz (by rw [ha, hb])⟩
      · exact .inl ha
    clear e2 hz
    have q0 : ∀ d os, (grow (redrawn w d) os).cell? ⟨p, 0, none⟩ = some (.pointer (some ⟨s, 0, none⟩)) := fun d os => cell_regrown c0 d os
    have q1 : ∀ d os, (grow (redrawn w d) os).cell? ⟨p, 5, none⟩ = some (.int .i64 fl) := fun d os => cell_regrown c5 d os
    have q2 := Lib.hid (fun d os => cell_regrown h1 d os)
    have y1 := wrapOk ((K : Int) - (fl : Int)) (by omega) (by omega)
    rcases hc with hc | ⟨rfl, hc⟩
    · have d : ((a : Int) == 0) = false := by simp; exact hc
      go_enter Tryd.func18, Tryd.ntmps18
      go_wp2_with fail
      refine wp_region_quiet_below mixedO (by kernel_rfl) ?_
      repeat (quiet_step (first
        | (go_at_call 40; (with_reducible refine Calls.regrown_of (words_below (q2.out _ _))))))
      refine wpQuiet_nil ?_
      intro _ hw'
      obtain ⟨⟨nq, osq⟩, hw''⟩ := hw'
      subst hw''
      have HB2 := Lib.hid (below_regrown w nq osq)
      go_wp2
      go_ret
      exact ⟨ret_int e1.out.symm, HB2.out⟩
    · have d : ((b : Int) == 0) = false := by simp; exact hc
      go_enter Tryd.func18, Tryd.ntmps18
      go_wp2_with fail
      refine wp_region_quiet_below mixedO (by kernel_rfl) ?_
      repeat (quiet_step (first
        | (go_at_call 40; (with_reducible refine Calls.regrown_of (words_below (q2.out _ _))))))
      refine wpQuiet_nil ?_
      intro _ hw'
      obtain ⟨⟨nq, osq⟩, hw''⟩ := hw'
      subst hw''
      have HB2 := Lib.hid (below_regrown w nq osq)
      go_wp2
      go_ret
      exact ⟨ret_int e1.out.symm, HB2.out⟩
theorem room_nil (w : World) : Calls Tryd.prog 18 #[.pointer none] w fun e w' => e = .returned (.int .i64 0) ∧ Below w.heap.size w w' := by
  go_enter Tryd.func18, Tryd.ntmps18
  go_wp2
  go_ret
  exact ⟨rfl, Below.refl _ _⟩
end
end Go.Proofs.YteencfldehcbbaaDoor
