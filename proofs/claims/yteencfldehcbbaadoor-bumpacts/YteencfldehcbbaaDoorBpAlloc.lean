/- Contract of Alloc. -/
import Derived.Test.YteencfldehcbbaaDoorBpTake
namespace Go.Proofs.YteencfldehcbbaaDoor
open Go.RowKit Go.Sort BP
set_option linter.unusedVariables false

section
variable {w0 w : World} {B : SB} {C K o o' p p' : Nat} {v v' : Value} {D : Dt}
theorem alloc_nil (w : World) (n : Int) : Calls Tryd.prog 26 #[.pointer none, .int .i64 n] w fun e w' => e = .returned (.tuple #[.int .i64 0, .int .i64 1]) ∧ Below w.heap.size w w' := by
  go_enter Tryd.func26, Tryd.ntmps26
  go_wp2
  go_ret2
  exact ⟨rfl, Below.refl _ _⟩
theorem alloc_arg (h : Co w0 w B C K o o' p p' v v' D) (n : Int) (hn : n < 1) : Calls Tryd.prog 26 #[.pointer (some ⟨p, 0, none⟩), .int .i64 n] w (CoPost (.tuple #[.int .i64 0, .int .i64 2]) w0 B C K o o' p p' v v' D w) := by
  have HH := Lib.hid h
  clear h
  have d : decide (n < 1) = true := by simpa using hn
  clear hn
  go_enter Tryd.func26, Tryd.ntmps26
  go_wp2
  go_ret2
  exact ⟨rfl, v, HH.out, Turn.refl _ _⟩
/-- It is longer than a chunk. -/
theorem alloc_run (h : Co w0 w B C K o o' p p' v v' D) (m : Nat) (hm : 1 ≤ m) (hK : K < m) {val : Value} {D' : Dt} {x : Nat} {E : Int} (hv : val = .tuple #[.int .i64 (x : Nat), .int .i64 E]) (HR : Hid (Calls Tryd.prog 48 #[.pointer (some ⟨p, 0, none⟩), .int .i64 (m : Nat)] w (CoPost val w0 B C K o o' p p' v v' D' w))) :
    Calls Tryd.prog 26 #[.pointer (some ⟨p, 0, none⟩), .int .i64 (m : Nat)] w (CoPost val w0 B C K o o' p p' v v' D' w) := by
  subst hv
  have FW := Lib.hid (words_of h.held.st.size)
  have p0 := h.a.c0
  clear h
  go_enter Tryd.func26, Tryd.ntmps26
  go_wp2_with (first
    | (go_at_call 40; refine FW.out.mono ?_; rintro e w' ⟨rfl, rfl⟩)
    | (go_at_call 48; refine HR.out.mono ?_; rintro e w2 ⟨rfl, hp2⟩; have HP2 := Lib.hid hp2; clear hp2))
  go_ret2
  exact ⟨rfl, HP2.out⟩
set_option maxHeartbeats 4000000 in
set_option maxRecDepth 100000 in
/-- It fits. -/
theorem alloc_fit (h : Co w0 w B C K o o' p p' v v' D) (hT : Tab w0) (hG : BP.Good C K o D.own D.S) (m : Nat) (hm : 1 ≤ m) (hr : m ≤ room K D.S) :
    Calls Tryd.prog 26 #[.pointer (some ⟨p, 0, none⟩), .int .i64 (m : Nat)] w (CoPost (.tuple #[.int .i64 (D.S.pr.1 * K + D.S.fl : Nat), .int .i64 0]) w0 B C K o o' p p' v v' ⟨D.own, D.wd, ⟨D.S.parts, D.S.pr, D.S.fl + m⟩, D.T⟩ w) := by
  have hK2 := h.held.st.K2
  have hC2 := h.held.st.C2
  have hfl := hG.fl
  have hrm := room_any h.a h.held.st.size hK2 hfl
  have FW := Lib.hid (words_of h.held.st.size)
  have p0 := h.a.c0
  have HH := Lib.hid h
  obtain ⟨own, wd, ⟨P, ⟨a, b⟩, fl⟩, T⟩ := D
  simp only at HH hrm hr hfl hG ⊢
  have ha : a ≤ 1024 ∧ m ≤ K - fl := by
    unfold room at hr
    split at hr
    · omega
    · rename_i hz
      rcases hG.prlt.2 with e | e
      · exact absurd e hz
      · exact ⟨by simp at e; omega, hr⟩
  have hmk : m ≤ K := by omega
  have haK : a * K ≤ 1024 * 1024 := Nat.mul_le_mul ha.1 hK2
  have haKe : ((a * K : Nat) : Int) = (a : Int) * (K : Int) := by simp
  generalize hR : room K ⟨P, (a, b), fl⟩ = R at *
  have HA := Lib.hid ha.1
  have HK := Lib.hid hK2
  have HRM := Lib.hid hrm
  clear h hG hrm hR
  go_enter Tryd.func26, Tryd.ntmps26
  go_wp2_with (first
    | (go_at_call 40; refine FW.out.mono ?_; rintro e w' ⟨rfl, rfl⟩)
    | (go_at_call 18; refine HRM.out.mono ?_; rintro e w2 ⟨rfl, hb2⟩; have HC2 := Lib.hid (HH.out.later hT hb2); have HB2 := Lib.hid hb2; clear hb2))
  have q0 : ∀ d os, (grow (redrawn w2 d) os).cell? ⟨p, 3, none⟩ = some (.int .i64 (a : Nat)) := fun d os => cell_regrown HC2.out.a.c3 d os
  have q1 : ∀ d os, (grow (redrawn w2 d) os).cell? ⟨p, 4, none⟩ = some (.int .i64 (b : Nat)) := fun d os => cell_regrown HC2.out.a.c4 d os
  have q2 : ∀ d os, (grow (redrawn w2 d) os).cell? ⟨p, 5, none⟩ = some (.int .i64 (fl : Nat)) := fun d os => cell_regrown HC2.out.a.c5 d os
  have QA := Lib.hid (fun d os => address_any (cell_regrown HC2.out.a.c0 d os) (cell_regrown HC2.out.held.st.size d os) a b HA.out HK.out)
  refine wp_region_quiet_below mixedO (by kernel_rfl) ?_
  repeat (quiet_step (first
    | (go_at_call 50; (with_reducible refine Calls.regrown_of (QA.out _ _)))))
  refine wpQuiet_nil ?_
  intro _ hw'
  obtain ⟨⟨nq, osq⟩, hw''⟩ := hw'
  subst hw''
  have hb9 := below_regrown w2 nq osq
  have HB9 := Lib.hid hb9
  have hc9 := HC2.out.later hT hb9
  have z5 := hc9.a.c5
  have zf := hc9.a.box.free 5
  have HC9 := Lib.hid hc9
  generalize grow (redrawn w2 nq) osq = w9 at *
  clear q0 q1 q2 QA hb9 hc9
  have y8 := wrapOk (((a : Nat) : Int) * (K : Int)) (by omega) (by omega)
  go_wp2
  go_ret2
  have hd := HC9.out.done hT (a := a) (b := b) (fl := fl + m) (Aft.refl _ _) HC9.out.a.row (fun g hg => .inl hg) ((OnlyAt.refl p _).setCell 5 _) (HC9.out.a.box.set 5 (.int .i64 ((fl + m : Nat) : Int)))
  rw [show ((fl + m : Nat) : Int) = (fl : Int) + (m : Int) by omega] at hd
  refine ⟨?_, v, hd.1, (Turn.of_below (HB2.out.trans (HB9.out.mono HB2.out.size))).trans hd.2⟩
  show Ending.returned (.tuple #[.int .i64 (IntKind.i64.wrap ((a : Int) * (K : Int) + (fl : Int))), .int .i64 0]) = _
  rw [wrapOk _ (by omega) (by omega)]
set_option maxHeartbeats 4000000 in
/-- No chunk is free. -/
theorem alloc_no (h : Co w0 w B C K o o' p p' v v' D) (hT : Tab w0) (hfl : D.S.fl ≤ K) (ho2 : o < 9223372036854775808) (m : Nat) (hm : 1 ≤ m) (hmk : m ≤ K) (hr : room K D.S < m) (hE : tkE D.own C o 1 ≠ 0) :
    Calls Tryd.prog 26 #[.pointer (some ⟨p, 0, none⟩), .int .i64 (m : Nat)] w (CoPost (.tuple #[.int .i64 0, .int .i64 (tkE D.own C o 1)]) w0 B C K o o' p p' v v' D w) := by
  have hrm := room_any h.a h.held.st.size h.held.st.K2 hfl
  have FW := Lib.hid (words_of h.held.st.size)
  have p0 := h.a.c0
  have HH := Lib.hid h
  have HTC := Lib.hid (fun w2 (hb : Below w.heap.size w w2) => takeChunk_no (h.later hT hb) hT ho2 hE)
  generalize hR : room K D.S = R at *
  generalize tkE D.own C o 1 = E at *
  have d : (E != 0) = true := by simpa using hE
  have HRM := Lib.hid hrm
  clear h hrm hR hE
  go_enter Tryd.func26, Tryd.ntmps26
  go_wp2_with (first
    | (go_at_call 40; refine FW.out.mono ?_; rintro e w' ⟨rfl, rfl⟩)
    | (go_at_call 18; refine HRM.out.mono ?_; rintro e w2 ⟨rfl, hb2⟩; have HC2 := Lib.hid (HTC.out w2 hb2); have HB2 := Lib.hid hb2; clear hb2)
    | (go_at_call 49; refine HC2.out.mono ?_; rintro e w3 ⟨rfl, hp3⟩; have HP3 := Lib.hid hp3; clear hp3))
  go_ret2
  obtain ⟨u, hc, ht⟩ := HP3.out
  exact ⟨rfl, u, hc, (Turn.of_below HB2.out).trans ht⟩
set_option maxHeartbeats 4000000 in
set_option maxRecDepth 100000 in
/-- A chunk more. -/
theorem alloc_one (h : Co w0 w B C K o o' p p' v v' D) (hT : Tab w0) (hfl : D.S.fl ≤ K) (hlen : D.S.parts.length ≤ 5000) (ho2 : o < 9223372036854775808) (m : Nat) (hm : 1 ≤ m) (hmk : m ≤ K) (hr : room K D.S < m) (hE : tkE D.own C o 1 = 0) :
    Calls Tryd.prog 26 #[.pointer (some ⟨p, 0, none⟩), .int .i64 (m : Nat)] w (CoPost (.tuple #[.int .i64 (tkP D.own C o 1 * K : Nat), .int .i64 0]) w0 B C K o o' p p' v v' ⟨tkOwnA D.own C o 1, tkWdA D.own D.wd C K o 1, ⟨D.S.parts ++ [(tkP D.own C o 1, 1)], (tkP D.own C o 1, 1), m⟩, D.T⟩ w) := by
  have hK2 := h.held.st.K2
  have hC2 := h.held.st.C2
  have hrm := room_any h.a h.held.st.size hK2 hfl
  have FW := Lib.hid (words_of h.held.st.size)
  have p0 := h.a.c0
  have HH := Lib.hid h
  have hcle : tkP D.own C o 1 ≤ 1024 := by have := (tk_parts (k := 1) hE).2.2.1; simp at this; omega
  have HTC := Lib.hid (fun w2 (hb : Below w.heap.size w w2) => takeChunk_ok (h.later hT hb) hT ho2 hlen hE)
  generalize tkP D.own C o 1 = c at *
  generalize tkOwnA D.own C o 1 = own2 at *
  generalize tkWdA D.own D.wd C K o 1 = wd2 at *
  have haK : c * K ≤ 1024 * 1024 := Nat.mul_le_mul hcle hK2
  have haKe : ((c * K : Nat) : Int) = (c : Int) * (K : Int) := by simp
  generalize hR : room K D.S = R at *
  have HA := Lib.hid hcle
  have HK := Lib.hid hK2
  have HRM := Lib.hid hrm
  clear h hrm hR hE
  go_enter Tryd.func26, Tryd.ntmps26
  go_wp2_with (first
    | (go_at_call 40; refine FW.out.mono ?_; rintro e w' ⟨rfl, rfl⟩)
    | (go_at_call 18; refine HRM.out.mono ?_; rintro e w2 ⟨rfl, hb2⟩; have HC2 := Lib.hid (HTC.out w2 hb2); have HB2 := Lib.hid hb2; clear hb2)
    | (go_at_call 49; refine HC2.out.mono ?_; rintro e w3 ⟨rfl, u, hc3, ht3⟩; have HC3 := Lib.hid hc3; have HT3 := Lib.hid ht3; clear hc3 ht3))
  have q0 : ∀ d os, (grow (redrawn w3 d) os).cell? ⟨p, 3, none⟩ = some (.int .i64 (c : Nat)) := fun d os => cell_regrown HC3.out.a.c3 d os
  have q1 : ∀ d os, (grow (redrawn w3 d) os).cell? ⟨p, 4, none⟩ = some (.int .i64 (1 : Nat)) := fun d os => cell_regrown HC3.out.a.c4 d os
  have q2 : ∀ d os, (grow (redrawn w3 d) os).cell? ⟨p, 5, none⟩ = some (.int .i64 (0 : Nat)) := fun d os => cell_regrown HC3.out.a.c5 d os
  have QA := Lib.hid (fun d os => address_any (cell_regrown HC3.out.a.c0 d os) (cell_regrown HC3.out.held.st.size d os) c 1 HA.out HK.out)
  refine wp_region_quiet_below mixedO (by kernel_rfl) ?_
  repeat (quiet_step (first
    | (go_at_call 50; (with_reducible refine Calls.regrown_of (QA.out _ _)))))
  refine wpQuiet_nil ?_
  intro _ hw'
  obtain ⟨⟨nq, osq⟩, hw''⟩ := hw'
  subst hw''
  have hb9 := below_regrown w3 nq osq
  have HB9 := Lib.hid hb9
  have hc9 := HC3.out.later hT hb9
  have z5 := hc9.a.c5
  have zf := hc9.a.box.free 5
  have HC9 := Lib.hid hc9
  generalize grow (redrawn w3 nq) osq = w9 at *
  clear q0 q1 q2 QA hb9 hc9
  have y8 := wrapOk (((c : Nat) : Int) * (K : Int)) (by omega) (by omega)
  go_wp2
  go_ret2
  have hd := HC9.out.done hT (a := c) (b := 1) (fl := 0 + m) (Aft.refl _ _) HC9.out.a.row (fun g hg => .inl hg) ((OnlyAt.refl p _).setCell 5 _) (HC9.out.a.box.set 5 (.int .i64 ((0 + m : Nat) : Int)))
  rw [show ((0 + m : Nat) : Int) = (m : Int) by omega] at hd
  refine ⟨?_, u, ?_, (Turn.of_below HB2.out).trans ((HT3.out.trans (Turn.of_below HB9.out)).trans hd.2)⟩
  · rfl
  · rw [Nat.zero_add] at hd
    exact hd.1
/-- Alloc, whatever comes. -/
theorem alloc_any (h : Co w0 w B C K o o' p p' v v' D) (hT : Tab w0) (hG : Good2 C K o o' D) (ho2 : o < 9223372036854775808) (n : Int) (hn : n ≤ 9223372036854775807) :
    Calls Tryd.prog 26 #[.pointer (some ⟨p, 0, none⟩), .int .i64 n] w (CoPost (.tuple #[.int .i64 (alA C K o D n : Nat), .int .i64 (alE C K o D n)]) w0 B C K o o' p p' v v' (alD C K o D n) w) := by
  have hK1 := h.held.st.K1
  have hC2 := h.held.st.C2
  have hl := hG.a.len
  unfold alA alE alD
  by_cases h1 : n < 1
  · rw [if_pos h1, if_pos h1, if_pos h1]
    exact alloc_arg h n h1
  · rw [if_neg h1, if_neg h1, if_neg h1]
    obtain ⟨m, rfl⟩ := Int.eq_ofNat_of_zero_le (show 0 ≤ n by omega)
    rw [Int.toNat_natCast]
    by_cases h2 : m ≤ room K D.S
    · rw [if_pos h2, if_pos h2, if_pos h2]
      exact alloc_fit h hT hG.a m (by omega) h2
    · rw [if_neg h2, if_neg h2, if_neg h2]
      by_cases h3 : m ≤ K
      · have hone := (need_one hK1 (show 1 ≤ m by omega)).2 h3
        rw [hone]
        by_cases h4 : tkE D.own C o ((1 : Nat) : Int) = 0
        · rw [if_pos h4, if_pos rfl, if_pos rfl, h4]
          exact alloc_one h hT hG.a.fl (by omega) ho2 m (by omega) h3 (by omega) h4
        · rw [if_neg h4, (tk_no (K := K) (wd := D.wd) h4).2.2, Nat.zero_mul]
          exact alloc_no h hT hG.a.fl ho2 m (by omega) h3 (by omega) h4
      · by_cases h4 : tkE D.own C o (need K m : Nat) = 0
        · have hne : need K m ≠ 1 := fun e => h3 ((need_one hK1 (by omega)).1 e)
          rw [if_pos h4, if_neg hne, if_neg hne, h4]
          exact alloc_run h m (by omega) (by omega) rfl (Lib.hid (takeRun_ok h hT ho2 (by omega) m (by omega) (by omega) h4))
        · rw [if_neg h4, (tk_no (K := K) (wd := D.wd) h4).2.2, Nat.zero_mul]
          exact alloc_run h m (by omega) (by omega) (x := 0) rfl (Lib.hid (takeRun_no h hT ho2 m (by omega) (by omega) h4))
end
end Go.Proofs.YteencfldehcbbaaDoor
