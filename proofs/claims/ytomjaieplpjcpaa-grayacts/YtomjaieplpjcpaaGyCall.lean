/- Contracts of Put, Again, Next, Paint, for every list and for none. -/
import Derived.Test.YtomjaieplpjcpaaGyTurn
namespace Go.Proofs.Ytomjaieplpjcpaa
open Go.RowKit Go.Lib Go.Sort Go.Maps

section
variable {w w' : World} {base b m e : Nat} {P : Int → Nat} {bf bh : Nat → Nat} {s : GY.S} {x : Int}
/-- What is left by a call that turns a list. -/
def GyE (base b : Nat) (s : GY.S) (v : Value) (w : World) (e : Ending) (w' : World) : Prop := e = .returned v ∧ Gy w' base b s ∧ Gt base w w'
theorem gadd_gy (h : GyAt w base b m e P bf bh s) (hc : GY.col s x = 0) (hx : I64 x) (hn : GY.num s < 1000000) :
    Calls Try.prog 29 #[pv b, .int .i64 x] w fun ex w' => ∃ P', ex = .returned (pv (P' x)) ∧ GyAdd w' base b m e P' bf bh s x ∧ Gt base w w' := by
  refine (gadd_any h.ring.box rfl h.map hx hn).mono ?_
  rintro ex w' ⟨rfl, h1, h2, h3⟩
  have h4 := h.added hc hx h1 h2 h3
  exact ⟨_, by rw [if_pos rfl], h4.1, h4.2⟩
theorem gwait_new (h : GyAdd w base b m e P bf bh s x) (hn : GY.num s ≤ 1000000) : Calls Try.prog 28 #[pv b, pv (P x)] w (GyE base b (GY.put s x) (.tuple #[]) w) := by
  refine (gwait_any h.ring h.node (GY.no_col h.col).1 h.off (by unfold GY.num at hn; omega)).mono ?_
  rintro ex w' ⟨rfl, ⟨bf', bh', h1⟩, h2⟩
  exact ⟨rfl, h.waits h1 h2⟩
theorem gwait_again (h : GyAt w base b m e P bf bh s) (hc : GY.col s x = 2) (hn : GY.num s ≤ 1000000) : Calls Try.prog 28 #[pv b, pv (P x)] w (GyE base b (GY.again s x) (.tuple #[]) w) := by
  obtain ⟨p, q, hd⟩ := h.done x (GY.d_col hc).1
  refine (gwait_any h.ring hd (GY.d_col hc).2 (thing_ne hd h.ring.ends (.inr (by decide))) (by unfold GY.num at hn; omega)).mono ?_
  rintro ex w' ⟨rfl, ⟨bf', bh', h1⟩, h2⟩
  exact ⟨rfl, h.waits hc h1 h2⟩
theorem gleave_gy (h : GyAt w base b m e P bf bh s) (hx : x ∈ s.W) (hn : GY.num s ≤ 1000000) : Calls Try.prog 27 #[pv b, pv (P x)] w fun ex w' => ex = .returned (.tuple #[]) ∧ Gy w' base b (GY.paint s x) ∧ Gt base w w' ∧ w'.cell? ⟨P x, 0, none⟩ = some (.int .i64 x) := by
  refine (gleave_any h.ring hx (by unfold GY.num at hn; omega)).mono ?_
  rintro ex w' ⟨rfl, ⟨bf', bh', h1⟩, h2, h3⟩
  have h4 := h.leaves hx h1 h2 h3
  exact ⟨rfl, h4.1, h4.2, by rw [h2.cell]; rfl⟩
theorem GyAt.c0 (h : GyAt w base b m e P bf bh s) : w.cell? ⟨b, 0, none⟩ = some (.map (some m)) := by rw [h.ring.box.cell]; rfl
theorem GyAt.c1 (h : GyAt w base b m e P bf bh s) : w.cell? ⟨b, 1, none⟩ = some (pv e) := by rw [h.ring.box.cell]; rfl

theorem gagain_any (h : Gy w base b s) (hx : I64 x) (hn : GY.num s ≤ 1000000) : Calls Try.prog 12 #[pv b, .int .i64 x] w (GyE base b (GY.again s x) (.bool (decide (GY.col s x = 2))) w) := by
  have HC := Lib.hid (gcolor_any h hx)
  obtain ⟨m, e, P, bf, bh, h⟩ := h
  by_cases hc : GY.col s x = 2
  · have HW := Lib.hid (gwait_again h hc hn)
    have hl := h.look_yes hx (by rw [hc]; decide)
    have c0 := h.c0
    rw [hc] at HC
    rw [decide_eq_true hc]
    clear h hc hn hx
    generalize P x = g at hl HW
    go_enter Try.func12, Try.ntmps12
    go_wp2_with fail
    refine HC.out.mono ?_
    rintro ex w1 ⟨rfl, rfl⟩
    clear HC
    go_wp2_with fail
    refine HW.out.mono ?_
    rintro ex w2 ⟨rfl, h1, h2⟩
    go_wp2
    go_ret
    exact ⟨rfl, h1, h2⟩
  · have hd : decide (((GY.col s x : Nat) : Int) = 2) = false := decide_eq_false (by omega)
    have hd2 : ((((GY.col s x : Nat) : Int) != 2) : Bool) = true := by simp; omega
    have HG : Hid (Gy w base b s) := Lib.hid ⟨m, e, P, bf, bh, h⟩
    rw [decide_eq_false hc, GY.again_no hc]
    clear h hn hx
    obtain ⟨c, hce⟩ : ∃ c : Int, c = ((GY.col s x : Nat) : Int) := ⟨_, rfl⟩
    rw [← hce] at HC hd hd2
    clear hce hc
    go_enter Try.func12, Try.ntmps12
    go_wp2_with fail
    refine HC.out.mono ?_
    rintro ex w1 ⟨rfl, rfl⟩
    clear HC
    go_wp2
    go_ret
    exact ⟨rfl, HG.out, Gt.refl _ _⟩
theorem gagain_nil (w : World) (x : Int) : Calls Try.prog 12 #[.pointer none, .int .i64 x] w fun e w' => e = .returned (.bool false) ∧ w = w' := by
  have HC := Lib.hid (gcolor_nil w x)
  go_enter Try.func12, Try.ntmps12
  go_wp2_with fail
  refine HC.out.mono ?_
  rintro ex w1 ⟨rfl, rfl⟩
  clear HC
  go_wp2
  go_ret
  exact ⟨rfl, rfl⟩

theorem gnext_any (h : Gy w base b s) (hn : GY.num s ≤ 1000000) : Calls Try.prog 8 #[pv b] w (GyE base b (GY.next s) (.tuple #[.int .i64 (GY.hd s), .bool (decide (s.W ≠ []))]) w) := by
  have HL := Lib.hid (glen_any h)
  have HG := Lib.hid h
  obtain ⟨m, e, P, bf, bh, h⟩ := h
  cases hW : s.W with
  | nil =>
    rw [hW] at HL
    rw [GY.next_nil hW, GY.hd_nil hW]
    clear h hn hW
    go_enter Try.func8, Try.ntmps8
    go_wp2_with fail
    refine HL.out.mono ?_
    rintro ex w1 ⟨rfl, rfl⟩
    clear HL
    go_wp2
    go_ret2
    exact ⟨rfl, HG.out, Gt.refl _ _⟩
  | cons x r =>
    have hx : x ∈ s.W := by rw [hW]; exact List.mem_cons_self
    have HV := Lib.hid (gleave_gy h hx hn)
    rw [← GY.next_paint h.good hW] at HV
    have hr := h.ring.ring
    rw [hW] at hr HL
    have hbe : bh e = P x := hr.1
    have c1 := h.c1
    have e3 : w.cell? ⟨e, 3, none⟩ = some (pv (bh e)) := by rw [h.ring.ends.cell]; rfl
    rw [hbe] at e3
    rw [GY.hd_cons hW]
    rw [List.length_cons] at HL
    have hz : decide (((r.length + 1 : Nat) : Int) = 0) = false := decide_eq_false (by omega)
    have hz2 : ((((r.length + 1 : Nat) : Int) == 0) : Bool) = false := by simp; omega
    obtain ⟨n, hne⟩ : ∃ n : Int, n = ((r.length + 1 : Nat) : Int) := ⟨_, rfl⟩
    rw [← hne] at HL hz hz2
    clear h hn hW hr hbe HG hx hne
    generalize P x = g at e3 HV
    go_enter Try.func8, Try.ntmps8
    go_wp2_with fail
    refine HL.out.mono ?_
    rintro ex w1 ⟨rfl, rfl⟩
    clear HL
    go_wp2_with fail
    refine HV.out.mono ?_
    rintro ex w2 ⟨rfl, h1, h2, h3⟩
    clear HV
    go_wp2
    go_ret2
    exact ⟨rfl, h1, h2⟩
theorem gnext_nil (w : World) : Calls Try.prog 8 #[.pointer none] w fun e w' => e = .returned (.tuple #[.int .i64 0, .bool false]) ∧ w = w' := by
  have HL := Lib.hid (glen_nil w)
  go_enter Try.func8, Try.ntmps8
  go_wp2_with fail
  refine HL.out.mono ?_
  rintro ex w1 ⟨rfl, rfl⟩
  clear HL
  go_wp2
  go_ret2
  exact ⟨rfl, rfl⟩

theorem gpaint_any (h : Gy w base b s) (hx : I64 x) (hn : GY.num s < 1000000) : Calls Try.prog 16 #[pv b, .int .i64 x] w (GyE base b (GY.paint s x) (.bool (decide (GY.col s x ≠ 2))) w) := by
  have HC := Lib.hid (gcolor_any h hx)
  have HG := Lib.hid h
  obtain ⟨m, e, P, bf, bh, h⟩ := h
  rcases GY.col_lt s x with hc | hc | hc
  · have HA := Lib.hid (gadd_gy h hc hx hn)
    rw [hc] at HC
    rw [decide_eq_true (show GY.col s x ≠ 2 by rw [hc]; decide)]
    clear h hn hx hc
    go_enter Try.func16, Try.ntmps16
    go_wp2_with fail
    refine HC.out.mono ?_
    rintro ex w1 ⟨rfl, rfl⟩
    clear HC
    go_wp2_with fail
    refine HA.out.mono ?_
    rintro ex w1 ⟨P', rfl, h1, h2⟩
    have d1 : w1.cell? ⟨P' x, 1, none⟩ = some (.int .i64 0) := by rw [h1.node.cell]; rfl
    have f1 := h1.node.free 1
    have h3 := h1.paints
    have HE := Lib.hid (show Gy _ base b _ ∧ Gt base w _ from ⟨h3.1, h2.trans h3.2⟩)
    clear HA h1 h2 h3
    generalize P' x = g at d1 f1 HE
    go_wp2
    go_ret
    exact ⟨rfl, HE.out.1, HE.out.2⟩
  · have HV := Lib.hid (gleave_gy h (GY.w_col hc) (by omega))
    have hl := h.look_yes hx (by rw [hc]; decide)
    have c0 := h.c0
    rw [hc] at HC
    rw [decide_eq_true (show GY.col s x ≠ 2 by rw [hc]; decide)]
    clear h hn hx hc
    generalize P x = g at hl HV
    go_enter Try.func16, Try.ntmps16
    go_wp2_with fail
    refine HC.out.mono ?_
    rintro ex w1 ⟨rfl, rfl⟩
    clear HC
    go_wp2_with fail
    refine HV.out.mono ?_
    rintro ex w1 ⟨rfl, h1, h2, _⟩
    go_wp2
    go_ret
    exact ⟨rfl, h1, h2⟩
  · rw [hc] at HC
    rw [decide_eq_false (show ¬ GY.col s x ≠ 2 by rw [hc]; decide), GY.paint_2 hc]
    clear h hn hx hc
    go_enter Try.func16, Try.ntmps16
    go_wp2_with fail
    refine HC.out.mono ?_
    rintro ex w1 ⟨rfl, rfl⟩
    clear HC
    go_wp2
    go_ret
    exact ⟨rfl, HG.out, Gt.refl _ _⟩
theorem gpaint_nil (w : World) (x : Int) : Calls Try.prog 16 #[.pointer none, .int .i64 x] w fun e w' => e = .returned (.bool false) ∧ w = w' := by
  go_enter Try.func16, Try.ntmps16
  go_wp2
  go_ret
  exact ⟨rfl, rfl⟩
theorem gput_nil (w : World) (v : Value) : Calls Try.prog 11 #[.pointer none, v] w fun e w' => e = .returned (.int .i64 0) ∧ w = w' := by
  go_enter Try.func11, Try.ntmps11
  go_wp2
  go_ret
  exact ⟨rfl, rfl⟩
end
end Go.Proofs.Ytomjaieplpjcpaa
