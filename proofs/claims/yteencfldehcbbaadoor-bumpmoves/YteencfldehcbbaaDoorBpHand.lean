/- Contract of Hand. -/
import Derived.Test.YteencfldehcbbaaDoorBpAlloc
namespace Go.Proofs.YteencfldehcbbaaDoor
open Go.RowKit Go.Sort BP
set_option linter.unusedVariables false

section
variable {w0 w : World} {B : SB} {C K o o' p p' : Nat} {v v' : Value} {D : Dt}
theorem hand_err (q q' : Option Addr) (n E : Int) (hE : E ≠ 0) (w : World) (hm : Calls Tryd.prog 51 #[.pointer q, .pointer q'] w fun e w' => e = .returned (.int .i64 E) ∧ Below w.heap.size w w') :
    Calls Tryd.prog 29 #[.pointer q, .pointer q', .int .i64 n] w fun e w' => e = .returned (.int .i64 E) ∧ Below w.heap.size w w' := by
  have HM := Lib.hid hm
  have d : (E != 0) = true := by simpa using hE
  clear hm hE
  go_enter Tryd.func29, Tryd.ntmps29
  go_wp2_with (first | (go_at_call 51; refine HM.out.mono ?_; rintro e w2 ⟨rfl, hb2⟩; have HB2 := Lib.hid hb2; clear hb2))
  go_ret
  exact ⟨rfl, HB2.out⟩
theorem join_err (q q' : Option Addr) (E : Int) (hE : E ≠ 0) (w : World) (hm : Calls Tryd.prog 51 #[.pointer q, .pointer q'] w fun e w' => e = .returned (.int .i64 E) ∧ Below w.heap.size w w') :
    Calls Tryd.prog 28 #[.pointer q, .pointer q'] w fun e w' => e = .returned (.int .i64 E) ∧ Below w.heap.size w w' := by
  have HM := Lib.hid hm
  have d : (E != 0) = true := by simpa using hE
  clear hm hE
  go_enter Tryd.func28, Tryd.ntmps28
  go_wp2_with (first | (go_at_call 51; refine HM.out.mono ?_; rintro e w2 ⟨rfl, hb2⟩; have HB2 := Lib.hid hb2; clear hb2))
  go_ret
  exact ⟨rfl, HB2.out⟩
theorem Co.may (h : Co w0 w B C K o o' p p' v v' D) : Calls Tryd.prog 51 #[.pointer (some ⟨p, 0, none⟩), .pointer (some ⟨p', 0, none⟩)] w fun e w' => e = .returned (.int .i64 0) ∧ Below w.heap.size w w' :=
  may_ok h.a.c0 h.b.c0 h.ne.symm h.a.box h.b.box
set_option maxHeartbeats 4000000 in
set_option maxRecDepth 100000 in
theorem hand_any (h : Co w0 w B C K o o' p p' v v' D) (hT : Tab w0) (hG : Good2 C K o o' D) (ho2 : o' < 9223372036854775808) (first : Int) :
    Calls Tryd.prog 29 #[.pointer (some ⟨p, 0, none⟩), .pointer (some ⟨p', 0, none⟩), .int .i64 first] w (CoPost2 (.int .i64 (handE D first)) w0 B C K o o' p p' v v' (handD o' D first) w) := by
  have hC := h.held.st.C2
  have hl := hG.a.len
  have hl2 := hG.b.len
  have hfrom := fun (w2 : World) (hb : Below w.heap.size w w2) => from_any (h.later hT hb).a (by omega) first
  have ho1 := hG.o1
  have ho12 := hG.o2
  have HMAY := Lib.hid h.may
  have HH := Lib.hid h
  have HG := Lib.hid hG
  have HF := Lib.hid hfrom
  unfold handE handD
  by_cases hz : (fromP D.S.parts first).2 ≤ 1
  · rw [if_pos hz, if_pos hz]
    generalize hx : fromP D.S.parts first = x at *
    obtain ⟨a, b⟩ := x
    simp only at HF hz ⊢
    have HR := Lib.hid (isRun_any a b)
    rw [show decide (1 < b) = false by simp; omega] at HR
    clear h hG hfrom hx hz
    go_enter Tryd.func29, Tryd.ntmps29
    go_wp2_with (first
      | (go_at_call 51; refine HMAY.out.mono ?_; rintro e w1 ⟨rfl, hb1⟩; have HF1 := Lib.hid (HF.out w1 hb1); have HB1 := Lib.hid hb1; clear hb1)
      | (go_at_call 53; refine HF1.out.mono ?_; rintro e w2 ⟨rfl, hb2⟩; have HB2 := Lib.hid ((HB1.out.trans (hb2.mono HB1.out.size)).alloc (Nat.le_trans HB1.out.size hb2.size) (.cells #[.int .i64 a, .int .i64 b] 77)); clear hb2)
      | (go_at_call 44; refine (HR.out _).mono ?_; rintro e w3 ⟨rfl, hb3⟩; have HB3 := Lib.hid (HB2.out.trans (hb3.mono HB2.out.size)); clear hb3))
    go_ret
    exact ⟨rfl, v, v', HH.out.later hT HB3.out, Turn.of_below HB3.out⟩
  · rw [if_neg hz, if_neg hz]
    rcases from_cases (P := D.S.parts) first with ⟨ez, hfe⟩ | ⟨hmem, hfe⟩
    · rw [ez] at hz; exact absurd (by simp) hz
    · clear hfe
      have hpt := hG.a.part hmem
      have hdis : ∀ c, (fromP D.S.parts first).1 ≤ c → c < (fromP D.S.parts first).1 + (fromP D.S.parts first).2 → D.own c ≠ 0 := fun c h1 h2 => by
        rw [(hG.a.has c (cs_sub hmem (cs_mem.2 ⟨h1, h2⟩))).2]; omega
      generalize hx : fromP D.S.parts first = x at *
      obtain ⟨a, b⟩ := x
      simp only at HF hpt hdis hz ⊢
      have HPT := Lib.hid hpt
      have HDS := Lib.hid hdis
      have hall : ∀ x ∈ D.S.parts, x.1 ≤ 1024 := fun x hx => by have := hG.a.part hx; omega
      have HALL := Lib.hid hall
      have HR := Lib.hid (isRun_any a b)
      rw [show decide (1 < b) = true by simp; omega] at HR
      clear h hG hfrom hx hmem hpt hdis hall hz
      go_enter Tryd.func29, Tryd.ntmps29
      go_wp2_with (first
        | (go_at_call 51; refine HMAY.out.mono ?_; rintro e w1 ⟨rfl, hb1⟩; have HF1 := Lib.hid (HF.out w1 hb1); have HB1 := Lib.hid hb1; clear hb1)
        | (go_at_call 53; refine HF1.out.mono ?_; rintro e w2 ⟨rfl, hb2⟩; have hb2' := HB1.out.trans (hb2.mono HB1.out.size); have HB2 := Lib.hid (hb2'.alloc hb2'.size (.cells #[.int .i64 a, .int .i64 b] 77)); have HC2 := Lib.hid (HH.out.later hT HB2.out); have HX2 := Lib.hid (Whole.fresh w2 77 #[.int .i64 a, .int .i64 b]); have HNF := Lib.hid (show w2.heap.size ∉ coF B p p' v v' from fun hx => by have := (HH.out.win _ hx).2; have := hb2'.size; omega); clear hb2 hb2')
        | (go_at_call 44; refine (HR.out _).mono ?_; rintro e w3 ⟨rfl, hb3⟩; have HB3 := Lib.hid hb3; have HM := Lib.hid (remove_any (HC2.out.later hT hb3) hT (by omega) HALL.out a b); have hx3 := HX2.out.below hb3 HX2.out.lt; have HX3 := Lib.hid hx3; have x0 := hx3.p0; have x1 := hx3.p1; clear hb3 hx3)
        | (go_at_call 54; refine HM.out.mono ?_; rintro e w4 ⟨rfl, u, hc4, ht4⟩; have hxw := ht4.aft.whole HX3.out HNF.out; have y0 := hxw.p0; have y1 := hxw.p1; have HC4 := Lib.hid hc4; have HT4 := Lib.hid ht4; have HL := Lib.hid (add_any hc4.swap hT a b HPT.out.2 ho12 ho2 (by show D.T.parts.length ≤ 5000; omega) HDS.out); clear hc4 ht4 hxw)
        | (go_at_call 52; refine HL.out.mono ?_; rintro e w5 hp5; obtain ⟨rfl, u5, hc5, ht5⟩ := hp5; have HC5 := Lib.hid hc5; have HT5 := Lib.hid ht5; clear hc5 ht5))
      go_ret
      exact ⟨rfl, u, u5, HC5.out.swap, (((Turn.of_below HB2.out).trans (Turn.of_below HB3.out)).trans HT4.out).trans (turn_swap HT5.out)⟩
end
end Go.Proofs.YteencfldehcbbaaDoor
