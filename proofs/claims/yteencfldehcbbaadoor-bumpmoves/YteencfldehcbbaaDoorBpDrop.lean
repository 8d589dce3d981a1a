/- Contract of Drop. -/
import Derived.Test.YteencfldehcbbaaDoorBpAlloc
namespace Go.Proofs.YteencfldehcbbaaDoor
open Go.RowKit Go.Sort BP
set_option linter.unusedVariables false

section
variable {w0 w : World} {B : SB} {C K o o' p p' : Nat} {v v' : Value} {D : Dt}
theorem drop_nil (w : World) (n : Int) : Calls Tryd.prog 30 #[.pointer none, .int .i64 n] w fun e w' => e = .returned (.int .i64 1) ∧ Below w.heap.size w w' := by
  go_enter Tryd.func30, Tryd.ntmps30
  go_wp2
  go_ret
  exact ⟨rfl, Below.refl _ _⟩
set_option maxHeartbeats 4000000 in
set_option maxRecDepth 100000 in
theorem drop_any (h : Co w0 w B C K o o' p p' v v' D) (hT : Tab w0) (hG : BP.Good C K o D.own D.S) (ho1 : 1 ≤ o) (first : Int) :
    Calls Tryd.prog 30 #[.pointer (some ⟨p, 0, none⟩), .int .i64 first] w (CoPost (.int .i64 (dropE D first)) w0 B C K o o' p p' v v' (dropD D first) w) := by
  have hC := h.held.st.C2
  have hl := hG.len
  have hfrom := from_any h.a (by omega) first
  have HH := Lib.hid h
  have HG := Lib.hid hG
  have HF := Lib.hid hfrom
  unfold dropE dropD
  rcases from_cases (P := D.S.parts) first with ⟨ez, hfe⟩ | ⟨hmem, hfe⟩
  · rw [ez] at HF
    simp only at HF
    rw [ez, if_pos rfl, if_pos rfl]
    clear h hG hfrom ez hfe
    go_enter Tryd.func30, Tryd.ntmps30
    go_wp2_with (first | (go_at_call 53; refine HF.out.mono ?_; rintro e w2 ⟨rfl, hb2⟩; have HB2 := Lib.hid hb2; clear hb2))
    go_ret
    have hb3 := HB2.out.alloc HB2.out.size (.cells #[.int .i64 ((0 : Nat) : Int), .int .i64 ((0 : Nat) : Int)] 77)
    exact ⟨rfl, v, HH.out.later hT hb3, Turn.of_below hb3⟩
  · clear hfe
    have hpt := hG.part hmem
    have hnz : fromP D.S.parts first ≠ (0, 0) := fun e => by rw [e] at hpt; simp at hpt
    rw [if_neg hnz, if_neg hnz]
    have hdis : ∀ c, (fromP D.S.parts first).1 ≤ c → c < (fromP D.S.parts first).1 + (fromP D.S.parts first).2 → D.own c ≠ 0 := fun c h1 h2 => by
      rw [(hG.has c (cs_sub hmem (cs_mem.2 ⟨h1, h2⟩))).2]; omega
    generalize hx : fromP D.S.parts first = x at *
    obtain ⟨a, b⟩ := x
    simp only at HF hpt hdis ⊢
    have hb0 : ((b : Int) == 0) = false := by simp; omega
    have HPT := Lib.hid hpt
    have HDS := Lib.hid hdis
    have hall : ∀ x ∈ D.S.parts, x.1 ≤ 1024 := fun x hx => by have := hG.part hx; omega
    have HALL := Lib.hid hall
    clear h hG hfrom hx hmem hnz hpt hdis hall
    all_goals
      go_enter Tryd.func30, Tryd.ntmps30
      go_wp2_with (first
        | (go_at_call 53; refine HF.out.mono ?_; rintro e w2 ⟨rfl, hb2⟩; have hb3 := hb2.alloc hb2.size (.cells #[.int .i64 a, .int .i64 b] 77); have HB3 := Lib.hid hb3; have HM := Lib.hid (remove_any (HH.out.later hT hb3) hT (by omega) HALL.out a b); have HX := Lib.hid (Whole.fresh w2 77 #[.int .i64 a, .int .i64 b]); have HNF := Lib.hid (show w2.heap.size ∉ coF B p p' v v' from fun hx => by have := (HH.out.win _ hx).2; have := hb2.size; omega); clear hb2 hb3)
        | (go_at_call 54; refine HM.out.mono ?_; rintro e w4 ⟨rfl, u, hc4, ht4⟩; have hxw := ht4.aft.whole HX.out HNF.out; have x0 := hxw.p0; have x1 := hxw.p1; have HC4 := Lib.hid hc4; have HT4 := Lib.hid ht4; have HL := Lib.hid (release_any hc4 hT a b HPT.out.2 HDS.out); clear hc4 ht4 hxw)
        | (go_at_call 47; refine HL.out.mono ?_; rintro e w5 ⟨rfl, hc5, ht5⟩; have HC5 := Lib.hid hc5; have HT5 := Lib.hid ht5; clear hc5 ht5))
      go_ret
      exact ⟨rfl, u, HC5.out, ((Turn.of_below HB3.out).trans HT4.out).trans HT5.out⟩
end
end Go.Proofs.YteencfldehcbbaaDoor
