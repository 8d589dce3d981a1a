/- Contract of remove. -/
import Derived.Test.YteencfldehcbbaaDoorBpDel3
namespace Go.Proofs.YteencfldehcbbaaDoor
open Go.RowKit Go.Sort BP
set_option linter.unusedVariables false

theorem part_eq_cases (f k a b : Nat) : ((f, k) = (a, b) ∧ f = a ∧ k = b) ∨ ((f, k) ≠ (a, b) ∧ ((f : Int) == (a : Int)) = false) ∨ ((f, k) ≠ (a, b) ∧ f = a ∧ ((k : Int) == (b : Int)) = false) := by
  by_cases e : f = a
  · by_cases e2 : k = b
    · exact .inl ⟨by rw [e, e2], e, e2⟩
    · exact .inr (.inr ⟨by simp [e2], e, by simp; omega⟩)
  · exact .inr (.inl ⟨by simp [e], by simp; omega⟩)
/-- The end of a call that has turned one space's box and row. -/
theorem Co.done {w0 w w1 w2 : World} {B : SB} {C K o o' p p' : Nat} {v v' u : Value} {D : Dt} {P : List (Nat × Nat)} {a b fl : Nat} (h : Co w0 w B C K o o' p p' v v' D) (hT : Tab w0)
    (ha : Aft (ob v) w w1) (hr : PR w1 w0.heap.size u P) (hu : ∀ g, u.ownBlock = some g → v.ownBlock = some g ∨ w.heap.size ≤ g)
    (ho : OnlyAt p w1 w2) (hb : Whole w2 p 79 #[.pointer (some ⟨B.s, 0, none⟩), .int .i64 (o : Nat), u, .int .i64 (a : Nat), .int .i64 (b : Nat), .int .i64 (fl : Nat)]) :
    Co w0 w2 B C K o o' p p' u v' ⟨D.own, D.wd, ⟨P, (a, b), fl⟩, D.T⟩ ∧ Turn (coF B p p' v v') (coF B p p' u v') w w2 := by
  refine h.turned hT (S := ⟨P, (a, b), fl⟩) ((ha.sub fun x hx => List.mem_cons_of_mem _ hx).trans (Aft.of_at ho (by simp))) ⟨hb, hr.keep fun g hg => ho.block g fun e => ?_, h.a.lo⟩ hu
  subst e
  rcases hu g hg with e | e
  · exact h.a.ne e
  · have := h.a.box.lt; omega
theorem rem_mid {w w1 w2 : World} {base p s o f k a b fl : Nat} {v u : Value} {P : List (Nat × Nat)} (h : SpAt w base p v s o ⟨P, (a, b), fl⟩) (hw1 : w1 = w.alloc (.cells #[.int .i64 f, .int .i64 k] 77)) (haf : Aft (ob v) w1 w2) :
    w2.cell? ⟨p, 2, none⟩ = some v ∧ w2.frozen? ⟨p, 2, none⟩ = false ∧ (w2.setCell ⟨p, 2, none⟩ u).cell? ⟨w.heap.size, 0, none⟩ = some (.int .i64 f) ∧ (w2.setCell ⟨p, 2, none⟩ u).cell? ⟨w.heap.size, 1, none⟩ = some (.int .i64 k) ∧
    (w2.setCell ⟨p, 2, none⟩ u).cell? ⟨p, 3, none⟩ = some (.int .i64 a) ∧ (w2.setCell ⟨p, 2, none⟩ u).cell? ⟨p, 4, none⟩ = some (.int .i64 b) ∧ (w2.setCell ⟨p, 2, none⟩ u).cell? ⟨p, 5, none⟩ = some (.int .i64 fl) ∧
    (∀ i, (w2.setCell ⟨p, 2, none⟩ u).frozen? ⟨p, i, none⟩ = false) ∧
    Hid (Whole (w2.setCell ⟨p, 2, none⟩ u) p 79 #[.pointer (some ⟨s, 0, none⟩), .int .i64 (o : Nat), u, .int .i64 (a : Nat), .int .i64 (b : Nat), .int .i64 (fl : Nat)] ∧ Aft (ob v) w w2) := by
  subst hw1
  have hb := (Below.refl w.heap.size w).alloc (Nat.le_refl _) (.cells #[.int .i64 f, .int .i64 k] 77)
  have hbox := haf.whole (h.later hb).box (fun hx => h.ne (ob_mem.1 hx))
  have hxx := haf.whole (Whole.fresh w 77 #[.int .i64 f, .int .i64 k]) (fun hx => by have := (h.row.lt _ (ob_mem.1 hx)).2; omega)
  have hx1 := hxx.far (p := ⟨p, 2, none⟩) (by have := h.box.lt; simp; omega) u
  have hbx2 : Whole (w2.setCell ⟨p, 2, none⟩ u) p 79 #[.pointer (some ⟨s, 0, none⟩), .int .i64 (o : Nat), u, .int .i64 (a : Nat), .int .i64 (b : Nat), .int .i64 (fl : Nat)] := hbox.set 2 u
  exact ⟨(hbox.cell 2).trans rfl, hbox.free 2, hx1.p0, hx1.p1, (hbx2.cell 3).trans rfl, (hbx2.cell 4).trans rfl, (hbx2.cell 5).trans rfl, hbx2.free, Lib.hid ⟨hbx2, (Aft.of_below hb).trans haf⟩⟩
theorem drewN_at (p : Nat) {w w' : World} (h : OnlyAt p w w') (n : Nat) : OnlyAt p w (w'.drewN n) := ⟨h.os, h.tape, h.output, h.size, h.block⟩
set_option maxHeartbeats 4000000 in
set_option maxRecDepth 100000 in
theorem remove_any {w0 w : World} {B : SB} {C K o o' p p' : Nat} {v v' : Value} {D : Dt} (h : Co w0 w B C K o o' p p' v v' D) (hT : Tab w0) (hlen : D.S.parts.length ≤ 5000) (hall : ∀ x ∈ D.S.parts, x.1 ≤ 1024) (f k : Nat) :
    Calls Tryd.prog 54 #[.pointer (some ⟨p, 0, none⟩), .agg #[.int .i64 f, .int .i64 k]] w (CoPost (.tuple #[]) w0 B C K o o' p p' v v' ⟨D.own, D.wd, rmS D.S (f, k), D.T⟩ w) := by
  have hb := (Below.refl w.heap.size w).alloc (Nat.le_refl _) (.cells #[.int .i64 f, .int .i64 k] 77)
  have hX := Whole.fresh w 77 #[.int .i64 f, .int .i64 k]
  have h1 := h.later hT hb
  have hp : Pred 68 #[.pointer (some ⟨w.heap.size, 0, none⟩)] (fun x => decide (x = (f, k))) w.heap.size (w.alloc (.cells #[.int .i64 f, .int .i64 k] 77)) := fun W a b _ hW =>
    remove1_any ((World.cell?_of_block (a := ⟨w.heap.size, 0, none⟩) hW).trans hX.p0) ((World.cell?_of_block (a := ⟨w.heap.size, 1, none⟩) hW).trans hX.p1) a b
  have hd := deleteFunc_any h1.a.row hlen hall remove_enters (by simp) (fun e => by have := (h.a.row.lt _ e).2; omega) hp
  have e : (D.S.parts.filter fun x => !decide (x = (f, k))) = (D.S.parts.filter fun y => decide (y ≠ (f, k))) := by congr 1; funext x; simp
  rw [e] at hd
  have HD := Lib.hid hd
  have c2 := h1.a.c2
  have HH := Lib.hid h
  obtain ⟨own, wd, ⟨P, ⟨a, b⟩, fl⟩, T⟩ := D
  simp only at HD HH ⊢
  unfold rmS
  simp only
  generalize (P.filter fun y => decide (y ≠ (f, k))) = P' at HD ⊢
  clear hp hX hb h h1 hd e hall hlen
  go_enter Tryd.func54, Tryd.ntmps54
  rcases part_eq_cases f k a b with ⟨e0, rfl, rfl⟩ | ⟨e0, e1⟩ | ⟨e0, rfl, e1⟩
  all_goals
    have HE := Lib.hid e0
    clear e0
    go_wp2_with (first | (go_at_call 67; refine HD.out.mono ?_; rintro e w2 ⟨u, rfl, hpr, haf, hob⟩; obtain ⟨A2, cc2, rfl⟩ := hpr.slice; obtain ⟨j0, j1, j2, j3, j4, j5, j6, j7, HM⟩ := rem_mid (u := .slice A2 P'.length cc2) HH.out.a rfl haf; have HPR := Lib.hid hpr; have HOB := Lib.hid hob; clear hpr haf hob))
    go_quiet (fail)
    go_wp2
    refine bodyPost_ret (results_none rfl _ _ _) rfl ?_
    obtain ⟨hwh, haf⟩ := HM.out
  · exact ⟨rfl, .slice A2 P'.length cc2, HH.out.done hT haf HPR.out (fun g hg => .inl (HOB.out.symm.trans hg)) ((((drewN_at p ((OnlyAt.refl p w2).setCell 2 _) _).setCell 3 _).setCell 4 _).setCell 5 _) ((((hwh.drewN nq).set 3 (.int .i64 0)).set 4 (.int .i64 0)).set 5 (.int .i64 0))⟩
  · exact ⟨rfl, .slice A2 P'.length cc2, HH.out.done hT haf HPR.out (fun g hg => .inl (HOB.out.symm.trans hg)) (drewN_at p ((OnlyAt.refl p w2).setCell 2 _) _) (hwh.drewN _)⟩
  · exact ⟨rfl, .slice A2 P'.length cc2, HH.out.done hT haf HPR.out (fun g hg => .inl (HOB.out.symm.trans hg)) (drewN_at p ((OnlyAt.refl p w2).setCell 2 _) _) (hwh.drewN _)⟩
end Go.Proofs.YteencfldehcbbaaDoor
