/- The document's Join. -/
import Derived.Test.YteencfldehcbbaaDoorBpTk
import Derived.Test.YteencfldehcbbaaDoorBpJoin
import Derived.Deep.AppendLies
namespace Go.Proofs.YteencfldehcbbaaDoor
open Go.RowKit Go.Sort BP
set_option linter.unusedVariables false

theorem own_addr {w : World} {base n k : Nat} {t : TypeId} {v : Value} {xs : List Value} (h : w.ownsRow base t k v n xs) : v = .slice none 0 0 ∨ ∃ g cap, v = .slice (some ⟨g, 0, none⟩) n cap := by
  rcases h.2 with ⟨e, _⟩ | ⟨g, cap, cur, e, _⟩
  · exact .inl e
  · exact .inr ⟨g, cap, e⟩
/-- A whole row is appended to another one. -/
theorem run_append_rr {w : World} {base base' : Nat} {ty : TypeId} {P Q : List (Nat × Nat)} {v u : Value} (hv : RR w base v P) (hu : RR w base' u Q) (hlen : P.length + Q.length ≤ 10000) (hbase : base ≤ w.heap.size) :
    ∃ v' w', (Builtin.append_ #[67, 67] ty #[v, u]).run Tryd.prog w = .ok v' w' ∧ RR w' base v' (P ++ Q) ∧ Aft (ob v) w w' ∧ ∀ g, v'.ownBlock = some g → v.ownBlock = some g ∨ w.heap.size ≤ g := by
  obtain ⟨i0, hi, hz0, hz1, hz2⟩ := infoRPart
  rcases own_addr hu with rfl | ⟨g, cap, rfl⟩
  · have hq : Q = [] := by
      rcases hu.2 with ⟨_, h0⟩ | ⟨g, cap, cur, e, _⟩
      · exact List.length_eq_zero_iff.1 h0
      · cases e
    subst hq
    have hrun := run_append_owned_none (P := Tryd.prog) (w := w) base 67 ty 81 i0 3 Tryd.underlying67 hi v P.length (flatR P) hv
    exact ⟨v, w, hrun, by rw [List.append_nil]; exact hv, Aft.refl _ _, fun g hg => .inl hg⟩
  · obtain ⟨v', w', hr, h2, h3, _, h5⟩ := run_append_own_at (P := Tryd.prog) w base 67 ty 81 i0 _ 3 24 Tryd.underlying67 hi hz0 hz1 hz2 rfl (by decide) v P.length (flatR P) hv ⟨g, 0, none⟩ Q.length cap (flatR Q) (flatR_len Q) (hu.cells rfl) (flatR_one Q) (by unfold maxLen; omega) (by omega) hbase
    refine ⟨v', w', hr, ?_, ⟨h3.os, h3.tape, h3.output, h3.size, fun q hq hs => h3.block q hq fun e => hs (ob_mem.2 e.symm)⟩, fun g' hg' => ?_⟩
    · unfold RR
      rw [flatR_app, List.length_append]
      exact h2
    · rcases h5 with h5 | h5
      · exact .inl (h5 ▸ hg')
      · rw [h5] at hg'
        injection hg' with hg'
        exact .inr (by omega)
theorem step_append_rr {w : World} {ops : Array Oper} {o : Oper} {a : Act} {K : Act → World → Prop} {Q : Exit → Act → World → Prop} {E : Prop} (hgd : o.guard = none) (s x : Operand)
    (ho : o.op = .call { callee := .builtin .append, args := #[s, x], argTypes := #[67, 67] })
    (base base' : Nat) (L L' : List (Nat × Nat)) (v u : Value) (hs : a.eval s = v) (hx : a.eval x = u) (hv : RR w base v L) (hu : RR w base' u L') (hlen : L.length + L'.length ≤ 10000) (hbase : base ≤ w.heap.size)
    (h : ∀ v' w', RR w' base v' (L ++ L') → Aft (ob v) w w' → (∀ g, v'.ownBlock = some g → v.ownBlock = some g ∨ w.heap.size ≤ g) → K (a.put o.dst v') w') :
    if Region.wanted o (yielded ops a.tmps) = true then Oper.wp Tryd.prog o a w K Q else E := by
  have hw : Region.wanted o (yielded ops a.tmps) = true := by simp [Region.wanted, hgd]
  rw [if_pos hw]
  obtain ⟨v', w', hr, h2, h3, h4⟩ := run_append_rr (ty := o.type) hv hu hlen hbase
  unfold Oper.wp execOp
  simp only [ho, resolve, invoke, builtin, Sem.run_bind, Sem.run_pure, Result.andThen_ok, List.map_toArray, List.map_cons, List.map_nil, hs, hx, hr]
  exact h v' w' h2 h3 h4
section
variable {w0 w W : World} {R : RB} {C K o o' p p' : Nat} {v v' u : Value} {D : Dt}
theorem Ro.same (h : Ro w0 w R C K o o' p p' v v' D) (e1 : W.heap = w.heap) (e2 : W.os = w.os) (e3 : W.tape = w.tape) (e4 : W.output = w.output) : Ro w0 W R C K o o' p p' v v' D :=
  h.blocks (h.bel.trans ⟨e2, e3, e4, by rw [e1]; exact Nat.le_refl _, fun k _ => by rw [e1]⟩) (by rw [e1]; exact Nat.le_refl _) fun k _ => by rw [e1]
theorem Turn.same {F : List Nat} (e1 : W.heap = w.heap) (e2 : W.os = w.os) (e3 : W.tape = w.tape) (e4 : W.output = w.output) : Turn F F w W :=
  Turn.of_below ⟨e2, e3, e4, by rw [e1]; exact Nat.le_refl _, fun k _ => by rw [e1]⟩
theorem Turn.back {F F' : List Nat} {w2 : World} (h : Turn F F' W w2) (e1 : W.heap = w.heap) (e2 : W.os = w.os) (e3 : W.tape = w.tape) (e4 : W.output = w.output) : Turn F F' w w2 := (Turn.same e1 e2 e3 e4).trans h
/-- The first one's box, one cell or more of it written. -/
theorem Ro.box_set {w2 : World} {P : List (Nat × Nat)} {pr : Nat × Nat} {fl z : Nat} (h : Ro w0 w R C K o o' p p' v v' D) (hP : P = D.S.parts) (ho : OnlyAt p w w2) (hz : pr ≠ (0, 0) → z = fl)
    (hb : Whole w2 p 69 #[.pointer (some ⟨R.m, 0, none⟩), .int .i64 (o : Nat), v, .int .i64 (prI pr), .int .i64 (z : Nat)]) :
    Ro w0 w2 R C K o o' p p' v v' ⟨D.own, D.wd, ⟨P, pr, fl⟩, D.T⟩ ∧ Turn (roF R p p' v v') (roF R p p' v v') w w2 := by
  subst hP
  exact h.done (Aft.refl _ _) h.a.row (fun g hg => .inl hg) ho hz hb
/-- A row is appended to the first one's. -/
theorem Ro.pushed {w3 : World} {L : List (Nat × Nat)} (h : Ro w0 w R C K o o' p p' v v' D) (hr : RR w3 w0.heap.size u L) (ha : Aft (ob v) w w3) (hu : ∀ g, u.ownBlock = some g → v.ownBlock = some g ∨ w.heap.size ≤ g) :
    w3.cell? ⟨p, 2, none⟩ = some v ∧ w3.frozen? ⟨p, 2, none⟩ = false ∧ p < w3.heap.size ∧
    Hid (Ro w0 (w3.setCell ⟨p, 2, none⟩ u) R C K o o' p p' u v' ⟨D.own, D.wd, ⟨L, D.S.pr, D.S.fl⟩, D.T⟩ ∧ Turn (roF R p p' v v') (roF R p p' u v') w (w3.setCell ⟨p, 2, none⟩ u)) := by
  obtain ⟨z, hz, hb⟩ := h.a.box
  have hbox := ha.whole hb (fun hx => h.a.ne (ob_mem.1 hx))
  exact ⟨(hbox.cell 2).trans rfl, hbox.free 2, hbox.lt, Lib.hid (h.done ha hr hu ((OnlyAt.refl p w3).setCell 2 _) hz (hbox.set 2 u))⟩
/-- The other one's box is emptied. -/
theorem Ro.emptied (h : Ro w0 w R C K o o' p p' v v' D) :
    Ro w0 (((w.setCell ⟨p', 2, none⟩ (.slice none 0 0)).setCell ⟨p', 3, none⟩ (.int .i64 (-1))).setCell ⟨p', 4, none⟩ (.int .i64 0)) R C K o o' p p' v (.slice none 0 0) ⟨D.own, D.wd, D.S, ⟨[], (0, 0), 0⟩⟩ ∧
      Turn (roF R p p' v v') (roF R p p' v (.slice none 0 0)) w (((w.setCell ⟨p', 2, none⟩ (.slice none 0 0)).setCell ⟨p', 3, none⟩ (.int .i64 (-1))).setCell ⟨p', 4, none⟩ (.int .i64 0)) := by
  obtain ⟨z, hz, hb⟩ := h.b.box
  have hd := h.swap.done (u := .slice none 0 0) (P := []) (pr := (0, 0)) (fl := 0) (z := 0) (Aft.refl _ _) (RR.nil _ _) (fun g hg => by simp [Value.ownBlock] at hg) ((((OnlyAt.refl p' _).setCell 2 _).setCell 3 _).setCell 4 _) (fun hh => absurd rfl hh) (((hb.set 2 (.slice none 0 0)).set 3 (.int .i64 (-1))).set 4 (.int .i64 0))
  exact ⟨hd.1.swap, rturn_swap hd.2⟩
/-- The same, the first one's present chunk turned between. -/
theorem Ro.taken {a b f : Nat} (h : Ro w0 w R C K o o' p p' v v' D) (hab : (a, b) ≠ (0, 0)) :
    Ro w0 (((((w.setCell ⟨p', 2, none⟩ (.slice none 0 0)).setCell ⟨p, 3, none⟩ (.int .i64 (a : Nat))).setCell ⟨p, 4, none⟩ (.int .i64 (f : Nat))).setCell ⟨p', 3, none⟩ (.int .i64 (-1))).setCell ⟨p', 4, none⟩ (.int .i64 0)) R C K o o' p p' v (.slice none 0 0) ⟨D.own, D.wd, ⟨D.S.parts, (a, b), f⟩, ⟨[], (0, 0), 0⟩⟩ ∧
      Turn (roF R p p' v v') (roF R p p' v (.slice none 0 0)) w (((((w.setCell ⟨p', 2, none⟩ (.slice none 0 0)).setCell ⟨p, 3, none⟩ (.int .i64 (a : Nat))).setCell ⟨p, 4, none⟩ (.int .i64 (f : Nat))).setCell ⟨p', 3, none⟩ (.int .i64 (-1))).setCell ⟨p', 4, none⟩ (.int .i64 0)) := by
  obtain ⟨z, hz, hb⟩ := h.b.box
  have h1 := h.swap.done (u := .slice none 0 0) (P := []) (pr := D.T.pr) (fl := D.T.fl) (z := z) (Aft.refl _ _) (RR.nil _ _) (fun g hg => by simp [Value.ownBlock] at hg) ((OnlyAt.refl p' _).setCell 2 _) hz (hb.set 2 (.slice none 0 0))
  obtain ⟨y, hy, hc⟩ := h1.1.swap.a.box
  have h2 := h1.1.swap.box_set (P := D.S.parts) (pr := (a, b)) (fl := f) (z := f) rfl (((OnlyAt.refl p _).setCell 3 _).setCell 4 _) (fun _ => rfl) (by
    have := (hc.set 3 (.int .i64 (a : Nat))).set 4 (.int .i64 (f : Nat))
    rw [show prI (a, b) = (a : Int) by unfold prI; rw [if_neg hab]]
    exact this)
  obtain ⟨x, hx, hd⟩ := h2.1.swap.a.box
  have h3 := h2.1.swap.box_set (P := []) (pr := (0, 0)) (fl := 0) (z := 0) rfl (((OnlyAt.refl p' _).setCell 3 _).setCell 4 _) (fun hh => absurd rfl hh) ((hd.set 3 (.int .i64 (-1))).set 4 (.int .i64 0))
  exact ⟨h3.1.swap, ((rturn_swap h1.2).trans h2.2).trans (rturn_swap h3.2)⟩
end
end Go.Proofs.YteencfldehcbbaaDoor
