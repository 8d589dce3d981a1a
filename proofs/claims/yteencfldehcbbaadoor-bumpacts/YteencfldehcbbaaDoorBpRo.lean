/- Both of the document's spaces on its store. -/
import Derived.Test.YteencfldehcbbaaDoorBpRef3
import Derived.Test.YteencfldehcbbaaDoorBpRem
namespace Go.Proofs.YteencfldehcbbaaDoor
open Go.RowKit Go.Sort BP
set_option linter.unusedVariables false

def RB.bl (R : RB) : List Nat := [R.m, R.p, R.q]
/-- Two of the document's spaces on its store, all of it made since w0. -/
structure Ro (w0 w : World) (R : RB) (C K o o' p p' : Nat) (v v' : Value) (D : Dt) : Prop where
  rf : RfAt w R C K D.own D.wd
  bel : Below w0.heap.size w0 w
  rwin : R.within w0.heap.size w.heap.size
  a : RSp w w0.heap.size p v R.m o D.S
  b : RSp w w0.heap.size p' v' R.m o' D.T
  ne : p ≠ p'
  rows : ∀ g, v.ownBlock = some g → v'.ownBlock ≠ some g
  out : ∀ x ∈ R.bl, x ≠ p ∧ x ≠ p' ∧ v.ownBlock ≠ some x ∧ v'.ownBlock ≠ some x
def roF (R : RB) (p p' : Nat) (v v' : Value) : List Nat := R.bl ++ [p, p'] ++ ob v ++ ob v'
theorem roF_mem {R : RB} {p p' x : Nat} {v v' : Value} : x ∈ roF R p p' v v' ↔ x ∈ R.bl ∨ x = p ∨ x = p' ∨ v.ownBlock = some x ∨ v'.ownBlock = some x := by
  unfold roF
  simp [ob_mem]
section
variable {w0 w w1 w' : World} {R : RB} {C K o o' p p' : Nat} {v v' u : Value} {D : Dt}
theorem Ro.swap (h : Ro w0 w R C K o o' p p' v v' D) : Ro w0 w R C K o' o p' p v' v D.swap :=
  ⟨h.rf, h.bel, h.rwin, h.b, h.a, h.ne.symm, fun g hg hv => h.rows g hv hg, fun x hx => by obtain ⟨a, b, c, d⟩ := h.out x hx; exact ⟨b, a, d, c⟩⟩
theorem roF_swap_mem {x : Nat} : x ∈ roF R p p' v v' ↔ x ∈ roF R p' p v' v := by
  rw [roF_mem, roF_mem]
  constructor
  all_goals
    rintro (h | h | h | h | h)
    · exact .inl h
    · exact .inr (.inr (.inl h))
    · exact .inr (.inl h)
    · exact .inr (.inr (.inr (.inr h)))
    · exact .inr (.inr (.inr (.inl h)))
theorem rturn_swap {q q' : Nat} {x x' y y' : Value} (h : Turn (roF R p p' x x') (roF R q q' y y') w w1) : Turn (roF R p' p x' x) (roF R q' q y' y) w w1 :=
  ⟨h.aft.sub fun z hz => roF_swap_mem.1 hz, fun z hz => by
    rcases h.new z (roF_swap_mem.2 hz) with e | e
    · exact .inl (roF_swap_mem.1 e)
    · exact .inr e⟩
theorem RB.within.mem {lo hi x : Nat} (h : R.within lo hi) (hx : x ∈ R.bl) : lo ≤ x ∧ x < hi := by
  obtain ⟨h1, h2, h3⟩ := h
  simp [RB.bl] at hx
  rcases hx with rfl | rfl | rfl <;> assumption
theorem RB.within.up {lo hi hi' : Nat} (h : R.within lo hi) (hh : hi ≤ hi') : R.within lo hi' := by
  obtain ⟨⟨a1, a2⟩, ⟨b1, b2⟩, c1, c2⟩ := h
  exact ⟨⟨a1, by omega⟩, ⟨b1, by omega⟩, c1, by omega⟩
theorem Ro.win (h : Ro w0 w R C K o o' p p' v v' D) : ∀ x ∈ roF R p p' v v', w0.heap.size ≤ x ∧ x < w.heap.size := by
  intro x hx
  rcases roF_mem.1 hx with h1 | rfl | rfl | h1 | h1
  · exact h.rwin.mem h1
  · exact ⟨h.a.lo, h.a.lt⟩
  · exact ⟨h.b.lo, h.b.lt⟩
  · exact h.a.row.lt x h1
  · exact h.b.row.lt x h1
theorem Ro.not (h : Ro w0 w R C K o o' p p' v v' D) {g : Nat} (hg : w.heap.size ≤ g) : g ∉ roF R p p' v v' := fun hx => by have := (h.win g hx).2; omega
theorem Ro.blocks (h : Ro w0 w R C K o o' p p' v v' D) (hb : Below w0.heap.size w0 w') (hs : w.heap.size ≤ w'.heap.size) (e : ∀ k ∈ roF R p p' v v', w'.heap[k]? = w.heap[k]?) : Ro w0 w' R C K o o' p p' v v' D :=
  ⟨h.rf.blocks fun k hk => e k (roF_mem.2 (.inl (by simp [RB.bl]; omega))), hb, h.rwin.up hs,
    h.a.keep fun k hk => e k (roF_mem.2 (by rcases hk with rfl | hk; exact .inr (.inl rfl); exact .inr (.inr (.inr (.inl hk))))),
    h.b.keep fun k hk => e k (roF_mem.2 (by rcases hk with rfl | hk; exact .inr (.inr (.inl rfl)); exact .inr (.inr (.inr (.inr hk))))), h.ne, h.rows, h.out⟩
theorem Ro.later (h : Ro w0 w R C K o o' p p' v v' D) (hb : Below w.heap.size w w1) : Ro w0 w1 R C K o o' p p' v v' D :=
  h.blocks (h.bel.trans (hb.mono h.bel.size)) hb.size fun k hk => hb.block k (h.win k hk).2
/-- Behind a call of the document's store. -/
theorem Ro.store (h : Ro w0 w R C K o o' p p' v v' D) {own wd : Nat → Nat} (ho : OnlyIn [R.p, R.q] w w1) (hs : RfAt w1 R C K own wd) : Ro w0 w1 R C K o o' p p' v v' ⟨own, wd, D.S, D.T⟩ ∧ Turn (roF R p p' v v') (roF R p p' v v') w w1 := by
  have hL : ∀ x ∈ [R.p, R.q], x ∈ R.bl := by intro x hx; simp [RB.bl] at hx ⊢; omega
  have hb : Below w0.heap.size w w1 := ho.below fun c hc => (h.rwin.mem (hL c hc)).1
  refine ⟨⟨hs, h.bel.trans hb, by rw [ho.size]; exact h.rwin, h.a.keep fun k hk => ho.block k fun hx => ?_, h.b.keep fun k hk => ho.block k fun hx => ?_, h.ne, h.rows, h.out⟩, Turn.of_aft (Aft.of_in ho fun x hx => roF_mem.2 (.inl (hL x hx)))⟩
  · obtain ⟨a1, _, a3, _⟩ := h.out k (hL k hx)
    rcases hk with e | e
    · exact a1 e
    · exact a3 e
  · obtain ⟨_, a2, _, a4⟩ := h.out k (hL k hx)
    rcases hk with e | e
    · exact a2 e
    · exact a4 e
/-- The end of a call that has turned one space's box and row. -/
theorem Ro.done {w2 : World} {P : List (Nat × Nat)} {pr : Nat × Nat} {fl z : Nat} (h : Ro w0 w R C K o o' p p' v v' D)
    (ha : Aft (ob v) w w1) (hr : RR w1 w0.heap.size u P) (hu : ∀ g, u.ownBlock = some g → v.ownBlock = some g ∨ w.heap.size ≤ g) (ho : OnlyAt p w1 w2) (hz : pr ≠ (0, 0) → z = fl)
    (hb : Whole w2 p 69 #[.pointer (some ⟨R.m, 0, none⟩), .int .i64 (o : Nat), u, .int .i64 (prI pr), .int .i64 (z : Nat)]) :
    Ro w0 w2 R C K o o' p p' u v' ⟨D.own, D.wd, ⟨P, pr, fl⟩, D.T⟩ ∧ Turn (roF R p p' v v') (roF R p p' u v') w w2 := by
  have hA : Aft (p :: ob v) w w2 := (ha.sub fun x hx => List.mem_cons_of_mem _ hx).trans (Aft.of_at ho (by simp))
  have hm : ∀ x, x ∈ p :: ob v → x ∈ roF R p p' v v' := fun x hx => roF_mem.2 (by
    rcases List.mem_cons.1 hx with e | e
    · exact .inr (.inl e)
    · exact .inr (.inr (.inr (.inl (ob_mem.1 e)))))
  have hbl : Below w0.heap.size w w2 := hA.below (fun c hc => (h.win c (hm c hc)).1) h.bel.size
  have hR : ∀ x ∈ R.bl, x ∉ p :: ob v := fun x hx hn => by
    obtain ⟨a1, _, a3, _⟩ := h.out x hx
    rcases List.mem_cons.1 hn with e | e
    · exact a1 e
    · exact a3 (ob_mem.1 e)
  obtain ⟨zb, _, hbb⟩ := h.b.box
  have hne : ∀ g, u.ownBlock = some g → g ≠ p' ∧ v'.ownBlock ≠ some g ∧ g ∉ R.bl ∧ g ≠ p := fun g hg => by
    rcases hu g hg with e | e
    · exact ⟨fun e2 => own_ne h.a.row hbb (by decide) (e2 ▸ e), h.rows g e, fun hx => (h.out g hx).2.2.1 e, fun e2 => h.a.ne (e2 ▸ e)⟩
    · refine ⟨fun e2 => ?_, fun e2 => ?_, fun hx => ?_, fun e2 => ?_⟩
      · have := h.b.lt; omega
      · have := (h.b.row.lt g e2).2; omega
      · have := (h.rwin.mem hx).2; omega
      · have := h.a.lt; omega
  have hpa : p' ∉ p :: ob v := fun hx => by
    rcases List.mem_cons.1 hx with e | e
    · exact h.ne e.symm
    · exact own_ne h.a.row hbb (by decide) (ob_mem.1 e)
  refine ⟨⟨h.rf.blocks fun k hk => ?_, h.bel.trans hbl, h.rwin.up hA.size, ⟨⟨z, hz, hb⟩, hr.keep fun g hg => ho.block g (hne g hg).2.2.2, h.a.lo⟩, h.b.keep fun k hk => ?_, h.ne, fun g hg => (hne g hg).2.1, fun x hx => ?_⟩, hA.sub hm, fun x hx => ?_⟩
  · have hk' : k ∈ R.bl := by simp [RB.bl]; omega
    exact hA.block k (h.rwin.mem hk').2 (hR k hk')
  · rcases hk with rfl | hk
    · exact hA.block _ h.b.lt hpa
    · refine hA.block _ (h.b.row.lt k hk).2 fun hx => ?_
      rcases List.mem_cons.1 hx with e | e
      · obtain ⟨za, _, hba⟩ := h.a.box
        exact own_ne h.b.row hba (by decide) (e ▸ hk)
      · exact h.rows k (ob_mem.1 e) hk
  · obtain ⟨a1, a2, _, a4⟩ := h.out x hx
    exact ⟨a1, a2, fun e => (hne x e).2.2.1 hx, a4⟩
  · rcases roF_mem.1 hx with e | e | e | e | e
    · exact .inl (roF_mem.2 (.inl e))
    · exact .inl (roF_mem.2 (.inr (.inl e)))
    · exact .inl (roF_mem.2 (.inr (.inr (.inl e))))
    · rcases hu x e with e | e
      · exact .inl (roF_mem.2 (.inr (.inr (.inr (.inl e)))))
      · exact .inr e
    · exact .inl (roF_mem.2 (.inr (.inr (.inr (.inr e)))))
end
end Go.Proofs.YteencfldehcbbaaDoor
