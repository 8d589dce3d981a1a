/- The state of BumpMoves: the code's spaces, and some rows of numbers; a row appended to a row. -/
import Derived.Test.YteencfldehcbbaaDoorBpTold
import Derived.Test.YteencfldehcbbaaDoorBpMvM
namespace Go.Proofs.YteencfldehcbbaaDoor
open Go.RowKit Go.Sort BP
set_option linter.unusedVariables false

def NR (w : World) (base : Nat) (v : Value) (l : List Nat) : Prop := w.ownsRow base 3 1 v l.length (vals l)
theorem vals_cat (xs ys : List Nat) : vals (xs ++ ys) = vals xs ++ vals ys := by simp [vals]
theorem run_append_nr {w : World} {base base' : Nat} {ty : TypeId} {P Q : List Nat} {v u : Value} (hv : NR w base v P) (hu : NR w base' u Q) (hlen : P.length + Q.length ≤ 10000) (hbase : base ≤ w.heap.size) :
    ∃ v' w', (Builtin.append_ #[39, 39] ty #[v, u]).run Tryd.prog w = .ok v' w' ∧ NR w' base v' (P ++ Q) ∧ Aft (ob v) w w' := by
  obtain ⟨i0, hi, hz0, hz1, hz2⟩ := info_parts infoInt
  rcases own_addr hu with rfl | ⟨g, cap, rfl⟩
  · have hq : Q = [] := by
      rcases hu.2 with ⟨_, h0⟩ | ⟨g, cap, cur, e, _⟩
      · exact List.length_eq_zero_iff.1 h0
      · cases e
    subst hq
    have hrun := run_append_owned_none (P := Tryd.prog) (w := w) base 39 ty 3 i0 1 Tryd.underlying39 hi v P.length (vals P) hv
    exact ⟨v, w, hrun, by rw [List.append_nil]; exact hv, Aft.refl _ _⟩
  · obtain ⟨v', w', hr, h2, h3, _, h5⟩ := run_append_own_at (P := Tryd.prog) w base 39 ty 3 i0 _ 1 8 Tryd.underlying39 hi hz0 hz1 hz2 rfl (by decide) v P.length (vals P) hv ⟨g, 0, none⟩ Q.length cap (vals Q) (by rw [vals_len]; omega) (hu.cells rfl) (vals_one Q) (by unfold maxLen; omega) (by omega) hbase
    refine ⟨v', w', hr, ?_, ⟨h3.os, h3.tape, h3.output, h3.size, fun q hq hs => h3.block q hq fun e => hs (ob_mem.2 e.symm)⟩⟩
    unfold NR
    rw [vals_cat, List.length_append]
    exact h2
theorem wpList_append_nr {w : World} {ops : Array Oper} {rest : List Oper} {o : Oper} {a : Act} {Q : Exit → Act → World → Prop} (hgd : o.guard = none) (s x : Operand)
    (ho : o.op = .call { callee := .builtin .append, args := #[s, x], argTypes := #[39, 39] })
    (base base' : Nat) (L L' : List Nat) (v u : Value) (hs : a.eval s = v) (hx : a.eval x = u) (hv : NR w base v L) (hu : NR w base' u L') (hlen : L.length + L'.length ≤ 10000) (hbase : base ≤ w.heap.size)
    (h : ∀ v' w', NR w' base v' (L ++ L') → Aft (ob v) w w' → wpList Tryd.prog ops Q rest (a.put o.dst v') w') :
    wpList Tryd.prog ops Q (o :: rest) a w := by
  refine wpList_plain hgd fun K hK => ?_
  obtain ⟨v', w', hr, h2, h3⟩ := run_append_nr (ty := o.type) hv hu hlen hbase
  unfold Oper.wp execOp
  simp only [ho, resolve, invoke, builtin, Sem.run_bind, Sem.run_pure, Result.andThen_ok, List.map_toArray, List.map_cons, List.map_nil, hs, hx, hr]
  exact hK _ _ (h v' w' h2 h3)
theorem NR.slice {w : World} {base : Nat} {v : Value} {l : List Nat} (h : NR w base v l) : ∃ A c, v = .slice A l.length c := by
  rcases h.2 with ⟨rfl, h0⟩ | ⟨g, cap, cur, rfl, _⟩
  · exact ⟨none, 0, by rw [h0]⟩
  · exact ⟨_, cap, rfl⟩
theorem NR.at_ {w : World} {base : Nat} {v : Value} {xs : List Nat} (h : NR w base v xs) {i x : Nat} (hx : xs[i]? = some x) : ∃ g c, v = .slice (some ⟨g, 0, none⟩) xs.length c ∧ w.cell? ⟨g, i, none⟩ = some (.int .i64 (x : Nat)) := by
  obtain ⟨A, c, rfl, hc⟩ := IS.of_owns h
  have hi : i < xs.length := (List.getElem?_eq_some_iff.1 hx).1
  rcases h.2 with ⟨e, h0⟩ | ⟨g, cap, cur, e, _⟩
  · omega
  · injection e with e1 e2 e3
    obtain ⟨g', off, e4, hcell⟩ := hc i x hx
    rw [e1] at e4
    injection e4 with e4
    injection e4 with e5 e6
    subst e5 e6
    exact ⟨g, c, by rw [e1], by rw [Nat.zero_add] at hcell; exact hcell⟩
theorem aft_below {w a b : World} {v : Value} (h : Aft (ob v) a b) (hv : ∀ g, v.ownBlock = some g → w.heap.size ≤ g) (hs : w.heap.size ≤ a.heap.size) : Below w.heap.size a b := h.below (fun c hc => hv c (ob_mem.1 hc)) hs
theorem bthen {w a b : World} (h : Below w.heap.size w a) (k : Below w.heap.size a b) : Below w.heap.size w b := h.trans k
/-- The code's spaces, their pointers' box, some rows. -/
structure MvS (w w' : World) (B : SB) (p p' bx : Nat) (D : Dt) (L : List (Value × List Nat)) : Prop where
  co : ∃ s s', Co w w' B 16 4 1 2 p p' s s' D ∧ bx ∉ coF B p p' s s' ∧ ∀ z ∈ L, ∀ g, z.1.ownBlock = some g → g ∉ coF B p p' s s'
  x : Whole w' bx 27 #[.pointer (some ⟨p, 0, none⟩), .pointer (some ⟨p', 0, none⟩)]
  rows : ∀ z ∈ L, NR w' w.heap.size z.1 z.2
section
variable {w w1 w2 : World} {B : SB} {p p' bx : Nat} {D D' : Dt} {L : List (Value × List Nat)}
theorem MvS.op (h : MvS w w1 B p p' bx D L) (ho : ∀ s s', Co w w1 B 16 4 1 2 p p' s s' D → ∃ u u', Co w w2 B 16 4 1 2 p p' u u' D' ∧ Turn (coF B p p' s s') (coF B p p' u u') w1 w2) : MvS w w2 B p p' bx D' L := by
  obtain ⟨s, s', hc, h1, h2⟩ := h.co
  obtain ⟨u, u', hc', ht⟩ := ho s s' hc
  have hn : ∀ g, g < w1.heap.size → g ∉ coF B p p' s s' → g ∉ coF B p p' u u' := fun g hg hn hx => by
    rcases ht.new g hx with e | e
    · exact hn e
    · omega
  exact ⟨⟨u, u', hc', hn bx h.x.lt h1, fun z hz g hg => hn g ((h.rows z hz).lt g hg).2 (h2 z hz g hg)⟩, ht.keep h.x h1, fun z hz => own_keep (h.rows z hz) fun g hg => ht.aft.block g ((h.rows z hz).lt g hg).2 (h2 z hz g hg)⟩
theorem MvS.bel (h : MvS w w1 B p p' bx D L) : Below w.heap.size w w1 := by
  obtain ⟨s, s', hc, _⟩ := h.co
  exact hc.bel
theorem MvS.later (h : MvS w w1 B p p' bx D L) (hT : Tab w) (hb : Below w1.heap.size w1 w2) : MvS w w2 B p p' bx D L :=
  h.op fun s s' hc => ⟨s, s', hc.later hT hb, Turn.of_below hb⟩
theorem MvS.store (h : MvS w w1 B p p' bx D L) (hT : Tab w) {own wd : Nat → Nat} (ho : OnlyIn [B.o, B.c, B.v] w1 w2) (hs : StAt w2 B 16 4 own wd) : MvS w w2 B p p' bx ⟨own, wd, D.S, D.T⟩ L :=
  h.op fun s s' hc => ⟨s, s', hc.store hT ho hs, Co.turn_store ho⟩
theorem MvS.st (h : MvS w w1 B p p' bx D L) : StAt w1 B 16 4 D.own D.wd := by
  obtain ⟨s, s', hc, _⟩ := h.co
  exact hc.held.st
/-- One row more. -/
theorem MvS.add (h : MvS w w1 B p p' bx D L) (hT : Tab w) (hb : Below w1.heap.size w1 w2) {v : Value} {xs : List Nat} (hr : NR w2 w1.heap.size v xs) : MvS w w2 B p p' bx D ((v, xs) :: L) := by
  have h2 := h.later hT hb
  obtain ⟨s, s', hc, h3, h4⟩ := h.co
  have hs := h.bel.size
  refine ⟨⟨s, s', hc.later hT hb, h3, fun z hz g hg => ?_⟩, h2.x, fun z hz => ?_⟩
  · rcases List.mem_cons.1 hz with e | e
    · subst e
      exact hc.not (hr.lt g hg).1
    · exact h4 z e g hg
  · rcases List.mem_cons.1 hz with e | e
    · subst e
      exact own_base hr hs
    · exact h2.rows z e
theorem MvS.added {W : World} (h : MvS w w1 B p p' bx D L) (hT : Tab w) {v : Value} {xs : List Nat} (hr : NR w2 W.heap.size v xs) (hb : Below W.heap.size W w2) (e1 : W.heap = w1.heap) (e2 : W.os = w1.os) (e3 : W.tape = w1.tape) (e4 : W.output = w1.output) : MvS w w2 B p p' bx D ((v, xs) :: L) :=
  (h.later hT (same_below e1 e2 e3 e4)).add hT hb hr
theorem LS.mv {R : RB} {r r' cx : Nat} (h : LS w w1 B R 4 p p' r r' bx cx D) : MvS w w1 B p p' bx D [] := by
  obtain ⟨s, s', t, t', hy, h1, _⟩ := h.yd
  exact ⟨⟨s, s', hy.co, fun hx => h1 (List.mem_append.2 (.inl hx)), fun z hz => by cases hz⟩, h.x, fun z hz => by cases hz⟩
theorem MvS.join (h : MvS w w1 B p p' bx D L) (hT : Tab w) (hG : Good2 16 4 1 2 D) : Calls Tryd.prog 28 #[.pointer (some ⟨p, 0, none⟩), .pointer (some ⟨p', 0, none⟩)] w1 fun e w2 => e = .returned (.int .i64 0) ∧ MvS w w2 B p p' bx (joinD 1 D) L := by
  obtain ⟨s, s', hc, h1, h2⟩ := h.co
  refine (join_any hc hT hG (by decide)).mono fun e w2 hp => ?_
  obtain ⟨he, u, u', hc', ht⟩ := hp
  have hn : ∀ g, g < w1.heap.size → g ∉ coF B p p' s s' → g ∉ coF B p p' u u' := fun g hg hn hx => by
    rcases ht.new g hx with e | e
    · exact hn e
    · omega
  exact ⟨he, ⟨u, u', hc', hn bx h.x.lt h1, fun z hz g hg => hn g ((h.rows z hz).lt g hg).2 (h2 z hz g hg)⟩, ht.keep h.x h1, fun z hz => own_keep (h.rows z hz) fun g hg => ht.aft.block g ((h.rows z hz).lt g hg).2 (h2 z hz g hg)⟩
theorem MvS.clear (h : MvS w w1 B p p' bx D L) (hT : Tab w) (hG : Good2 16 4 1 2 D) : Calls Tryd.prog 25 #[.pointer (some ⟨p, 0, none⟩)] w1 fun e w2 => e = .returned (.tuple #[]) ∧ MvS w w2 B p p' bx (clearD D) L := by
  obtain ⟨s, s', hc, h1, h2⟩ := h.co
  refine (clear_any' hc hT hG.a hG.o1).mono fun e w2 hp => ?_
  obtain ⟨he, u, hc', ht⟩ := hp
  have hn : ∀ g, g < w1.heap.size → g ∉ coF B p p' s s' → g ∉ coF B p p' u s' := fun g hg hn hx => by
    rcases ht.new g hx with e | e
    · exact hn e
    · omega
  exact ⟨he, ⟨u, s', hc', hn bx h.x.lt h1, fun z hz g hg => hn g ((h.rows z hz).lt g hg).2 (h2 z hz g hg)⟩, ht.keep h.x h1, fun z hz => own_keep (h.rows z hz) fun g hg => ht.aft.block g ((h.rows z hz).lt g hg).2 (h2 z hz g hg)⟩
theorem MvS.free (h : MvS w w1 B p p' bx D L) : Calls Tryd.prog 23 #[.pointer (some ⟨B.s, 0, none⟩)] w1 fun e w' => e = .returned (.int .i64 (frees D.own 16 : Nat)) ∧ Below w1.heap.size w1 w' :=
  (free_any h.st).mono fun _ _ ⟨he, m, hw⟩ => ⟨he, by subst hw; exact below_drewN (Below.refl _ _) _⟩
theorem MvS.chunks (h : MvS w w1 B p p' bx D L) (hG : Good2 16 4 1 2 D) : Calls Tryd.prog 16 #[.pointer (some ⟨p, 0, none⟩)] w1 (RowPost (BP.chunks D.S.parts) w1) := by
  obtain ⟨s, s', hc, _⟩ := h.co
  exact hc.chunks hG.a
theorem MvS.chunks' (h : MvS w w1 B p p' bx D L) (hG : Good2 16 4 1 2 D) : Calls Tryd.prog 16 #[.pointer (some ⟨p', 0, none⟩)] w1 (RowPost (BP.chunks D.T.parts) w1) := by
  obtain ⟨s, s', hc, _⟩ := h.co
  exact hc.swap.chunks hG.b
theorem MvS.room (h : MvS w w1 B p p' bx D L) (hG : Good2 16 4 1 2 D) : Calls Tryd.prog 18 #[.pointer (some ⟨p, 0, none⟩)] w1 fun e w' => e = .returned (.int .i64 (BP.room 4 D.S : Nat)) ∧ Below w1.heap.size w1 w' := by
  obtain ⟨s, s', hc, _⟩ := h.co
  exact hc.room hG.a.fl
theorem MvS.room' (h : MvS w w1 B p p' bx D L) (hG : Good2 16 4 1 2 D) : Calls Tryd.prog 18 #[.pointer (some ⟨p', 0, none⟩)] w1 fun e w' => e = .returned (.int .i64 (BP.room 4 D.T : Nat)) ∧ Below w1.heap.size w1 w' := by
  obtain ⟨s, s', hc, _⟩ := h.co
  exact hc.swap.room hG.b.fl
end
end Go.Proofs.YteencfldehcbbaaDoor
