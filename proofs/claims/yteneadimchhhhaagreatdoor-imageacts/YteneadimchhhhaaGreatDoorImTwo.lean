/- A region of a round that appends to two rows of the body's own, in whatever order (ImageLinks' loop over Links). -/
import Derived.Test.YteneadimchhhhaaGreatDoorAdInv
import Derived.Test.YteneadimchhhhaaGreatDoorImLkH
namespace Go.Proofs.YteneadimchhhhaaGreatDoor
open Go.RowKit Go.Shelf
attribute [local go_sem] Oper.semAt_some

/-- The region's text. -/
abbrev twoOps : Array Oper := #[{ dst := some 66, op := Op.load 42 (Operand.tmp 12), type := 42, pos := "law.go:290", after := #[], guard := none }, { dst := some 67, op := Op.move (Operand.tmp 14), type := 3, pos := "law.go:290", after := #[], guard := none }, { dst := some 68, op := Op.buildSlice 42 1 #[(0, Operand.tmp 67)], type := 42, pos := "law.go:290", after := #[{ on := 1, ground := Ground.data }], guard := none }, { dst := some 69, op := Op.call { callee := Callee.builtin Builtin.append, args := #[Operand.tmp 66, Operand.tmp 68], argTypes := #[42, 42] }, type := 42, pos := "law.go:290", after := #[{ on := 0, ground := Ground.data }, { on := 2, ground := Ground.data }], guard := none }, { dst := some 70, op := Op.load 64 (Operand.tmp 13), type := 64, pos := "law.go:290", after := #[], guard := none }, { dst := some 71, op := Op.load 37 (Operand.tmp 15), type := 37, pos := "law.go:290", after := #[], guard := none }, { dst := some 72, op := Op.buildSlice 64 1 #[(0, Operand.tmp 71)], type := 64, pos := "law.go:290", after := #[{ on := 5, ground := Ground.data }], guard := none }, { dst := some 73, op := Op.call { callee := Callee.builtin Builtin.append, args := #[Operand.tmp 70, Operand.tmp 72], argTypes := #[64, 64] }, type := 64, pos := "law.go:290", after := #[{ on := 4, ground := Ground.data }, { on := 6, ground := Ground.data }, { on := 3, ground := Ground.chain }], guard := none }, { dst := none, op := Op.store 42 (Operand.tmp 12) (Operand.tmp 69), type := 0, pos := "law.go:290", after := #[{ on := 3, ground := Ground.data }, { on := 7, ground := Ground.chain }, { on := 0, ground := Ground.phase }, { on := 1, ground := Ground.phase }, { on := 2, ground := Ground.phase }, { on := 3, ground := Ground.phase }, { on := 4, ground := Ground.textOnly Departure.inlinedCapture }, { on := 5, ground := Ground.textOnly Departure.lateStores }, { on := 6, ground := Ground.textOnly Departure.inlinedCapture }, { on := 7, ground := Ground.textOnly Departure.lateStoresUnsure }], guard := none }, { dst := none, op := Op.store 64 (Operand.tmp 13) (Operand.tmp 73), type := 0, pos := "law.go:290", after := #[{ on := 7, ground := Ground.data }, { on := 8, ground := Ground.chain }, { on := 0, ground := Ground.phase }, { on := 1, ground := Ground.phase }, { on := 2, ground := Ground.phase }, { on := 3, ground := Ground.phase }, { on := 4, ground := Ground.phase }, { on := 5, ground := Ground.phase }, { on := 6, ground := Ground.phase }, { on := 7, ground := Ground.phase }, { on := 8, ground := Ground.phase }], guard := none }]
theorem rows_ne {w : World} {B B' e e' size size' n n' : Nat} {v v' : Value} {xs xs' : List Value} (h : w.ownsRow B e size v n xs) (h' : w.ownsRow B' e' size' v' n' xs') (hne : e ≠ e') : v.ownBlock = none ∨ v.ownBlock ≠ v'.ownBlock := by
  rcases h.2 with ⟨rfl, _⟩ | ⟨g, cap, cur, rfl, _, hh, _⟩
  · exact .inl rfl
  · refine .inr fun e1 => ?_
    rcases h'.2 with ⟨rfl, _⟩ | ⟨g', cap', cur', rfl, _, hh', _⟩
    · simp [Value.ownBlock] at e1
    · simp [Value.ownBlock] at e1
      subst e1
      rw [hh] at hh'
      injection hh' with h1
      injection h1 with _ h2 _
      exact hne h2
def slot (a : Act) (d : Nat) : Value := a.tmps[d]?.getD undef
theorem slot_put {a : Act} {d e : Nat} {x : Value} (h : d < a.tmps.size) : slot (a.put (some d) x) e = if d = e then x else slot a e := by
  unfold slot Act.put
  dsimp only
  rw [Array.getElem?_setIfInBounds]
  by_cases c : d = e
  · subst c; rw [if_pos rfl, if_pos rfl, if_pos h]; rfl
  · rw [if_neg c, if_neg c]
/-- One of the two rows: what is loaded, the new element, its block, the row with it, the box. -/
structure Pt (hi : Nat) (tS tE sz B : Nat) (v : Value) (m : Nat) (xs news : List Value) (x : Value) (q0 q1 q2 q3 : Nat) (f0 f1 f2 f3 f8 : Bool) (a : Act) (w : World) : Prop where
  l0 : f0 = true → slot a q0 = v
  l1 : f1 = true → slot a q1 = x
  l2 : f2 = true → f3 = false → ∃ b, slot a q2 = .slice (some ⟨b, 0, none⟩) 1 1 ∧ Whole w b tE news.toArray
  r : f3 = false → w.ownsRow hi tE sz v m xs
  r' : f3 = true → w.ownsRow hi tE sz (slot a q3) (m + 1) (xs ++ news)
  bx : Boxed w B tS (if f8 = true then slot a q3 else v)
  d2 : f2 = true → f1 = true
  d3 : f3 = true → f0 = true ∧ f2 = true
  d8 : f8 = true → f3 = true
section
variable {hi tS tE sz B m q0 q1 q2 q3 : Nat} {v x : Value} {xs news : List Value} {f0 f1 f2 f3 f8 : Bool} {a : Act} {w w' : World}
theorem Pt.put (h : Pt hi tS tE sz B v m xs news x q0 q1 q2 q3 f0 f1 f2 f3 f8 a w) {d : Nat} {y : Value} (hd : d < a.tmps.size) (h0 : d ≠ q0) (h1 : d ≠ q1) (h2 : d ≠ q2) (h3 : d ≠ q3) : Pt hi tS tE sz B v m xs news x q0 q1 q2 q3 f0 f1 f2 f3 f8 (a.put (some d) y) w := by
  have e : ∀ q, d ≠ q → slot (a.put (some d) y) q = slot a q := fun q hq => by rw [slot_put hd, if_neg hq]
  exact ⟨by rw [e _ h0]; exact h.l0, by rw [e _ h1]; exact h.l1, by rw [e _ h2]; exact h.l2, h.r, by rw [e _ h3]; exact h.r', by rw [e _ h3]; exact h.bx, h.d2, h.d3, h.d8⟩
/-- In a world where the blocks that it names are as they were. -/
theorem Pt.alloc (h : Pt hi tS tE sz B v m xs news x q0 q1 q2 q3 f0 f1 f2 f3 f8 a w) (o : Obj) : Pt hi tS tE sz B v m xs news x q0 q1 q2 q3 f0 f1 f2 f3 f8 a (w.alloc o) :=
  ⟨h.l0, h.l1, fun h2 h3 => let ⟨b, e, hw⟩ := h.l2 h2 h3; ⟨b, e, hw.alloc o⟩, fun e => (h.r e).alloc o, fun e => (h.r' e).alloc o, h.bx.alloc o, h.d2, h.d3, h.d8⟩
/-- The other row has grown. -/
theorem Pt.grown (h : Pt hi tS tE sz B v m xs news x q0 q1 q2 q3 f0 f1 f2 f3 f8 a w) {hi' e' sz' n' : Nat} {u : Value} {ys : List Value} (hu : w.ownsRow hi' e' sz' u n' ys) (h1 : tS ≠ e') (h2 : tE ≠ e') (hg : w.grownBy w' u.ownBlock) : Pt hi tS tE sz B v m xs news x q0 q1 q2 q3 f0 f1 f2 f3 f8 a w' := by
  refine ⟨h.l0, h.l1, fun e2 e3 => ?_, fun e => (h.r e).kept hg (rows_ne (h.r e) hu h2), fun e => (h.r' e).kept hg (rows_ne (h.r' e) hu h2), h.bx.kept hg (h.bx.not_row h1 hu), h.d2, h.d3, h.d8⟩
  obtain ⟨b, e, hw⟩ := h.l2 e2 e3
  refine ⟨b, e, (hg.block b hw.lt fun c => ?_).trans hw⟩
  rcases hu.2 with ⟨rfl, _⟩ | ⟨g, cap, cur, rfl, _, hh, _⟩
  · simp [Value.ownBlock] at c
  · simp [Value.ownBlock] at c
    subst c
    unfold Whole at hw
    rw [hh] at hw
    injection hw with hw
    injection hw with _ hw _
    exact h2 hw.symm
/-- Another box is set. -/
theorem Pt.set (h : Pt hi tS tE sz B v m xs news x q0 q1 q2 q3 f0 f1 f2 f3 f8 a w) {c t : Nat} {u y : Value} (hc : Boxed w c t u) (h1 : tS ≠ t) (h2 : tE ≠ t) : Pt hi tS tE sz B v m xs news x q0 q1 q2 q3 f0 f1 f2 f3 f8 a (w.setCell ⟨c, 0, none⟩ y) := by
  have hg := grownBy_setCell' w c y
  have nr : ∀ {z k l}, w.ownsRow hi tE sz z k l → z.ownBlock = none ∨ z.ownBlock ≠ some c := fun {z k l} hz => by
    have := hc.not_row h2.symm hz
    exact .inr this.symm
  refine ⟨h.l0, h.l1, fun e2 e3 => ?_, fun e => (h.r e).kept hg (nr (h.r e)), fun e => (h.r' e).kept hg (nr (h.r' e)), h.bx.kept hg (fun e => ?_), h.d2, h.d3, h.d8⟩
  · obtain ⟨b, e, hw⟩ := h.l2 e2 e3
    refine ⟨b, e, (hg.block b hw.lt fun k => ?_).trans hw⟩
    injection k with k
    subst k
    unfold Whole at hw
    unfold Boxed at hc
    rw [hc] at hw
    injection hw with hw
    injection hw with _ hw _
    exact h2 hw.symm
  · injection e with e
    subst e
    have hb := h.bx
    unfold Boxed at hb hc
    rw [hc] at hb
    injection hb with hb
    injection hb with _ hb _
    exact h1 hb.symm
/-- The row is loaded. -/
theorem Pt.own0 (h : Pt hi tS tE sz B v m xs news x q0 q1 q2 q3 f0 f1 f2 f3 f8 a w) (hd : q0 < a.tmps.size) (hq : q0 ≠ q1 ∧ q0 ≠ q2 ∧ q0 ≠ q3) : Pt hi tS tE sz B v m xs news x q0 q1 q2 q3 true f1 f2 f3 f8 (a.put (some q0) v) w := by
  obtain ⟨h1, h2, h3⟩ := hq
  have e : ∀ q, q0 ≠ q → slot (a.put (some q0) v) q = slot a q := fun q hq => by rw [slot_put hd, if_neg hq]
  exact ⟨fun _ => by rw [slot_put hd, if_pos rfl], by rw [e _ h1]; exact h.l1, by rw [e _ h2]; exact h.l2, h.r, by rw [e _ h3]; exact h.r', by rw [e _ h3]; exact h.bx, h.d2, fun k => ⟨rfl, (h.d3 k).2⟩, h.d8⟩
/-- The new element is loaded. -/
theorem Pt.own1 (h : Pt hi tS tE sz B v m xs news x q0 q1 q2 q3 f0 f1 f2 f3 f8 a w) (hd : q1 < a.tmps.size) (hq : q1 ≠ q0 ∧ q1 ≠ q2 ∧ q1 ≠ q3) : Pt hi tS tE sz B v m xs news x q0 q1 q2 q3 f0 true f2 f3 f8 (a.put (some q1) x) w := by
  obtain ⟨h1, h2, h3⟩ := hq
  have e : ∀ q, q1 ≠ q → slot (a.put (some q1) x) q = slot a q := fun q hq => by rw [slot_put hd, if_neg hq]
  exact ⟨by rw [e _ h1]; exact h.l0, fun _ => by rw [slot_put hd, if_pos rfl], by rw [e _ h2]; exact h.l2, h.r, by rw [e _ h3]; exact h.r', by rw [e _ h3]; exact h.bx, fun _ => rfl, h.d3, h.d8⟩
/-- It is laid in a block of its own. -/
theorem Pt.own2 (h : Pt hi tS tE sz B v m xs news x q0 q1 q2 q3 f0 f1 f2 f3 f8 a w) (hf : f1 = true) (hd : q2 < a.tmps.size) (hq : q2 ≠ q0 ∧ q2 ≠ q1 ∧ q2 ≠ q3) :
    Pt hi tS tE sz B v m xs news x q0 q1 q2 q3 f0 f1 true f3 f8 (a.put (some q2) (.slice (some ⟨w.heap.size, 0, none⟩) 1 1)) (w.alloc (.cells news.toArray tE)) := by
  obtain ⟨h1, h2, h3⟩ := hq
  have e : ∀ q, q2 ≠ q → slot (a.put (some q2) (.slice (some ⟨w.heap.size, 0, none⟩) 1 1)) q = slot a q := fun q hq => by rw [slot_put hd, if_neg hq]
  have k := h.alloc (.cells news.toArray tE)
  exact ⟨by rw [e _ h1]; exact k.l0, by rw [e _ h2]; exact k.l1, fun _ _ => ⟨_, by rw [slot_put hd, if_pos rfl], Whole.fresh _ _ _⟩, k.r, by rw [e _ h3]; exact k.r', by rw [e _ h3]; exact k.bx, fun _ => hf, fun k => ⟨(h.d3 k).1, rfl⟩, h.d8⟩
/-- It is appended. -/
theorem Pt.own3 (h : Pt hi tS tE sz B v m xs news x q0 q1 q2 q3 f0 f1 f2 f3 f8 a w) (hf : f0 = true ∧ f2 = true ∧ f3 = false) (hd : q3 < a.tmps.size) (hq : q3 ≠ q0 ∧ q3 ≠ q1 ∧ q3 ≠ q2) (hne : tS ≠ tE) {v' : Value} (hown : w'.ownsRow hi tE sz v' (m + 1) (xs ++ news)) (hg : w.grownBy w' v.ownBlock) :
    Pt hi tS tE sz B v m xs news x q0 q1 q2 q3 f0 f1 f2 true f8 (a.put (some q3) v') w' := by
  obtain ⟨g0, g2, g3⟩ := hf
  have g8 : f8 = false := by cases f8 with
    | false => rfl
    | true => have := h.d8 rfl; rw [g3] at this; cases this
  subst g8
  obtain ⟨h1, h2, h3⟩ := hq
  have e : ∀ q, q3 ≠ q → slot (a.put (some q3) v') q = slot a q := fun q hq => by rw [slot_put hd, if_neg hq]
  refine ⟨by rw [e _ h1]; exact h.l0, by rw [e _ h2]; exact h.l1, (fun _ k => by cases k), (fun k => by cases k), (fun _ => by rw [slot_put hd, if_pos rfl]; exact hown), ?_, h.d2, fun _ => ⟨g0, g2⟩, (fun k => by cases k)⟩
  have hb := h.bx
  rw [if_neg (by decide)] at hb ⊢
  exact hb.kept hg (hb.not_row hne (h.r g3))
/-- The row with it is put into the box. -/
theorem Pt.own8 (h : Pt hi tS tE sz B v m xs news x q0 q1 q2 q3 f0 f1 f2 f3 f8 a w) (hf : f3 = true) (hne : tE ≠ tS) : Pt hi tS tE sz B v m xs news x q0 q1 q2 q3 f0 f1 f2 f3 true a (w.setCell ⟨B, 0, none⟩ (slot a q3)) := by
  refine ⟨h.l0, h.l1, (fun _ k => by rw [hf] at k; cases k), (fun k => by rw [hf] at k; cases k), (fun e => ?_), ?_, h.d2, h.d3, fun _ => hf⟩
  · exact (h.r' e).kept (grownBy_setCell' w B _) (.inr (h.bx.not_row hne.symm (h.r' e)).symm)
  · rw [if_pos rfl]
    exact h.bx.set _
end
/-- Where the region stands. -/
structure TwInv (R : World → Prop) (hi b12 b13 b15 : Nat) (p K I G : Int) (v1 v2 : Value) (m : Nat) (xs ys : List Value) (listed : Array Bool) (a : Act) (w : World) : Prop where
  sz : listed.size = 10
  tz : 74 ≤ a.tmps.size
  s12 : slot a 12 = .pointer (some ⟨b12, 0, none⟩)
  s13 : slot a 13 = .pointer (some ⟨b13, 0, none⟩)
  s14 : slot a 14 = .int .i64 p
  s15 : slot a 15 = .pointer (some ⟨b15, 0, none⟩)
  b15 : listed.getD 5 false = false → Whole w b15 37 #[.int .i64 K, .int .i64 I, .int .i64 G]
  hs : hi ≤ w.heap.size
  R : R w
  X : Pt hi 42 3 1 b12 v1 m xs [.int .i64 p] (.int .i64 p) 66 67 68 69 (listed.getD 0 false) (listed.getD 1 false) (listed.getD 2 false) (listed.getD 3 false) (listed.getD 8 false) a w
  Y : Pt hi 64 37 3 b13 v2 m ys [.int .i64 K, .int .i64 I, .int .i64 G] (.agg #[.int .i64 K, .int .i64 I, .int .i64 G]) 70 71 72 73 (listed.getD 4 false) (listed.getD 5 false) (listed.getD 6 false) (listed.getD 7 false) (listed.getD 9 false) a w
theorem wpIn_append_ran {F : Fence} {n : Nat} {P : Program} {o : Oper} {a : Act} {w w' : World} {K : Act → World → Prop} {Q : Exit → Act → World → Prop} {s x : Operand} {t : TypeId} {v u v' : Value}
    (hop : o.op = Op.call { callee := Callee.builtin Builtin.append, args := #[s, x], argTypes := #[t, t] }) (hs : a.eval s = v) (hx : a.eval x = u) (hrun : (Builtin.append_ #[t, t] o.type #[v, u]).run P w = .ok v' w') (hK : K (a.put o.dst v') w') : o.wpIn F n P a w K Q := by
  unfold Oper.wpIn
  refine ⟨?_, ?_⟩
  · simp [Oper.about, hop, resolve, Target.leads, Sem.run_pure]
  · rw [Oper.semAt_eq _ _ _ (by rw [hop]; intro c hc'; cases hc')]
    simp [execOp, hop, resolve, invoke, builtin, hs, hx, hrun, Result.andThen]
    exact hK

section
variable {R : World → Prop} {hi b12 b13 b15 m : Nat} {p K I G : Int} {v1 v2 : Value} {xs ys : List Value} {listed : Array Bool} {a : Act} {w : World} {l n : Nat} {Q : Exit → Act → World → Prop}
theorem not_true {l : Array Bool} {i : Nat} (h : l.getD i true = false) : l.getD i false = false := by
  by_cases c : i < l.size
  · simpa [Array.getD, c] using h
  · simp [Array.getD, c] at h
theorem TwInv.put (h : TwInv R hi b12 b13 b15 p K I G v1 v2 m xs ys listed a w) (i d : Nat) {y : Value} {w' : World} (hd : 66 ≤ d ∧ d < 74)
    (hb : (if i = 5 then true else listed.getD 5 false) = false → Whole w' b15 37 #[.int .i64 K, .int .i64 I, .int .i64 G]) (hs : hi ≤ w'.heap.size) (hR : R w')
    (hX : Pt hi 42 3 1 b12 v1 m xs [.int .i64 p] (.int .i64 p) 66 67 68 69 (if i = 0 then true else listed.getD 0 false) (if i = 1 then true else listed.getD 1 false) (if i = 2 then true else listed.getD 2 false) (if i = 3 then true else listed.getD 3 false) (if i = 8 then true else listed.getD 8 false) (a.put (some d) y) w')
    (hY : Pt hi 64 37 3 b13 v2 m ys [.int .i64 K, .int .i64 I, .int .i64 G] (.agg #[.int .i64 K, .int .i64 I, .int .i64 G]) 70 71 72 73 (if i = 4 then true else listed.getD 4 false) (if i = 5 then true else listed.getD 5 false) (if i = 6 then true else listed.getD 6 false) (if i = 7 then true else listed.getD 7 false) (if i = 9 then true else listed.getD 9 false) (a.put (some d) y) w') :
    TwInv R hi b12 b13 b15 p K I G v1 v2 m xs ys (listed.setIfInBounds i true) (a.put (some d) y) w' := by
  have tz := h.tz
  have e : ∀ k, k < 66 → slot (a.put (some d) y) k = slot a k := fun k hk => by rw [slot_put (by omega), if_neg (by omega)]
  have f : ∀ j, j < 10 → (listed.setIfInBounds i true).getD j false = (if i = j then true else listed.getD j false) := fun j hj => flag_set h.sz hj
  refine ⟨by simp [h.sz], by simpa [Act.put] using h.tz, (e 12 (by decide)).trans h.s12, (e 13 (by decide)).trans h.s13, (e 14 (by decide)).trans h.s14, (e 15 (by decide)).trans h.s15, ?_, hs, hR, ?_, ?_⟩
  · rw [f 5 (by decide)]; exact hb
  · rw [f 0 (by decide), f 1 (by decide), f 2 (by decide), f 3 (by decide), f 8 (by decide)]; exact hX
  · rw [f 4 (by decide), f 5 (by decide), f 6 (by decide), f 7 (by decide), f 9 (by decide)]; exact hY
theorem TwInv.set (h : TwInv R hi b12 b13 b15 p K I G v1 v2 m xs ys listed a w) (i : Nat) {w' : World}
    (hb : (if i = 5 then true else listed.getD 5 false) = false → Whole w' b15 37 #[.int .i64 K, .int .i64 I, .int .i64 G]) (hs : hi ≤ w'.heap.size) (hR : R w')
    (hX : Pt hi 42 3 1 b12 v1 m xs [.int .i64 p] (.int .i64 p) 66 67 68 69 (if i = 0 then true else listed.getD 0 false) (if i = 1 then true else listed.getD 1 false) (if i = 2 then true else listed.getD 2 false) (if i = 3 then true else listed.getD 3 false) (if i = 8 then true else listed.getD 8 false) a w')
    (hY : Pt hi 64 37 3 b13 v2 m ys [.int .i64 K, .int .i64 I, .int .i64 G] (.agg #[.int .i64 K, .int .i64 I, .int .i64 G]) 70 71 72 73 (if i = 4 then true else listed.getD 4 false) (if i = 5 then true else listed.getD 5 false) (if i = 6 then true else listed.getD 6 false) (if i = 7 then true else listed.getD 7 false) (if i = 9 then true else listed.getD 9 false) a w') :
    TwInv R hi b12 b13 b15 p K I G v1 v2 m xs ys (listed.setIfInBounds i true) a w' := by
  have f : ∀ j, j < 10 → (listed.setIfInBounds i true).getD j false = (if i = j then true else listed.getD j false) := fun j hj => flag_set h.sz hj
  refine ⟨by simp [h.sz], h.tz, h.s12, h.s13, h.s14, h.s15, ?_, hs, hR, ?_, ?_⟩
  · rw [f 5 (by decide)]; exact hb
  · rw [f 0 (by decide), f 1 (by decide), f 2 (by decide), f 3 (by decide), f 8 (by decide)]; exact hX
  · rw [f 4 (by decide), f 5 (by decide), f 6 (by decide), f 7 (by decide), f 9 (by decide)]; exact hY
/-- What is said of the world that the region leaves alone. -/
structure TwR (R : World → Prop) (hi b12 b13 : Nat) : Prop where
  al : ∀ w o, R w → hi ≤ w.heap.size → R (w.alloc o)
  gr : ∀ w w' (e sz n : Nat) (v : Value) (xs : List Value), R w → hi ≤ w.heap.size → w.ownsRow hi e sz v n xs → w.grownBy w' v.ownBlock → R w'
  st : ∀ w u, R w → R (w.setCell ⟨b12, 0, none⟩ u) ∧ R (w.setCell ⟨b13, 0, none⟩ u)
theorem f_of {b : Bool} (h : ¬ b = true) : b = false := by cases b <;> simp_all
theorem Pt.no8 {tS tE sz B q0 q1 q2 q3 : Nat} {v x : Value} {news : List Value} {f0 f1 f2 f3 f8 : Bool} (h : Pt hi tS tE sz B v m xs news x q0 q1 q2 q3 f0 f1 f2 f3 f8 a w) (h0 : f0 = false) : f8 = false ∧ Boxed w B tS v := by
  have g8 : f8 = false := f_of fun c => by have := (h.d3 (h.d8 c)).1; rw [h0] at this; cases this
  have hb := h.bx
  rw [g8, if_neg (by decide)] at hb
  exact ⟨g8, hb⟩
theorem two0 (h : TwInv R hi b12 b13 b15 p K I G v1 v2 m xs ys listed a w) (hn : listed.getD 0 true = false) : wpOpIn (Fence.wide.inRound l) n Tryz.prog twoOps Q 0 (fun a' w' => TwInv R hi b12 b13 b15 p K I G v1 v2 m xs ys (listed.setIfInBounds 0 true) a' w') a w := by
  have e12 := h.s12
  have tz := h.tz
  have hc := (h.X.no8 (not_true hn)).2.cell
  have HH := Lib.hid (h.put 0 66 (by omega) h.b15 h.hs h.R (h.X.own0 (by omega) (by decide)) (h.Y.put (by omega) (by decide) (by decide) (by decide) (by decide)))
  unfold slot at e12
  refine wpOpIn_step rfl (fun K hK => ?_)
  clear h hn tz
  go_simp
  exact hK _ _ HH.out
theorem two1 (h : TwInv R hi b12 b13 b15 p K I G v1 v2 m xs ys listed a w) : wpOpIn (Fence.wide.inRound l) n Tryz.prog twoOps Q 1 (fun a' w' => TwInv R hi b12 b13 b15 p K I G v1 v2 m xs ys (listed.setIfInBounds 1 true) a' w') a w := by
  have e14 := h.s14
  have tz := h.tz
  have HH := Lib.hid (h.put 1 67 (by omega) h.b15 h.hs h.R (h.X.own1 (by omega) (by decide)) (h.Y.put (by omega) (by decide) (by decide) (by decide) (by decide)))
  unfold slot at e14
  refine wpOpIn_step rfl (fun K hK => ?_)
  clear h tz
  go_simp
  exact hK _ _ HH.out
theorem two2 (h : TwInv R hi b12 b13 b15 p K I G v1 v2 m xs ys listed a w) (hR : TwR R hi b12 b13) (h1 : listed.getD 1 false = true) : wpOpIn (Fence.wide.inRound l) n Tryz.prog twoOps Q 2 (fun a' w' => TwInv R hi b12 b13 b15 p K I G v1 v2 m xs ys (listed.setIfInBounds 2 true) a' w') a w := by
  have e67 := h.X.l1 h1
  have tz := h.tz
  have HH := Lib.hid (h.put 2 68 (by omega) (fun e => (h.b15 e).alloc (.cells #[.int .i64 p] 3)) (by simp; have := h.hs; omega) (hR.al _ _ h.R h.hs) (h.X.own2 h1 (by omega) (by decide)) ((h.Y.alloc _).put (by omega) (by decide) (by decide) (by decide) (by decide)))
  unfold slot at e67
  refine wpOpIn_step rfl (fun K hK => ?_)
  clear h tz h1 hR
  go_simp
  exact hK _ _ HH.out
theorem two4 (h : TwInv R hi b12 b13 b15 p K I G v1 v2 m xs ys listed a w) (hn : listed.getD 4 true = false) : wpOpIn (Fence.wide.inRound l) n Tryz.prog twoOps Q 4 (fun a' w' => TwInv R hi b12 b13 b15 p K I G v1 v2 m xs ys (listed.setIfInBounds 4 true) a' w') a w := by
  have e13 := h.s13
  have tz := h.tz
  have hc := (h.Y.no8 (not_true hn)).2.cell
  have HH := Lib.hid (h.put 4 70 (by omega) h.b15 h.hs h.R (h.X.put (by omega) (by decide) (by decide) (by decide) (by decide)) (h.Y.own0 (by omega) (by decide)))
  unfold slot at e13
  refine wpOpIn_step rfl (fun K hK => ?_)
  clear h hn tz
  go_simp
  exact hK _ _ HH.out
theorem two5 (h : TwInv R hi b12 b13 b15 p K I G v1 v2 m xs ys listed a w) (hn : listed.getD 5 true = false) : wpOpIn (Fence.wide.inRound l) n Tryz.prog twoOps Q 5 (fun a' w' => TwInv R hi b12 b13 b15 p K I G v1 v2 m xs ys (listed.setIfInBounds 5 true) a' w') a w := by
  have e15 := h.s15
  have tz := h.tz
  obtain ⟨c0, c1, c2⟩ := (h.b15 (not_true hn)).cells3
  have HH := Lib.hid (h.put 5 71 (by omega) (fun e => by cases e) h.hs h.R (h.X.put (by omega) (by decide) (by decide) (by decide) (by decide)) (h.Y.own1 (by omega) (by decide)))
  unfold slot at e15
  refine wpOpIn_step rfl (fun K hK => ?_)
  clear h hn tz
  go_simp
  exact hK _ _ HH.out
theorem two6 (h : TwInv R hi b12 b13 b15 p K I G v1 v2 m xs ys listed a w) (hR : TwR R hi b12 b13) (h1 : listed.getD 5 false = true) : wpOpIn (Fence.wide.inRound l) n Tryz.prog twoOps Q 6 (fun a' w' => TwInv R hi b12 b13 b15 p K I G v1 v2 m xs ys (listed.setIfInBounds 6 true) a' w') a w := by
  have e71 := h.Y.l1 h1
  have tz := h.tz
  have HH := Lib.hid (h.put 6 72 (by omega) (fun e => (h.b15 e).alloc (.cells #[.int .i64 K, .int .i64 I, .int .i64 G] 37)) (by simp; have := h.hs; omega) (hR.al _ _ h.R h.hs) ((h.X.alloc _).put (by omega) (by decide) (by decide) (by decide) (by decide)) (h.Y.own2 h1 (by omega) (by decide)))
  unfold slot at e71
  refine wpOpIn_step rfl (fun K hK => ?_)
  clear h tz h1 hR
  go_simp
  exact hK _ _ HH.out
theorem two8 (h : TwInv R hi b12 b13 b15 p K I G v1 v2 m xs ys listed a w) (hR : TwR R hi b12 b13) (h3 : listed.getD 3 false = true) : wpOpIn (Fence.wide.inRound l) n Tryz.prog twoOps Q 8 (fun a' w' => TwInv R hi b12 b13 b15 p K I G v1 v2 m xs ys (listed.setIfInBounds 8 true) a' w') a w := by
  have e12 := h.s12
  have hb := h.X.bx
  have hc := hb.cell
  have hf := hb.frozen
  have HH := Lib.hid (h.set 8 (w' := w.setCell ⟨b12, 0, none⟩ (slot a 69)) (fun e => by
    have hw := h.b15 e
    exact (Below.heap_setCell w ⟨b12, 0, none⟩ _ _ (fun c => by
      subst c
      unfold Boxed at hb
      unfold Whole at hw
      rw [hb] at hw
      injection hw with hw
      injection hw with _ hw _
      exact absurd hw (by decide))).trans hw) (by simpa [World.setCell] using h.hs) (hR.st _ _ h.R).1 (h.X.own8 h3 (by decide)) (h.Y.set hb (by decide) (by decide)))
  obtain ⟨g, cap, e69⟩ := ownsRow_succ (h.X.r' h3)
  rw [e69] at HH
  unfold slot at e12 e69
  refine wpOpIn_step rfl (fun K hK => ?_)
  clear h h3 hR hb
  go_simp
  exact hK _ _ HH.out
theorem two9 (h : TwInv R hi b12 b13 b15 p K I G v1 v2 m xs ys listed a w) (hR : TwR R hi b12 b13) (h7 : listed.getD 7 false = true) : wpOpIn (Fence.wide.inRound l) n Tryz.prog twoOps Q 9 (fun a' w' => TwInv R hi b12 b13 b15 p K I G v1 v2 m xs ys (listed.setIfInBounds 9 true) a' w') a w := by
  have e13 := h.s13
  have hb := h.Y.bx
  have hc := hb.cell
  have hf := hb.frozen
  have HH := Lib.hid (h.set 9 (w' := w.setCell ⟨b13, 0, none⟩ (slot a 73)) (fun e => by
    have hw := h.b15 e
    exact (Below.heap_setCell w ⟨b13, 0, none⟩ _ _ (fun c => by
      subst c
      unfold Boxed at hb
      unfold Whole at hw
      rw [hb] at hw
      injection hw with hw
      injection hw with _ hw _
      exact absurd hw (by decide))).trans hw) (by simpa [World.setCell] using h.hs) (hR.st _ _ h.R).2 (h.X.set hb (by decide) (by decide)) (h.Y.own8 h7 (by decide)))
  obtain ⟨g, cap, e73⟩ := ownsRow_succ (h.Y.r' h7)
  rw [e73] at HH
  unfold slot at e13 e73
  refine wpOpIn_step rfl (fun K hK => ?_)
  clear h h7 hR hb
  go_simp
  exact hK _ _ HH.out
theorem infoLink2 : (Tryz.prog.info? 37).map (fun i => (i.zero, i.size, i.bytes)) = some (some (.agg #[.int .i64 0, .int .i64 0, .int .i64 0]), 3, 24) := by kernel_rfl
theorem two3 (h : TwInv R hi b12 b13 b15 p K I G v1 v2 m xs ys listed a w) (hR : TwR R hi b12 b13) (hm : m ≤ 1000000) (hn : listed.getD 3 true = false) (h0 : listed.getD 0 false = true) (h2 : listed.getD 2 false = true) : wpOpIn (Fence.wide.inRound l) n Tryz.prog twoOps Q 3 (fun a' w' => TwInv R hi b12 b13 b15 p K I G v1 v2 m xs ys (listed.setIfInBounds 3 true) a' w') a w := by
  obtain ⟨i0, hi0, hz0, hz1, hz2⟩ := info_parts infoInt
  have hn := not_true hn
  obtain ⟨b, e68, hw⟩ := h.X.l2 h2 hn
  have e66 := h.X.l0 h0
  have hr := h.X.r hn
  have tz := h.tz
  obtain ⟨v', w1, hrun, hown', hgrow, _⟩ := run_append_own (P := Tryz.prog) w hi 42 42 3 i0 _ 1 8 Tryz.underlying42 hi0 hz0 hz1 hz2 rfl (by decide) v1 m xs hr ⟨b, 0, none⟩ 1 1 [.int .i64 p] rfl
    (fun j u hj => by
      have := hw.cell j
      rw [show (Addr.add ⟨b, 0, none⟩ j) = ⟨b, j, none⟩ by simp [Addr.add]; exact fun e => e.symm]
      rw [this]
      simpa using hj) (by simp [Value.oneCell']) (by unfold maxLen; omega) (by omega) h.hs
  have HH := Lib.hid (h.put 3 69 (y := v') (w' := w1) (by omega) (fun e => by
    have hw15 := h.b15 e
    exact (hgrow.block b15 hw15.lt (fun c => by
      rcases hr.2 with ⟨e1, _⟩ | ⟨g, cap, cur, e1, _, hh, _⟩
      · rw [e1] at c; simp [Value.ownBlock] at c
      · rw [e1] at c
        simp [Value.ownBlock] at c
        subst c
        unfold Whole at hw15
        rw [hh] at hw15
        injection hw15 with hw15
        injection hw15 with _ hw15 _
        exact absurd hw15 (by decide))).trans hw15) (Nat.le_trans h.hs hgrow.size) (hR.gr _ _ _ _ _ _ _ h.R h.hs hr hgrow) (h.X.own3 ⟨h0, h2, hn⟩ (by omega) (by decide) (by decide) hown' hgrow)
      ((h.Y.grown hr (by decide) (by decide) hgrow).put (by omega) (by decide) (by decide) (by decide) (by decide)))
  unfold slot at e66 e68
  refine wpOpIn_step rfl (fun K hK => ?_)
  rw [if_pos (by rfl)]
  exact wpIn_append_ran rfl (by simpa [Act.eval] using e66) (by simpa [Act.eval] using e68) hrun (hK _ _ HH.out)
theorem two7 (h : TwInv R hi b12 b13 b15 p K I G v1 v2 m xs ys listed a w) (hR : TwR R hi b12 b13) (hm : m ≤ 1000000) (hn : listed.getD 7 true = false) (h4 : listed.getD 4 false = true) (h6 : listed.getD 6 false = true) : wpOpIn (Fence.wide.inRound l) n Tryz.prog twoOps Q 7 (fun a' w' => TwInv R hi b12 b13 b15 p K I G v1 v2 m xs ys (listed.setIfInBounds 7 true) a' w') a w := by
  obtain ⟨i0, hi0, hz0, hz1, hz2⟩ := info_parts infoLink2
  have hn := not_true hn
  obtain ⟨b, e72, hw⟩ := h.Y.l2 h6 hn
  have h5 := h.Y.d2 h6
  have e70 := h.Y.l0 h4
  have hr := h.Y.r hn
  have tz := h.tz
  obtain ⟨v', w1, hrun, hown', hgrow, _⟩ := run_append_own (P := Tryz.prog) w hi 64 64 37 i0 _ 3 24 Tryz.underlying64 hi0 hz0 hz1 hz2 rfl (by decide) v2 m ys hr ⟨b, 0, none⟩ 1 1 [.int .i64 K, .int .i64 I, .int .i64 G] rfl
    (fun j u hj => by
      have := hw.cell j
      rw [show (Addr.add ⟨b, 0, none⟩ j) = ⟨b, j, none⟩ by simp [Addr.add]; exact fun e => e.symm]
      rw [this]
      simpa using hj) (by simp [Value.oneCell']) (by unfold maxLen; omega) (by omega) h.hs
  have HH := Lib.hid (h.put 7 73 (y := v') (w' := w1) (by omega) (fun e => by
    have e' : listed.getD 5 false = false := e
    rw [h5] at e'
    cases e') (Nat.le_trans h.hs hgrow.size) (hR.gr _ _ _ _ _ _ _ h.R h.hs hr hgrow)
      ((h.X.grown hr (by decide) (by decide) hgrow).put (by omega) (by decide) (by decide) (by decide) (by decide))
      (h.Y.own3 ⟨h4, h6, hn⟩ (by omega) (by decide) (by decide) hown' hgrow))
  unfold slot at e70 e72
  refine wpOpIn_step rfl (fun K hK => ?_)
  rw [if_pos (by rfl)]
  exact wpIn_append_ran rfl (by simpa [Act.eval] using e70) (by simpa [Act.eval] using e72) hrun (hK _ _ HH.out)
/-- The region as a whole. -/
theorem two_region {id : Nat} (hR : TwR R hi b12 b13) (hm : m ≤ 1000000) (h0 : TwInv R hi b12 b13 b15 p K I G v1 v2 m xs ys (Array.replicate 10 false) a w.drew)
    (hend : ∀ (a' : Act) (w' : World) (u1 u2 : Value), R w' → hi ≤ w'.heap.size → Boxed w' b12 42 u1 → w'.ownsRow hi 3 1 u1 (m + 1) (xs ++ [.int .i64 p]) → Boxed w' b13 64 u2 → w'.ownsRow hi 37 3 u2 (m + 1) (ys ++ [.int .i64 K, .int .i64 I, .int .i64 G]) → Q .normal a' w') :
    (Code.region id twoOps true).wpIn (Fence.wide.inRound l) n Tryz.prog Q a w := by
  refine wpIn_region_inv (TwInv R hi b12 b13 b15 p K I G v1 v2 m xs ys) (by kernel_rfl) h0 ?_ ?_
  · intro i o ho listed a w h hn hw
    have hi10 : i < 10 := (Array.getElem?_eq_some_iff.1 ho).1
    have wt : ∀ e ∈ o.after, Region.binds .any e = true → listed.getD e.on false = true := hw
    match i, hi10 with
    | 0, _ => exact two0 h hn
    | 1, _ => exact two1 h
    | 2, _ =>
      injection ho with ho; subst ho
      exact two2 h hR (wt ⟨1, .data⟩ (by simp) (by rfl))
    | 3, _ =>
      injection ho with ho; subst ho
      exact two3 h hR hm hn (wt ⟨0, .data⟩ (by simp) (by rfl)) (wt ⟨2, .data⟩ (by simp) (by rfl))
    | 4, _ => exact two4 h hn
    | 5, _ => exact two5 h hn
    | 6, _ =>
      injection ho with ho; subst ho
      exact two6 h hR (wt ⟨5, .data⟩ (by simp) (by rfl))
    | 7, _ =>
      injection ho with ho; subst ho
      exact two7 h hR hm hn (wt ⟨4, .data⟩ (by simp) (by rfl)) (wt ⟨6, .data⟩ (by simp) (by rfl))
    | 8, _ =>
      injection ho with ho; subst ho
      exact two8 h hR (wt ⟨3, .data⟩ (by simp) (by rfl))
    | 9, _ =>
      injection ho with ho; subst ho
      exact two9 h hR (wt ⟨7, .data⟩ (by simp) (by rfl))
  · intro listed a w h hr
    have hall := all_listed (ops := twoOps) (md := .any) (listed := listed) ?_ h.sz hr
    · have g3 := hall 3 (by decide)
      have g7 := hall 7 (by decide)
      have g8 := hall 8 (by decide)
      have g9 := hall 9 (by decide)
      have bx := h.X.bx
      have by2 := h.Y.bx
      rw [g8, if_pos rfl] at bx
      rw [g9, if_pos rfl] at by2
      exact hend _ _ _ _ h.R h.hs bx (h.X.r' g3) by2 (h.Y.r' g7)
    · intro i o ho e he _
      have hi10 : i < 10 := (Array.getElem?_eq_some_iff.1 ho).1
      match i, hi10 with
      | 0, _ => injection ho with ho; subst ho; simp at he
      | 1, _ => injection ho with ho; subst ho; simp at he
      | 2, _ => injection ho with ho; subst ho; simp at he; subst he; decide
      | 3, _ => injection ho with ho; subst ho; simp at he; rcases he with rfl | rfl <;> decide
      | 4, _ => injection ho with ho; subst ho; simp at he
      | 5, _ => injection ho with ho; subst ho; simp at he
      | 6, _ => injection ho with ho; subst ho; simp at he; subst he; decide
      | 7, _ => injection ho with ho; subst ho; simp at he; rcases he with rfl | rfl | rfl <;> decide
      | 8, _ => injection ho with ho; subst ho; simp at he; rcases he with rfl | rfl | rfl | rfl | rfl | rfl | rfl | rfl | rfl | rfl <;> decide
      | 9, _ => injection ho with ho; subst ho; simp at he; rcases he with rfl | rfl | rfl | rfl | rfl | rfl | rfl | rfl | rfl | rfl | rfl <;> decide
end
end Go.Proofs.YteneadimchhhhaaGreatDoor
