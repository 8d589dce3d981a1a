/- GrayActs: code, document and the row of those to ask, side by side; append, and where the new row lies. -/
import Derived.Test.YtomjaieplpjcpaaGyDoc
import Derived.Test.YtomjaieplpjcpaaGyGreat
import Derived.Test.YtomjaieplpjcpaaGrApp
namespace Go.Proofs.Ytomjaieplpjcpaa
open Go.RowKit Go.Lib Go.Sort Go.Maps
set_option linter.unusedVariables false

section
variable {w : World} {base m c : Nat} {v : Value} {A : Option Addr}
theorem run_append_zs_at {ty : TypeId} {P Q : List Int} (hv : NewZ base w v P) (hu : ZS w A m Q) (hlen : P.length + Q.length ≤ 10000) (hbase : base ≤ w.heap.size) :
    ∃ v' w', (Builtin.append_ #[33, 33] ty #[v, .slice A m c]).run Try.prog w = .ok v' w' ∧ NewZ base w' v' (P ++ Q) ∧ w.grownBy w' v.ownBlock ∧ (v'.ownBlock = v.ownBlock ∨ v'.ownBlock = some w.heap.size) := by
  obtain ⟨i0, hi, hz0, hz1, hz2⟩ := info_parts infoZ
  have hm := hu.len
  have fin : ∀ (v' : Value) (w' : World), w'.ownsRow base 3 1 v' (P.length + m) (P.map (Value.int .i64) ++ Q.map (Value.int .i64)) → NewZ base w' v' (P ++ Q) := fun v' w' h => by
    unfold NewZ
    rw [List.map_append, List.length_append, hm]
    exact h
  rcases Nat.eq_zero_or_pos m with h0 | h0
  · subst h0
    have hq : Q = [] := List.eq_nil_of_length_eq_zero hm
    subst hq
    cases A with
    | none =>
      refine ⟨v, w, run_append_none base 33 ty 3 i0 1 Try.underlying33 hi v P.length _ hv.own c, by rw [List.append_nil]; exact hv, ⟨rfl, rfl, rfl, Nat.le_refl _, fun _ _ _ => rfl⟩, .inl rfl⟩
    | some a =>
      obtain ⟨v', w', hr, h2, h3, _, h5⟩ := run_append_own_at (P := Try.prog) w base 33 ty 3 i0 _ 1 8 Try.underlying33 hi hz0 hz1 hz2 rfl (by decide) v P.length _ hv.own a 0 c [] rfl (by simp) (by simp) (by unfold maxLen; omega) (by omega) hbase
      exact ⟨v', w', hr, fin _ _ h2, h3, h5⟩
  · obtain ⟨b, off, rfl, _, hc⟩ := hu.2 h0
    obtain ⟨v', w', hr, h2, h3, _, h5⟩ := run_append_own_at (P := Try.prog) w base 33 ty 3 i0 _ 1 8 Try.underlying33 hi hz0 hz1 hz2 rfl (by decide) v P.length _ hv.own ⟨b, off, none⟩ m c (Q.map (Value.int .i64)) (by rw [List.length_map, hm]; omega) (fun j u hj => by
      rw [List.getElem?_map] at hj
      cases hq : Q[j]? with
      | none => rw [hq] at hj; cases hj
      | some y =>
        rw [hq] at hj
        injection hj with hj
        subst hj
        obtain ⟨hl, e⟩ := List.getElem?_eq_some_iff.1 hq
        rw [← e]
        have h1 := hc j hl
        by_cases e : j = 0
        · subst e
          exact (show w.cell? ⟨b, off + 0, none⟩ = _ from h1)
        · rw [show (⟨b, off, none⟩ : Addr).add j = ⟨b, off + j, none⟩ by simp [Addr.add, e]]
          exact h1) (fun u hu => by obtain ⟨y, _, rfl⟩ := List.mem_map.1 hu; rfl) (by unfold maxLen; omega) (by omega) hbase
    exact ⟨v', w', hr, fin _ _ h2, h3, h5⟩
/-- At a step of a region that draws its order. -/
theorem step_append_zs {ops : Array Oper} {o : Oper} {a : Act} {K : Act → World → Prop} {R : Exit → Act → World → Prop} {E : Prop} (hgd : o.guard = none) (s x : Operand)
    (ho : o.op = .call { callee := .builtin .append, args := #[s, x], argTypes := #[33, 33] })
    (base : Nat) (P Q : List Int) (v : Value) (A : Option Addr) (m c : Nat) (hs : a.eval s = v) (hx : a.eval x = .slice A m c) (hv : NewZ base w v P) (hu : ZS w A m Q) (hlen : P.length + Q.length ≤ 10000) (hbase : base ≤ w.heap.size)
    (h : ∀ v' w', NewZ base w' v' (P ++ Q) → w.grownBy w' v.ownBlock → (v'.ownBlock = v.ownBlock ∨ v'.ownBlock = some w.heap.size) → K (a.put o.dst v') w') :
    if Region.wanted o (yielded ops a.tmps) = true then Oper.wp Try.prog o a w K R else E := by
  have hw : Region.wanted o (yielded ops a.tmps) = true := by simp [Region.wanted, hgd]
  rw [if_pos hw]
  obtain ⟨v', w', hr, h2, h3, h4⟩ := run_append_zs_at (ty := o.type) (c := c) hv hu hlen hbase
  unfold Oper.wp execOp
  simp only [ho, resolve, invoke, builtin, Sem.run_bind, Sem.run_pure, Result.andThen_ok, List.map_toArray, List.map_cons, List.map_nil, hs, hx, hr]
  exact h v' w' h2 h3 h4
end

/-- Those to ask. -/
def ask (x : Int) (ls : List Ac) : List Int := x :: ls.flatMap fun a => a.X :: a.xs
theorem ask_take (x : Int) {ls : List Ac} {i : Nat} (h : i < ls.length) : ask x (ls.take (i + 1)) = ask x (ls.take i) ++ [ls[i].X] ++ ls[i].xs := by
  unfold ask
  rw [List.take_succ_eq_append_getElem h, List.flatMap_append]
  simp only [List.flatMap_cons, List.flatMap_nil, List.append_nil, List.cons_append, List.append_assoc, List.nil_append]
theorem ask_len (x : Int) (ls : List Ac) (h : ∀ a ∈ ls, a.xs.length ≤ 40) : (ask x ls).length ≤ 1 + 41 * ls.length := by
  induction ls with
  | nil => simp [ask]
  | cons a l ih =>
    have h1 := ih fun b hb => h b (List.mem_cons_of_mem _ hb)
    have h2 := h a List.mem_cons_self
    simp [ask] at h1 ⊢
    omega
theorem ask_ok (x : Int) (ls : List Ac) (hx : I64 x) (h : ∀ a ∈ ls, I64 a.X ∧ ZI a.xs) : ZI (ask x ls) := fun y hy => by
  rcases List.mem_cons.1 hy with rfl | hy
  · exact hx
  · obtain ⟨a, ha, hy⟩ := List.mem_flatMap.1 hy
    rcases List.mem_cons.1 hy with rfl | hy
    · exact (h a ha).1
    · exact (h a ha).2 y hy

/-- A code's list, a document's, and the row of those to ask, apart, all made since w0. -/
structure Bo (w0 w : World) (b r : Nat) (u : Value) (l : List Int) (s s' : GY.S) : Prop where
  g : Gl w0 w b s
  m : Dl w w0.heap.size r u.ownBlock s'
  a : NewZ w0.heap.size w u l
/-- And an act's box. -/
structure Ba (w0 w : World) (b r : Nat) (u : Value) (l : List Int) (s s' : GY.S) (bx : Nat) (cs : Array Value) : Prop where
  o : Bo w0 w b r u l s s'
  x : Whole w bx 40 cs
theorem below_eq {w W : World} (e1 : W.heap = w.heap) (e2 : W.os = w.os) (e3 : W.tape = w.tape) (e4 : W.output = w.output) : Below w.heap.size w W := ⟨e2, e3, e4, by rw [e1]; exact Nat.le_refl _, fun k _ => by rw [e1]⟩
section
variable {w0 w w' W : World} {b r bx : Nat} {u u' : Value} {l l' : List Int} {s s' t : GY.S} {cs : Array Value} {x : Int}
theorem Bo.below (h : Bo w0 w b r u l s s') (k : Below w.heap.size w w') : Bo w0 w' b r u l s s' := ⟨h.g.below k, h.m.below k, h.a.below k⟩
theorem Bo.alloc (h : Bo w0 w b r u l s s') (o : Obj) : Bo w0 (w.alloc o) b r u l s s' := h.below ((Below.refl _ w).alloc (Nat.le_refl _) o)
theorem Bo.gt (h : Bo w0 w b r u l s s') (h1 : Gl w0 w' b t) (k : Gt w0.heap.size w w') : Bo w0 w' b r u l t s' := ⟨h1, h.m.gt k, h.a.gt k⟩
theorem Bo.dx (h : Bo w0 w b r u l s s') (h1 : Dl w' w0.heap.size r u.ownBlock t) (k : Dx w0.heap.size u.ownBlock w w') : Bo w0 w' b r u l s t := ⟨h.g.dx k, h1, h.a.dx rfl k⟩
/-- The row of those to ask has grown. -/
theorem Bo.grown (h : Bo w0 w b r u l s s') (h1 : NewZ w0.heap.size w' u' l') (k : w.grownBy w' u.ownBlock) (hat : u'.ownBlock = u.ownBlock ∨ u'.ownBlock = some w.heap.size) : Bo w0 w' b r u' l' s s' :=
  ⟨h.g.grown h.a k, h.m.grown k (by
    rcases hat with e | e
    · exact .inl e
    · exact .inr ⟨w.heap.size, e, Nat.le_refl _, (h1.his _ e).2.1⟩), h1⟩
theorem Ba.below (h : Ba w0 w b r u l s s' bx cs) (k : Below w.heap.size w w') : Ba w0 w' b r u l s s' bx cs := ⟨h.o.below k, (k.block _ h.x.lt).trans h.x⟩
theorem Ba.still (h : Ba w0 w b r u l s s' bx cs) (e1 : W.heap = w.heap) (e2 : W.os = w.os) (e3 : W.tape = w.tape) (e4 : W.output = w.output) : Ba w0 W b r u l s s' bx cs := h.below (below_eq e1 e2 e3 e4)
theorem Ba.gt (h : Ba w0 w b r u l s s' bx cs) (h1 : Gl w0 w' b t) (k : Gt w0.heap.size w w') : Ba w0 w' b r u l t s' bx cs := ⟨h.o.gt h1 k, k.whole h.x (by decide) (by decide)⟩
theorem Ba.dx (h : Ba w0 w b r u l s s' bx cs) (h1 : Dl w' w0.heap.size r u.ownBlock t) (k : Dx w0.heap.size u.ownBlock w w') : Ba w0 w' b r u l s t bx cs := ⟨h.o.dx h1 k, k.whole h.x (by decide) (by decide)⟩
theorem Ba.grown (h : Ba w0 w b r u l s s' bx cs) (h1 : NewZ w0.heap.size w' u' l') (k : w.grownBy w' u.ownBlock) (hat : u'.ownBlock = u.ownBlock ∨ u'.ownBlock = some w.heap.size) : Ba w0 w' b r u' l' s s' bx cs :=
  ⟨h.o.grown h1 k hat, (k.block bx h.x.lt fun e => by
    obtain ⟨_, _, ds, hh⟩ := h.o.a.his bx e.symm
    have := (whole_inj hh h.x rfl).1
    revert this
    decide).trans h.x⟩
theorem Ba.c0 {x y z : Value} (h : Ba w0 w b r u l s s' bx #[x, y, z]) : w.cell? ⟨bx, 0, none⟩ = some x := (h.x.cell 0).trans rfl
theorem Ba.c1 {x y z : Value} (h : Ba w0 w b r u l s s' bx #[x, y, z]) : w.cell? ⟨bx, 1, none⟩ = some y := (h.x.cell 1).trans rfl
theorem Ba.c2 {x y z : Value} (h : Ba w0 w b r u l s s' bx #[x, y, z]) : w.cell? ⟨bx, 2, none⟩ = some z := (h.x.cell 2).trans rfl
theorem ba_put (h : Ba w0 w b r u l s s' bx cs) {A : Option Addr} {n c : Nat} {xs : List Int} (hz : ZS w0 A n xs) (hi : ZI xs) (hn : GY.num s + n < 1000000) : Calls Try.prog 11 #[pv b, .slice A n c] w fun e w' => e = .returned (.int .i64 ((GY.cnt s xs : Nat) : Int)) ∧ Ba w0 w' b r u l (GY.puts s xs) s' bx cs := by
  refine (lput_any h.o.g (h.o.g.zs hz) hi hn).mono ?_
  rintro e w' ⟨rfl, h1, h2⟩
  exact ⟨rfl, h.gt h1 h2⟩
theorem ba_again (h : Ba w0 w b r u l s s' bx cs) (hx : I64 x) (hn : GY.num s ≤ 1000000) : Calls Try.prog 12 #[pv b, .int .i64 x] w fun e w' => e = .returned (.bool (decide (GY.col s x = 2))) ∧ Ba w0 w' b r u l (GY.again s x) s' bx cs := by
  refine (lagain_any h.o.g hx hn).mono ?_
  rintro e w' ⟨rfl, h1, h2⟩
  exact ⟨rfl, h.gt h1 h2⟩
theorem ba_paint (h : Ba w0 w b r u l s s' bx cs) (hx : I64 x) (hn : GY.num s < 1000000) : Calls Try.prog 16 #[pv b, .int .i64 x] w fun e w' => e = .returned (.bool (decide (GY.col s x ≠ 2))) ∧ Ba w0 w' b r u l (GY.paint s x) s' bx cs := by
  refine (lpaint_any h.o.g hx hn).mono ?_
  rintro e w' ⟨rfl, h1, h2⟩
  exact ⟨rfl, h.gt h1 h2⟩
theorem ba_next (h : Ba w0 w b r u l s s' bx cs) (hn : GY.num s ≤ 1000000) : Calls Try.prog 8 #[pv b] w fun e w' => e = .returned (.tuple #[.int .i64 (GY.hd s), .bool (decide (s.W ≠ []))]) ∧ Ba w0 w' b r u l (GY.next s) s' bx cs := by
  refine (lnext_any h.o.g hn).mono ?_
  rintro e w' ⟨rfl, h1, h2⟩
  exact ⟨rfl, h.gt h1 h2⟩
theorem ba_dput (h : Ba w0 w b r u l s s' bx cs) (hn : GY.num s' ≤ 1000000) (x : Int) : Calls Try.prog 18 #[pv r, .int .i64 x] w fun e w' => e = .returned (.bool (decide (GY.col s' x = 0))) ∧ Ba w0 w' b r u l s (GY.put s' x) bx cs := by
  refine (dput_any h.o.m hn x).mono ?_
  rintro e w' ⟨rfl, h1, h2⟩
  exact ⟨rfl, h.dx h1 h2⟩
theorem ba_dagain (h : Ba w0 w b r u l s s' bx cs) (hn : GY.num s' ≤ 1000000) (x : Int) : Calls Try.prog 19 #[pv r, .int .i64 x] w fun e w' => e = .returned (.bool (decide (GY.col s' x = 2))) ∧ Ba w0 w' b r u l s (GY.again s' x) bx cs := by
  refine (dagain_any h.o.m hn x).mono ?_
  rintro e w' ⟨rfl, h1, h2⟩
  exact ⟨rfl, h.dx h1 h2⟩
theorem ba_dpaint (h : Ba w0 w b r u l s s' bx cs) (hn : GY.num s' ≤ 1000000) (x : Int) : Calls Try.prog 21 #[pv r, .int .i64 x] w fun e w' => e = .returned (.bool (decide (GY.col s' x ≠ 2))) ∧ Ba w0 w' b r u l s (GY.paint s' x) bx cs := by
  refine (dpaint_any h.o.m hn x).mono ?_
  rintro e w' ⟨rfl, h1, h2⟩
  exact ⟨rfl, h.dx h1 h2⟩
theorem ba_dnext (h : Ba w0 w b r u l s s' bx cs) (g : GY.Good s') (hn : GY.num s' ≤ 1000000) : Calls Try.prog 20 #[pv r] w fun e w' => e = .returned (.tuple #[.int .i64 (GY.hd s'), .bool (decide (s'.W ≠ []))]) ∧ Ba w0 w' b r u l s (GY.next s') bx cs := by
  refine (dnext_any h.o.m g hn).mono ?_
  rintro e w' ⟨rfl, h1, h2⟩
  exact ⟨rfl, h.dx h1 h2⟩
/-- Both are made anew, and the row. -/
theorem bo_made (h : Gl w0 w b GY.S.nil) (x : Int) : Bo w0 ((w.alloc (.cells #[.slice none 0 0, .slice none 0 0] 38)).alloc (.cells #[.int .i64 x] 3)) b w.heap.size (.slice (some ⟨w.heap.size + 1, 0, none⟩) 1 1) [x] GY.S.nil GY.S.nil := by
  obtain ⟨wm, hwm⟩ : ∃ wm, wm = w.alloc (.cells #[.slice none 0 0, .slice none 0 0] 38) := ⟨_, rfl⟩
  have hs : wm.heap.size = w.heap.size + 1 := by rw [hwm]; simp
  have hbs := h.bel.size
  have hb : Whole wm w.heap.size 38 #[.slice none 0 0, .slice none 0 0] := by rw [hwm]; exact Whole.fresh w _ _
  have hd : Dl wm w0.heap.size w.heap.size none GY.S.nil := ⟨_, _, hb, hbs, NewZ.nil _ _, NewZ.nil _ _, .inl rfl, fun g e => by simp [Value.ownBlock] at e, fun g e => by simp [Value.ownBlock] at e, by simp, fun g e => by simp at e⟩
  have hg : Gl w0 wm b GY.S.nil := by rw [hwm]; exact h.alloc _
  rw [← hwm]
  refine ⟨hg.alloc _, hd.grown (World.grownBy_alloc _ _ _) (.inr ⟨w.heap.size + 1, rfl, by omega, by simp; omega⟩), ?_⟩
  rw [← hs]
  exact ⟨rfl, .inr ⟨wm.heap.size, 1, _, rfl, by omega, Whole.fresh wm _ _, by simp, by decide, rfl, rfl⟩⟩
end
end Go.Proofs.Ytomjaieplpjcpaa
