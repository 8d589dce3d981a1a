/- Appends of whole slices that lie anywhere to rows of a call's own. -/
import Derived.Test.YtomjaieplpjcpaaGrForm
import Derived.BigFrame
namespace Go.Proofs.Ytomjaieplpjcpaa
open Go.RowKit Go.Lib Go.Sort Go.Maps

theorem run_append_none {P : Program} {w : World} (base : Nat) (t ty e : TypeId) (i : TypeInfo) (size : Nat) (ht : P.underlying t = some (.slice e)) (hi : P.info? e = some i)
    (v : Value) (n : Nat) (xs : List Value) (hown : w.ownsRow base e size v n xs) (c : Nat) :
    (Builtin.append_ #[t, t] ty #[v, .slice none 0 c]).run P w = .ok v w := by
  rcases hown.2 with ⟨rfl, rfl⟩ | ⟨g, cap, cur, rfl, _, _, hnc, _⟩
  · simp [Builtin.append_, run_underlying ht, sizeOf, typeInfo, hi, Builtin.lenOf, Builtin.firstCells]
  · simp [Builtin.append_, run_underlying ht, sizeOf, typeInfo, hi, Builtin.lenOf, Builtin.firstCells, hnc, storeCells]

/-- Cells that lie anywhere, m elements of them, are hung on. -/
theorem run_append_row {w : World} {base n m c size bytes : Nat} {t ty e : TypeId} {z : Value} {v : Value} {A : Option Addr} {xs news : List Value}
    (hin : (Try.prog.info? e).map (fun i => (i.zero, i.size, i.bytes)) = some (some z, size, bytes)) (ht : Try.prog.underlying t = some (.slice e)) (hzs : z.cells.size = size) (hsz : 0 < size)
    (hv : w.ownsRow base e size v n xs) (hl : news.length = m * size) (hA : 0 < m → ∃ b off, A = some ⟨b, off, none⟩ ∧ ∀ j u, news[j]? = some u → w.cell? ⟨b, off + j, none⟩ = some u) (h1 : ∀ u ∈ news, u.oneCell' = true)
    (hlen : n + m ≤ 10000) (hby : bytes ≤ 100) (hbase : base ≤ w.heap.size) :
    ∃ v' w', (Builtin.append_ #[t, t] ty #[v, .slice A m c]).run Try.prog w = .ok v' w' ∧ w'.ownsRow base e size v' (n + m) (xs ++ news) ∧ w.grownBy w' v.ownBlock := by
  obtain ⟨i0, hi, hz0, hz1, hz2⟩ := info_parts hin
  have hb2 : (n + m) * bytes ≤ 10000 * 100 := Nat.mul_le_mul hlen hby
  rcases Nat.eq_zero_or_pos m with h0 | h0
  · subst h0
    have hn0 : news = [] := List.length_eq_zero_iff.1 (by rw [hl]; simp)
    subst hn0
    cases A with
    | none => exact ⟨v, w, run_append_none base t ty e i0 size ht hi v n xs hv c, by rw [List.append_nil]; exact hv, ⟨rfl, rfl, rfl, Nat.le_refl _, fun _ _ _ => rfl⟩⟩
    | some a =>
      obtain ⟨v', w', hr, h2, h3, _⟩ := run_append_own_at (P := Try.prog) w base t ty e i0 z size bytes ht hi hz0 hz1 hz2 hzs hsz v n xs hv a 0 c [] hl (by simp) h1 (by unfold maxLen; omega) (by omega) hbase
      exact ⟨v', w', hr, h2, h3⟩
  · obtain ⟨b, off, rfl, hc⟩ := hA h0
    obtain ⟨v', w', hr, h2, h3, _⟩ := run_append_own_at (P := Try.prog) w base t ty e i0 z size bytes ht hi hz0 hz1 hz2 hzs hsz v n xs hv ⟨b, off, none⟩ m c news hl (fun j u h => by
      have h1 := hc j u h
      by_cases e : j = 0
      · subst e
        simpa [Addr.add] using h1
      · simpa [Addr.add, e] using h1) h1 (by unfold maxLen; omega) (by omega) hbase
    exact ⟨v', w', hr, h2, h3⟩

theorem flatE_at {l : List (Int × Int)} {j : Nat} {u : Value} (h : (flatE l)[j]? = some u) : ∃ (q : Nat) (hq : q < l.length), (j = q * 2 ∧ u = .int .i64 l[q].1) ∨ (j = q * 2 + 1 ∧ u = .int .i64 l[q].2) := by
  have hj : j < (flatE l).length := (List.getElem?_eq_some_iff.1 h).1
  rw [flatE_len] at hj
  have hq : j / 2 < l.length := by omega
  have g := flatE_get l (j / 2) l[j / 2] (List.getElem?_eq_getElem hq)
  refine ⟨j / 2, hq, ?_⟩
  rcases Nat.mod_two_eq_zero_or_one j with e | e
  · have ej : j = j / 2 * 2 := by omega
    rw [← ej, h] at g
    exact .inl ⟨ej, by have := g.1; injection this⟩
  · have ej : j = j / 2 * 2 + 1 := by omega
    rw [← ej, h] at g
    exact .inr ⟨ej, by have := g.2; injection this⟩

section
variable {w : World} {base m c : Nat} {v : Value} {A : Option Addr}
theorem run_append_zs {ty : TypeId} {P Q : List Int} (hv : NewZ base w v P) (hu : ZS w A m Q) (hlen : P.length + Q.length ≤ 10000) (hbase : base ≤ w.heap.size) :
    ∃ v' w', (Builtin.append_ #[33, 33] ty #[v, .slice A m c]).run Try.prog w = .ok v' w' ∧ NewZ base w' v' (P ++ Q) ∧ w.grownBy w' v.ownBlock := by
  obtain ⟨v', w', hr, h2, h3⟩ := run_append_row (news := Q.map (Value.int .i64)) (m := m) (c := c) (A := A) (ty := ty) infoZ Try.underlying33 rfl (by decide) hv.own (by rw [List.length_map, hu.len]; omega) (fun h0 => by
    obtain ⟨b, off, e, _, hc⟩ := hu.2 h0
    refine ⟨b, off, e, fun j u hj => ?_⟩
    rw [List.getElem?_map] at hj
    cases hq : Q[j]? with
    | none => rw [hq] at hj; cases hj
    | some y =>
      rw [hq] at hj
      injection hj with hj
      subst hj
      obtain ⟨hl, e⟩ := List.getElem?_eq_some_iff.1 hq
      rw [← e]
      exact hc j hl) (fun u hu => by obtain ⟨y, _, rfl⟩ := List.mem_map.1 hu; rfl) (by have := hu.len; omega) (by decide) hbase
  refine ⟨v', w', hr, ?_, h3⟩
  unfold NewZ
  rw [List.map_append, List.length_append, hu.len]
  exact h2
theorem wpList_append_zs {ops : Array Oper} {rest : List Oper} {o : Oper} {a : Act} {K : Exit → Act → World → Prop} (hgd : o.guard = none) (s x : Operand)
    (ho : o.op = .call { callee := .builtin .append, args := #[s, x], argTypes := #[33, 33] })
    (base : Nat) (P Q : List Int) (v : Value) (A : Option Addr) (m c : Nat) (hs : a.eval s = v) (hx : a.eval x = .slice A m c) (hv : NewZ base w v P) (hu : ZS w A m Q) (hlen : P.length + Q.length ≤ 10000) (hbase : base ≤ w.heap.size)
    (h : ∀ v' w', NewZ base w' v' (P ++ Q) → w.grownBy w' v.ownBlock → wpList Try.prog ops K rest (a.put o.dst v') w') :
    wpList Try.prog ops K (o :: rest) a w := by
  refine wpList_plain hgd fun K hK => ?_
  obtain ⟨v', w', hr, h2, h3⟩ := run_append_zs (ty := o.type) (c := c) hv hu hlen hbase
  unfold Oper.wp execOp
  simp only [ho, resolve, invoke, builtin, Sem.run_bind, Sem.run_pure, Result.andThen_ok, List.map_toArray, List.map_cons, List.map_nil, hs, hx, hr]
  exact hK _ _ (h v' w' h2 h3)
/-- The same where a guard lets it by. -/
theorem wpList_append_zsw {ops : Array Oper} {rest : List Oper} {o : Oper} {a : Act} {K : Exit → Act → World → Prop} (hgd : Region.wanted o (yielded ops a.tmps) = true) (s x : Operand)
    (ho : o.op = .call { callee := .builtin .append, args := #[s, x], argTypes := #[33, 33] })
    (base : Nat) (P Q : List Int) (v : Value) (A : Option Addr) (m c : Nat) (hs : a.eval s = v) (hx : a.eval x = .slice A m c) (hv : NewZ base w v P) (hu : ZS w A m Q) (hlen : P.length + Q.length ≤ 10000) (hbase : base ≤ w.heap.size)
    (h : ∀ v' w', NewZ base w' v' (P ++ Q) → w.grownBy w' v.ownBlock → wpList Try.prog ops K rest (a.put o.dst v') w') :
    wpList Try.prog ops K (o :: rest) a w := by
  refine BigFrame.wpList_want hgd fun K hK => ?_
  obtain ⟨v', w', hr, h2, h3⟩ := run_append_zs (ty := o.type) (c := c) hv hu hlen hbase
  unfold Oper.wp execOp
  simp only [ho, resolve, invoke, builtin, Sem.run_bind, Sem.run_pure, Result.andThen_ok, List.map_toArray, List.map_cons, List.map_nil, hs, hx, hr]
  exact hK _ _ (h v' w' h2 h3)
theorem EI.app {es fs : List (Int × Int)} (h : EI es) (k : EI fs) : EI (es ++ fs) := fun e he => (List.mem_append.1 he).elim (h e) (k e)
/-- A block laid empty is a row of nothing. -/
theorem NewZ.empty (w : World) : NewZ w.heap.size (w.alloc (.cells #[] 3)) (.slice (some ⟨w.heap.size, 0, none⟩) 0 0) [] :=
  ⟨rfl, .inr ⟨w.heap.size, 0, #[], rfl, Nat.le_refl _, Whole.fresh w _ _, Nat.le_refl _, Nat.zero_le _, rfl, rfl⟩⟩
end
end Go.Proofs.Ytomjaieplpjcpaa
