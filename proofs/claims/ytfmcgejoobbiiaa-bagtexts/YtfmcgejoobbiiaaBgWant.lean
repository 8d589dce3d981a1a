/- What the two ranges of BagTexts hold. -/
import Derived.Test.YtfmcgejoobbiiaaBgTx
namespace Go.Proofs.Ytfmcgejoobbiiaa
open Go.RowKit Go.Lib Go.Sort Go.Shelf

theorem infoStr : (Try.prog.info? 9).map (fun i => (i.zero, i.size, i.bytes)) = some (some (.string ⟨#[]⟩), 1, 16) := by kernel_rfl
theorem infoStr_parts : ∃ i, Try.prog.info? 9 = some i ∧ i.zero = some (.string ⟨#[]⟩) ∧ i.size = 1 ∧ i.bytes = 16 := by
  have h := infoStr
  cases hh : Try.prog.info? 9 with
  | none => rw [hh] at h; cases h
  | some i =>
    rw [hh] at h
    simp at h
    exact ⟨i, rfl, h.1, h.2.1, h.2.2⟩
theorem boxed_below {w w' : World} {b : Nat} {t : TypeId} {v : Value} (h : Boxed w b t v) (hb : Below w.heap.size w w') : Boxed w' b t v := (hb.block b h.lt).trans h
theorem keeps_below {B : Nat} {W W' : World} (h : Below W.heap.size W W') : KeepsFrom B W W' := ⟨h.size, fun k _ _ hk _ => (h.block k (Array.getElem?_eq_some_iff.1 hk).1).trans hk⟩
theorem row_ofS {w : World} {base n : Nat} {v : Value} {xs : List Int} (h : w.ownsRow base 9 1 v n (xs.map encS)) : ∃ r, SRow w r v xs := by
  rcases h.2 with ⟨rfl, _⟩ | ⟨g, cap, cur, rfl, hg, hh, _⟩
  · exact ⟨base, Row.of_own h rfl (fun k e => by simp [Value.ownBlock] at e)⟩
  · exact ⟨g, Row.of_own h rfl (fun k e => by simp [Value.ownBlock] at e; omega)⟩
theorem ownsRow_kept {W W' : World} {base size n : Nat} {e : TypeId} {v : Value} {xs : List Value} (h : W.ownsRow base e size v n xs) (hb : Below W.heap.size W W') : W'.ownsRow base e size v n xs := by
  refine ⟨h.1, ?_⟩
  rcases h.2 with h2 | ⟨g, cap, cur, h1, h2, h3, h4⟩
  · exact .inl h2
  · exact .inr ⟨g, cap, cur, h1, h2, (hb.block g (Array.getElem?_eq_some_iff.1 h3).1).trans h3, h4⟩

theorem wpIn_append_ran {F : Fence} {n : Nat} {P : Program} {o : Oper} {a : Act} {w w' : World} {K : Act → World → Prop} {Q : Exit → Act → World → Prop} {s x : Operand} {t : TypeId} {v u v' : Value}
    (hop : o.op = Op.call { callee := Callee.builtin Builtin.append, args := #[s, x], argTypes := #[t, t] }) (hs : a.eval s = v) (hx : a.eval x = u) (hrun : (Builtin.append_ #[t, t] o.type #[v, u]).run P w = .ok v' w') (hK : K (a.put o.dst v') w') : o.wpIn F n P a w K Q := by
  unfold Oper.wpIn
  refine ⟨?_, ?_⟩
  · simp [Oper.about, hop, resolve, Target.leads, Sem.run_pure]
  · rw [Oper.semAt_eq _ _ _ (by rw [hop]; intro c hc'; cases hc')]
    simp [execOp, hop, resolve, invoke, builtin, hs, hx, hrun, Result.andThen]
    exact hK

/-- What the range over the numbers holds: the texts so far. -/
def WI (w0 : World) (hi : Nat) (pre : List Int) (W : World) : Prop :=
  (∃ v, Boxed W w0.heap.size 46 v ∧ W.ownsRow hi 9 1 v pre.length (pre.map encS) ∧ True) ∧ (Below w0.heap.size w0 W ∧ hi ≤ W.heap.size)
theorem WI.own {w0 : World} {hi : Nat} (h : w0.heap.size ≤ hi) : OwnFrom hi (WI w0 hi) :=
  OwnFrom.and (Own.from (holdsRow_own hi w0.heap.size 46 9 1 (fun pre : List Int => pre.length) (fun pre => pre.map encS) (fun _ _ => True)) _) (OwnFrom.and (ownFrom_below (Nat.le_refl _) h) (fun _ _ _ _ hs hg _ => Nat.le_trans hs hg.size))
theorem want_grows {w0 W w7 : World} {lo hi : Nat} {pre : List Int} {v : Value} (hv : Boxed W w0.heap.size 46 v) (hrow : W.ownsRow hi 9 1 v pre.length (pre.map encS)) (hB : Below w0.heap.size w0 W) (hW : hi ≤ W.heap.size)
    (hlo : w0.heap.size < lo) (hlh : lo ≤ hi) (hlen : pre.length ≤ 1000) (x : Int) (tt : ByteArray) (htt : T3 x = tt) (hb : Below W.heap.size W w7) :
    w7.cell? ⟨w0.heap.size, 0, none⟩ = some v ∧ (w7.alloc (.cells #[.string tt] 9)).cell? ⟨w0.heap.size, 0, none⟩ = some v ∧ ∃ v' w1, (∃ g cap, v' = .slice (some ⟨g, 0, none⟩) (pre.length + 1) cap) ∧ (Builtin.append_ #[46, 46] 46 #[v, .slice (some ⟨w7.heap.size, 0, none⟩) 1 1]).run Try.prog (w7.alloc (.cells #[.string tt] 9)) = .ok v' w1 ∧
      w1.cell? ⟨w0.heap.size, 0, none⟩ = some v ∧ w1.frozen? ⟨w0.heap.size, 0, none⟩ = false ∧
      Hid (KeepsFrom hi W (w1.setCell ⟨w0.heap.size, 0, none⟩ v') ∧ Kept lo hi W (w1.setCell ⟨w0.heap.size, 0, none⟩ v') ∧ WI w0 hi (pre ++ [x]) (w1.setCell ⟨w0.heap.size, 0, none⟩ v')) := by
  obtain ⟨i0, hi0, hz0, hz1, hz2⟩ := infoStr_parts
  have hv7 := boxed_below hv hb
  have hr7 := ownsRow_kept hrow hb
  have hs := hb.size
  have hs0 := hB.size
  subst htt
  obtain ⟨v', w1, hrun, hown', hgrow, _⟩ := run_append_own (P := Try.prog) (w7.alloc (.cells #[.string (T3 x)] 9)) hi 46 46 9 i0 _ 1 16 Try.underlying46 hi0 hz0 hz1 hz2 rfl (by decide) v pre.length (pre.map encS) (hr7.alloc _)
    ⟨w7.heap.size, 0, none⟩ 1 1 [.string (T3 x)] rfl (cell_one_new _ _ _) (by simp [Value.oneCell']) (by unfold maxLen; omega) (by omega) (by simp; omega)
  obtain ⟨hv1, hv2, hr2, hk2, hkk, hb2⟩ := appended_far (n₀ := w0.heap.size) (lo := lo) hv7 (by decide) hr7 (by omega) hlo (Nat.le_refl _) (by omega) hown' hgrow
  refine ⟨hv7.cell, (hv7.alloc _).cell, v', w1, ownsRow_succ hown', hrun, hv1.cell, hv1.frozen, Lib.hid ⟨(keeps_below hb).trans (hk2.from _), (Kept.of_below hb hW).trans hkk, ⟨v', hv2, ?_, trivial⟩, (hB.trans (hb.mono hs0)).trans hb2, ?_⟩⟩
  · rw [List.map_append, List.length_append]
    exact hr2
  · exact Nat.le_trans hW (Nat.le_trans hs hk2.size)
/-- What the range over the texts holds: their count. -/
def NI (w0 : World) (pre : List Int) (W : World) : Prop := Boxed W w0.heap.size 3 (.int .i64 (pre.length : Nat)) ∧ Below w0.heap.size w0 W
theorem NI.own {w0 : World} {hi : Nat} (h : w0.heap.size ≤ hi) : OwnFrom hi (NI w0) :=
  OwnFrom.and (Own.from (boxed_own _ _ (fun pre : List Int => Value.int .i64 (pre.length : Nat))) _) (ownFrom_below (Nat.le_refl _) h)
end Go.Proofs.Ytfmcgejoobbiiaa
