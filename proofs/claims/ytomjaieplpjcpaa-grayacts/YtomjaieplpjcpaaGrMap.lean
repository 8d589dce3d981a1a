/- Words for graph's two maps: where each node's edges go, and who has been come to. -/
import Derived.Test.YtomjaieplpjcpaaGrRow
import Derived.Maps.OwnRows
import Derived.Maps.OwnSet
import Derived.Maps.Views
import Derived.Lib.Hide
namespace Go.Proofs.Ytomjaieplpjcpaa
open Go.RowKit Go.Lib Go.Sort Go.Maps
open Go.ChangeShapes (lits)
open Go.WideElems (Fit rd rg pl rd_val)

theorem mLaw : Keyed Try.prog 3 := int_keyed Try.underlying3
theorem mKey {x : Int} (h : I64 x) : keyOf Try.prog 3 (.int .i64 x) = some (.int .i64 x) := keyOf_int_mk Try.underlying3 h.wf
theorem mZeroS (w : World) : (zeroValue 33).run Try.prog w = .ok (.slice none 0 0) w := by kernel_rfl
theorem mZeroB (w : World) : (zeroValue 4).run Try.prog w = .ok (.bool false) w := by kernel_rfl
theorem elemBool {v : Value} {z : DataW Unit × List MemPlace} (h : plainElem Try.prog 4 v = some z) : ∃ b, v = .bool b ∧ z.1 = .lit (.bool b) := by
  unfold plainElem at h
  rw [Try.underlying4] at h
  cases v <;> simp at h
  subst h
  exact ⟨_, rfl, rfl⟩

/-- Block m is a map in which just these are true. -/
def CmAt (w : World) (m : Nat) (l : List Int) : Prop :=
  ∃ D : DataW Unit, w.ownsMap Try.prog 3 (plainElem Try.prog 4) m l.length D ∧ ∀ x, D.atKey (.int .i64 x) (.lit (.bool false)) = .lit (.bool (decide (x ∈ l)))
section
variable {w w' : World} {m : Nat} {l : List Int} {x : Int}
theorem CmAt.made (w : World) : CmAt (w.alloc (.map #[] 0)) w.heap.size [] := ⟨.map [], World.ownsMap_made _ _ _ _, fun x => by simp; rfl⟩
theorem CmAt.lt (h : CmAt w m l) : m < w.heap.size := by obtain ⟨D, h, _⟩ := h; exact h.lt
theorem CmAt.keep (h : CmAt w m l) (e : w'.heap[m]? = w.heap[m]?) : CmAt w' m l := by
  obtain ⟨D, ⟨es, cl, hb, r⟩, hD⟩ := h
  exact ⟨D, ⟨es, cl, e.trans hb, r⟩, hD⟩
theorem CmAt.ne {b : Nat} {t : TypeId} {cs : Array Value} (h : CmAt w m l) (hb : Whole w b t cs) : m ≠ b := by
  obtain ⟨D, ⟨es, cl, h1, _⟩, _⟩ := h
  intro e
  subst e
  unfold Whole at hb
  rw [hb] at h1
  cases h1
end

/-- What is listed in a datum. -/
def itm : DataW Unit → List (DataW Unit)
  | .slice es _ => es
  | _ => []
theorem itm_row {w : World} {base : Nat} {v : Value} {zs : List Int} (h : w.ownsInts base 3 .i64 v zs) : itm (rowDatum .i64 v zs) = lits .i64 zs := by
  rcases h.datum (H := Unit) with ⟨e, rfl⟩ | e
  · rw [e]; rfl
  · rw [e]; rfl
theorem lits_inj {a b : List Int} (h : lits (H := Unit) .i64 a = lits .i64 b) : a = b := by
  unfold lits at h
  exact (List.map_inj_right (fun x y e => by injection e with e; injection e)).1 h

/-- Block b is a map of where edges go, its rows from block base on. -/
def TgAt (w : World) (base b : Nat) (es : List (Int × Int)) : Prop :=
  ∃ D : DataW Unit, w.ownsGroups Try.prog 3 base 3 .i64 b es.length D ∧ IsMap D ∧ ∀ x, itm (D.atKey (.int .i64 x) .nil) = lits .i64 (GM.tg es x)
section
variable {w w' : World} {base b : Nat} {es : List (Int × Int)} {x y : Int}
theorem TgAt.made (w : World) : TgAt (w.alloc (.map #[] 0)) (w.heap.size + 1) w.heap.size [] := ⟨.map [], World.ownsGroups_made _ _ _ _ _, isMap_empty, fun _ => rfl⟩
theorem ownsInts_below {v : Value} {zs : List Int} (h : w.ownsInts base 3 .i64 v zs) (hb : Below w.heap.size w w') : w'.ownsInts base 3 .i64 v zs :=
  ⟨(NewZ.below (l := zs) h.1 hb).own, h.2⟩
theorem TgAt.below (h : TgAt w base b es) (hb : Below w.heap.size w w') : TgAt w' base b es := by
  obtain ⟨D, ⟨en, clock, hh, F, hs, rfl, hbb, hlen, hap⟩, hD⟩ := h
  have hlt : b < w.heap.size := (Array.getElem?_eq_some_iff.1 hh).1
  obtain ⟨F2, hmap2, _⟩ := F.stay (R' := rowElem w' base 3 .i64) (fun e _ z hz => by
    obtain ⟨zs, ho, rfl⟩ := rowElem_inv hz
    exact rowElem_mk (ownsInts_below ho hb))
  refine ⟨_, ⟨en, clock, (hb.block b hlt).trans hh, F2, hs, by rw [hmap2], hbb, fun e he zs ho => ?_, hap⟩, hD⟩
  obtain ⟨r, hr⟩ := F.reads e he
  obtain ⟨z, hz, _⟩ := rd_val hr
  obtain ⟨zs', ho', _⟩ := rowElem_inv hz
  rw [ho.unique (ownsInts_below ho' hb)]
  exact hlen e he zs' ho'
theorem TgAt.lt (h : TgAt w base b es) : b < w.heap.size := by obtain ⟨D, ⟨en, clock, hh, _⟩, _⟩ := h; exact (Array.getElem?_eq_some_iff.1 hh).1
theorem TgAt.lo (h : TgAt w base b es) : b < base := by obtain ⟨D, ⟨en, clock, hh, F, hs, e, hbb, _⟩, _⟩ := h; exact hbb
theorem TgAt.ne {c : Nat} {t : TypeId} {cs : Array Value} (h : TgAt w base b es) (hb : Whole w c t cs) : b ≠ c := by
  obtain ⟨D, ⟨en, cl, h1, _⟩, _⟩ := h
  intro e
  subst e
  unfold Whole at hb
  rw [hb] at h1
  cases h1
end

section
variable {P : Program} {ops : Array Oper} {o : Oper} {a : Act} {K : Act → World → Prop} {Q : Exit → Act → World → Prop} {E : Prop} {w : World}
/-- A look-up at a step of a region that draws, its run laid ahead. -/
theorem step_lookup (hgd : o.guard = none) {m x : Operand} {t : TypeId} (hop : o.op = .lookup t m x false) {v : Value} (hrun : (Instr.lookup t (a.eval m) (a.eval x) false).run P w = .ok v w) (h : K (a.put o.dst v) w) :
    if Region.wanted o (yielded ops a.tmps) = true then Oper.wp P o a w K Q else E := by
  have hw : Region.wanted o (yielded ops a.tmps) = true := by simp [Region.wanted, hgd]
  rw [if_pos hw]
  unfold Oper.wp
  simp [execOp, hop, hrun, Result.andThen]
  exact h
theorem step_update (hgd : o.guard = none) {m x v : Operand} {t : TypeId} (hop : o.op = .mapUpdate t m x v) {w2 : World} (hrun : (Instr.mapUpdate t (a.eval m) (a.eval x) (a.eval v)).run P w = .ok () w2) (h : K (a.put o.dst undef) w2) :
    if Region.wanted o (yielded ops a.tmps) = true then Oper.wp P o a w K Q else E := by
  have hw : Region.wanted o (yielded ops a.tmps) = true := by simp [Region.wanted, hgd]
  rw [if_pos hw]
  unfold Oper.wp
  simp [execOp, hop, hrun, Result.andThen]
  exact h
end
end Go.Proofs.Ytomjaieplpjcpaa
