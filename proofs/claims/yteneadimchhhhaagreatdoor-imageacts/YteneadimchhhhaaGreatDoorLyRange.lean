/- The contract of the law package's slots: a slice of all places that are told. -/
import Derived.Test.YteneadimchhhhaaGreatDoorLyIter
import Derived.Deep.Onto
namespace Go.Proofs.YteneadimchhhhaaGreatDoor
open Go.RowKit Go.Shelf
attribute [local go_sem] Oper.semAt_some

/-- What is left by a call that makes a slice of these numbers. -/
def RowI (xs : List Int) (w : World) (e : Ending) (w' : World) : Prop :=
  ∃ v, e = .returned v ∧ w'.ownsRow w.heap.size 3 1 v xs.length (ivals xs) ∧ Below w.heap.size w w'

theorem kept_b {lo hi : Nat} {w : World} (hh : hi ≤ w.heap.size) (W : World) (l : Nat) (o o' : Obj) (hl : w.heap.size ≤ l) (_ : W.heap[l]? = some o) (_ : o.isCells = false) (_ : o.isWalk = false) : Kept lo hi W (W.putObj l o') := fun g _ hg =>
  World.putObj_heap_other (by omega)

/-- 'out = append(out, x)', out boxed at B, ahead of the blocks from lo on and below hi, its row from hi on. -/
theorem appended_far {W w1 : World} {n₀ lo hi B : Nat} {t e : TypeId} {size : Nat} {v v' : Value} {k m : Nat} {xs ys : List Value} {tmp : Obj}
    (hv : Boxed W B t v) (hte : t ≠ e) (hrow : W.ownsRow hi e size v k xs) (hh : hi ≤ W.heap.size) (hB : B < lo) (hn : n₀ ≤ B) (hnh : n₀ ≤ hi)
    (hown' : w1.ownsRow hi e size v' m ys) (hgrow : (W.alloc tmp).grownBy w1 v.ownBlock) :
    Boxed w1 B t v ∧ Boxed (w1.setCell ⟨B, 0, none⟩ v') B t v' ∧ (w1.setCell ⟨B, 0, none⟩ v').ownsRow hi e size v' m ys ∧ KeepsOthers W (w1.setCell ⟨B, 0, none⟩ v') ∧ Kept lo hi W (w1.setCell ⟨B, 0, none⟩ v') ∧ Below n₀ W (w1.setCell ⟨B, 0, none⟩ v') := by
  have hv1 : Boxed w1 B t v := (hv.alloc tmp).kept hgrow (hv.not_row hte hrow)
  have hr : ∀ k, v.ownBlock = some k → hi ≤ k := fun k hk => (hrow.lt k hk).1
  refine ⟨hv1, hv1.set v', hown'.kept (grownBy_setCell' w1 B v') (.inr (hv1.not_row hte hown').symm), ?_, ?_, ?_⟩
  · refine ((KeepsOthers.alloc W tmp).trans (KeepsOthers.of_grownBy hgrow fun j o ej hj => ?_)).trans (KeepsOthers.setCell _ _ _)
    rcases (hrow.alloc tmp).2 with ⟨rfl, _⟩ | ⟨g, cap, cur, rfl, _, hgb, _⟩
    · simp [Value.ownBlock] at ej
    · obtain rfl : g = j := by simpa [Value.ownBlock] using ej
      rw [hgb] at hj; cases hj; rfl
  · exact (((Kept.refl lo hi W).alloc hh tmp).grown hgrow (by simp; omega) (fun k hk => .inr (hr k hk))).setCell (p := ⟨B, 0, none⟩) (.inl hB) v'
  · exact (((Below.refl n₀ W).alloc (by omega) tmp).grown hgrow (by simp; omega) (fun k hk => by have := hr k hk; omega)).setCell (p := ⟨B, 0, none⟩) hn v'

/-- What Slots leaves for a range over it. -/
def SeqPost (zs : List Int) (w : World) (e : Ending) (w' : World) : Prop :=
  ∃ gf lb lo hi, e = .returned (.func (.func gf) #[] lb) ∧ (∀ args w, (callFunc gf args).run Tryz.prog w = .ok (.enter gf args) w) ∧ w.heap.size ≤ lo ∧ hi ≤ w'.heap.size ∧ SeqTells 2 gf lb lo hi zs w' ∧ Below w.heap.size w w'

end Go.Proofs.YteneadimchhhhaaGreatDoor
