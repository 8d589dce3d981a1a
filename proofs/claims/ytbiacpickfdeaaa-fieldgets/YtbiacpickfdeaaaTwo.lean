/- Two rows of the call's own that are appended to in one statement, in whatever order. -/
import Derived.Test.YtbiacpickfdeaaaBlk
import Derived.Deep.AppendLies
import Derived.Deep.RegionHeld3
namespace Go.Proofs.Ytbiacpickfdeaaa
open Go.RowKit

/-- Two rows, each the call's own, in blocks apart; below 'base' the world is as w0 was. -/
def Two (w0 : World) (base : Nat) (e f : TypeId) (s t : Nat) (u : Value) (m : Nat) (xs : List Value) (v : Value) (n : Nat) (ys : List Value) (w : World) : Prop :=
  w.ownsRow base e s u m xs ∧ w.ownsRow base f t v n ys ∧ (∀ g, u.ownBlock = some g → v.ownBlock ≠ some g) ∧ Below base w0 w ∧ base ≤ w.heap.size

section
variable {w0 w w' : World} {base s t m n : Nat} {e f : TypeId} {u v : Value} {xs ys : List Value}
theorem Two.alloc (h : Two w0 base e f s t u m xs v n ys w) (o : Obj) : Two w0 base e f s t u m xs v n ys (w.alloc o) :=
  ⟨h.1.alloc o, h.2.1.alloc o, h.2.2.1, h.2.2.2.1.alloc h.2.2.2.2 o, by simp; have := h.2.2.2.2; omega⟩
theorem Two.drew (h : Two w0 base e f s t u m xs v n ys w) : Two w0 base e f s t u m xs v n ys w.drew := ⟨h.1, h.2.1, h.2.2.1, h.2.2.2.1.drew, h.2.2.2.2⟩
theorem Two.swap (h : Two w0 base e f s t u m xs v n ys w) : Two w0 base f e t s v n ys u m xs w := ⟨h.2.1, h.1, fun g hg hu => h.2.2.1 g hu hg, h.2.2.2.1, h.2.2.2.2⟩
theorem Two.first (h : Two w0 base e f s t u m xs v n ys w) {g k cap : Nat} {zs : List Value} (ho : w'.ownsRow base e s (.slice (some ⟨g, 0, none⟩) k cap) k zs) (hg : w.grownBy w' u.ownBlock) (hat : u.ownBlock = some g ∨ g = w.heap.size) :
    Two w0 base e f s t (.slice (some ⟨g, 0, none⟩) k cap) k zs v n ys w' := by
  obtain ⟨h1, h2, h3, h4, h5⟩ := h
  have hne : v.ownBlock = none ∨ v.ownBlock ≠ u.ownBlock := by
    cases hv : v.ownBlock with
    | none => exact .inl rfl
    | some k' =>
      refine .inr fun hu => ?_
      exact h3 k' hu.symm hv
  refine ⟨ho, h2.kept hg hne, ?_, h4.grown hg h5 (fun k hk => (h1.lt k hk).1), Nat.le_trans h5 hg.size⟩
  intro g' hg' hv
  have : g' = g := by simpa [Value.ownBlock] using hg'.symm
  subst this
  rcases hat with hat | hat
  · exact h3 _ hat hv
  · have := (h2.lt _ hv).2
    omega
theorem Two.second (h : Two w0 base e f s t u m xs v n ys w) {g k cap : Nat} {zs : List Value} (ho : w'.ownsRow base f t (.slice (some ⟨g, 0, none⟩) k cap) k zs) (hg : w.grownBy w' v.ownBlock) (hat : v.ownBlock = some g ∨ g = w.heap.size) :
    Two w0 base e f s t u m xs (.slice (some ⟨g, 0, none⟩) k cap) k zs w' := (h.swap.first ho hg hat).swap
end
/-- A block at or behind H is whole still, where just a row ahead of H was appended to. -/
theorem whole_grown {w w' : World} {H g : Nat} {t : TypeId} {cs : Array Value} {v : Value} (hg : w.grownBy w' v.ownBlock) (hv : ∀ k, v.ownBlock = some k → k < H) (hb : H ≤ g) (h : Whole w g t cs) : Whole w' g t cs :=
  (hg.block g h.lt (fun e => by have := hv g e.symm; omega)).trans h

section
variable {P : Program}
/-- One element, laid in a block of its own, is appended to the first of two rows, at a step of a region that draws its order. -/
theorem step_first {w : World} {ops : Array Oper} {o : Oper} {a : Act} {K : Act → World → Prop} {Q : Exit → Act → World → Prop} {E : Prop} (hgd : o.guard = none) (sl x : Operand) (ty : TypeId)
    (ho : o.op = .call { callee := .builtin .append, args := #[sl, x], argTypes := #[ty, ty] })
    {w0 : World} {base s t m n : Nat} {e f : TypeId} {u v : Value} {xs ys : List Value} (i : TypeInfo) (z : Value) (bytes : Nat) (hty : P.underlying ty = some (.slice e)) (hi : P.info? e = some i) (hz : i.zero = some z)
    (hsize : i.size = s) (hby : i.bytes = bytes) (hzs : z.cells.size = s) (hsz : 0 < s)
    (hs : a.eval sl = u) (b : Nat) (hx : a.eval x = .slice (some ⟨b, 0, none⟩) 1 1) (cs : Array Value) (hcs : cs.size = s) (h1 : ∀ y ∈ cs.toList, y.oneCell' = true)
    (hm : m ≤ 1000000) (hbb : bytes ≤ 1000) (H : Nat) (hH : ∀ g, u.ownBlock = some g → g < H) (hT : Two w0 base e f s t u m xs v n ys w) (hw : Whole w b e cs)
    (h : ∀ g cap w', Two w0 base e f s t (.slice (some ⟨g, 0, none⟩) (m + 1) cap) (m + 1) (xs ++ cs.toList) v n ys w' → w.heap.size ≤ w'.heap.size → (∀ g' t' cs', H ≤ g' → Whole w g' t' cs' → Whole w' g' t' cs') → K (a.put o.dst (.slice (some ⟨g, 0, none⟩) (m + 1) cap)) w') :
    if Region.wanted o (yielded ops a.tmps) = true then Oper.wp P o a w K Q else E := by
  have hmul : (m + 1) * bytes ≤ 1000001 * 1000 := Nat.mul_le_mul (by omega) hbb
  refine step_append_lies w hgd sl x ty ho base e i z s bytes hty hi hz hsize hby hzs hsz u m xs hs hT.1 ⟨b, 0, none⟩ 1 1 cs.toList hx (by simp [hcs]) (World.news_of_block hw) h1 (by omega) (by unfold maxLen; omega) (by omega) hT.2.2.2.2 w.heap.size rfl ?_
  intro g cap w1 hown1 hgrow hat _
  exact h g cap w1 (hT.first hown1 hgrow hat) hgrow.size (fun g' t' cs' hb hh => whole_grown hgrow hH hb hh)
/-- .. to the second. -/
theorem step_second {w : World} {ops : Array Oper} {o : Oper} {a : Act} {K : Act → World → Prop} {Q : Exit → Act → World → Prop} {E : Prop} (hgd : o.guard = none) (sl x : Operand) (ty : TypeId)
    (ho : o.op = .call { callee := .builtin .append, args := #[sl, x], argTypes := #[ty, ty] })
    {w0 : World} {base s t m n : Nat} {e f : TypeId} {u v : Value} {xs ys : List Value} (i : TypeInfo) (z : Value) (bytes : Nat) (hty : P.underlying ty = some (.slice f)) (hi : P.info? f = some i) (hz : i.zero = some z)
    (hsize : i.size = t) (hby : i.bytes = bytes) (hzs : z.cells.size = t) (hsz : 0 < t)
    (hs : a.eval sl = v) (b : Nat) (hx : a.eval x = .slice (some ⟨b, 0, none⟩) 1 1) (cs : Array Value) (hcs : cs.size = t) (h1 : ∀ y ∈ cs.toList, y.oneCell' = true)
    (hm : n ≤ 1000000) (hbb : bytes ≤ 1000) (H : Nat) (hH : ∀ g, v.ownBlock = some g → g < H) (hT : Two w0 base e f s t u m xs v n ys w) (hw : Whole w b f cs)
    (h : ∀ g cap w', Two w0 base e f s t u m xs (.slice (some ⟨g, 0, none⟩) (n + 1) cap) (n + 1) (ys ++ cs.toList) w' → w.heap.size ≤ w'.heap.size → (∀ g' t' cs', H ≤ g' → Whole w g' t' cs' → Whole w' g' t' cs') → K (a.put o.dst (.slice (some ⟨g, 0, none⟩) (n + 1) cap)) w') :
    if Region.wanted o (yielded ops a.tmps) = true then Oper.wp P o a w K Q else E :=
  step_first hgd sl x ty ho i z bytes hty hi hz hsize hby hzs hsz hs b hx cs hcs h1 hm hbb H hH hT.swap hw fun g cap w' h2 h3 h4 => h g cap w' h2.swap h3 h4
end
end Go.Proofs.Ytbiacpickfdeaaa
