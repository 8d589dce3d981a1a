/- Ranges over a function inside a loop: the marks that they leave; two loop variables, the second one boxed. -/
import Derived.Test.YteneadimchhhhaaGreatDoorAdLawH
import Derived.Test.YteneadimchhhhaaGreatDoorMgBase
namespace Go.Proofs.YteneadimchhhhaaGreatDoor
open Go.RowKit Go.Shelf

/-- The marks of ranges that are over. -/
def marks (Ds : List Nat) : List Deferred := Ds.map fun D => { target := .collected D, args := #[] }
def MarkOk (B : Nat) (Ds : List Nat) (w : World) : Prop := Ds.Nodup ∧ ∀ D ∈ Ds, B ≤ D ∧ w.heap[D]? = some (.deferred (some []))
theorem MarkOk.below {B : Nat} {Ds : List Nat} {w w' : World} (h : MarkOk B Ds w) (hb : Below w.heap.size w w') : MarkOk B Ds w' :=
  ⟨h.1, fun D hD => ⟨(h.2 D hD).1, (hb.block D (Array.getElem?_eq_some_iff.1 (h.2 D hD).2).1).trans (h.2 D hD).2⟩⟩
theorem MarkOk.cons {B D : Nat} {Ds : List Nat} {w : World} (h : MarkOk B Ds w) (hB : B ≤ D) (hn : D ∉ Ds) (hd : w.heap[D]? = some (.deferred (some []))) : MarkOk B (D :: Ds) w :=
  ⟨List.nodup_cons.2 ⟨hn, h.1⟩, fun E hE => by
    rcases List.mem_cons.1 hE with rfl | hE
    · exact ⟨hB, hd⟩
    · exact h.2 E hE⟩
/-- Nothing but marks from B on has turned. -/
structure MarkTurn (B : Nat) (w w' : World) : Prop where
  bel : Below B w w'
  cells : ∀ (k : Nat) (o : Obj), w.heap[k]? = some o → o.isCells = true → w'.heap[k]? = some o
theorem leaves_marks {F : Fence} {n : Nat} {P : Program} {fn : Func} {tmps : Array Value} {R : Ending → World → Prop} {B : Nat} : ∀ (Ds : List Nat) (w : World), MarkOk B Ds w → (∀ w', MarkTurn B w w' → LeavesInM F n P fn tmps R [] .returning w') → LeavesInM F n P fn tmps R (marks Ds) .returning w
  | [], w, _, h => h w ⟨Below.refl _ _, fun _ _ h _ => h⟩
  | D :: Ds, w, hM, h => by
    obtain ⟨hn, ha⟩ := hM
    obtain ⟨hB, hd⟩ := ha D List.mem_cons_self
    have hg := grownBy_putObj' w D (.deferred none)
    have hk : ∀ k o, w.heap[k]? = some o → k ≠ D → (w.putObj D (.deferred none)).heap[k]? = some o := fun k o ho hne => (World.putObj_heap_other hne).trans ho
    refine ⟨by simp, .inl ⟨D, _, rfl, run_takeDeferred hd, leaves_marks (B := B) Ds _ ⟨(List.nodup_cons.1 hn).2, fun E hE => ?_⟩ fun w' ht => h w' ⟨?_, fun k o ho hc => ?_⟩⟩⟩
    · obtain ⟨h1, h2⟩ := ha E (List.mem_cons_of_mem _ hE)
      exact ⟨h1, hk E _ h2 (fun e => (List.nodup_cons.1 hn).1 (e ▸ hE))⟩
    · exact ((Below.refl B w).grown hg (by have := (Array.getElem?_eq_some_iff.1 hd).1; omega) (fun k e => by cases e; exact hB)).trans ht.bel
    · refine ht.cells k o (hk k o ho fun e => ?_) hc
      subst e
      rw [hd] at ho
      injection ho with ho
      subst ho
      cases hc
/-- Two loop variables, handed in slots p1, p2: the first one's slot q1, the second one boxed, its box in slot q2. -/
theorem wpIn_range_twoH {α : Type} {P : Program} {n : Nat} {g : Operand} {p1 p2 : Tmp} (q1 q2 : Tmp) {assign body : Code} {Q : Exit → Act → World → Prop} {a : Act} {w : World}
    (h1 : 1 ≤ n) {gf : Nat} {lb : Array Value} (hg : a.eval g = .func (.func gf) #[] lb) (eg : ∀ args w, (callFunc gf args).run P w = .ok (.enter gf args) w)
    {v1 v2 : α → Value} (cs : α → Array Value) (t : TypeId) {Kp : Nat → World → World → Prop} {xs : List α} {w0 : World} (hseq : SeqOwnH (n - 1) P gf lb (fun x => #[v1 x, v2 x]) Kp xs w0)
    (hKt : ∀ (hi : Nat) {A B C : World}, Kp hi A B → Kp hi B C → Kp hi A C) (hKb : ∀ (hi : Nat) (W : World) (r r' : Loop), W.heap[w.heap.size + 1]? = some (.loop r) → Kp hi W (W.putObj (w.heap.size + 1) (.loop r'))) (hKa : ∀ (hi : Nat) (W : World) (o : Obj), w.heap.size + 2 ≤ hi → hi ≤ W.heap.size → Kp hi W (W.alloc o)) (hb0 : Below w0.heap.size w0 w)
    (I : Nat → List α → World → Prop) (Ix : Nat → Code → List α → World → Prop) (hI : ∀ hi, OwnFrom w.heap.size (I hi)) (hIx : ∀ hi c, OwnFrom w.heap.size (Ix hi c)) (h0 : ∀ hi, I hi [] w)
    (hassign : ∀ (l : Nat) (x : α) (W : World) (K : Act → World → Prop), K { tmps := (((a.tmps.setIfInBounds p1 (v1 x)).setIfInBounds p2 (v2 x)).setIfInBounds q1 (v1 x)).setIfInBounds q2 (.pointer (some ⟨W.heap.size, 0, none⟩)), defers := [] } (W.alloc (.cells (cs x) t)) →
      assign.wpIn (Fence.wide.inRound l) (n - 1 - 1) P (Exit.then K (fun _ _ _ => False)) { tmps := (a.tmps.setIfInBounds p1 (v1 x)).setIfInBounds p2 (v2 x), defers := [] } W)
    (hbody : ∀ (l hi : Nat) (pre : List α) (x : α) (bx : Nat) (W : World), w.heap.size + 2 ≤ hi → hi ≤ W.heap.size → I hi pre W → Whole W bx t (cs x) → pre ++ [x] <+: xs → body.wpIn (Fence.wide.inRound l) (n - 1 - 1) P (farPost w.heap.size (Kp hi) (I hi) (Ix hi) (pre ++ [x]) W) { tmps := (((a.tmps.setIfInBounds p1 (v1 x)).setIfInBounds p2 (v2 x)).setIfInBounds q1 (v1 x)).setIfInBounds q2 (.pointer (some ⟨bx, 0, none⟩)), defers := [] } W)
    (hdone : ∀ (D hi : Nat) (W : World), w.heap.size ≤ D → I hi xs W → W.heap[D]? = some (.deferred (some [])) → Q .normal { a with defers := { target := .collected D, args := #[] } :: a.defers } W)
    (hstop : ∀ (D hi : Nat) (c : Code) (pre : List α) (W : World), w.heap.size ≤ D → Ix hi c pre W → W.heap[D]? = some (.deferred (some [])) → c.wpIn Fence.wide n P Q { a with defers := { target := .collected D, args := #[] } :: a.defers } W) :
    (Code.rangeFunc g #[p1, p2] assign body).wpIn Fence.wide n P Q a w :=
  wpIn_range_farH h1 hg eg hseq hKt hKb hb0 (fun _ => rfl) I Ix hI hIx h0
    (fun x a' W => ∃ bx, Whole W bx t (cs x) ∧ a' = { tmps := (((a.tmps.setIfInBounds p1 (v1 x)).setIfInBounds p2 (v2 x)).setIfInBounds q1 (v1 x)).setIfInBounds q2 (.pointer (some ⟨bx, 0, none⟩)), defers := [] })
    (fun x a' _ X Y row ⟨bx, hw, e⟩ hgr hr => ⟨bx, (hgr.block bx hw.lt (fun c => by
      obtain ⟨_, o, ho, hc⟩ := hr bx c.symm
      unfold Whole at hw
      rw [hw] at ho
      injection ho with ho
      subst ho
      cases hc)).trans hw, e⟩)
    (fun l hi pre x W K hlo hup hi2 _ hK => by
      have hb : Below W.heap.size W (W.alloc (.cells (cs x) t)) := (Below.refl _ _).alloc (Nat.le_refl _) _
      have := hassign l x W K (hK _ _ ⟨hb.size, fun k _ _ hk _ => (hb.block k (Array.getElem?_eq_some_iff.1 hk).1).trans hk⟩ (hKa hi W _ hlo hup) ((hI hi).alloc _ hi2) ⟨_, Whole.fresh _ _ _, rfl⟩)
      simpa using this)
    (fun l hi pre x a' W hlo hup hi2 ⟨bx, hw, e⟩ hp => by subst e; exact hbody l hi pre x bx W hlo hup hi2 hw hp) hdone hstop
end Go.Proofs.YteneadimchhhhaaGreatDoor
