/- What RemsetActs holds: a set of the code's and one of the document's, side by side. -/
import Derived.Test.YtehkcflbdmkjpaaRsOrderM
namespace Go.Proofs.Ytehkcflbdmkjpaa
open Go.RowKit Go.Maps Go.Sort

/-- All that was there but maps and block r is as it was. -/
structure Mr (r : Nat) (w w' : World) : Prop where
  os : w'.os = w.os
  tape : w'.tape = w.tape
  output : w'.output = w.output
  size : w.heap.size ≤ w'.heap.size
  block : ∀ k, k < w.heap.size → ¬ MapB w k → k ≠ r → w'.heap[k]? = w.heap[k]?
section
variable {w w' a b d : World} {S : List Nat} {r q lo base : Nat} {L : RM.L} {v : Value} {l : List Int} {t : TypeId} {cs : Array Value}
theorem Mr.refl (r : Nat) (w : World) : Mr r w w := ⟨rfl, rfl, rfl, Nat.le_refl _, fun _ _ _ _ => rfl⟩
theorem Mr.trans (h : Mr r a b) (k : Mr r b d) : Mr r a d :=
  ⟨k.os.trans h.os, k.tape.trans h.tape, k.output.trans h.output, Nat.le_trans h.size k.size, fun i hi hm hr => by
    have e := h.block i hi hm hr
    exact (k.block i (Nat.lt_of_lt_of_le hi h.size) (fun hb => hm (hb.keep e.symm)) hr).trans e⟩
theorem Mr.of_md (h : Md a b) : Mr r a b := ⟨h.os, h.tape, h.output, h.size, fun k hk hm _ => h.block k hk hm⟩
theorem Mr.of_below (h : Below a.heap.size a b) : Mr r a b := Mr.of_md (Md.of_below h)
theorem Mr.of_aft (h : Aft [r] a b) : Mr r a b := ⟨h.os, h.tape, h.output, h.size, fun k hk _ hr => h.block k hk (by simpa using hr)⟩
theorem Mr.whole (h : Mr r a b) (k : Whole a q t cs) (hq : q ≠ r) : Whole b q t cs := (h.block q k.lt (whole_notmap k) hq).trans k
theorem NewZ.mr (h : NewZ base a v l) (k : Mr r a b) (hd : Whole a r 39 cs) : NewZ base b v l := h.keep fun g _ _ ⟨_, hg⟩ => k.block g hg.lt (whole_notmap hg) fun e => by
  subst e
  unfold Whole at hg hd
  rw [hd] at hg
  injection hg with hg
  injection hg with _ hg
  exact absurd hg (by decide)
end

/-- The code's set and the document's, both of the same. -/
structure Both (w0 w : World) (p r n : Nat) (L L' : RM.L) : Prop where
  cs : Cs w0 w p n L
  doc : ∃ lo, DocAt w r lo L'
  ne : r ≠ p
  ge : w0.heap.size ≤ r
section
variable {w0 w w' W : World} {p r n : Nat} {L L' M : RM.L} {x : RM.R} {t : Int}
theorem Both.below (h : Both w0 w p r n L L') (k : Below w.heap.size w w') : Both w0 w' p r n L L' := by
  obtain ⟨lo, hd⟩ := h.doc
  exact ⟨h.cs.below k, ⟨lo, hd.below k⟩, h.ne, h.ge⟩
theorem Both.box (h : Both w0 w p r n L L') : ∃ cs, Whole w r 39 cs := by
  obtain ⟨lo, hd⟩ := h.doc
  obtain ⟨_, _, _, hb, _⟩ := hd.rd
  exact ⟨_, hb⟩
theorem Both.code {n' : Nat} (h : Both w0 w p r n L L') (hc : Cs w0 w' p n' M) (hm : Md w w') : Both w0 w' p r n' M L' := by
  obtain ⟨lo, hd⟩ := h.doc
  exact ⟨hc, ⟨lo, hd.md hm⟩, h.ne, h.ge⟩
theorem Both.docs (h : Both w0 w p r n L L') (hd : ∃ lo, DocAt w' r lo M) (ha : Aft [r] w w') : Both w0 w' p r n L M := by
  obtain ⟨cs, hb⟩ := h.box
  refine ⟨h.cs.aft ha fun y hy => ?_, hd, h.ne, h.ge⟩
  have e : y = r := by simpa using hy
  subst e
  exact ⟨whole_notmap hb, h.ne, h.ge⟩
/-- Behind an append to the law's row of numbers. -/
theorem Both.ask {base : Nat} {v : Value} {l : List Int} {tmp : Obj} (h : Both w0 w p r n L L') (hz : NewZ base w v l) (hb : w0.heap.size ≤ base) (hg : (w.alloc tmp).grownBy w' v.ownBlock) : Both w0 w' p r n L L' ∧ (∀ q t cs, Whole w q t cs → t ≠ 3 → Whole w' q t cs) := by
  have hal : Both w0 (w.alloc tmp) p r n L L' := h.below ((Below.refl _ _).alloc (Nat.le_refl _) _)
  have key : ∀ g, v.ownBlock = some g → base ≤ g ∧ ∃ cs, Whole w g 3 cs := fun g hg => by
    rcases hz.2 with ⟨rfl, _⟩ | ⟨g', cap, cur, rfl, h1, h2, _⟩
    · simp [Value.ownBlock] at hg
    · simp [Value.ownBlock] at hg
      subst hg
      exact ⟨h1, cur, h2⟩
  have nt : ∀ q t cs, Whole w q t cs → t ≠ 3 → some q ≠ v.ownBlock := fun q t cs hq ht e => by
    obtain ⟨_, cs', hw⟩ := key q e.symm
    unfold Whole at hq hw
    rw [hq] at hw
    injection hw with hw
    injection hw with _ hw
    exact ht hw
  have keep : ∀ q t cs, Whole w q t cs → t ≠ 3 → Whole w' q t cs := fun q t cs hq ht => (hg.block q (by have := hq.lt; simp; omega) (nt q t cs hq ht)).trans (hq.alloc _)
  refine ⟨⟨?_, ?_, h.ne, h.ge⟩, keep⟩
  · cases hv : v.ownBlock with
    | none =>
      rw [hv] at hg
      exact h.cs.below ⟨hg.os, hg.tape, hg.output, by have := hg.size; simp at this; omega, fun k hk => (hg.block k (by simp; omega) (by simp)).trans (Below.heap_alloc _ _ _ hk)⟩
    | some g =>
      obtain ⟨h1, cs', h2⟩ := key g hv
      rw [hv] at hg
      have ha : Aft [g] (w.alloc tmp) w' := rsAft hg (by simp)
      refine hal.cs.aft ha fun y hy => ?_
      have e : y = g := by simpa using hy
      subst e
      obtain ⟨cp, hp⟩ := h.cs.box
      refine ⟨whole_notmap (h2.alloc tmp), fun e => ?_, by omega⟩
      subst e
      unfold Whole at hp h2
      rw [hp] at h2
      injection h2 with h2
      injection h2 with _ h2
      exact absurd h2 (by decide)
  · obtain ⟨lo, v', hb', hr', hu⟩ : ∃ lo v', Whole w r 39 #[v'] ∧ NewP lo w v' L' ∧ RM.Up L' := by
      obtain ⟨lo, hd⟩ := h.doc
      obtain ⟨v', h1, h2⟩ := hd.box
      exact ⟨lo, v', h1, h2, hd.up⟩
    exact ⟨lo, ⟨v', keep _ _ _ hb' (by decide), hr'.keep fun g _ _ ⟨cs, hw⟩ => (keep _ _ _ hw (by decide)).trans hw.symm⟩, hu⟩

/-- What is left by the code's call, and then by the document's. -/
def BcE (w0 : World) (p r n : Nat) (M L' : RM.L) (v : Value) (wb : World) (e : Ending) (u : World) : Prop := e = .returned v ∧ Both w0 u p r n M L' ∧ Mr r wb u
theorem bput (h : Both w0 w p r n L L) (hx : RefOk x) (ht : I64ok t) (hn : n < 1000) (hW : Below w.heap.size w W) :
    Calls Try.prog 11 #[.pointer (some ⟨p, 0, none⟩), refV x, .int .i64 t] W (BcE w0 p r (n + 1) (RM.put L x t) L (.bool (!RM.has L x)) w) :=
  (cput (h.cs.below hW) hx ht (by omega)).mono fun _ _ ⟨he, hc, hm⟩ => ⟨he, (h.below hW).code hc hm, (Mr.of_below hW).trans (Mr.of_md hm)⟩
theorem bcut (h : Both w0 w p r n L L) (hx : RefOk x) (hW : Below w.heap.size w W) :
    Calls Try.prog 12 #[.pointer (some ⟨p, 0, none⟩), refV x] W (BcE w0 p r n (RM.cut L x) L (.bool (RM.has L x)) w) :=
  (ccut (h.cs.below hW) hx).mono fun _ _ ⟨he, hc, hm⟩ => ⟨he, (h.below hW).code hc hm, (Mr.of_below hW).trans (Mr.of_md hm)⟩
theorem bforget (h : Both w0 w p r n L L) (ht : I64ok t) (hn : n < 1000) (hW : Below w.heap.size w W) :
    Calls Try.prog 15 #[.pointer (some ⟨p, 0, none⟩), .int .i64 t] W (BcE w0 p r n (RM.forget L t) L (.int .i64 ((RM.frm L t).length : Nat)) w) :=
  (cforget (h.cs.below hW) ht (by omega)).mono fun _ _ ⟨he, hc, hm⟩ => ⟨he, (h.below hW).code hc hm, (Mr.of_below hW).trans (Mr.of_md hm)⟩
variable {wb : World}
theorem dput (h : Both w0 w p r n M L ∧ Mr r wb w) (hl : L.length ≤ 1000) (hW : Below w.heap.size w W) :
    Calls Try.prog 17 #[.pointer (some ⟨r, 0, none⟩), refV x, .int .i64 t] W (BcE w0 p r n M (RM.put L x t) (.bool (!RM.has L x)) wb) := by
  have hB := h.1.below hW
  obtain ⟨lo, hd⟩ := hB.doc
  exact (dput_any hd (by omega) x t).mono fun _ _ ⟨he, hc, hm⟩ => ⟨he, hB.docs ⟨_, hc⟩ hm, (h.2.trans (Mr.of_below hW)).trans (Mr.of_aft hm)⟩
theorem dcut (h : Both w0 w p r n M L ∧ Mr r wb w) (hl : L.length ≤ 1000) (hW : Below w.heap.size w W) :
    Calls Try.prog 18 #[.pointer (some ⟨r, 0, none⟩), refV x] W (BcE w0 p r n M (RM.cut L x) (.bool (RM.has L x)) wb) := by
  have hB := h.1.below hW
  obtain ⟨lo, hd⟩ := hB.doc
  exact (dcut_any hd (by omega) x).mono fun _ _ ⟨he, hc, hm⟩ => ⟨he, hB.docs ⟨_, hc⟩ hm, (h.2.trans (Mr.of_below hW)).trans (Mr.of_aft hm)⟩
theorem dforget (h : Both w0 w p r n M L ∧ Mr r wb w) (hl : L.length ≤ 1000) (hW : Below w.heap.size w W) :
    Calls Try.prog 19 #[.pointer (some ⟨r, 0, none⟩), .int .i64 t] W (BcE w0 p r n M (RM.forget L t) (.int .i64 ((RM.frm L t).length : Nat)) wb) := by
  have hB := h.1.below hW
  obtain ⟨lo, hd⟩ := hB.doc
  exact (dforget_any hd (by omega) t).mono fun _ _ ⟨he, hc, hm⟩ => ⟨he, hB.docs hc hm, (h.2.trans (Mr.of_below hW)).trans (Mr.of_aft hm)⟩
end

theorem both_more {w0 w : World} {p r n : Nat} {L L' : RM.L} (h : Both w0 w p r n L L') : Both w0 w p r (n + 1) L L' := ⟨h.cs.more (by omega), h.doc, h.ne, h.ge⟩
/-- What is asked of in the end. -/
def askL (t : Int) (l : List RM.Act) : List Int := t :: l.flatMap fun a => [a.n, a.s]
theorem askL_len (t : Int) (l : List RM.Act) : (askL t l).length = 1 + 2 * l.length := by
  unfold askL
  induction l with
  | nil => rfl
  | cons a l ih => simp at ih ⊢; omega
theorem askL_take (t : Int) {l : List RM.Act} {k : Nat} (h : k < l.length) : askL t (l.take (k + 1)) = askL t (l.take k) ++ [l[k].n, l[k].s] := by
  unfold askL
  rw [List.take_succ_eq_append_getElem h, List.flatMap_append]
  simp
theorem askL_ok {t : Int} {l : List RM.Act} (ht : I64ok t) (hl : ∀ a ∈ l, ActOk a) : ∀ x ∈ askL t l, I64ok x := fun x hx => by
  unfold askL at hx
  rcases List.mem_cons.1 hx with rfl | hx
  · exact ht
  · obtain ⟨a, ha, hx⟩ := List.mem_flatMap.1 hx
    have := hl a ha
    rcases List.mem_cons.1 hx with rfl | hx
    · exact this.2.2.2
    · have : x = a.s := by simpa using hx
      subst this
      exact (hl a ha).2.1
theorem NewZ.snoc2 {w : World} {base : Nat} {v : Value} {l : List Int} {x y : Int} (h : w.ownsRow base 3 1 v (l.length + 2) (l.map (Value.int .i64) ++ [.int .i64 x, .int .i64 y])) : NewZ base w v (l ++ [x, y]) := by
  unfold NewZ
  rw [List.map_append, List.length_append]
  exact h
end Go.Proofs.Ytehkcflbdmkjpaa
