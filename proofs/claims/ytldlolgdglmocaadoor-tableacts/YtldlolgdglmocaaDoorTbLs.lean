/- The state of the law TableSets: a table, the tokens told, one of them in a box, and a row of entries. -/
import Derived.Test.YtldlolgdglmocaaDoorTbEnt
namespace Go.Proofs.YtldlolgdglmocaaDoor
open Go.RowKit

theorem TA.up {w : World} {B B' n : Nat} {A : Option Addr} {l : List Ac} (h : TA w B A n l) (hB : B ≤ B') : TA w B' A n l :=
  ⟨h.1, fun hn => by
    obtain ⟨b, off, e, hlt, hc⟩ := h.2 hn
    exact ⟨b, off, e, by omega, hc⟩⟩
section
variable {w0 w w' : World} {B : TB} {N base bx b2 : Nat} {S S' : Nat → Sl} {v u u' : Value} {l : List (Int × Int)} {x : Int × Int} {es es' : List En}
theorem TR.own (h : TR w base v l) (e : ∀ g, v.ownBlock = some g → w'.heap[g]? = w.heap[g]?) : TR w' base v l := by
  refine ⟨h.1, ?_⟩
  rcases h.2 with h0 | ⟨g, cap, cur, rfl, hg, hh, hn, hm, hs, ht⟩
  · exact .inl h0
  · exact .inr ⟨g, cap, cur, rfl, hg, (e g rfl).trans hh, hn, hm, hs, ht⟩
/-- Behind a change of blocks from b2 on, all of the table and of the tokens ahead of it. -/
theorem Lt.far (h : Lt w0 w B N S base v l) (hT : Tab w0) (hb : Below b2 w w') (h2 : base ≤ b2) (ho : ∀ g, v.ownBlock = some g → g < b2) : Lt w0 w' B N S base v l := by
  have hs : w.heap.size ≤ w'.heap.size := hb.size
  have hbw : Below w0.heap.size w0 w' := h.ht.bel.trans (hb.mono (by obtain ⟨⟨a1, a2⟩, _⟩ := h.win; omega))
  exact ⟨⟨h.ht.st.below (hb.mono h2) h.win, hbw, h.ht.win.more hs, hT.below hbw hT.pos⟩, h.tr.own fun g hg => hb.block g (ho g hg), h.win, Nat.le_trans h.le hs⟩

structure Ls (w0 w : World) (B : TB) (N : Nat) (S : Nat → Sl) (base : Nat) (v : Value) (l : List (Int × Int)) (bx : Nat) (x : Int × Int) (b2 : Nat) (u : Value) (es : List En) : Prop where
  lt : Lt w0 w B N S base v l
  own : ∀ g, v.ownBlock = some g → g < bx
  box : Whole w bx 33 #[.int .i64 x.1, .int .i64 x.2]
  lo : base ≤ bx
  hi : bx < b2
  le : b2 ≤ w.heap.size
  er : ER w b2 u es
theorem Ls.step (h : Ls w0 w B N S base v l bx x b2 u es) (hT : Tab w0) (ho : Aft B.wr w w') (hs : TbAt w' B N S') : Ls w0 w' B N S' base v l bx x b2 u es :=
  ⟨h.lt.step hT ho hs, h.own, ho.whole h.box (h.lt.not h.lo), h.lo, h.hi, Nat.le_trans h.le ho.size, h.er.aft ho fun y hy => by have := h.lt.win.wr y hy; have := h.lo; have := h.hi; omega⟩
theorem Ls.later (h : Ls w0 w B N S base v l bx x b2 u es) (hT : Tab w0) (hb : Below w.heap.size w w') : Ls w0 w' B N S base v l bx x b2 u es :=
  ⟨h.lt.later hT hb, h.own, h.box.below hb h.box.lt, h.lo, h.hi, Nat.le_trans h.le hb.size, h.er.below hb⟩
theorem Ls.alloc (h : Ls w0 w B N S base v l bx x b2 u es) (hT : Tab w0) (o : Obj) : Ls w0 (w.alloc o) B N S base v l bx x b2 u es := h.later hT ((Below.refl _ _).alloc (Nat.le_refl _) o)
theorem Ls.drewN (h : Ls w0 w B N S base v l bx x b2 u es) (m : Nat) : Ls w0 (w.drewN m) B N S base v l bx x b2 u es :=
  ⟨h.lt.drewN m, h.own, h.box, h.lo, h.hi, h.le, h.er.keep fun _ _ _ => rfl⟩
/-- Behind an append to the row of entries. -/
theorem Ls.grown (h : Ls w0 w B N S base v l bx x b2 u es) (hT : Tab w0) {tmp : Obj} (hr : ER w' b2 u' es') (hg : (w.alloc tmp).grownBy w' u.ownBlock) : Ls w0 w' B N S base v l bx x b2 u' es' := by
  have hlt := h.er.lt
  have h1 := h.lo
  have h2 := h.hi
  have hle := h.le
  have hb : Below b2 w w' := ((Below.refl b2 w).alloc h.le tmp).grown hg (by simp; omega) (fun g hg => (hlt g hg).1)
  exact ⟨h.lt.far hT hb (by omega) (fun g hg => by have := h.own g hg; omega), h.own, h.box.below hb h.hi, h.lo, h.hi, Nat.le_trans h.le hb.size, hr⟩
/-- Its start: a token's box behind all that was. -/
theorem ls_new (h : Lt w0 w B N S base v l) (hT : Tab w0) (x : Int × Int) : Ls w0 (w.alloc (.cells #[.int .i64 x.1, .int .i64 x.2] 33)) B N S base v l w.heap.size x (w.heap.size + 1) (.slice none 0 0) [] :=
  ⟨h.alloc hT _, fun g hg => (h.tr.lt g hg).2, Whole.fresh _ _ _, h.le, by omega, by simp, ER.nil _ _⟩
end
/-- Get, by what it tells. -/
theorem get_at {w : World} {B : TB} {N : Nat} {S : Nat → Sl} {i g : Int} {z : En} {E : Int} (h : TbAt w B N S) (hz : getE S N i g = z) (hE : staleE (freshB S N i g) = E) :
    Calls Tryd.prog 16 #[.pointer (some ⟨B.t, 0, none⟩), .agg #[.int .i64 i, .int .i64 g]] w fun e w' => e = .returned (.tuple #[.agg #[.int .i64 z.a, .int .i64 z.r, .bool z.h, .bool z.p], .int .i64 E]) ∧ Below w.heap.size w w' := by
  have := get_any h i g
  rw [getVal_eq, hz, hE] at this
  exact this
theorem len_half {n : Nat} (h : 0 < n) (h2 : n ≤ 1000) : ∃ q : Nat, q < n ∧ (n : Int) / 2 = (q : Int) := ⟨n / 2, by omega, by omega⟩
end Go.Proofs.YtldlolgdglmocaaDoor
