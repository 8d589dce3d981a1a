/- Rows of tokens of a law's own, and a law's state: a table and such a row. -/
import Derived.Test.YtldlolgdglmocaaDoorTbAlive
import Derived.Laws.AppendOwn
import Derived.Maps.AppendAt
namespace Go.Proofs.YtldlolgdglmocaaDoor
open Go.RowKit

/-- A token's two cells. -/
def encT (x : Int × Int) : List Value := [.int .i64 x.1, .int .i64 x.2]
theorem encT_one (x : Int × Int) (v : Value) (h : v ∈ encT x) : v.oneCell' = true := by
  simp [encT] at h
  rcases h with rfl | rfl <;> rfl
/-- The cells of a list of tokens. -/
def flatT (l : List (Int × Int)) : List Value := l.flatMap encT
theorem flatT_len (l : List (Int × Int)) : (flatT l).length = l.length * 2 := by
  induction l with
  | nil => rfl
  | cons x l ih => simp [flatT, encT] at *; omega
theorem flatT_app (xs ys : List (Int × Int)) : flatT (xs ++ ys) = flatT xs ++ flatT ys := by simp [flatT]
theorem flatT_get : ∀ (l : List (Int × Int)) (j : Nat) (x : Int × Int), l[j]? = some x → (flatT l)[j * 2]? = some (.int .i64 x.1) ∧ (flatT l)[j * 2 + 1]? = some (.int .i64 x.2)
  | [], j, x, h => by simp at h
  | y :: l, 0, x, h => by
    simp at h
    subst h
    exact ⟨rfl, rfl⟩
  | y :: l, j + 1, x, h => by
    have ih := flatT_get l j x (by simpa using h)
    have e : flatT (y :: l) = .int .i64 y.1 :: .int .i64 y.2 :: flatT l := rfl
    rw [e, show (j + 1) * 2 = j * 2 + 1 + 1 by omega]
    exact ⟨ih.1, ih.2⟩
theorem infoTok_parts : ∃ i, Tryd.prog.info? 33 = some i ∧ i.zero = some (.agg #[.int .i64 0, .int .i64 0]) ∧ i.size = 2 ∧ i.bytes = 16 := by
  have h : (Tryd.prog.info? 33).map (fun i => (i.zero, i.size, i.bytes)) = some (some (.agg #[.int .i64 0, .int .i64 0]), 2, 16) := by kernel_rfl
  cases hh : Tryd.prog.info? 33 with
  | none => rw [hh] at h; cases h
  | some i =>
    rw [hh] at h
    simp at h
    exact ⟨i, rfl, h.1, h.2.1, h.2.2⟩

/-- A row of tokens, its memory from block base on. -/
def TR (w : World) (base : Nat) (v : Value) (l : List (Int × Int)) : Prop := w.ownsRow base 33 2 v l.length (flatT l)
section
variable {w w' : World} {base : Nat} {v : Value} {l : List (Int × Int)}
theorem TR.keep (h : TR w base v l) (e : ∀ g, base ≤ g → g < w.heap.size → w'.heap[g]? = w.heap[g]?) : TR w' base v l := by
  refine ⟨h.1, ?_⟩
  rcases h.2 with h0 | ⟨g, cap, cur, rfl, hg, hh, hn, hm, hs, ht⟩
  · exact .inl h0
  · exact .inr ⟨g, cap, cur, rfl, hg, (e g hg (Array.getElem?_eq_some_iff.1 hh).1).trans hh, hn, hm, hs, ht⟩
theorem TR.below (h : TR w base v l) (hb : Below w.heap.size w w') : TR w' base v l := h.keep fun g _ hl => hb.block g hl
theorem TR.aft {L : List Nat} (h : TR w base v l) (hb : Aft L w w') (hl : ∀ x ∈ L, x < base) : TR w' base v l := h.keep fun g hg hlt => hb.block g hlt (fun hx => by have := hl g hx; omega)
theorem TR.slice (h : TR w base v l) : ∃ A c, v = .slice A l.length c := by
  rcases h.2 with ⟨rfl, h0⟩ | ⟨g, cap, cur, rfl, _⟩
  · exact ⟨none, 0, by rw [h0]⟩
  · exact ⟨_, cap, rfl⟩
theorem TR.at_ (h : TR w base v l) {k : Nat} (hk : k < l.length) : ∃ g cap, v = .slice (some ⟨g, 0, none⟩) l.length cap ∧ base ≤ g ∧ g < w.heap.size ∧ w.cell? ⟨g, k * 2, none⟩ = some (.int .i64 l[k].1) ∧ w.cell? ⟨g, k * 2 + 1, none⟩ = some (.int .i64 l[k].2) := by
  rcases h.2 with ⟨rfl, h0⟩ | ⟨g, cap, cur, rfl, hg, hh, hn, hm, hs, ht⟩
  · omega
  · have hq := flatT_get l k l[k] (List.getElem?_eq_getElem hk)
    have hc : ∀ q, q < l.length * 2 → cur[q]? = (flatT l)[q]? := fun q hq => by
      rw [← ht, List.getElem?_take, if_pos hq]
      simp
    refine ⟨g, cap, rfl, hg, (Array.getElem?_eq_some_iff.1 hh).1, ?_, ?_⟩
    · simp [World.cell?, hh, hc (k * 2) (by omega), hq.1]
    · simp [World.cell?, hh, hc (k * 2 + 1) (by omega), hq.2]
theorem TR.nil (w : World) (base : Nat) : TR w base (.slice none 0 0) [] := World.ownsRow_nil _ _ _ _
end

/-- A law's state: a table made since w0, all of it ahead of block base; tokens told, from there on. -/
structure Lt (w0 w : World) (B : TB) (N : Nat) (S : Nat → Sl) (base : Nat) (v : Value) (l : List (Int × Int)) : Prop where
  ht : Ht w0 w B N S
  tr : TR w base v l
  win : B.within w0.heap.size base
  le : base ≤ w.heap.size
section
variable {w0 w w' : World} {B : TB} {N base : Nat} {S S' : Nat → Sl} {v v' : Value} {l l' : List (Int × Int)}
theorem TB.within.wr {lo hi : Nat} (h : B.within lo hi) : ∀ x ∈ B.wr, x < hi := by
  obtain ⟨⟨a1, a2⟩, ⟨b1, b2⟩, ⟨c1, c2⟩, ⟨d1, d2⟩, ⟨f1, f2⟩, e1, e2⟩ := h
  intro x hx
  simp [TB.wr] at hx
  omega
theorem Lt.step (h : Lt w0 w B N S base v l) (hT : Tab w0) (ho : Aft B.wr w w') (hs : TbAt w' B N S') : Lt w0 w' B N S' base v l :=
  ⟨h.ht.step hT ho hs, h.tr.aft ho h.win.wr, h.win, Nat.le_trans h.le ho.size⟩
theorem Lt.later (h : Lt w0 w B N S base v l) (hT : Tab w0) (hb : Below w.heap.size w w') : Lt w0 w' B N S base v l :=
  ⟨h.ht.later hT hb, h.tr.below hb, h.win, Nat.le_trans h.le hb.size⟩
theorem Lt.alloc (h : Lt w0 w B N S base v l) (hT : Tab w0) (o : Obj) : Lt w0 (w.alloc o) B N S base v l := h.later hT ((Below.refl _ _).alloc (Nat.le_refl _) o)
theorem Lt.drewN (h : Lt w0 w B N S base v l) (m : Nat) : Lt w0 (w.drewN m) B N S base v l := ⟨h.ht.drewN m, h.tr.keep fun _ _ _ => rfl, h.win, h.le⟩
/-- A block that was laid behind the table is none that its calls write. -/
theorem Lt.not (h : Lt w0 w B N S base v l) {g : Nat} (hg : base ≤ g) : g ∉ B.wr := h.win.not hg
/-- Behind an append to the row. -/
theorem Lt.grown (h : Lt w0 w B N S base v l) (hT : Tab w0) {tmp : Obj} (hr : TR w' base v' l') (hg : (w.alloc tmp).grownBy w' v.ownBlock) : Lt w0 w' B N S base v' l' := by
  have hlt := h.tr.lt
  have hb : Below base w w' := ((Below.refl base w).alloc h.le tmp).grown hg (by simp; have := h.le; omega) (fun g hg => (hlt g hg).1)
  have hs : w.heap.size ≤ w'.heap.size := hb.size
  have hbw : Below w0.heap.size w0 w' := h.ht.bel.trans (hb.mono (by obtain ⟨⟨a1, a2⟩, _⟩ := h.win; omega))
  exact ⟨⟨h.ht.st.below hb h.win, hbw, h.ht.win.more hs, hT.below hbw hT.pos⟩, hr, h.win, Nat.le_trans h.le hs⟩
end
end Go.Proofs.YtldlolgdglmocaaDoor
