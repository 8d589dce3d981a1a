/- The document's images in memory; images and the document's, side by side. -/
import Derived.Test.YteneadimchhhhaaGreatDoorMgImObj
import Derived.Test.YteneadimchhhhaaGreatDoorImAdd
import Derived.Test.YteneadimchhhhaaGreatDoorLyKept
import Derived.Test.YteneadimchhhhaaGreatDoorImTake
namespace Go.Proofs.YteneadimchhhhaaGreatDoor
open Go.RowKit

/-- Where the document's images lie: their box, the store's blocks, the slice of layouts, the layouts. -/
structure DB where
  lo : Nat
  m : Nat
  R : RB
  v : Value
  ls : List LV
structure DcAt (w : World) (J : DB) (q : Cf) (wd : Nat → Nat) : Prop where
  rf : RfAt w J.R q.C q.K q.own wd
  box : Whole w J.m 47 #[.pointer (some ⟨J.R.m, 0, none⟩), J.v]
  row : w.ownsRow J.lo 70 4 J.v J.ls.length (flatV J.ls)
  each : ∀ l ∈ J.ls, l.lists w 0 w.heap.size ∧ l.fits
  rts : ∀ l ∈ J.ls, l.right = true
  lays : J.ls.map LV.ld = q.D
  win : J.R.within 0 w.heap.size
  len : J.ls.length ≤ 6
/-- A block that the document's images have nothing to do with. -/
structure DB.out (J : DB) (g : Nat) : Prop where
  m : g ≠ J.m
  r : g ≠ J.R.m ∧ g ≠ J.R.p ∧ g ≠ J.R.q
  v : J.v.ownBlock ≠ some g
  i : ∀ l ∈ J.ls, (0 < l.n → ∀ a, l.A = some a → a.block ≠ g) ∧ (0 < l.m → ∀ a, l.D = some a → a.block ≠ g)
/-- What a slice of ints needs of memory lies below hi. -/
theorem Lists.same {w w' : World} {lo hi hi' n c m d : Nat} {A D : Option Addr} {xs ys : List Int} (h : Lists w lo hi A n c xs D m d ys) (hh : hi ≤ hi') (k : ∀ g, g < hi → (0 < n → ∀ a, A = some a → a.block = g → w'.heap[g]? = w.heap[g]?) ∧ (0 < m → ∀ a, D = some a → a.block = g → w'.heap[g]? = w.heap[g]?)) : Lists w' lo hi' A n c xs D m d ys := by
  refine ⟨⟨⟨h.fst.ns.1, h.fst.ns.2.1, fun hn => ?_⟩, h.fst.low, h.fst.nil⟩, ⟨⟨h.snd.ns.1, h.snd.ns.2.1, fun hn => ?_⟩, h.snd.low, h.snd.nil⟩⟩
  · obtain ⟨b, off, rfl, hlt, hc⟩ := h.fst.ns.2.2 hn
    exact ⟨b, off, rfl, by omega, fun i x hi => (World.cell?_of_block (a := ⟨b, off + i, none⟩) ((k b hlt).1 hn _ rfl rfl)).trans (hc i x hi)⟩
  · obtain ⟨b, off, rfl, hlt, hc⟩ := h.snd.ns.2.2 hn
    exact ⟨b, off, rfl, by omega, fun i x hi => (World.cell?_of_block (a := ⟨b, off + i, none⟩) ((k b hlt).2 hn _ rfl rfl)).trans (hc i x hi)⟩
section
variable {w w' : World} {J : DB} {q : Cf} {wd wd' : Nat → Nat}
theorem DcAt.far (h : DcAt w J q wd) {S : List Nat} (ha : Aft S w w') (hS : ∀ g ∈ S, J.out g) : DcAt w' J q wd := by
  obtain ⟨⟨a1, a2⟩, ⟨b1, b2⟩, c1, c2⟩ := h.win
  refine ⟨h.rf.blocks fun k hk => ha.block k (by rcases hk with rfl | rfl | rfl <;> omega) fun hx => ?_, (ha.block _ h.box.lt fun hx => (hS _ hx).m rfl).trans h.box, ⟨h.row.1, ?_⟩, fun l hl => ⟨Lists.same (h.each l hl).1 ha.size fun g hg => ⟨fun hn a e eg => ?_, fun hn a e eg => ?_⟩, (h.each l hl).2⟩, h.rts, h.lays, h.win.more ha.size, h.len⟩
  · obtain ⟨g1, g2, g3⟩ := (hS k hx).r
    rcases hk with rfl | rfl | rfl <;> contradiction
  · rcases h.row.2 with h0 | ⟨g, cap, cur, e, hg, hh, hx⟩
    · exact .inl h0
    · refine .inr ⟨g, cap, cur, e, hg, (ha.block g (Array.getElem?_eq_some_iff.1 hh).1 fun hx => (hS _ hx).v ?_).trans hh, hx⟩
      rw [e]
      rfl
  · exact ha.block g hg fun hx => ((hS _ hx).i l hl).1 hn a e eg
  · exact ha.block g hg fun hx => ((hS _ hx).i l hl).2 hn a e eg
theorem DcAt.below (h : DcAt w J q wd) (hb : Below w.heap.size w w') : DcAt w' J q wd := h.far (Aft.of_below (S := []) hb) (by simp)
/-- Behind a call of the document's store. -/
theorem DcAt.turn (h : DcAt w J q wd) {w2 : World} (hb : Below w.heap.size w w2) (ho : OnlyIn [J.R.p, J.R.q] w2 w') (hr : RfAt w' J.R q.C q.K q.own wd') (hp : J.m ≠ J.R.p ∧ J.m ≠ J.R.q) (hv : J.v.ownBlock ≠ some J.R.p ∧ J.v.ownBlock ≠ some J.R.q)
    (hi : ∀ l ∈ J.ls, (0 < l.n → ∀ a, l.A = some a → a.block ≠ J.R.p ∧ a.block ≠ J.R.q) ∧ (0 < l.m → ∀ a, l.D = some a → a.block ≠ J.R.p ∧ a.block ≠ J.R.q)) : DcAt w' J q wd' := by
  have k := h.below hb
  have hs : w2.heap.size = w'.heap.size := ho.size.symm
  refine ⟨hr, (ho.block _ (by simp; exact hp)).trans k.box, ⟨k.row.1, ?_⟩, fun l hl => ⟨Lists.same (k.each l hl).1 (by omega) fun g hg => ⟨fun hn a e eg => ?_, fun hn a e eg => ?_⟩, (k.each l hl).2⟩, k.rts, k.lays, by rw [← hs]; exact k.win, k.len⟩
  · rcases k.row.2 with h0 | ⟨g, cap, cur, e, hg, hh, hx⟩
    · exact .inl h0
    · refine .inr ⟨g, cap, cur, e, hg, (ho.block g ?_).trans hh, hx⟩
      rw [e] at hv
      simp [Value.ownBlock] at hv
      simp
      exact hv
  · subst eg
    exact ho.block _ (by simp; exact (hi l hl).1 hn a e)
  · subst eg
    exact ho.block _ (by simp; exact (hi l hl).2 hn a e)
end

/-- Images and the document's, made since w0; their words. -/
structure Ms (w0 w : World) (I : IB) (J : DB) (q : Cf) (wd wc : Nat → Nat) : Prop where
  im : ImAt w I q wd
  dc : DcAt w J q wc
  bel : Below w0.heap.size w0 w
  ilo : ∀ g ∈ I.wr, w0.heap.size ≤ g ∧ J.out g
  jlo : ∀ g ∈ [J.R.p, J.R.q], w0.heap.size ≤ g ∧ I.out g
  jm : J.m ≠ J.R.p ∧ J.m ≠ J.R.q
  jv : J.v.ownBlock ≠ some J.R.p ∧ J.v.ownBlock ≠ some J.R.q
  ji : ∀ l ∈ J.ls, (0 < l.n → ∀ a, l.A = some a → a.block ≠ J.R.p ∧ a.block ≠ J.R.q) ∧ (0 < l.m → ∀ a, l.D = some a → a.block ≠ J.R.p ∧ a.block ≠ J.R.q)
section
variable {w0 w w' : World} {I : IB} {J : DB} {q : Cf} {wd wd' wc wc' : Nat → Nat}
theorem Ms.later (h : Ms w0 w I J q wd wc) (hb : Below w.heap.size w w') : Ms w0 w' I J q wd wc :=
  ⟨h.im.below hb, h.dc.below hb, h.bel.trans (hb.mono h.bel.size), h.ilo, h.jlo, h.jm, h.jv, h.ji⟩
/-- Images have turned. -/
theorem Ms.code (h : Ms w0 w I J q wd wc) (hi : ImAt w' I q wd') (ha : Aft I.wr w w') : Ms w0 w' I J q wd' wc :=
  ⟨hi, h.dc.far ha fun g hg => (h.ilo g hg).2, h.bel.trans (ha.below (fun g hg => (h.ilo g hg).1) h.bel.size), h.ilo, h.jlo, h.jm, h.jv, h.ji⟩
/-- The document's have turned. -/
theorem Ms.doc (h : Ms w0 w I J q wd wc) {w2 : World} (hb : Below w.heap.size w w2) (ho : OnlyIn [J.R.p, J.R.q] w2 w') (hr : RfAt w' J.R q.C q.K q.own wc') : Ms w0 w' I J q wd wc' := by
  have ha : Aft [J.R.p, J.R.q] w w' := (Aft.of_below hb).trans (Aft.of_only ho)
  exact ⟨h.im.far ha fun g hg => (h.jlo g hg).2, h.dc.turn hb ho hr h.jm h.jv h.ji, h.bel.trans (ha.below (fun g hg => (h.jlo g hg).1) h.bel.size), h.ilo, h.jlo, h.jm, h.jv, h.ji⟩
end
end Go.Proofs.YteneadimchhhhaaGreatDoor
