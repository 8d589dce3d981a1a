/- Images in memory: their box, their store, their book. -/
import Derived.Test.YteneadimchhhhaaGreatDoorMgLyMath
import Derived.Test.YteneadimchhhhaaGreatDoorLyBook2
namespace Go.Proofs.YteneadimchhhhaaGreatDoor
open Go.RowKit

theorem LV.ok.keepx {l : LV} {W W' : World} {lo : Nat} (h : l.ok W lo) (hs : W.heap.size ≤ W'.heap.size) (k : (∀ a, l.A = some a → W'.heap[a.block]? = W.heap[a.block]?) ∧ ∀ a, l.D = some a → W'.heap[a.block]? = W.heap[a.block]?) : l.ok W' lo :=
  ⟨⟨h.lists.fst.keep hs k.1, h.lists.snd.keep hs k.2⟩, h.tA.keep fun a _ _ e _ => k.1 a e, h.tD.keep fun a _ _ e _ => k.2 a e, h.fits⟩
theorem BookAt.keepx {W W' : World} {lo b : Nat} {v : Value} {ls : List LV} (h : BookAt W lo b v ls) (hs : W.heap.size ≤ W'.heap.size) (hb : W'.heap[b]? = W.heap[b]?) (hr : ∀ g, v.ownBlock = some g → W'.heap[g]? = W.heap[g]?)
    (ht : ∀ l ∈ ls, (∀ a, l.A = some a → W'.heap[a.block]? = W.heap[a.block]?) ∧ ∀ a, l.D = some a → W'.heap[a.block]? = W.heap[a.block]?) : BookAt W' lo b v ls := by
  refine ⟨h.lob, hb.trans h.box, ⟨h.row.1, ?_⟩, fun l hl => (h.each l hl).keepx hs (ht l hl), h.len⟩
  rcases h.row.2 with h0 | ⟨g, cap, cur, rfl, hg, hh, hx⟩
  · exact .inl h0
  · exact .inr ⟨g, cap, cur, rfl, hg, (hr g rfl).trans hh, hx⟩
/-- A layout's plain data. -/
def LV.ld (l : LV) : LD := ⟨l.F, l.R, l.xs, l.ys⟩
/-- Where images lie: from lo on all but the store; their box, the book's, the store's, the slice in the book's box, the layouts. -/
structure IB where
  lo : Nat
  p : Nat
  b : Nat
  B : SB
  v : Value
  ls : List LV
structure ImAt (w : World) (I : IB) (q : Cf) (wd : Nat → Nat) : Prop where
  st : StAt w I.B q.C q.K q.own wd
  bk : BookAt w I.lo I.b I.v I.ls
  box : Whole w I.p 118 #[.pointer (some ⟨I.B.s, 0, none⟩), .pointer (some ⟨I.b, 0, none⟩)]
  low : I.B.within 0 I.lo
  plo : I.lo ≤ I.p
  lays : I.ls.map LV.ld = q.D
section
variable {w w' : World} {I : IB} {q : Cf} {wd wd' : Nat → Nat}
theorem ImAt.lolt (h : ImAt w I q wd) : I.lo < w.heap.size := by
  have := h.bk.lob
  have := h.bk.box.lt
  omega
theorem SB.within.up {B : SB} {lo hi hi' : Nat} (h : B.within lo hi) (hh : hi ≤ hi') : B.within lo hi' := by
  obtain ⟨⟨a1, a2⟩, ⟨b1, b2⟩, ⟨c1, c2⟩, ⟨d1, d2⟩, e1, e2⟩ := h
  refine ⟨⟨a1, ?_⟩, ⟨b1, ?_⟩, ⟨c1, ?_⟩, ⟨d1, ?_⟩, e1, ?_⟩ <;> omega
theorem ImAt.below (h : ImAt w I q wd) (hb : Below w.heap.size w w') : ImAt w' I q wd :=
  ⟨h.st.below hb (h.low.up (Nat.le_of_lt h.lolt)), h.bk.below hb, h.box.below hb h.box.lt, h.low, h.plo, h.lays⟩
theorem ImAt.heap (h : ImAt w I q wd) (e : w'.heap = w.heap) : ImAt w' I q wd := by
  refine ⟨h.st.heap e, ?_, ?_, h.low, h.plo, h.lays⟩
  · exact h.bk.keep (by rw [e]; exact Nat.le_refl _) (by rw [e]) (fun _ _ => by rw [e]) (fun _ _ _ _ _ => by rw [e])
  · show w'.heap[I.p]? = _
    rw [e]
    exact h.box
/-- Behind a call of the store. -/
theorem ImAt.only (h : ImAt w I q wd) (ho : OnlyIn [I.B.o, I.B.c, I.B.v] w w') (hs : StAt w' I.B q.C q.K q.own wd') : ImAt w' I q wd' := by
  obtain ⟨⟨a1, a2⟩, ⟨b1, b2⟩, ⟨c1, c2⟩, ⟨d1, d2⟩, e1, e2⟩ := h.low
  have hk : ∀ g, I.lo ≤ g → w'.heap[g]? = w.heap[g]? := fun g hg => ho.block g (by simp; omega)
  refine ⟨hs, ?_, ?_, h.low, h.plo, h.lays⟩
  · exact h.bk.keep (by rw [ho.size]; exact Nat.le_refl _) (hk _ h.bk.lob) (fun g hg => hk g (h.bk.row.lt g hg).1) (fun g _ _ hg _ => hk g hg)
  · exact (hk _ h.plo).trans h.box
/-- A block that images have nothing to do with. -/
structure IB.out (I : IB) (g : Nat) : Prop where
  s : g ≠ I.B.s ∧ g ≠ I.B.v ∧ g ≠ I.B.o ∧ g ≠ I.B.b ∧ g ≠ I.B.c
  p : g ≠ I.p
  b : g ≠ I.b
  v : I.v.ownBlock ≠ some g
  i : ∀ l ∈ I.ls, (∀ a, l.A = some a → a.block ≠ g) ∧ ∀ a, l.D = some a → a.block ≠ g
theorem ImAt.far (h : ImAt w I q wd) {S : List Nat} (ha : Aft S w w') (hS : ∀ g ∈ S, I.out g) : ImAt w' I q wd := by
  have hl := h.lolt
  obtain ⟨⟨a1, a2⟩, ⟨b1, b2⟩, ⟨c1, c2⟩, ⟨d1, d2⟩, e1, e2⟩ := h.low
  refine ⟨h.st.blocks fun k hk => ha.block k (by rcases hk with rfl | rfl | rfl | rfl | rfl <;> omega) fun hx => ?_, ?_, ?_, h.low, h.plo, h.lays⟩
  · obtain ⟨g1, g2, g3, g4, g5⟩ := (hS k hx).s
    rcases hk with rfl | rfl | rfl | rfl | rfl <;> contradiction
  · refine h.bk.keepx ha.size (ha.block _ h.bk.box.lt fun hx => (hS _ hx).b rfl) (fun g hg => ha.block g (h.bk.row.lt g hg).2 fun hx => (hS _ hx).v hg) fun l hl => ⟨fun a e => ?_, fun a e => ?_⟩
    · obtain ⟨cs, fz, hh⟩ := (h.bk.each l hl).tA a e
      exact ha.block _ (Array.getElem?_eq_some_iff.1 hh).1 fun hx => ((hS _ hx).i l hl).1 a e rfl
    · obtain ⟨cs, fz, hh⟩ := (h.bk.each l hl).tD a e
      exact ha.block _ (Array.getElem?_eq_some_iff.1 hh).1 fun hx => ((hS _ hx).i l hl).2 a e rfl
  · exact (ha.block _ h.box.lt fun hx => (hS _ hx).p rfl).trans h.box
theorem ImAt.word (h : ImAt w I q wd) (a : Int) : FM.Word (IM.hd wd a) := by
  have := h.st.wlt a.toNat
  unfold IM.hd FM.Word
  omega
end

theorem lay_at (ls : List LV) {i : Int} (h : 1 ≤ i) : IM.lay (ls.map LV.ld) i = (ls[(i - 1).toNat]?).map LV.ld := by
  unfold IM.lay
  rw [if_pos h, List.getElem?_map]
theorem lay_low (D : List LD) {i : Int} (h : ¬ 1 ≤ i) : IM.lay D i = none := by
  unfold IM.lay
  rw [if_neg h]
theorem lay_some {ls : List LV} {i : Int} (h : IM.gE (ls.map LV.ld) i = 0) : ∃ (k : Nat) (l : LV), i = (k : Int) + 1 ∧ ls[k]? = some l ∧ IM.lay (ls.map LV.ld) i = some l.ld := by
  unfold IM.gE at h
  by_cases h1 : 1 ≤ i
  · rw [lay_at ls h1] at h ⊢
    cases hl : ls[(i - 1).toNat]? with
    | none => rw [hl] at h; exact absurd h (by decide)
    | some l => exact ⟨(i - 1).toNat, l, by omega, hl, rfl⟩
  · rw [lay_low _ h1] at h
    exact absurd h (by decide)
theorem lay_none {ls : List LV} {i : Int} (h : IM.gE (ls.map LV.ld) i ≠ 0) : (i < 1 ∨ (ls.length : Int) < i) ∧ IM.lay (ls.map LV.ld) i = none ∧ IM.gE (ls.map LV.ld) i = 6 := by
  unfold IM.gE at *
  by_cases h1 : 1 ≤ i
  · rw [lay_at ls h1] at h ⊢
    cases hl : ls[(i - 1).toNat]? with
    | none =>
      have := List.getElem?_eq_none_iff.1 hl
      exact ⟨by omega, rfl, rfl⟩
    | some l => rw [hl] at h; exact absurd rfl h
  · rw [lay_low _ h1] at h ⊢
    exact ⟨.inl (by omega), rfl, rfl⟩

/-- A layout that is handed out: what it is, where its lists lie. -/
def GotIs (D : List LD) (L E : Int) (k : LV) (w w' : World) : Prop := E = 0 → IM.lay D L = some k.ld ∧ k.fits ∧ k.lists w' w.heap.size w'.heap.size
def zLV : LV := ⟨0, 0, none, 0, 0, [], none, 0, 0, []⟩
theorem same_ld {k l : LV} (h : k.same l) : k.ld = l.ld := by
  obtain ⟨h1, h2, h3, h4, h5, h6⟩ := h
  unfold LV.ld
  rw [h1, h2, h5, h6]
theorem bookGet_any {w : World} {lo b : Nat} {v : Value} {ls : List LV} (h : BookAt w lo b v ls) (i : Int) :
    Calls Tryz.prog 80 #[.pointer (some ⟨b, 0, none⟩), .int .i64 i] w fun e w' => ∃ k : LV, e = .returned (.tuple #[.agg #[.int .i64 k.F, .slice k.A k.n k.c, .int .i64 k.R, .slice k.D k.m k.d], .int .i64 (IM.gE (ls.map LV.ld) i)]) ∧
      Hid (GotIs (ls.map LV.ld) i (IM.gE (ls.map LV.ld) i) k w w') ∧ Below w.heap.size w w' := by
  by_cases hz : IM.gE (ls.map LV.ld) i = 0
  · obtain ⟨j, l, rfl, hl, hlay⟩ := lay_some hz
    rw [hz]
    refine (bookGet_ok h j l hl).mono ?_
    rintro e w' ⟨k, rfl, hs, hL, hb⟩
    have hf := (h.each l (List.mem_of_getElem? hl)).fits
    refine ⟨k, rfl, fun _ => ⟨by rw [same_ld hs]; exact hlay, ?_, hL⟩, hb⟩
    obtain ⟨h1, h2, h3, h4, h5, h6⟩ := hs
    exact ⟨by rw [h1]; exact hf.hF, by rw [h2]; exact hf.hR, by rw [h3]; exact hf.hn, by rw [h4]; exact hf.hm⟩
  · obtain ⟨h1, h2, h3⟩ := lay_none hz
    rw [h3]
    refine (bookGet_none h i h1).mono ?_
    rintro e w' ⟨rfl, hb⟩
    exact ⟨zLV, rfl, fun e => absurd e (by decide), hb⟩
end Go.Proofs.YteneadimchhhhaaGreatDoor
