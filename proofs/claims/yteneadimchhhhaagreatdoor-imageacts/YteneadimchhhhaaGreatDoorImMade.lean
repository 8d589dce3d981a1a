/- The contract of the law package's made. -/
import Derived.Test.YteneadimchhhhaaGreatDoorImDoc
import Derived.Deep.RegionLaw
namespace Go.Proofs.YteneadimchhhhaaGreatDoor
open Go.RowKit

theorem LS.at2 {w : World} {B n k : Nat} {A : Option Addr} {ls : List LV} (h : LS w B A n ls) (hk : k < n) : ∃ b off l, A = some ⟨b, off, none⟩ ∧ b < B ∧ ls[k]? = some l ∧ l ∈ ls ∧
    w.cell? ⟨b, off + k * 4, none⟩ = some (.int .i64 l.F) ∧ w.cell? ⟨b, off + k * 4 + 1, none⟩ = some (.slice l.A l.n l.c) ∧ w.cell? ⟨b, off + k * 4 + 2, none⟩ = some (.int .i64 l.R) ∧ w.cell? ⟨b, off + k * 4 + 3, none⟩ = some (.slice l.D l.m l.d) := by
  obtain ⟨b, off, e, hlt, hc⟩ := h.2.1 (by omega)
  have hl : k < ls.length := by have := h.1; omega
  have hi : ls[k]? = some ls[k] := List.getElem?_eq_getElem hl
  exact ⟨b, off, ls[k], e, hlt, hi, List.getElem_mem hl, hc k _ 0 hi (by omega), hc k _ 1 hi (by omega), hc k _ 2 hi (by omega), hc k _ 3 hi (by omega)⟩
theorem owns_keep {w w' : World} {base size n : Nat} {e : TypeId} {v : Value} {xs : List Value} (h : w.ownsRow base e size v n xs) (hb : ∀ g, v.ownBlock = some g → w'.heap[g]? = w.heap[g]?) : w'.ownsRow base e size v n xs := by
  refine ⟨h.1, ?_⟩
  rcases h.2 with h0 | ⟨g, cap, cur, rfl, hg, hh, hr⟩
  · exact .inl h0
  · exact .inr ⟨g, cap, cur, rfl, hg, (hb g rfl).trans hh, hr⟩
/-- The layouts that are taken. -/
def pick (k : Nat) (ls : List LV) : List LV := (ls.take k).filter LV.right
theorem pick_yes {k : Nat} {ls : List LV} {l : LV} (h : ls[k]? = some l) (hr : l.right = true) : pick (k + 1) ls = pick k ls ++ [l] := by
  unfold pick
  rw [List.take_add_one, h]
  simp [List.filter_append, hr]
theorem pick_no {k : Nat} {ls : List LV} {l : LV} (h : ls[k]? = some l) (hr : l.right = false) : pick (k + 1) ls = pick k ls := by
  unfold pick
  rw [List.take_add_one, h]
  simp [List.filter_append, hr]
theorem pick_len (k : Nat) (ls : List LV) : (pick k ls).length ≤ k := by
  unfold pick
  have h1 := List.length_filter_le LV.right (ls.take k)
  have h2 := List.length_take_le k ls
  omega
theorem pick_mem {k : Nat} {ls : List LV} {l : LV} (h : l ∈ pick k ls) : l ∈ ls ∧ l.right = true := by
  unfold pick at h
  rw [List.mem_filter] at h
  exact ⟨List.mem_of_mem_take h.1, h.2⟩
theorem pick_min (n : Nat) (ls : List LV) (h : ls.length = n) : pick (min n 6) ls = pick 6 ls := by
  unfold pick
  congr 1
  by_cases hn : n ≤ 6
  · rw [Nat.min_eq_left hn, List.take_of_length_le (by omega), List.take_of_length_le (by omega)]
  · rw [Nat.min_eq_right (by omega)]

/-- How far the chunks are taken. -/
def TkAt (wm : World) (B : SB) (R : RB) (v : Value) (wr : World) : Prop :=
  ∃ j : Nat, j ≤ 5 ∧ v = .int .i64 j ∧ StAt wr B 6 8 (own5 j) wd0 ∧ RfAt wr R 6 8 (own5 j) wd0 ∧ Aft [B.o, B.c, B.v, R.p, R.q] wm wr

/-- The book and the document's layouts, as far as they are added; wt is the world ahead of the first one. -/
structure MB (w0 wt wr : World) (lo b m : Nat) (R : RB) (v : Value) (bk : List LV) (vk : Value) (ks : List LV) : Prop where
  aft : Aft [b, m] wt wr
  book : BookAt wr lo b v bk
  mbox : Whole wr m 47 #[.pointer (some ⟨R.m, 0, none⟩), vk]
  row : wr.ownsRow wt.heap.size 70 4 vk ks.length (flatV ks)
  each : ∀ l ∈ ks, l.lists w0 0 w0.heap.size ∧ l.fits
  vnew : ∀ g, v.ownBlock = some g → wt.heap.size ≤ g
  bnew : ∀ l ∈ bk, (∀ a, l.A = some a → wt.heap.size ≤ a.block) ∧ ∀ a, l.D = some a → wt.heap.size ≤ a.block
  apart : ∀ g, vk.ownBlock = some g → v.ownBlock ≠ some g
  same : bk.map LV.ld = ks.map LV.ld
section
variable {w0 wt wr wr' : World} {lo b m : Nat} {R : RB} {v vk : Value} {bk ks : List LV}
theorem MB.later (h : MB w0 wt wr lo b m R v bk vk ks) (hb : Below wr.heap.size wr wr') : MB w0 wt wr' lo b m R v bk vk ks :=
  ⟨h.aft.trans (Aft.of_below hb), h.book.below hb, h.mbox.below hb h.mbox.lt, ownsRow_below h.row hb, h.each, h.vnew, h.bnew, h.apart, h.same⟩
theorem MB.added {k : LV} {v' : Value} (h : MB w0 wt wr lo b m R v bk vk ks) (hbm : b ≠ m) (hbt : b < wt.heap.size) (hmt : m < wt.heap.size) (hbk : BookAt wr' lo b v' (bk ++ [k])) (hbut : But2 b v.ownBlock wr wr') (hwh : v'.ownBlock = v.ownBlock ∨ ∃ g, v'.ownBlock = some g ∧ wr.heap.size ≤ g)
    (hA : ∀ a, k.A = some a → wr.heap.size ≤ a.block) (hD : ∀ a, k.D = some a → wr.heap.size ≤ a.block) :
    Aft [b, m] wt wr' ∧ Whole wr' m 47 #[.pointer (some ⟨R.m, 0, none⟩), vk] ∧ wr'.ownsRow wt.heap.size 70 4 vk ks.length (flatV ks) ∧ (∀ g, v'.ownBlock = some g → wt.heap.size ≤ g) ∧
      (∀ l ∈ bk ++ [k], (∀ a, l.A = some a → wt.heap.size ≤ a.block) ∧ ∀ a, l.D = some a → wt.heap.size ≤ a.block) ∧ (∀ g, vk.ownBlock = some g → v'.ownBlock ≠ some g) := by
  have hz := h.aft.size
  have hrow : ∀ g, vk.ownBlock = some g → wr'.heap[g]? = wr.heap[g]? := fun g hg => hbut.block g (h.row.lt g hg).2 (by have := (h.row.lt g hg).1; omega) (h.apart g hg)
  refine ⟨⟨hbut.os.trans h.aft.os, hbut.tape.trans h.aft.tape, hbut.output.trans h.aft.output, Nat.le_trans hz hbut.size, fun g hg hn => ?_⟩, (hbut.block m h.mbox.lt (Ne.symm hbm) (fun e => by have := h.vnew m e; omega)).trans h.mbox, ⟨h.row.1, ?_⟩, ?_, ?_, ?_⟩
  · simp at hn
    exact (hbut.block g (by omega) hn.1 (fun e => by have := h.vnew g e; omega)).trans (h.aft.block g hg (by simp; exact hn))
  · rcases h.row.2 with h0 | ⟨g, cap, cur, rfl, hg, hh, hx⟩
    · exact .inl h0
    · exact .inr ⟨g, cap, cur, rfl, hg, (hrow g rfl).trans hh, hx⟩
  · intro g hg
    rcases hwh with e | ⟨g', e, hg'⟩
    · exact h.vnew g (e ▸ hg)
    · rw [e] at hg
      injection hg with hg
      omega
  · intro l hl
    rcases List.mem_append.1 hl with hl | hl
    · exact h.bnew l hl
    · rw [List.mem_singleton] at hl
      subst hl
      exact ⟨fun a e => Nat.le_trans hz (hA a e), fun a e => Nat.le_trans hz (hD a e)⟩
  · intro g hg
    rcases hwh with e | ⟨g', e, hg'⟩
    · rw [e]; exact h.apart g hg
    · rw [e]
      intro e'
      injection e' with e'
      have := (h.row.lt g hg).2
      omega
/-- Behind an append to the document's slice, and its store into the box. -/
theorem MB.kept {k l : LV} {o : Obj} {g cap N : Nat} (hN : N = ks.length) (hbm : b ≠ m) (hbt : b < wt.heap.size) (hmt : m < wt.heap.size) (ha : Aft [b, m] wt wr) (hbk : BookAt wr lo b v (bk ++ [k])) (hmb : Whole wr m 47 #[.pointer (some ⟨R.m, 0, none⟩), vk]) (hrw : wr.ownsRow wt.heap.size 70 4 vk N (flatV ks))
    (he : ∀ l ∈ ks, l.lists w0 0 w0.heap.size ∧ l.fits) (hvn : ∀ g, v.ownBlock = some g → wt.heap.size ≤ g) (hbn : ∀ l ∈ bk ++ [k], (∀ a, l.A = some a → wt.heap.size ≤ a.block) ∧ ∀ a, l.D = some a → wt.heap.size ≤ a.block) (hap : ∀ g, vk.ownBlock = some g → v.ownBlock ≠ some g) (hsm : bk.map LV.ld = ks.map LV.ld) (hkl : k.same l)
    (hl : l.lists w0 0 w0.heap.size) (hf : l.fits)
    (hown : wr'.ownsRow wt.heap.size 70 4 (.slice (some ⟨g, 0, none⟩) (N + 1) cap) (N + 1) (flatV ks ++ l.vals)) (hgr : (wr.alloc o).grownBy wr' vk.ownBlock) (hat : vk.ownBlock = some g ∨ g = wr.heap.size + 1) :
    wr'.cell? ⟨m, 1, none⟩ = some vk ∧ wr'.frozen? ⟨m, 1, none⟩ = false ∧ m < wr'.heap.size ∧ MB w0 wt (wr'.setCell ⟨m, 1, none⟩ (.slice (some ⟨g, 0, none⟩) (N + 1) cap)) lo b m R v (bk ++ [k]) (.slice (some ⟨g, 0, none⟩) (N + 1) cap) (ks ++ [l]) := by
  subst hN
  have hz := ha.size
  have hs := hgr.size
  rw [World.size_alloc] at hs
  have step : ∀ g', g' < wr.heap.size → vk.ownBlock ≠ some g' → wr'.heap[g']? = wr.heap[g']? := fun g' h1 h2 => (hgr.block g' (by rw [World.size_alloc]; omega) (Ne.symm h2)).trans (Below.heap_alloc wr o g' h1)
  have hvm : vk.ownBlock ≠ some m := fun e => by have := (hrw.lt m e).1; omega
  have hm' : Whole wr' m 47 #[.pointer (some ⟨R.m, 0, none⟩), vk] := (step m hmb.lt hvm).trans hmb
  have hgt : wt.heap.size ≤ g := (hown.lt g rfl).1
  have hgm : g ≠ m := by omega
  have hset : ∀ g', g' ≠ m → (wr'.setCell ⟨m, 1, none⟩ (.slice (some ⟨g, 0, none⟩) (ks.length + 1) cap)).heap[g']? = wr'.heap[g']? := fun g' h => Below.heap_setCell wr' ⟨m, 1, none⟩ _ g' h
  have hssz : (wr'.setCell ⟨m, 1, none⟩ (.slice (some ⟨g, 0, none⟩) (ks.length + 1) cap)).heap.size = wr'.heap.size := by simp
  refine ⟨hm'.cell 1, hm'.free 1, hm'.lt, ⟨?_, ?_, hm'.set 1 _, ?_, ?_, hvn, hbn, ?_, ?_⟩⟩
  · refine ⟨hgr.os.trans ha.os, hgr.tape.trans ha.tape, hgr.output.trans ha.output, by rw [hssz]; omega, fun g' h1 h2 => ?_⟩
    have h3 := ha.block g' h1 h2
    simp at h2
    exact (hset g' h2.2).trans ((step g' (by omega) fun e => by have := (hrw.lt g' e).1; omega).trans h3)
  · refine hbk.keepx (by rw [hssz]; omega) ((hset b hbm).trans (step b hbk.box.lt fun e => by have := (hrw.lt b e).1; omega)) (fun g' hg' => (hset g' (by have := hvn g' hg'; omega)).trans (step g' (hbk.row.lt g' hg').2 fun e => hap g' e hg')) fun l' hl' => ⟨fun a e => ?_, fun a e => ?_⟩
    · obtain ⟨cs, fz, hh⟩ := (hbk.each l' hl').tA a e
      have h1 := (hbn l' hl').1 a e
      refine (hset _ (by omega)).trans (step _ (Array.getElem?_eq_some_iff.1 hh).1 fun e' => ?_)
      obtain ⟨cs', hc⟩ := own_type hrw e'
      have := hc.symm.trans hh
      simp at this
    · obtain ⟨cs, fz, hh⟩ := (hbk.each l' hl').tD a e
      have h1 := (hbn l' hl').2 a e
      refine (hset _ (by omega)).trans (step _ (Array.getElem?_eq_some_iff.1 hh).1 fun e' => ?_)
      obtain ⟨cs', hc⟩ := own_type hrw e'
      have := hc.symm.trans hh
      simp at this
  · rw [flatV_snoc, List.length_append]
    exact owns_keep hown fun g' e => by injection e with e; subst e; exact hset _ hgm
  · intro l' hl'
    rcases List.mem_append.1 hl' with hl' | hl'
    · exact he l' hl'
    · rw [List.mem_singleton] at hl'
      subst hl'
      exact ⟨hl, hf⟩
  · intro g' hg' e
    simp [Value.ownBlock] at hg'
    subst hg'
    rcases hat with e' | e'
    · exact hap g e' e
    · have := (hbk.row.lt g e).2
      omega
  · rw [List.map_append, List.map_append, hsm]
    simp [same_ld hkl]
end

theorem row_shape {w : World} {base size n : Nat} {e : TypeId} {v : Value} {xs : List Value} (h : w.ownsRow base e size v n xs) : ∃ A c, v = .slice A n c := by
  rcases h.2 with ⟨rfl, h0⟩ | ⟨g, cap, cur, rfl, _⟩
  · subst h0; exact ⟨_, _, rfl⟩
  · exact ⟨_, _, rfl⟩
theorem own_dr {w : World} {base n k : Nat} {t : TypeId} {v : Value} {xs : List Value} (h : w.ownsRow base t k v n xs) : w.drew.ownsRow base t k v n xs := h
theorem heap_new_dr (w : World) (o : Obj) : (w.alloc o).drew.heap[w.heap.size]? = some o := heap_alloc_new w o
/-- What made leaves. -/
def MadePost (ls : List LV) (w : World) (e : Ending) (w' : World) : Prop :=
  ∃ (I : IB) (J : DB), e = .returned (.tuple #[.pointer (some ⟨I.B.s, 0, none⟩), .pointer (some ⟨I.p, 0, none⟩), .pointer (some ⟨J.m, 0, none⟩)]) ∧ J.ls = pick 6 ls ∧ Ms w w' I J (cf5 ((pick 6 ls).map LV.ld)) wd0 wd0

theorem inew_any (s b : Nat) (w : World) : Calls Tryz.prog 26 #[.pointer (some ⟨s, 0, none⟩), .pointer (some ⟨b, 0, none⟩)] w fun e w' => e = .returned (.tuple #[.pointer (some ⟨w.heap.size, 0, none⟩), .int .i64 0]) ∧ w.alloc (.cells #[.pointer (some ⟨s, 0, none⟩), .pointer (some ⟨b, 0, none⟩)] 118) = w' := by
  go_enter Tryz.func26, Tryz.ntmps26
  go_wp2
  go_ret2
  exact ⟨rfl, rfl⟩

/-- Where the blocks lie, one behind the other. -/
structure TkN (s0 s1 s3 : Nat) (B : SB) (R : RB) : Prop where
  b : B.within s0 s1
  r : R.within (s1 + 1) s3
  s : s1 + 1 ≤ s3
theorem TkN.far {s0 s1 s3 : Nat} {B : SB} {R : RB} (h : TkN s0 s1 s3 B R) : (∀ x ∈ [B.o, B.c, B.v], x ≠ R.m ∧ x ≠ R.p ∧ x ≠ R.q) ∧ (∀ x ∈ [R.p, R.q], x ≠ B.s ∧ x ≠ B.v ∧ x ≠ B.o ∧ x ≠ B.b ∧ x ≠ B.c) ∧ (∀ x ∈ [B.o, B.c, B.v, R.p, R.q], s0 ≤ x ∧ x ≠ s1 ∧ x < s3) := by
  obtain ⟨⟨⟨a1, a2⟩, ⟨b1, b2⟩, ⟨c1, c2⟩, ⟨d1, d2⟩, e1, e2⟩, ⟨⟨f1, f2⟩, ⟨g1, g2⟩, h1, h2⟩, hs⟩ := h
  refine ⟨fun x hx => ?_, fun x hx => ?_, fun x hx => ?_⟩
  · simp at hx; omega
  · simp at hx; omega
  · simp at hx; omega
/-- One round: both stores have taken a chunk. -/
theorem tk_round {s0 s1 s3 j : Nat} {B : SB} {R : RB} {wm wr w5 w6 wx : World} (N : TkN s0 s1 s3 B R) (hj : j < 5) (hsz : s3 ≤ wm.heap.size) (ha : Aft [B.o, B.c, B.v, R.p, R.q] wm wr)
    (ho : OnlyIn [B.o, B.c, B.v] wr w5) (hs : StAt w5 B 6 8 (tkOwnA (own5 j) 6 1 1) (tkWdA (own5 j) wd0 6 8 1 1)) (hb : Below w5.heap.size w5 wx) (ho2 : OnlyIn [R.p, R.q] wx w6) (hr : RfAt w6 R 6 8 (tkOwnA (own5 j) 6 1 1) (tkWdA (own5 j) wd0 6 8 1 1)) :
    TkAt wm B R (.int .i64 ((j : Int) + 1)) w6 := by
  obtain ⟨n1, n2, n3⟩ := N.far
  obtain ⟨t1, t2, t3⟩ := tk5 j hj
  rw [t2, t3] at hs hr
  have hz := ha.size
  have hz5 := ho.size
  refine ⟨j + 1, by omega, by rw [show ((j + 1 : Nat) : Int) = (j : Int) + 1 by omega], (hs.below hb (N.b.up (by have := N.s; omega))).only ho2 n2, hr, ?_⟩
  exact ((ha.trans ((Aft.of_only ho).sub (by simp))).trans (Aft.of_below hb)).trans ((Aft.of_only ho2).sub (by simp))
theorem made_end {w wt wz : World} {s1 s3 : Nat} {B : SB} {R : RB} {v vk : Value} {bk ks ls : List LV} (N : TkN w.heap.size s1 s3 B R) (hb : Below w.heap.size w wt) (hsz : s3 + 1 ≤ wt.heap.size) (hst : StAt wt B 6 8 (own5 5) wd0) (hrf : RfAt wt R 6 8 (own5 5) wd0)
    (M : MB w wt wz s1 s1 s3 R v bk vk ks) (hks : ks = pick 6 ls) (w' : World) (hw' : w' = wz.alloc (.cells #[.pointer (some ⟨B.s, 0, none⟩), .pointer (some ⟨s1, 0, none⟩)] 118)) :
    MadePost ls w (.returned (.tuple #[.pointer (some ⟨B.s, 0, none⟩), .pointer (some ⟨wz.heap.size, 0, none⟩), .pointer (some ⟨s3, 0, none⟩)])) w' := by
  obtain ⟨n1, n2, n3⟩ := N.far
  obtain ⟨⟨⟨a1, a2⟩, ⟨b1, b2⟩, ⟨c1, c2⟩, ⟨d1, d2⟩, e1, e2⟩, ⟨⟨f1, f2⟩, ⟨g1, g2⟩, h1, h2⟩, hs⟩ := N
  have hz := M.aft.size
  have hbz : Below w.heap.size w wz := hb.trans (M.aft.below (fun c hc => by simp at hc; rcases hc with rfl | rfl <;> omega) hb.size)
  have hbw : Below wz.heap.size wz w' := by rw [hw']; exact (Below.refl _ _).alloc (Nat.le_refl _) _
  have hb' := hbz.trans (hbw.mono hbz.size)
  have hlist : ∀ l ∈ ks, (0 < l.n → ∀ a, l.A = some a → a.block < w.heap.size) ∧ (0 < l.m → ∀ a, l.D = some a → a.block < w.heap.size) := fun l hl => by
    obtain ⟨hL, _⟩ := M.each l hl
    refine ⟨fun hn a e => ?_, fun hn a e => ?_⟩
    · obtain ⟨b, off, e2, hlt, _⟩ := hL.fst.ns.2.2 hn
      rw [e2] at e
      injection e with e
      subst e
      exact hlt
    · obtain ⟨b, off, e2, hlt, _⟩ := hL.snd.ns.2.2 hn
      rw [e2] at e
      injection e with e
      subst e
      exact hlt
  have hBz : B.within 0 wz.heap.size := ⟨⟨by omega, by omega⟩, ⟨by omega, by omega⟩, ⟨by omega, by omega⟩, ⟨by omega, by omega⟩, by omega, by omega⟩
  have hRz : R.within 0 wz.heap.size := ⟨⟨by omega, by omega⟩, ⟨by omega, by omega⟩, by omega, by omega⟩
  have hvk : ∀ g, vk.ownBlock = some g → wt.heap.size ≤ g := fun g hg => (M.row.lt g hg).1
  refine ⟨⟨s1, wz.heap.size, s1, B, v, bk⟩, ⟨wt.heap.size, s3, R, vk, ks⟩, rfl, hks, ⟨⟨?_, M.book.below hbw, ?_, ⟨⟨by omega, a2⟩, ⟨by omega, b2⟩, ⟨by omega, c2⟩, ⟨by omega, d2⟩, by omega, e2⟩, (by show s1 ≤ wz.heap.size; omega), ?_⟩, ⟨?_, M.mbox.below hbw M.mbox.lt, ownsRow_below M.row hbw, fun l hl => ⟨?_, (M.each l hl).2⟩, fun l hl => ?_, ?_, ?_, ?_⟩, hb', fun g hg => ?_, fun g hg => ?_, ?_, ?_, fun l hl => ?_⟩⟩
  · refine (hst.blocks (w' := wz) fun k hk => M.aft.block k (by rcases hk with rfl | rfl | rfl | rfl | rfl <;> omega) (by simp; rcases hk with rfl | rfl | rfl | rfl | rfl <;> omega)).below hbw hBz
  · rw [hw']; exact Whole.fresh _ _ _
  · rw [M.same, hks]; rfl
  · refine (hrf.blocks (w' := wz) fun k hk => M.aft.block k (by rcases hk with rfl | rfl | rfl <;> omega) (by simp; rcases hk with rfl | rfl | rfl <;> omega)).below hbw hRz
  · exact Lists.mono (Lists.kept (M.each l hl).1 (Kept.of_below hb' (Nat.le_refl _))) (Nat.le_refl _) hb'.size
  · have hl' : l ∈ ks := hl
    rw [hks] at hl'
    exact (pick_mem hl').2
  · show ks.map LV.ld = _
    rw [hks]
    rfl
  · have := hbw.size
    exact ⟨⟨by omega, by show R.m < _; omega⟩, ⟨by omega, by show R.p < _; omega⟩, by omega, by show R.q < _; omega⟩
  · show ks.length ≤ 6
    rw [hks]
    exact pick_len 6 ls
  · have hg' : g ∈ [B.o, B.c, B.v] := hg
    have h9 : w.heap.size ≤ g ∧ g < s1 := by simp at hg'; omega
    refine ⟨h9.1, ⟨by show g ≠ s3; omega, n1 g hg', fun e => by have := hvk g e; omega, fun l hl => ⟨fun hn a e => ?_, fun hn a e => ?_⟩⟩⟩
    · have := (hlist l hl).1 hn a e; omega
    · have := (hlist l hl).2 hn a e; omega
  · have hg' : g ∈ [R.p, R.q] := hg
    have h9 : s1 + 1 ≤ g ∧ g < s3 := by simp at hg'; omega
    refine ⟨by omega, ⟨n2 g hg', by show g ≠ wz.heap.size; omega, by show g ≠ s1; omega, fun e => by have := M.vnew g e; omega, fun l hl => ⟨fun a e => ?_, fun a e => ?_⟩⟩⟩
    · have := (M.bnew l hl).1 a e; omega
    · have := (M.bnew l hl).2 a e; omega
  · show s3 ≠ R.p ∧ s3 ≠ R.q
    omega
  · exact ⟨fun e => by have := hvk _ e; show False; simp only [] at this; omega, fun e => by have := hvk _ e; show False; simp only [] at this; omega⟩
  · refine ⟨fun hn a e => ?_, fun hn a e => ?_⟩
    · have := (hlist l hl).1 hn a e
      show a.block ≠ R.p ∧ a.block ≠ R.q
      omega
    · have := (hlist l hl).2 hn a e
      show a.block ≠ R.p ∧ a.block ≠ R.q
      omega

/-- How far the layouts are added. -/
def LyAt (w wt : World) (s1 s3 : Nat) (R : RB) (ls : List LV) (t : Nat) (x : Value) (wr : World) : Prop :=
  ∃ (k : Nat) (v : Value) (bk : List LV) (vk : Value), k ≤ t ∧ x = .int .i64 k ∧ MB w wt wr s1 s1 s3 R v bk vk (pick k ls)
theorem LyAt.next {w wt wr : World} {s1 s3 : Nat} {R : RB} {ls : List LV} {t k : Nat} {v vk : Value} {bk : List LV} (hk : k < t) (h : MB w wt wr s1 s1 s3 R v bk vk (pick (k + 1) ls)) : LyAt w wt s1 s3 R ls t (.int .i64 ((k : Int) + 1)) wr :=
  ⟨k + 1, v, bk, vk, by omega, by rw [show ((k + 1 : Nat) : Int) = (k : Int) + 1 by omega], h⟩
set_option maxRecDepth 100000 in
set_option maxHeartbeats 4000000 in
theorem made_any (A : Option Addr) (n c : Nat) (ls : List LV) (w : World) (hl : LS w w.heap.size A n ls) (hf : ∀ l ∈ ls, l.n ≤ 1000000 ∧ l.m ≤ 1000000) (hc : n ≤ c) (hT : Tab w) :
    Calls Tryz.prog 7 #[.slice A n c] w (MadePost ls w) := by
  obtain ⟨i0, hi0, hz0, hz1, hz2⟩ := info_parts infoLay
  have CN : Calls Tryz.prog 19 #[.int .i64 6, .int .i64 8] w (SNewPost 6 8 w) := snew_ok 6 8 w (by decide) (by decide) (by decide) (by decide)
  have CR : ∀ W, Calls Tryz.prog 21 #[.int .i64 6, .int .i64 8] W (RNewPost 6 8 W) := fun W => rnew_ok 6 8 W (by decide) (by decide) (by decide) (by decide)
  have HN := Lib.hid CN
  have HR := Lib.hid CR
  have HL := Lib.hid hl
  have HF := Lib.hid hf
  have HT := Lib.hid hT
  clear CN CR hl hf hT
  go_enter Tryz.func7, Tryz.ntmps7
  go_wp2_with fail
  refine HN.out.mono ?_
  rintro e w1 ⟨B, rfl, hst1, hb1, hw1⟩
  go_wp2_with fail
  refine (newBook_any w1).mono ?_
  rintro e w2 ⟨rfl, rfl⟩
  go_wp2_with fail
  refine (HR.out _).mono ?_
  rintro e w3 ⟨R, rfl, hrf3, hb3, hw3⟩
  rw [World.size_alloc] at hw3
  obtain ⟨wm, hwm⟩ : ∃ wm, wm = w3.alloc (.cells #[.pointer (some ⟨R.m, 0, none⟩), .slice none 0 0] 47) := ⟨_, rfl⟩
  have hb3' : Below w1.heap.size w1 w3 := bl_alloc hb3
  have hs3 := hb3.size
  rw [World.size_alloc] at hs3
  have hbm : Below w3.heap.size w3 wm := by rw [hwm]; exact (Below.refl _ _).alloc (Nat.le_refl _) _
  have hb1m : Below w1.heap.size w1 wm := hb3'.trans (hbm.mono hb3'.size)
  have STm := hst1.below hb1m hw1
  have RFm := hrf3.below hbm hw3
  have XM : Whole wm w3.heap.size 47 #[.pointer (some ⟨R.m, 0, none⟩), .slice none 0 0] := by rw [hwm]; exact Whole.fresh _ _ _
  have XB : BookAt wm w1.heap.size w1.heap.size (.slice none 0 0) [] := ((book_new w1 w1.heap.size (Nat.le_refl _)).below hb3).below hbm
  have hsm : wm.heap.size = w3.heap.size + 1 := by rw [hwm]; simp
  have B0m : Below w.heap.size w wm := hb1.trans (hb1m.mono hb1.size)
  obtain ⟨s1, hs1⟩ : ∃ s1, s1 = w1.heap.size := ⟨_, rfl⟩
  obtain ⟨s3, hs3e⟩ : ∃ s3, s3 = w3.heap.size := ⟨_, rfl⟩
  rw [← hs1] at hw1 hw3 XB hs3 ⊢
  rw [← hs3e] at hw3 XM hsm hs3
  have TN : TkN w.heap.size s1 s3 B R := ⟨hw1, hw3, hs3⟩
  have HXM := Lib.hid XM
  have HXB := Lib.hid XB
  have HTN := Lib.hid TN
  have HB0m := Lib.hid B0m
  have HSM := Lib.hid hsm
  have HH := Lib.hid (And.intro STm RFm)
  have HWM := Lib.hid hwm
  clear hst1 hb1 hw1 hrf3 hb3 hw3 hb3' hbm hb1m STm RFm XM XB B0m TN hs1 hsm hs3 HN HR hwm
  have HS3 := Lib.hid hs3e
  clear hs3e
  go_wp2_with fail
  rw [← HWM.out, ← HS3.out]
  clear HWM HS3
  go_loopw [29] (TkAt wm B R) (fun v _ => (5 - (intOf v).toNat))
  case atStart => exact ⟨0, by omega, rfl, HH.out.1, HH.out.2, Aft.refl _ _⟩
  case round =>
    obtain ⟨j, hj, rfl, hst, hrf, ha⟩ := hrel
    obtain ⟨n1, n2, n3⟩ := HTN.out.far
    have hw0 : w.heap.size ≤ wm.heap.size := HB0m.out.size
    have hbel : Below w.heap.size w wr := HB0m.out.trans (ha.below (fun x hx => (n3 x hx).1) hw0)
    have Tr := HT.out.below hbel HT.out.pos
    have XMr := ha.whole HXM.out (fun hx => by have := (n3 _ hx).2.2; omega)
    by_cases hlt : j < 5
    · have C1 := take1_all hst Tr 1 (by unfold I64; omega)
      have C2 : ∀ w5, OnlyIn [B.o, B.c, B.v] wr w5 → Calls Tryz.prog 23 #[.pointer (some ⟨R.m, 0, none⟩), .int .i64 1, .int .i64 1] w5 (RfPost (.tuple #[.int .i64 (tkP (own5 j) 6 1 1 : Nat), .int .i64 (tkE (own5 j) 6 1 1)]) R 6 8 (tkOwnA (own5 j) 6 1 1) (tkWdA (own5 j) wd0 6 8 1 1) w5) := fun w5 ho => rtake_all (hrf.only ho n1) 1 1 (by unfold I64; omega) (by unfold I64; omega)
      have HXr := Lib.hid XMr
      have HC1 := Lib.hid C1
      have HC2 := Lib.hid C2
      have HA := Lib.hid ha
      clear C1 C2 hst hrf ha hbel Tr XMr hw0 n1 n2 n3
      go_wp2_with fail
      refine HC1.out.mono ?_
      rintro e w5 ⟨rfl, ho5, hs5⟩
      have X5 := (ho5.block s3 (fun hx => by have := (HTN.out.far.2.2 s3 (by simp at hx ⊢; omega)).2.2; omega)).trans HXr.out
      have m0 : w5.cell? ⟨s3, 0, none⟩ = some (.pointer (some ⟨R.m, 0, none⟩)) := Whole.cell X5 0
      have HC3 := Lib.hid (HC2.out w5 ho5)
      have HO5 := Lib.hid ho5
      have HS5 := Lib.hid hs5
      clear X5 ho5 hs5 HC2 HC1 HXr
      go_wp2_with fail
      refine HC3.out.mono ?_
      rintro e w6 ⟨rfl, wx, hbx, ho6, hr6⟩
      have HK := Lib.hid (tk_round HTN.out hlt (by rw [HSM.out]; omega) HA.out HO5.out HS5.out hbx ho6 hr6)
      clear hbx ho6 hr6 HC3 HO5 HS5 HA m0
      go_wp2_with fail
      go_roundw
      case rel => exact HK.out
      case measure => simp [intOf]; omega
    · obtain ⟨z, hz5⟩ : ∃ z : Int, z = (j : Int) := ⟨_, rfl⟩
      rw [← hz5]
      obtain rfl : z = 5 := by omega
      clear hz5
      obtain rfl : j = 5 := by omega
      have XBr : BookAt wr s1 s1 (.slice none 0 0) [] := HXB.out.keepx ha.size (ha.block s1 HXB.out.box.lt fun hx => (n3 _ hx).2.1 rfl) (fun g hg => by cases hg) (by simp)
      have hsw : s3 + 1 ≤ wr.heap.size := by have := ha.size; have := HSM.out; omega
      have M0 : MB w wr wr s1 s1 s3 R (.slice none 0 0) [] (.slice none 0 0) (pick 0 ls) := ⟨Aft.refl _ _, XBr, XMr, World.ownsRow_nil _ _ _ _, by simp [pick], (fun g hg => by cases hg), by simp, (fun g hg => by cases hg), by simp [pick]⟩
      have HM0 := Lib.hid M0
      have HE := Lib.hid (fun (v : Value) (vk : Value) (bk ks : List LV) (wz : World) (M : MB w wr wz s1 s1 s3 R v bk vk ks) (hks : ks = pick 6 ls) => made_end HTN.out hbel hsw hst hrf M hks)
      have HBT := Lib.hid hbel
      have hsn := HTN.out.s
      clear hst hrf ha XBr XMr M0 n1 n2 n3 Tr HH HXM HXB HB0m HSM hw0 hlt
      obtain ⟨t, ht⟩ : ∃ t, t = min n 6 := ⟨_, rfl⟩
      have ht6 : t ≤ 6 := by omega
      have htn : t ≤ n := by omega
      have HPK := Lib.hid (pick_min n ls HL.out.1)
      rw [← ht] at HPK
      have HTT := Lib.hid ht
      clear ht
      go_upto_region 11 with fail
      go_cut [43, 44, 45] (fun s43 s44 s45 wx => s43 = .slice A t c ∧ s44 = .int .i64 t ∧ s45 = .int .i64 0 ∧ wr = wx)
      case first =>
        have hmin : min (n : Int) 6 = (t : Int) := by have := HTT.out; omega
        have htc : t ≤ c := by omega
        go_wp2_with fail
        all_goals go_meet
        all_goals have h9 := HTT.out
        · obtain rfl : t = 6 := by omega
          exact ⟨rfl, congrArg _ (by decide), rfl, rfl⟩
        · obtain rfl : t = n := by omega
          exact ⟨rfl, rfl, rfl, rfl⟩
      case rest =>
        obtain ⟨rfl, rfl, rfl, rfl⟩ := hcut
        go_wp2_with fail
        go_loopw [45] (LyAt w wr s1 s3 R ls t) (fun v _ => (t - (intOf v).toNat))
        case atStart => exact ⟨0, _, _, _, Nat.zero_le _, rfl, HM0.out⟩
        case round =>
          rename World => wy
          obtain ⟨k, v, bk, vk, hk, rfl, hM⟩ := hrel
          have hz := hM.aft.size
          have hby : Below w.heap.size w wy := HBT.out.trans (hM.aft.below (fun c hc => by have := HTN.out.b.1; simp at hc; rcases hc with rfl | rfl <;> omega) HBT.out.size)
          by_cases hlt : k < t
          · obtain ⟨ba, oa, l, rfl, hba, hkl, hmem, e0, e1, e2, e3⟩ := HL.out.at2 (show k < n by omega)
            obtain ⟨hll, hlF, hlR⟩ := HL.out.2.2 l hmem
            have hfit : l.fits := ⟨hlF, hlR, (HF.out l hmem).1, (HF.out l hmem).2⟩
            have c0 := (hby.cell (p := ⟨ba, oa + k * 4, none⟩) hba).trans e0
            have c1 := (hby.cell (p := ⟨ba, oa + k * 4 + 1, none⟩) hba).trans e1
            have c2 := (hby.cell (p := ⟨ba, oa + k * 4 + 2, none⟩) hba).trans e2
            have c3 := (hby.cell (p := ⟨ba, oa + k * 4 + 3, none⟩) hba).trans e3
            have hbawr : ba < wy.heap.size := by have := hby.size; omega
            obtain ⟨w8, hw8⟩ : ∃ w8, w8 = wy.alloc (.cells #[.int .i64 l.F, .slice l.A l.n l.c, .int .i64 l.R, .slice l.D l.m l.d] 70) := ⟨_, rfl⟩
            have hb8 : Below wy.heap.size wy w8 := by rw [hw8]; exact (Below.refl _ _).alloc (Nat.le_refl _) _
            have hB8 := hby.trans (hb8.mono hby.size)
            have hl8 : l.lists w8 0 w.heap.size := Lists.kept hll (Kept.of_below hB8 (Nat.le_refl _))
            have CR := refRight_any l.F l.R l.A l.n l.c l.xs l.D l.m l.d l.ys w.heap.size w8 hB8.size hfit.hn hfit.hm hfit.hF hfit.hR hl8.fst.ns hl8.snd.ns
            have X8 : Whole w8 wy.heap.size 70 #[.int .i64 l.F, .slice l.A l.n l.c, .int .i64 l.R, .slice l.D l.m l.d] := by rw [hw8]; exact Whole.fresh _ _ _
            have HB8 := Lib.hid hb8
            have HBY := Lib.hid hby
            have HLL := Lib.hid hll
            have HFI := Lib.hid hfit
            have HX8 := Lib.hid X8
            have HKL := Lib.hid hkl
            have HM := Lib.hid hM
            have HVL := Lib.hid (fun g e => (hM.book.row.lt g e).2)
            have HVM := Lib.hid hM.mbox.lt
            have hrs := row_shape hM.row
            have HW8 := Lib.hid hw8
            clear e0 e1 e2 e3 hmem hll hlF hlR hfit hb8 hB8 hl8 X8 hkl hM hby hw8
            cases hr : l.right
            · have HPN := Lib.hid (pick_no HKL.out hr)
              have hr' : LM.right l.F l.R l.xs l.ys = false := hr
              rw [hr'] at CR
              rw [HW8.out] at CR
              have HCR := Lib.hid CR
              clear CR hr hr'
              go_wp2_with fail
              refine HCR.out.mono ?_
              rw [← HW8.out]
              rintro e w9 ⟨rfl, rfl⟩
              have HM9 := Lib.hid ((HM.out.later HB8.out).later ((Below.refl _ _).alloc (Nat.le_refl _) (.cells #[.int .i64 l.F, .slice l.A l.n l.c, .int .i64 l.R, .slice l.D l.m l.d] 70)))
              clear c0 c1 c2 c3
              go_wp2_with fail
              go_roundw
              case rel => exact LyAt.next hlt (by rw [HPN.out]; exact HM9.out)
              case measure => simp [intOf]; omega
            · have HPY := Lib.hid (pick_yes HKL.out hr)
              have hr' : LM.right l.F l.R l.xs l.ys = true := hr
              rw [hr'] at CR
              rw [HW8.out] at CR
              have HCR := Lib.hid CR
              have HRT := Lib.hid hr
              clear CR hr hr'
              go_wp2_with fail
              refine HCR.out.mono ?_
              rw [← HW8.out]
              rintro e w9 ⟨rfl, rfl⟩
              obtain ⟨w9, hw9⟩ : ∃ w9, w9 = w8.alloc (.cells #[.int .i64 l.F, .slice l.A l.n l.c, .int .i64 l.R, .slice l.D l.m l.d] 70) := ⟨_, rfl⟩
              have hb9 : Below w8.heap.size w8 w9 := by rw [hw9]; exact (Below.refl _ _).alloc (Nat.le_refl _) _
              rw [← hw9]
              clear hw9
              have hM9 := (HM.out.later HB8.out).later hb9
              have hX9 := HX8.out.below hb9 HX8.out.lt
              have hB9 := HBY.out.trans ((HB8.out.trans (hb9.mono HB8.out.size)).mono HBY.out.size)
              have hpl := pick_len k ls
              have CA := bookAdd_far hM9.book (by have h1 := congrArg List.length hM9.same; simp at h1; omega) (Lists.kept HLL.out (Kept.of_below hB9 (Nat.le_refl _))) HFI.out hB9.size HRT.out
              obtain ⟨d0, d1, d2, d3⟩ := hX9.cells4
              have HCA := Lib.hid CA
              have HM9 := Lib.hid hM9
              have HX9 := Lib.hid hX9
              have HB9 := Lib.hid hB9
              have HS9 := Lib.hid (Nat.le_trans HB8.out.size hb9.size)
              clear c0 c1 c2 c3 CA hM9 hX9 hB9 hb9 HCR HM HX8 HB8 HBY HW8
              go_wp2_with fail
              refine HCA.out.mono ?_
              rintro e w10 ⟨v', k', rfl, hsame, hbk, hbut, hwh, hA, hD⟩
              have hnb : s1 < s3 := by omega
              obtain ⟨m1, m2, m3, m4, m5, m6⟩ := MB.added HM9.out (by omega) (by omega) (by omega) hbk hbut hwh hA hD
              have hX10 : Whole w10 wy.heap.size 70 #[.int .i64 l.F, .slice l.A l.n l.c, .int .i64 l.R, .slice l.D l.m l.d] := (hbut.block _ HX9.out.lt (by omega) (fun e => by have h1 := HVL.out _ e; omega)).trans HX9.out
              obtain ⟨x0, x1, x2, x3⟩ := hX10.cells4
              obtain ⟨Ak, ck, rfl⟩ := hrs
              obtain ⟨N, hN⟩ : ∃ N, N = (pick k ls).length := ⟨_, rfl⟩
              have HNN := Lib.hid hN
              have hxl := hX10.lt
              have hml := m2.lt
              have mm1 : w10.cell? ⟨s3, 1, none⟩ = some (.slice Ak N ck) := by rw [hN]; exact m2.cell 1
              have mm1a := fun ob => (cell_al (o := ob) hml).trans mm1
              have d0a := fun ob => (cell_al (o := ob) hxl).trans x0
              have d1a := fun ob => (cell_al (o := ob) hxl).trans x1
              have d2a := fun ob => (cell_al (o := ob) hxl).trans x2
              have d3a := fun ob => (cell_al (o := ob) hxl).trans x3
              rw [← hN] at hpl
              rw [← hN] at m2 m3 m6
              have hwt10 : wr.heap.size ≤ w10.heap.size := m1.size
              have HM10 := Lib.hid (And.intro m1 (And.intro m2 (And.intro m3 (And.intro m4 (And.intro m5 m6)))))
              have HBK := Lib.hid hbk
              have HSA := Lib.hid hsame
              clear m1 m2 m3 m4 m5 m6 hbk hsame hbut hwh hA hD hN hX10 HX9 HCA
              clear d0 d1 d2 d3
              go_upto_region 18 with fail
              go_region_law (first
                | (refine step_append_lies _ rfl (.tmp 64) (.tmp 66) 22 rfl wr.heap.size 70 i0 _ 4 64 Tryz.underlying22 hi0 hz0 hz1 hz2 rfl (by decide) (.slice Ak N ck) N (flatV (pick k ls)) (by simp [Act.eval]) (own_dr ((show w10.ownsRow wr.heap.size 70 4 (.slice Ak N ck) N (flatV (pick k ls)) from HM10.out.2.2.1).alloc _)) ⟨w10.heap.size, 0, none⟩ 1 1 [.int .i64 l.F, .slice l.A l.n l.c, .int .i64 l.R, .slice l.D l.m l.d] (by simp [Act.eval]) rfl (World.news_of_block (heap_new_dr w10 _)) (by simp [Value.oneCell']) (by decide) (by unfold maxLen; omega) (by omega) (by simp; omega) (w10.heap.size + 1) (by simp) ?_; intro g cap w11 hown hgr hat hlt11; obtain ⟨q0, q1, q2, HMK⟩ := MB.kept HNN.out (by omega) (by omega) (by omega) HM10.out.1 HBK.out HM10.out.2.1 HM10.out.2.2.1 HM9.out.each HM10.out.2.2.2.1 HM10.out.2.2.2.2.1 HM10.out.2.2.2.2.2 HM9.out.same HSA.out HLL.out HFI.out hown ⟨hgr.os, hgr.tape, hgr.output, hgr.size, hgr.block⟩ hat; have HMK := Lib.hid HMK; clear hown hgr hat))
              all_goals
                go_wp2_with fail
                go_roundw
                case rel => exact LyAt.next hlt (by rw [HPY.out]; exact HMK.out)
                case measure => simp [intOf]; omega
          · obtain rfl : k = t := by omega
            have HM := Lib.hid hM
            clear hM hby hz
            go_wp2_with fail
            refine (inew_any B.s s1 wy).mono ?_
            rintro e w12 ⟨rfl, rfl⟩
            go_wp2_with fail
            refine bodyPost_ret (v := .tuple #[.pointer (some ⟨B.s, 0, none⟩), .pointer (some ⟨wy.heap.size, 0, none⟩), .pointer (some ⟨s3, 0, none⟩)]) (by simp [results, Tryz.results7, go_sem]) rfl ?_
            exact HE.out v vk bk _ wy HM.out HPK.out _ rfl
end Go.Proofs.YteneadimchhhhaaGreatDoor
