/- Words for the document's list: its box, its two rows; what its calls leave. -/
import Derived.Test.YtomjaieplpjcpaaGyAlive
namespace Go.Proofs.Ytomjaieplpjcpaa
open Go.RowKit Go.Lib Go.Sort Go.Maps
set_option linter.unusedVariables false

/-- Blocks that a document's list may be of. -/
def His (w : World) (k : Nat) : Prop := (∃ cs, Whole w k 38 cs) ∨ ∃ cs, Whole w k 3 cs
/-- All that was there but what a document's list, made behind block base, may be of is as it was; block q too. -/
structure Dx (base : Nat) (q : Option Nat) (w w' : World) : Prop where
  os : w'.os = w.os
  tape : w'.tape = w.tape
  output : w'.output = w.output
  size : w.heap.size ≤ w'.heap.size
  block : ∀ k, k < w.heap.size → (k < base ∨ ¬ His w k ∨ some k = q) → w'.heap[k]? = w.heap[k]?
/-- A document's list: its box r, its rows u (what waits) and v (what is done), apart, and none of them block q. -/
structure DlAt (w : World) (base r : Nat) (q : Option Nat) (u v : Value) (s : GY.S) : Prop where
  box : Whole w r 38 #[u, v]
  lo : base ≤ r
  wt : NewZ base w u s.W
  dn : NewZ base w v s.D
  uv : u.ownBlock = none ∨ u.ownBlock ≠ v.ownBlock
  uq : ∀ g, u.ownBlock = some g → some g ≠ q
  vq : ∀ g, v.ownBlock = some g → some g ≠ q
  rq : some r ≠ q
  ql : ∀ g, q = some g → g < w.heap.size
def Dl (w : World) (base r : Nat) (q : Option Nat) (s : GY.S) : Prop := ∃ u v, DlAt w base r q u v s
section
variable {w w' w1 a b d : World} {base lo r k : Nat} {q q' : Option Nat} {u v u' v' : Value} {s : GY.S} {x : Int} {W D : List Int} {t : TypeId} {cs ds : Array Value}
theorem His.lt (h : His w k) : k < w.heap.size := by
  rcases h with ⟨_, h⟩ | ⟨_, h⟩
  · exact h.lt
  · exact h.lt
theorem His.keep (h : His w k) (e : w'.heap[k]? = w.heap[k]?) : His w' k := by
  rcases h with ⟨cs, h⟩ | ⟨cs, h⟩
  · exact .inl ⟨cs, e.trans h⟩
  · exact .inr ⟨cs, e.trans h⟩
theorem His.notmine (h : His w k) : ¬ Mine w k := by
  rcases h with ⟨cs, h⟩ | ⟨cs, h⟩
  · exact whole_notmine h (by decide) (by decide)
  · exact whole_notmine h (by decide) (by decide)
theorem whole_nothis (h : Whole w r t cs) (h1 : t ≠ 38) (h2 : t ≠ 3) : ¬ His w r := by
  rintro (⟨es, k⟩ | ⟨es, k⟩)
  · exact h1 (whole_inj h k rfl).1
  · exact h2 (whole_inj h k rfl).1
theorem row_ne {g : Nat} (h1 : Whole w g 3 cs) (h2 : Whole w r 38 ds) : g ≠ r := fun e => by
  have := (whole_inj h1 h2 e).1
  revert this
  decide
theorem NewZ.his {l : List Int} (h : NewZ base w v l) : ∀ g, v.ownBlock = some g → base ≤ g ∧ g < w.heap.size ∧ ∃ cs, Whole w g 3 cs := fun g hv => by
  refine ⟨(h.own.lt g hv).1, (h.own.lt g hv).2, ?_⟩
  rcases h.2 with ⟨rfl, _⟩ | ⟨g', cap, cur, rfl, _, hh, _⟩
  · simp [Value.ownBlock] at hv
  · simp [Value.ownBlock] at hv
    subst hv
    exact ⟨_, hh⟩
theorem Dx.refl (base : Nat) (q : Option Nat) (w : World) : Dx base q w w := ⟨rfl, rfl, rfl, Nat.le_refl _, fun _ _ _ => rfl⟩
theorem Dx.trans (h : Dx base q a b) (k : Dx base q b d) : Dx base q a d :=
  ⟨k.os.trans h.os, k.tape.trans h.tape, k.output.trans h.output, Nat.le_trans h.size k.size, fun i hi hm => by
    have e := h.block i hi hm
    refine (k.block i (Nat.lt_of_lt_of_le hi h.size) ?_).trans e
    rcases hm with hm | hm | hm
    · exact .inl hm
    · exact .inr (.inl fun hb => hm (hb.keep e.symm))
    · exact .inr (.inr hm)⟩
theorem Dx.of_below (h : Below w.heap.size w w') : Dx base q w w' := ⟨h.os, h.tape, h.output, h.size, fun k hk _ => h.block k hk⟩
theorem Dx.drewN (h : Dx base q w w') (n : Nat) : Dx base q w (w'.drewN n) := ⟨h.os, h.tape, h.output, h.size, h.block⟩
theorem Dx.below (h : Dx base q w w') (hb : base ≤ w.heap.size) (hl : lo ≤ base) : Below lo w w' := ⟨h.os, h.tape, h.output, h.size, fun k hk => h.block k (by omega) (.inl (by omega))⟩
theorem Dx.set (hb : Whole w r 38 cs) (hl : base ≤ r) (hq : some r ≠ q) (j : Nat) (x : Value) : Dx base q w (w.setCell ⟨r, j, none⟩ x) :=
  ⟨rfl, rfl, rfl, by simp [World.setCell], fun k hk hm => Below.heap_setCell _ _ _ _ fun e => by
    have e : k = r := e
    subst e
    rcases hm with hm | hm | hm
    · omega
    · exact hm (.inl ⟨_, hb⟩)
    · exact hq hm⟩
theorem Dx.grown {l : List Int} (hv : NewZ base w v l) (hq : ∀ g, v.ownBlock = some g → some g ≠ q) (k : w.grownBy w' v.ownBlock) : Dx base q w w' :=
  ⟨k.os, k.tape, k.output, k.size, fun g hg hm => k.block g hg fun e => by
    obtain ⟨h1, _, h2⟩ := hv.his g e.symm
    rcases hm with hm | hm | hm
    · omega
    · exact hm (.inr h2)
    · exact hq g e.symm hm⟩
theorem Dx.whole (h : Dx base q a b) (k : Whole a r t cs) (h1 : t ≠ 38) (h2 : t ≠ 3) : Whole b r t cs := (h.block r k.lt (.inr (.inl (whole_nothis k h1 h2)))).trans k
/-- A row that is block q, or nil, stays. -/
theorem NewZ.dx {l : List Int} (h : NewZ lo w v l) (hq : v.ownBlock = q) (k : Dx base q w w') : NewZ lo w' v l := h.keep fun g hv _ ⟨_, hg⟩ => k.block g hg.lt (.inr (.inr (by rw [← hv]; exact hq)))
theorem Gl.dx {w0 : World} {b : Nat} (h : Gl w0 w b s) (k : Dx w0.heap.size q w w') : Gl w0 w' b s :=
  ⟨h.gy.keep fun g hg _ => k.block g hg.lt (.inr (.inl fun hh => hh.notmine hg)), h.bel.trans (k.below h.bel.size (Nat.le_refl _))⟩

theorem DlAt.keep (h : DlAt w base r q u v s) (hs : w.heap.size ≤ w'.heap.size) (k : ∀ g, His w g → base ≤ g → some g ≠ q → w'.heap[g]? = w.heap[g]?) : DlAt w' base r q u v s :=
  ⟨(k r (.inl ⟨_, h.box⟩) h.lo h.rq).trans h.box, h.lo, h.wt.keep fun g hg hb hh => k g (.inr hh) hb (h.uq g hg), h.dn.keep fun g hg hb hh => k g (.inr hh) hb (h.vq g hg), h.uv, h.uq, h.vq, h.rq, fun g hg => Nat.lt_of_lt_of_le (h.ql g hg) hs⟩
theorem DlAt.below (h : DlAt w base r q u v s) (k : Below w.heap.size w w') : DlAt w' base r q u v s := h.keep k.size fun g hg _ _ => k.block g hg.lt
theorem DlAt.c0 (h : DlAt w base r q u v s) : w.cell? ⟨r, 0, none⟩ = some u := by rw [h.box.cell]; rfl
theorem DlAt.c1 (h : DlAt w base r q u v s) : w.cell? ⟨r, 1, none⟩ = some v := by rw [h.box.cell]; rfl
theorem Dl.keep (h : Dl w base r q s) (hs : w.heap.size ≤ w'.heap.size) (k : ∀ g, His w g → base ≤ g → some g ≠ q → w'.heap[g]? = w.heap[g]?) : Dl w' base r q s := by
  obtain ⟨u, v, h⟩ := h
  exact ⟨u, v, h.keep hs k⟩
theorem Dl.below (h : Dl w base r q s) (k : Below w.heap.size w w') : Dl w' base r q s := h.keep k.size fun g hg _ _ => k.block g hg.lt
theorem Dl.gt (h : Dl w base r q s) (k : Gt lo w w') : Dl w' base r q s := h.keep k.size fun g hg _ _ => k.block g hg.lt (.inr hg.notmine)
theorem Dl.drewN (h : Dl w base r q s) (n : Nat) : Dl (w.drewN n) base r q s := h.keep (Nat.le_refl _) fun _ _ _ _ => rfl
theorem Dl.alloc (h : Dl w base r q s) (o : Obj) : Dl (w.alloc o) base r q s := h.below ((Below.refl _ w).alloc (Nat.le_refl _) o)
/-- The row q has grown. -/
theorem Dl.grown (h : Dl w base r q s) (k : w.grownBy w' q) (hq : q' = q ∨ ∃ g, q' = some g ∧ w.heap.size ≤ g ∧ g < w'.heap.size) : Dl w' base r q' s := by
  obtain ⟨u, v, h⟩ := h
  have h1 := h.keep k.size fun g hg _ hne => k.block g hg.lt hne
  rcases hq with rfl | ⟨g, rfl, hg, hg2⟩
  · exact ⟨u, v, h1⟩
  · have hr := h.box.lt
    exact ⟨u, v, h1.box, h1.lo, h1.wt, h1.dn, h1.uv, fun j hj e => by have := (h.wt.his j hj).2.1; injection e with e; omega, fun j hj e => by have := (h.dn.his j hj).2.1; injection e with e; omega, fun e => by injection e with e; omega, fun j e => by injection e with e; omega⟩
theorem dl_set0 (hb : Whole w r 38 #[u, v]) (hl : base ≤ r) (hu : NewZ base w u' W) (hv : NewZ base w v D) (huv : u'.ownBlock = none ∨ u'.ownBlock ≠ v.ownBlock) (huq : ∀ g, u'.ownBlock = some g → some g ≠ q) (hvq : ∀ g, v.ownBlock = some g → some g ≠ q) (hrq : some r ≠ q) (hql : ∀ g, q = some g → g < w.heap.size) :
    DlAt (w.setCell ⟨r, 0, none⟩ u') base r q u' v ⟨W, D⟩ :=
  ⟨hb.set 0 u', hl, hu.keep fun g _ _ ⟨_, hh⟩ => Below.heap_setCell _ _ _ _ (row_ne hh hb), hv.keep fun g _ _ ⟨_, hh⟩ => Below.heap_setCell _ _ _ _ (row_ne hh hb), huv, huq, hvq, hrq, fun g hg => by simpa [World.setCell] using hql g hg⟩
theorem dl_set1 (hb : Whole w r 38 #[u, v]) (hl : base ≤ r) (hu : NewZ base w u W) (hv : NewZ base w v' D) (huv : u.ownBlock = none ∨ u.ownBlock ≠ v'.ownBlock) (huq : ∀ g, u.ownBlock = some g → some g ≠ q) (hvq : ∀ g, v'.ownBlock = some g → some g ≠ q) (hrq : some r ≠ q) (hql : ∀ g, q = some g → g < w.heap.size) :
    DlAt (w.setCell ⟨r, 1, none⟩ v') base r q u v' ⟨W, D⟩ :=
  ⟨hb.set 1 v', hl, hu.keep fun g _ _ ⟨_, hh⟩ => Below.heap_setCell _ _ _ _ (row_ne hh hb), hv.keep fun g _ _ ⟨_, hh⟩ => Below.heap_setCell _ _ _ _ (row_ne hh hb), huv, huq, hvq, hrq, fun g hg => by simpa [World.setCell] using hql g hg⟩
/-- What a call leaves that turns a document's list. -/
def DlE (base r : Nat) (q : Option Nat) (s : GY.S) (v : Value) (w : World) (e : Ending) (w' : World) : Prop := e = .returned v ∧ Dl w' base r q s ∧ Dx base q w w'
/-- A row anew, hung in place of what waits. -/
theorem DlAt.new0 (h : DlAt w base r q u v s) (k : Below w.heap.size w w1) (hu : NewZ w.heap.size w1 u' W) :
    w1.cell? ⟨r, 0, none⟩ = some u ∧ w1.frozen? ⟨r, 0, none⟩ = false ∧ DlAt (w1.setCell ⟨r, 0, none⟩ u') base r q u' v ⟨W, s.D⟩ ∧ Dx base q w (w1.setCell ⟨r, 0, none⟩ u') := by
  have h1 := h.below k
  have hs : base ≤ w.heap.size := Nat.le_trans h.lo (Nat.le_of_lt h.box.lt)
  refine ⟨h1.c0, h1.box.free _, dl_set0 h1.box h1.lo (hu.less hs) h1.dn ?_ (fun g hg e => ?_) h1.vq h1.rq h1.ql, (Dx.of_below k).trans (Dx.set h1.box h1.lo h1.rq 0 u')⟩
  · cases hb : u'.ownBlock with
    | none => exact .inl rfl
    | some g =>
      refine .inr fun e => ?_
      have a1 := (hu.his g hb).1
      have a2 := (h.dn.his g e.symm).2.1
      omega
  · have a1 := (hu.his g hg).1
    have a2 := h.ql g e.symm
    omega
theorem DlAt.new1 (h : DlAt w base r q u v s) (k : Below w.heap.size w w1) (hv : NewZ w.heap.size w1 v' D) :
    w1.cell? ⟨r, 1, none⟩ = some v ∧ w1.frozen? ⟨r, 1, none⟩ = false ∧ DlAt (w1.setCell ⟨r, 1, none⟩ v') base r q u v' ⟨s.W, D⟩ ∧ Dx base q w (w1.setCell ⟨r, 1, none⟩ v') := by
  have h1 := h.below k
  have hs : base ≤ w.heap.size := Nat.le_trans h.lo (Nat.le_of_lt h.box.lt)
  refine ⟨h1.c1, h1.box.free _, dl_set1 h1.box h1.lo h1.wt (hv.less hs) ?_ h1.uq (fun g hg e => ?_) h1.rq h1.ql, (Dx.of_below k).trans (Dx.set h1.box h1.lo h1.rq 1 v')⟩
  · cases hb : v'.ownBlock with
    | none => cases hc : u.ownBlock with
      | none => exact .inl rfl
      | some g => exact .inr (by simp)
    | some g =>
      refine .inr fun e => ?_
      have a1 := (hv.his g hb).1
      have a2 := (h.wt.his g e).2.1
      omega
  · have a1 := (hv.his g hg).1
    have a2 := h.ql g e.symm
    omega
/-- One more waits. -/
theorem DlAt.push0 (h : DlAt w base r q u v s) (ho : w1.ownsRow base 3 1 u' (s.W.length + 1) (s.W.map (Value.int .i64) ++ [.int .i64 x])) (hg : (w.alloc (.cells #[.int .i64 x] 3)).grownBy w1 u.ownBlock)
    (hat : u'.ownBlock = u.ownBlock ∨ u'.ownBlock = some (w.heap.size + 1)) :
    w1.cell? ⟨r, 0, none⟩ = some u ∧ w1.frozen? ⟨r, 0, none⟩ = false ∧ Hid (Dl (w1.setCell ⟨r, 0, none⟩ u') base r q ⟨s.W ++ [x], s.D⟩ ∧ Dx base q w (w1.setCell ⟨r, 0, none⟩ u')) := by
  have ka := (Below.refl _ w).alloc (Nat.le_refl _) (.cells #[.int .i64 x] 3)
  have h0 := h.below ka
  have hb1 : Whole w1 r 38 #[u, v] := (hg.block r h0.box.lt fun e => by obtain ⟨_, _, _, hh⟩ := h0.wt.his r e.symm; exact row_ne hh h0.box rfl).trans h0.box
  have hd1 : NewZ base w1 v s.D := h0.dn.grown hg (by
    rcases h0.uv with e | e
    · rw [e]
      cases hc : v.ownBlock with
      | none => exact .inl rfl
      | some g => exact .inr (by simp)
    · exact .inr (Ne.symm e))
  have hx : Dx base q w w1 := (Dx.of_below ka).trans (Dx.grown h0.wt h0.uq hg)
  refine ⟨by rw [hb1.cell]; rfl, hb1.free _, Lib.hid ⟨⟨u', v, dl_set0 hb1 h.lo (NewZ.snoc ho) hd1 ?_ (fun g hgg e => ?_) h.vq h.rq (fun g e => Nat.lt_of_lt_of_le (h.ql g e) hx.size)⟩, hx.trans (Dx.set hb1 h.lo h.rq 0 u')⟩⟩
  · rcases hat with e | e
    · rw [e]; exact h.uv
    · rw [e]
      exact .inr fun k => by have := (h.dn.his _ k.symm).2.1; omega
  · rcases hat with k | k
    · rw [k] at hgg
      exact h.uq g hgg e
    · rw [k] at hgg
      injection hgg with hgg
      have := h.ql g e.symm
      omega
/-- One more is done. -/
theorem DlAt.push1 (h : DlAt w base r q u v s) (ho : w1.ownsRow base 3 1 v' (s.D.length + 1) (s.D.map (Value.int .i64) ++ [.int .i64 x])) (hg : (w.alloc (.cells #[.int .i64 x] 3)).grownBy w1 v.ownBlock)
    (hat : v'.ownBlock = v.ownBlock ∨ v'.ownBlock = some (w.heap.size + 1)) :
    w1.cell? ⟨r, 1, none⟩ = some v ∧ w1.frozen? ⟨r, 1, none⟩ = false ∧ Hid (Dl (w1.setCell ⟨r, 1, none⟩ v') base r q ⟨s.W, s.D ++ [x]⟩ ∧ Dx base q w (w1.setCell ⟨r, 1, none⟩ v')) := by
  have ka := (Below.refl _ w).alloc (Nat.le_refl _) (.cells #[.int .i64 x] 3)
  have h0 := h.below ka
  have hb1 : Whole w1 r 38 #[u, v] := (hg.block r h0.box.lt fun e => by obtain ⟨_, _, _, hh⟩ := h0.dn.his r e.symm; exact row_ne hh h0.box rfl).trans h0.box
  have hw1 : NewZ base w1 u s.W := h0.wt.grown hg h0.uv
  have hx : Dx base q w w1 := (Dx.of_below ka).trans (Dx.grown h0.dn h0.vq hg)
  refine ⟨by rw [hb1.cell]; rfl, hb1.free _, Lib.hid ⟨⟨u, v', dl_set1 hb1 h.lo hw1 (NewZ.snoc ho) ?_ h.uq (fun g hgg e => ?_) h.rq (fun g e => Nat.lt_of_lt_of_le (h.ql g e) hx.size)⟩, hx.trans (Dx.set hb1 h.lo h.rq 1 v')⟩⟩
  · rcases hat with e | e
    · rw [e]; exact h.uv
    · rw [e]
      cases hc : u.ownBlock with
      | none => exact .inl rfl
      | some g => exact .inr fun k => by injection k with k; have := (h.wt.his _ hc).2.1; omega
  · rcases hat with k | k
    · rw [k] at hgg
      exact h.vq g hgg e
    · rw [k] at hgg
      injection hgg with hgg
      have := h.ql g e.symm
      omega
end
end Go.Proofs.Ytomjaieplpjcpaa
