/- What a range over images' Links keeps, and what it is told. -/
import Derived.Test.YteneadimchhhhaaGreatDoorMgImObj
import Derived.Test.YteneadimchhhhaaGreatDoorImLk0
import Derived.Test.YteneadimchhhhaaGreatDoorLyIterS
import Derived.Test.YteneadimchhhhaaGreatDoorAdCalm
namespace Go.Proofs.YteneadimchhhhaaGreatDoor
open Go.RowKit Go.Shelf

/-- All that images need lies below a block. -/
structure IB.under (I : IB) (n : Nat) : Prop where
  st : I.B.within 0 n
  p : I.p < n
  b : I.b < n
  v : ∀ g, I.v.ownBlock = some g → g < n
  i : ∀ l ∈ I.ls, (∀ a, l.A = some a → a.block < n) ∧ ∀ a, l.D = some a → a.block < n
section
variable {w w' : World} {I : IB} {q : Cf} {wd : Nat → Nat} {n : Nat}
theorem ImAt.under (h : ImAt w I q wd) : I.under w.heap.size :=
  ⟨h.low.up (Nat.le_of_lt h.lolt), h.box.lt, h.bk.box.lt, fun g hg => (h.bk.row.lt g hg).2, fun l hl => ⟨fun a e => by
    obtain ⟨cs, fz, hh⟩ := (h.bk.each l hl).tA a e
    exact (Array.getElem?_eq_some_iff.1 hh).1, fun a e => by
    obtain ⟨cs, fz, hh⟩ := (h.bk.each l hl).tD a e
    exact (Array.getElem?_eq_some_iff.1 hh).1⟩⟩
theorem IB.under.up {m : Nat} (h : I.under n) (hm : n ≤ m) : I.under m :=
  ⟨h.st.up hm, Nat.lt_of_lt_of_le h.p hm, Nat.lt_of_lt_of_le h.b hm, fun g hg => Nat.lt_of_lt_of_le (h.v g hg) hm, fun l hl => ⟨fun a e => Nat.lt_of_lt_of_le ((h.i l hl).1 a e) hm, fun a e => Nat.lt_of_lt_of_le ((h.i l hl).2 a e) hm⟩⟩
theorem ImAt.on (h : ImAt w I q wd) (hu : I.under n) (hb : Below n w w') : ImAt w' I q wd := by
  obtain ⟨⟨a1, a2⟩, ⟨b1, b2⟩, ⟨c1, c2⟩, ⟨d1, d2⟩, e1, e2⟩ := hu.st
  exact ⟨h.st.blocks fun k hk => hb.block k (by rcases hk with rfl | rfl | rfl | rfl | rfl <;> omega), h.bk.keepx hb.size (hb.block _ hu.b) (fun g hg => hb.block g (hu.v g hg)) fun l hl => ⟨fun a e => hb.block _ ((hu.i l hl).1 a e), fun a e => hb.block _ ((hu.i l hl).2 a e)⟩,
    (hb.block _ hu.p).trans h.box, h.low, h.plo, h.lays⟩
end
/-- The places of an object that are references, as layout.Slots tells them. -/
def IM.refs (q : Cf) (wd : Nat → Nat) (a : Int) : List Int := if IM.atE q wd a = 0 then (match IM.lay q.D (IM.atL q wd a) with
  | none => []
  | some l => LM.slots l.F l.R l.xs l.ys (IM.atC q wd a).toNat) else []
/-- One of them, with what Follow tells of it. -/
def lkAt (q : Cf) (wd : Nat → Nat) (a p : Int) : LkE := ⟨p, IM.flK q wd a p, IM.flI q wd a p, IM.flG q wd a p⟩
def allLk (q : Cf) (wd : Nat → Nat) (a : Int) : List LkE := (IM.refs q wd a).map (lkAt q wd a)
theorem refs_ok {q : Cf} {wd : Nat → Nat} {a : Int} {l : LD} (h : IM.atE q wd a = 0) (hl : IM.lay q.D (IM.atL q wd a) = some l) : IM.refs q wd a = LM.slots l.F l.R l.xs l.ys (IM.atC q wd a).toNat := by
  unfold IM.refs
  rw [if_pos h, hl]
theorem refs_no {q : Cf} {wd : Nat → Nat} {a : Int} (h : IM.atE q wd a ≠ 0) : IM.refs q wd a = [] := by
  unfold IM.refs
  rw [if_neg h]
/-- What a round keeps: all below n₀, the two boxes that the iterator has captured, and all that was laid since the loop began. -/
structure Kl (n₀ n₁ b1 b2 : Nat) (v1 v2 : Value) (W W' : World) : Prop where
  bel : Below n₀ W W'
  x1 : Boxed W b1 27 v1 → Boxed W' b1 27 v1
  x2 : Boxed W b2 3 v2 → Boxed W' b2 3 v2
  same : ∀ (k : Nat) (o : Obj), n₁ + 2 ≤ k → W.heap[k]? = some o → W'.heap[k]? = some o
section
variable {n₀ n₁ b1 b2 : Nat} {v1 v2 : Value} {A B C W W' : World}
theorem kl_t (h : Kl n₀ n₁ b1 b2 v1 v2 A B) (k : Kl n₀ n₁ b1 b2 v1 v2 B C) : Kl n₀ n₁ b1 b2 v1 v2 A C := ⟨h.bel.trans k.bel, fun x => k.x1 (h.x1 x), fun x => k.x2 (h.x2 x), fun i o hi hc => k.same i o hi (h.same i o hi hc)⟩
theorem kl_b (h1 : n₀ ≤ n₁) (hB1 : b1 < n₁) (hB2 : b2 < n₁) (W : World) (r r' : Loop) (h : W.heap[n₁ + 1]? = some (.loop r)) : Kl n₀ n₁ b1 b2 v1 v2 W (W.putObj (n₁ + 1) (.loop r')) :=
  ⟨(Below.refl n₀ W).grown (grownBy_putObj' W (n₁ + 1) (.loop r')) (by have := (Array.getElem?_eq_some_iff.1 h).1; omega) (fun k e => by cases e; omega), fun x => x.kept (grownBy_putObj' W (n₁ + 1) (.loop r')) (by intro e; cases e; omega),
    fun x => x.kept (grownBy_putObj' W (n₁ + 1) (.loop r')) (by intro e; cases e; omega), fun k _ hk ho => (World.putObj_heap_other (by omega)).trans ho⟩
theorem Kl.boxed (h : Kl n₀ n₁ b1 b2 v1 v2 W W') {b : Nat} {t : TypeId} {v : Value} (hb : Boxed W b t v) (hn : n₁ + 2 ≤ b) : Boxed W' b t v := h.same b _ hn hb
theorem Kl.of_below (h : Below W.heap.size W W') (hn : n₀ ≤ W.heap.size) : Kl n₀ n₁ b1 b2 v1 v2 W W' :=
  ⟨h.mono hn, fun x => (h.block b1 x.lt).trans x, fun x => (h.block b2 x.lt).trans x, fun k _ _ ho => (h.block k (Array.getElem?_eq_some_iff.1 ho).1).trans ho⟩
theorem Kl.kept (h : Kl n₀ n₁ b1 b2 v1 v2 W W') {lo hi : Nat} (hlo : n₁ + 2 ≤ lo) (hhi : hi ≤ W.heap.size) : Kept lo hi W W' := fun k h1 h2 => by
  have hk : k < W.heap.size := by omega
  rw [h.same k W.heap[k] (by omega) (Array.getElem?_eq_getElem hk), Array.getElem?_eq_getElem hk]
end
end Go.Proofs.YteneadimchhhhaaGreatDoor
