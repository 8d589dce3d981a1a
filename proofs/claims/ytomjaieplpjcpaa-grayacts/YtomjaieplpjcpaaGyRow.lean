/- Words for lists that wait: the map of things, the ring, all together; what calls leave. -/
import Derived.Test.YtomjaieplpjcpaaGyM
import Derived.Test.YtomjaieplpjcpaaGrForm
import Derived.Maps.OwnRows
import Derived.Maps.OwnSet
import Derived.Maps.Views
import Derived.Lib.Hide
namespace Go.Proofs.Ytomjaieplpjcpaa
open Go.RowKit Go.Lib Go.Sort Go.Maps

/-- A pointer to a block. -/
abbrev pv (k : Nat) : Value := .pointer (some ⟨k, 0, none⟩)
/-- How a pointer that is a map's element reads: by its block. -/
def ptrElem (v : Value) : Option (DataW Unit × List MemPlace) :=
  match v with
  | .pointer (some ⟨k, 0, none⟩) => some (.lit (.int .i64 (k : Nat)), [])
  | .pointer none => some (.map [], [])
  | _ => none
theorem ptrElem_some {v : Value} {k : Nat} {ps : List MemPlace} (h : ptrElem v = some (.lit (.int .i64 (k : Nat)), ps)) : v = pv k := by
  unfold ptrElem at h
  split at h
  · injection h with h
    injection h with h _
    injection h with h
    injection h with _ h
    have : (_ : Nat) = k := Int.ofNat.inj h
    rw [this]
  · injection h with h
    injection h with h _
    cases h
  · cases h
theorem ptrElem_none {v : Value} {ps : List MemPlace} (h : ptrElem v = some (.map [], ps)) : v = .pointer none := by
  unfold ptrElem at h
  split at h
  · injection h with h
    injection h with h _
    cases h
  · rfl
  · cases h
theorem ptrElem_inv {v : Value} {y : DataW Unit × List MemPlace} (h : ptrElem v = some y) : (∃ k : Nat, v = pv k ∧ y.1 = .lit (.int .i64 (k : Nat))) ∨ v = .pointer none ∧ y.1 = .map [] := by
  unfold ptrElem at h
  split at h
  · injection h with h
    subst h
    exact .inl ⟨_, rfl, rfl⟩
  · injection h with h
    subst h
    exact .inr ⟨rfl, rfl⟩
  · cases h

/-- Block k is a map's. -/
def MapB (w : World) (k : Nat) : Prop := ∃ es c, w.heap[k]? = some (.map es c)
section
variable {w w' : World} {k : Nat}
theorem MapB.lt (h : MapB w k) : k < w.heap.size := by
  obtain ⟨es, c, h⟩ := h
  exact (Array.getElem?_eq_some_iff.1 h).1
theorem MapB.keep (h : MapB w k) (e : w'.heap[k]? = w.heap[k]?) : MapB w' k := by
  obtain ⟨es, c, h⟩ := h
  exact ⟨es, c, e.trans h⟩
theorem MapB.ne {t : TypeId} {cs : Array Value} {b : Nat} (h : MapB w k) (hb : Whole w b t cs) : k ≠ b := by
  obtain ⟨es, c, h⟩ := h
  intro e
  subst e
  unfold Whole at hb
  rw [hb] at h
  cases h
end

theorem gyLaw : Keyed Try.prog 3 := int_keyed Try.underlying3
theorem gyKey {z : Int} (h : I64 z) : keyOf Try.prog 3 (.int .i64 z) = some (.int .i64 z) := keyOf_int_mk Try.underlying3 h.wf
theorem gyZero (w : World) : (zeroValue 51).run Try.prog w = .ok (.pointer none) w := by kernel_rfl
/-- Block g is a map of things: to each number a block; c: no more than so many. -/
def ThAt (w : World) (g c : Nat) (G : Int → Option Nat) : Prop := ∃ D : DataW Unit, w.ownsMap Try.prog 3 ptrElem g c D ∧
  (∀ z, I64 z → Maps.has D (.int .i64 z) = (G z).isSome) ∧ ∀ z k, I64 z → G z = some k → ∀ d, D.atKey (.int .i64 z) d = .lit (.int .i64 (k : Nat))
def updG (G : Int → Option Nat) (z : Int) (o : Option Nat) : Int → Option Nat := fun y => if y = z then o else G y
section
variable {w w' : World} {g c : Nat} {G G' : Int → Option Nat} {z : Int}
theorem ThAt.keep (h : ThAt w g c G) (e : w'.heap[g]? = w.heap[g]?) : ThAt w' g c G := by
  obtain ⟨D, ⟨es, cl, hb, r⟩, h2⟩ := h
  exact ⟨D, ⟨es, cl, e.trans hb, r⟩, h2⟩
theorem ThAt.mapB (h : ThAt w g c G) : MapB w g := by
  obtain ⟨D, ⟨es, cl, hb, _⟩, _⟩ := h
  exact ⟨es, cl, hb⟩
theorem ThAt.ext (h : ThAt w g c G) (e : ∀ z, I64 z → G' z = G z) : ThAt w g c G' := by
  obtain ⟨D, h1, h2, h3⟩ := h
  exact ⟨D, h1, fun z hz => by rw [e z hz]; exact h2 z hz, fun z k hz hk d => h3 z k hz (by rw [← e z hz]; exact hk) d⟩
theorem ThAt.look (h : ThAt w g c G) (hz : I64 z) : (Instr.lookup 54 (.map (some g)) (.int .i64 z) false).run Try.prog w = .ok (.pointer ((G z).map fun k => ⟨k, 0, none⟩)) w := by
  obtain ⟨D, h1, h2, h3⟩ := h
  obtain ⟨v, ps, hrun, hR⟩ := h1.lookup gyLaw Try.underlying54 (gyZero w) (show ptrElem (.pointer none) = some (.map [], []) from rfl) (gyKey hz)
  rw [hrun]
  cases hG : G z with
  | none =>
    rw [atKey_of_not_has (by rw [h2 z hz, hG]; rfl)] at hR
    rw [ptrElem_none hR]
    rfl
  | some k =>
    rw [h3 z k hz hG] at hR
    rw [ptrElem_some hR]
    rfl
theorem ThAt.put (h : ThAt w g c G) (hz : I64 z) (hn : c < 1000000) (k : Nat) :
    ∃ w', (Instr.mapUpdate 54 (.map (some g)) (.int .i64 z) (pv k)).run Try.prog w = .ok () w' ∧ ThAt w' g (c + 1) (updG G z (some k)) ∧ Aft [g] w w' ∧ w'.heap.size = w.heap.size := by
  obtain ⟨D, h1, h2, h3⟩ := h
  obtain ⟨w', hrun, h4, hT⟩ := h1.store gyLaw Try.underlying54 (by unfold maxLen; omega) (gyKey hz) (show ptrElem (pv k) = some (.lit (.int .i64 (k : Nat)), []) from rfl)
  have hs : w'.heap.size = w.heap.size := by obtain ⟨es, c, es', c', _, rfl⟩ := hT; simp [ChangeMaps.setBlock]
  have hg := hT.grown
  refine ⟨w', hrun, ⟨_, h4, fun y hy => ?_, fun y q hy hq d => ?_⟩, ⟨hg.os, hg.tape, hg.output, hg.size, fun j hj hs => hg.block j hj (fun e => hs (by simpa using e))⟩, hs⟩
  · unfold updG
    by_cases e : y = z
    · subst e
      rw [has_put_same h1.isMap (show WideAt.IsKeyLit (.int .i64 y) from trivial), if_pos rfl]
      rfl
    · rw [has_put_other (fun hh => e (by injection hh)), if_neg e, h2 y hy]
  · unfold updG at hq
    by_cases e : y = z
    · subst e
      rw [if_pos rfl] at hq
      injection hq with hq
      subst hq
      exact atKey_put_same h1.isMap (show WideAt.IsKeyLit (.int .i64 y) from trivial) _ _
    · rw [if_neg e] at hq
      rw [atKey_put_other (fun hh => e (by injection hh))]
      exact h3 y q hy hq d
theorem ThAt.made (w : World) : ThAt (w.alloc (.map #[] 0)) w.heap.size 0 (fun _ => none) := ⟨.map [], World.ownsMap_made _ _ _ _, fun z _ => by simp [Maps.has], fun z k _ h => by cases h⟩
end

/-- Blocks that a list that waits may be of. -/
def Mine (w : World) (k : Nat) : Prop := (∃ cs, Whole w k 56 cs) ∨ (∃ cs, Whole w k 53 cs) ∨ MapB w k
/-- All that was there but what lists that wait, made behind block base, may be of is as it was. -/
structure Gt (base : Nat) (w w' : World) : Prop where
  os : w'.os = w.os
  tape : w'.tape = w.tape
  output : w'.output = w.output
  size : w.heap.size ≤ w'.heap.size
  block : ∀ k, k < w.heap.size → (k < base ∨ ¬ Mine w k) → w'.heap[k]? = w.heap[k]?
section
variable {w w' a b d : World} {S : List Nat} {base lo r : Nat} {v : Value} {l : List Int} {t : TypeId} {cs : Array Value}
theorem whole_notmine (h : Whole w r t cs) (h1 : t ≠ 56) (h2 : t ≠ 53) : ¬ Mine w r := by
  rintro (⟨ds, k⟩ | ⟨ds, k⟩ | k)
  · unfold Whole at h k
    rw [h] at k
    injection k with k
    injection k with _ k
    exact h1 k
  · unfold Whole at h k
    rw [h] at k
    injection k with k
    injection k with _ k
    exact h2 k
  · exact k.ne h rfl
theorem Mine.keep {k : Nat} (h : Mine w k) (e : w'.heap[k]? = w.heap[k]?) : Mine w' k := by
  rcases h with ⟨cs, h⟩ | ⟨cs, h⟩ | h
  · exact .inl ⟨cs, e.trans h⟩
  · exact .inr (.inl ⟨cs, e.trans h⟩)
  · exact .inr (.inr (h.keep e))
theorem Gt.refl (base : Nat) (w : World) : Gt base w w := ⟨rfl, rfl, rfl, Nat.le_refl _, fun _ _ _ => rfl⟩
theorem Gt.trans (h : Gt base a b) (k : Gt base b d) : Gt base a d :=
  ⟨k.os.trans h.os, k.tape.trans h.tape, k.output.trans h.output, Nat.le_trans h.size k.size, fun i hi hm => by
    have e := h.block i hi hm
    refine (k.block i (Nat.lt_of_lt_of_le hi h.size) (hm.imp id fun hn hb => hn (hb.keep e.symm))).trans e⟩
theorem Gt.of_below (h : Below w.heap.size w w') : Gt base w w' := ⟨h.os, h.tape, h.output, h.size, fun k hk _ => h.block k hk⟩
theorem Gt.of_aft (h : Aft S w w') (hS : ∀ x ∈ S, base ≤ x ∧ Mine w x) : Gt base w w' := ⟨h.os, h.tape, h.output, h.size, fun k hk hm => h.block k hk fun hx => by
  have := hS k hx
  rcases hm with hm | hm
  · omega
  · exact hm this.2⟩
theorem Gt.less (h : Gt base w w') (hl : lo ≤ base) : Gt lo w w' := ⟨h.os, h.tape, h.output, h.size, fun k hk hm => h.block k hk (hm.imp (fun x => by omega) id)⟩
theorem Gt.below (h : Gt base w w') (hb : base ≤ w.heap.size) (hl : lo ≤ base) : Below lo w w' := ⟨h.os, h.tape, h.output, h.size, fun k hk => h.block k (by omega) (.inl (by omega))⟩
theorem Gt.drewN (h : Gt base w w') (n : Nat) : Gt base w (w'.drewN n) := ⟨h.os, h.tape, h.output, h.size, h.block⟩
theorem Gt.whole (h : Gt base a b) (k : Whole a r t cs) (h1 : t ≠ 56) (h2 : t ≠ 53) : Whole b r t cs := (h.block r k.lt (.inr (whole_notmine k h1 h2))).trans k
theorem NewZ.gt (h : NewZ lo w v l) (k : Gt base w w') : NewZ lo w' v l := h.keep fun g _ _ ⟨_, hg⟩ => k.block g hg.lt (.inr (whole_notmine hg (by decide) (by decide)))
end

/-- The ring: the box b with the map m and the end e; those that wait, W, in the blocks P says; bf, bh: what is before a block, and behind it. -/
structure RingAt (w : World) (b m e : Nat) (W : List Int) (P : Int → Nat) (bf bh : Nat → Nat) : Prop where
  box : Whole w b 56 #[.map (some m), pv e, .int .i64 ((W.length : Nat) : Int)]
  ends : Whole w e 53 #[.int .i64 0, .int .i64 0, pv (bf e), pv (bh e)]
  wait : ∀ x ∈ W, Whole w (P x) 53 #[.int .i64 x, .int .i64 1, pv (bf (P x)), pv (bh (P x))]
  ring : GY.Lk bf bh (e :: W.map P ++ [e])
  nd : W.Nodup
theorem whole_inj {w : World} {g h : Nat} {t u : TypeId} {cs ds : Array Value} (h1 : Whole w g t cs) (h2 : Whole w h u ds) (e : g = h) : t = u ∧ cs = ds := by
  subst e
  unfold Whole at h1 h2
  rw [h1] at h2
  injection h2 with h2
  injection h2 with h2 h3
  exact ⟨h3, h2⟩
/-- Two things of two numbers, or of two colors, are two blocks. -/
theorem thing_ne {w : World} {g h : Nat} {x y c d : Int} {p q r s : Value} (h1 : Whole w g 53 #[.int .i64 x, .int .i64 c, p, q]) (h2 : Whole w h 53 #[.int .i64 y, .int .i64 d, r, s]) (hn : x ≠ y ∨ c ≠ d) : g ≠ h := fun e => by
  have := (whole_inj h1 h2 e).2
  simp at this
  omega
theorem box_ne {w : World} {g h : Nat} {cs ds : Array Value} (h1 : Whole w g 56 cs) (h2 : Whole w h 53 ds) : g ≠ h := fun e => by
  have := (whole_inj h1 h2 e).1
  revert this
  decide
section
variable {w w' : World} {b m e : Nat} {W : List Int} {P : Int → Nat} {bf bh : Nat → Nat} {x y : Int} {S : List Nat}
theorem RingAt.ne (R : RingAt w b m e W P bf bh) (hx : x ∈ W) : P x ≠ e := thing_ne (R.wait x hx) R.ends (.inr (by decide))
theorem RingAt.inj (R : RingAt w b m e W P bf bh) (hx : x ∈ W) (hy : y ∈ W) (h : P x = P y) : x = y := by
  rcases Decidable.em (x = y) with k | k
  · exact k
  · exact absurd h (thing_ne (R.wait x hx) (R.wait y hy) (.inl k))
theorem map_nodup {P : Int → Nat} : ∀ {l : List Int}, l.Nodup → (∀ x ∈ l, ∀ y ∈ l, P x = P y → x = y) → (l.map P).Nodup
  | [], _, _ => List.nodup_nil
  | x :: l, h, hi => by
    have h1 := List.nodup_cons.1 h
    rw [List.map_cons, List.nodup_cons]
    refine ⟨fun hm => ?_, map_nodup h1.2 fun a ha c hc => hi a (List.mem_cons_of_mem _ ha) c (List.mem_cons_of_mem _ hc)⟩
    obtain ⟨z, hz, ez⟩ := List.mem_map.1 hm
    exact h1.1 (hi x List.mem_cons_self z (List.mem_cons_of_mem _ hz) ez.symm ▸ hz)
theorem RingAt.nodup (R : RingAt w b m e W P bf bh) : (e :: W.map P).Nodup := by
  refine List.nodup_cons.2 ⟨fun hm => ?_, map_nodup R.nd fun x hx y hy h => R.inj hx hy h⟩
  obtain ⟨z, hz, ez⟩ := List.mem_map.1 hm
  exact R.ne hz ez
theorem RingAt.keep (R : RingAt w b m e W P bf bh) (h : ∀ k ∈ b :: e :: W.map P, w'.heap[k]? = w.heap[k]?) : RingAt w' b m e W P bf bh :=
  ⟨(h b (by simp)).trans R.box, (h e (by simp)).trans R.ends, fun x hx => (h (P x) (by simp; exact .inr (.inr ⟨x, hx, rfl⟩))).trans (R.wait x hx), R.ring, R.nd⟩
/-- A block of the ring's, as a thing. -/
theorem RingAt.node (R : RingAt w b m e W P bf bh) {g : Nat} (hg : g ∈ e :: W.map P) : ∃ x c, Whole w g 53 #[.int .i64 x, .int .i64 c, pv (bf g), pv (bh g)] := by
  rcases List.mem_cons.1 hg with rfl | hg
  · exact ⟨0, 0, R.ends⟩
  · obtain ⟨z, hz, rfl⟩ := List.mem_map.1 hg
    exact ⟨z, 1, R.wait z hz⟩
theorem RingAt.mine (R : RingAt w b m e W P bf bh) : ∀ k ∈ b :: e :: W.map P, Mine w k := fun k hk => by
  rcases List.mem_cons.1 hk with rfl | hk
  · exact .inl ⟨_, R.box⟩
  · obtain ⟨x, c, h⟩ := R.node hk
    exact .inr (.inl ⟨_, h⟩)
theorem RingAt.ext (R : RingAt w b m e W P bf bh) {P' : Int → Nat} (h : ∀ x ∈ W, P' x = P x) : RingAt w b m e W P' bf bh := by
  have hm : W.map P' = W.map P := List.map_congr_left h
  exact ⟨R.box, R.ends, fun x hx => by rw [h x hx]; exact R.wait x hx, by rw [hm]; exact R.ring, R.nd⟩
end

/-- A list that waits, its box b, all of it from block base on; s: what waits, what is done. -/
structure GyAt (w : World) (base b m e : Nat) (P : Int → Nat) (bf bh : Nat → Nat) (s : GY.S) : Prop where
  good : GY.Good s
  ok : ∀ x, GY.col s x ≠ 0 → I64 x
  ring : RingAt w b m e s.W P bf bh
  map : ThAt w m (GY.num s) (fun x => if GY.col s x = 0 then none else some (P x))
  done : ∀ x ∈ s.D, ∃ p q, Whole w (P x) 53 #[.int .i64 x, .int .i64 2, p, q]
  lo : base ≤ b ∧ base ≤ m ∧ base ≤ e ∧ ∀ x, GY.col s x ≠ 0 → base ≤ P x
def Gy (w : World) (base b : Nat) (s : GY.S) : Prop := ∃ m e P bf bh, GyAt w base b m e P bf bh s
section
variable {w w' : World} {base b m e : Nat} {P : Int → Nat} {bf bh : Nat → Nat} {s : GY.S} {x : Int}
theorem GyAt.known (h : GyAt w base b m e P bf bh s) (hx : GY.col s x ≠ 0) : ∃ p q, Whole w (P x) 53 #[.int .i64 x, .int .i64 (GY.col s x), p, q] := by
  rcases GY.col_lt s x with h1 | h1 | h1
  · exact absurd h1 hx
  · rw [h1]; exact ⟨_, _, h.ring.wait x (GY.w_col h1)⟩
  · rw [h1]; exact h.done x (GY.d_col h1).1
theorem GyAt.keep (h : GyAt w base b m e P bf bh s) (k : ∀ g, Mine w g → base ≤ g → w'.heap[g]? = w.heap[g]?) : GyAt w' base b m e P bf bh s := by
  have hw : ∀ x ∈ s.W, base ≤ P x := fun x hx => h.lo.2.2.2 x (by rw [GY.col_w hx]; decide)
  refine ⟨h.good, h.ok, h.ring.keep fun g hg => k g (h.ring.mine g hg) ?_, h.map.keep (k m (.inr (.inr h.map.mapB)) h.lo.2.1), fun x hx => ?_, h.lo⟩
  · have h1 := h.lo
    rcases List.mem_cons.1 hg with rfl | hg
    · exact h1.1
    · rcases List.mem_cons.1 hg with rfl | hg
      · exact h1.2.2.1
      · obtain ⟨x, hx, rfl⟩ := List.mem_map.1 hg
        exact hw x hx
  · obtain ⟨p, q, h1⟩ := h.done x hx
    exact ⟨p, q, (k (P x) (.inr (.inl ⟨_, h1⟩)) (h.lo.2.2.2 x (by rw [GY.col_d h.good hx]; decide))).trans h1⟩
theorem Mine.lt {k : Nat} (h : Mine w k) : k < w.heap.size := by
  rcases h with ⟨_, h⟩ | ⟨_, h⟩ | h
  · exact h.lt
  · exact h.lt
  · exact h.lt
theorem GyAt.below (h : GyAt w base b m e P bf bh s) (k : Below w.heap.size w w') : GyAt w' base b m e P bf bh s := h.keep fun g hg _ => k.block g hg.lt
theorem Gy.keep (h : Gy w base b s) (k : ∀ g, Mine w g → base ≤ g → w'.heap[g]? = w.heap[g]?) : Gy w' base b s := by
  obtain ⟨m, e, P, bf, bh, h⟩ := h
  exact ⟨m, e, P, bf, bh, h.keep k⟩
theorem Gy.below (h : Gy w base b s) (k : Below w.heap.size w w') : Gy w' base b s := h.keep fun g hg _ => k.block g hg.lt
theorem Gy.grown {row : Option Nat} (h : Gy w base b s) (k : w.grownBy w' row) (hr : ∀ g, row = some g → ¬ Mine w g) : Gy w' base b s := h.keep fun g hg _ => k.block g hg.lt fun e => hr g e.symm hg
theorem Gy.good (h : Gy w base b s) : GY.Good s := by obtain ⟨_, _, _, _, _, h⟩ := h; exact h.good
theorem Gy.drewN (h : Gy w base b s) (n : Nat) : Gy (w.drewN n) base b s := h.keep fun _ _ _ => rfl
theorem Gy.alloc (h : Gy w base b s) (o : Obj) : Gy (w.alloc o) base b s := h.below ((Below.refl _ w).alloc (Nat.le_refl _) o)
/-- A row of a call's own is no list's. -/
theorem NewZ.notmine {lo : Nat} {v : Value} {l : List Int} (h : NewZ lo w v l) : ∀ g, v.ownBlock = some g → ¬ Mine w g := fun g hv => by
  rcases h.2 with ⟨rfl, _⟩ | ⟨g', cap, cur, rfl, _, hh, _⟩
  · simp [Value.ownBlock] at hv
  · simp [Value.ownBlock] at hv
    subst hv
    exact whole_notmine (show Whole w g' _ _ from hh) (by decide) (by decide)
end
end Go.Proofs.Ytomjaieplpjcpaa
