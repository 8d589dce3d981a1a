/- Words for rows of things in a block of their own, and for bags. -/
import Derived.Test.YtomjaieplpjcpaaBgMath
import Derived.Test.YtomjaieplpjcpaaBase
import Derived.Test.YtomjaieplpjcpaaBlk
import Derived.Lib.OwnBridge
import Derived.Laws.AppendOwn
import Derived.Laws.IdiomCopy
import Derived.Deep.Onto
namespace Go.Proofs.Ytomjaieplpjcpaa
open Go.RowKit Go.Lib Go.Sort

/-- All that was there but the blocks S is as it was; new ones may follow. -/
structure Aft (S : List Nat) (w w' : World) : Prop where
  os : w'.os = w.os
  tape : w'.tape = w.tape
  output : w'.output = w.output
  size : w.heap.size ≤ w'.heap.size
  block : ∀ k, k < w.heap.size → k ∉ S → w'.heap[k]? = w.heap[k]?
section
variable {S : List Nat} {c B : Nat} {w w' a b d : World}
theorem Aft.refl (S : List Nat) (w : World) : Aft S w w := ⟨rfl, rfl, rfl, Nat.le_refl _, fun _ _ _ => rfl⟩
theorem Aft.trans (h : Aft S a b) (k : Aft S b d) : Aft S a d :=
  ⟨k.os.trans h.os, k.tape.trans h.tape, k.output.trans h.output, Nat.le_trans h.size k.size, fun i hi hs => (k.block i (Nat.lt_of_lt_of_le hi h.size) hs).trans (h.block i hi hs)⟩
theorem Aft.of_below (h : Below w.heap.size w w') : Aft S w w' := ⟨h.os, h.tape, h.output, h.size, fun k hk _ => h.block k hk⟩
theorem Aft.sub {T : List Nat} (h : Aft S w w') (hs : ∀ x ∈ S, x ∈ T) : Aft T w w' := ⟨h.os, h.tape, h.output, h.size, fun k hk hx => h.block k hk (fun e => hx (hs k e))⟩
theorem Aft.drew (h : Aft S w w') : Aft S w w'.drew := ⟨h.os, h.tape, h.output, h.size, h.block⟩
theorem Aft.drewN (h : Aft S w w') (n : Nat) : Aft S w (w'.drewN n) := ⟨h.os, h.tape, h.output, h.size, h.block⟩
theorem Aft.setCell (h : Aft S a w) (hc : c ∈ S) (o : Nat) (u : Value) : Aft S a (w.setCell ⟨c, o, none⟩ u) :=
  h.trans ⟨rfl, rfl, rfl, by simp [World.setCell], fun k _ hk => Below.heap_setCell _ _ _ _ (fun e => hk (e ▸ hc))⟩
theorem Aft.alloc (h : Aft S a w) (o : Obj) : Aft S a (w.alloc o) := h.trans (Aft.of_below ((Below.refl _ _).alloc (Nat.le_refl _) o))
theorem Aft.below (h : Aft S w w') (hB : ∀ c ∈ S, B ≤ c) (hw : B ≤ w.heap.size) : Below B w w' :=
  ⟨h.os, h.tape, h.output, h.size, fun k hk => h.block k (by omega) fun e => by have := hB k e; omega⟩
theorem Aft.cell (h : Aft S w w') {p : Addr} (hl : p.block < w.heap.size) (hp : p.block ∉ S) : w'.cell? p = w.cell? p := World.cell?_of_block (w := w) (h.block p.block hl hp)
theorem Aft.whole {t : TypeId} {cs : Array Value} (h : Aft S w w') (k : Whole w c t cs) (hc : c ∉ S) : Whole w' c t cs := (h.block c k.lt hc).trans k
theorem Aft.setCells (h : Aft S a w) (hc : c ∈ S) (o : Nat) (vs : List Value) : Aft S a (w.setCells c o vs) := by
  induction vs generalizing o w with
  | nil => exact h
  | cons v vs ih => exact ih (h.setCell hc o v) (o + 1)
/-- A block made behind w may be written without a word of it. -/
theorem Aft.less (h : Aft (c :: S) w w') (hc : w.heap.size ≤ c) : Aft S w w' :=
  ⟨h.os, h.tape, h.output, h.size, fun k hk hs => h.block k hk (by simp; exact ⟨by omega, hs⟩)⟩
theorem Aft.later (h : Aft S w a) (hb : Below w.heap.size a b) : Aft S w b :=
  ⟨hb.os.trans h.os, hb.tape.trans h.tape, hb.output.trans h.output, Nat.le_trans h.size hb.size, fun k hk hs => (hb.block k hk).trans (h.block k hk hs)⟩
end

theorem Whole.setCells {w : World} {g : Nat} {t : TypeId} {cs : Array Value} (h : Whole w g t cs) : ∀ (vs : List Value) (o : Nat), Whole (w.setCells g o vs) g t (lay cs o vs)
  | vs, o => by
    induction vs generalizing w cs o with
    | nil => exact h
    | cons v vs ih => exact ih (h.set o v) (o + 1)
theorem lay_size (vs : List Value) : ∀ (cs : Array Value) (o : Nat), (lay cs o vs).size = cs.size := by
  induction vs with
  | nil => intro cs o; rfl
  | cons v vs ih => intro cs o; rw [lay, ih]; simp

/-- The things l, in the words of enc, are what the slice v has; if it has memory, that is block r, all of it its own. -/
structure Row (T : TypeId) (enc : Int → Value) (w : World) (r : Nat) (v : Value) (l : List Int) : Prop where
  own : w.ownsRow 0 T 1 v l.length (l.map enc)
  at_ : ∀ k, v.ownBlock = some k → k = r
section
variable {T : TypeId} {enc : Int → Value} {w w' : World} {r : Nat} {v : Value} {l : List Int} {S : List Nat}
theorem Row.nil (T : TypeId) (enc : Int → Value) (w : World) (r : Nat) : Row T enc w r (.slice none 0 0) [] := ⟨World.ownsRow_nil _ _ _ _, fun k h => by simp [Value.ownBlock] at h⟩
theorem Row.form (h : Row T enc w r v l) : (v = .slice none 0 0 ∧ l = []) ∨ ∃ cap cur, v = .slice (some ⟨r, 0, none⟩) l.length cap ∧ Whole w r T cur ∧ l.length ≤ cap ∧ cap ≤ maxLen ∧ cur.size = cap ∧ ∀ j, j < l.length → cur[j]? = (l.map enc)[j]? := by
  rcases h.own.2 with ⟨rfl, h0⟩ | ⟨g, cap, cur, rfl, _, hh, hn, hm, hs, ht⟩
  · exact .inl ⟨rfl, List.eq_nil_of_length_eq_zero h0⟩
  · have e := h.at_ g rfl
    subst e
    refine .inr ⟨cap, cur, rfl, hh, hn, hm, by omega, fun j hj => ?_⟩
    rw [← ht, List.getElem?_take, if_pos (by omega)]
    simp
theorem Row.mk' {cap : Nat} {cur : Array Value} (hh : Whole w r T cur) (hn : l.length ≤ cap) (hm : cap ≤ maxLen) (hs : cur.size = cap) (hc : ∀ j, j < l.length → cur[j]? = (l.map enc)[j]?) : Row T enc w r (.slice (some ⟨r, 0, none⟩) l.length cap) l := by
  refine ⟨⟨by simp, .inr ⟨r, cap, cur, rfl, Nat.zero_le _, hh, hn, hm, by omega, ?_⟩⟩, fun k h => by simp [Value.ownBlock] at h; omega⟩
  apply List.ext_getElem?
  intro j
  rw [List.getElem?_take]
  by_cases hj : j < l.length
  · rw [if_pos (by omega), ← hc j hj]
    simp
  · rw [if_neg (by omega), List.getElem?_eq_none (by simp; omega)]
theorem Row.slice (h : Row T enc w r v l) : ∃ A c, v = .slice A l.length c ∧ l.length ≤ c := by
  rcases h.form with ⟨rfl, rfl⟩ | ⟨cap, _, rfl, _, hn, _⟩
  · exact ⟨none, 0, rfl, Nat.le_refl _⟩
  · exact ⟨_, cap, rfl, hn⟩
theorem Row.keep (h : Row T enc w r v l) (e : r < w.heap.size → w'.heap[r]? = w.heap[r]?) : Row T enc w' r v l := by
  rcases h.form with ⟨rfl, rfl⟩ | ⟨cap, cur, rfl, hh, hn, hm, hs, hc⟩
  · exact Row.nil _ _ _ _
  · exact Row.mk' ((e hh.lt).trans hh) hn hm hs hc
theorem Row.aft (h : Row T enc w r v l) (k : Aft S w w') (hr : r ∉ S) : Row T enc w' r v l := h.keep fun hl => k.block r hl hr
theorem Row.below (h : Row T enc w r v l) (k : Below w.heap.size w w') : Row T enc w' r v l := h.keep fun hl => k.block r hl
theorem Row.alloc (h : Row T enc w r v l) (o : Obj) : Row T enc (w.alloc o) r v l := h.keep fun hl => Below.heap_alloc w o r hl
theorem Row.drewN (h : Row T enc w r v l) (n : Nat) : Row T enc (w.drewN n) r v l := h.keep fun _ => rfl
theorem Row.far (h : Row T enc w r v l) {p : Addr} (hp : r ≠ p.block) (u : Value) : Row T enc (w.setCell p u) r v l := h.keep fun _ => Below.heap_setCell w p u r hp
theorem Row.cell (h : Row T enc w r v l) {k : Nat} (hk : k < l.length) : ∃ cap, v = .slice (some ⟨r, 0, none⟩) l.length cap ∧ r < w.heap.size ∧ w.cell? ⟨r, k, none⟩ = some (enc l[k]) := by
  rcases h.form with ⟨rfl, rfl⟩ | ⟨cap, cur, rfl, hh, hn, hm, hs, hc⟩
  · simp at hk
  · exact ⟨cap, rfl, hh.lt, by rw [hh.cell, hc k hk]; simp [hk]⟩
theorem Row.of_own {base n : Nat} {xs : List Value} (h : w.ownsRow base T 1 v n xs) (hx : xs = l.map enc) (hr : ∀ k, v.ownBlock = some k → k = r) : Row T enc w r v l := by
  have hl : l.length = n := by have := h.1; rw [hx] at this; simpa using this
  subst hl
  subst hx
  exact ⟨h.mono (Nat.zero_le _), hr⟩
end

/-- A bag: its box b, the row of its things (in block r, if it has memory), the things l, rising. -/
structure Bag (TB T : TypeId) (enc : Int → Value) (w : World) (b r : Nat) (l : List Int) : Prop where
  box : ∃ v, Whole w b TB #[v] ∧ Row T enc w r v l
  lt : r < w.heap.size
  up : BG.Rises l
section
variable {TB T : TypeId} {enc : Int → Value} {w w' : World} {b r : Nat} {l : List Int} {S : List Nat}
theorem Bag.blt (h : Bag TB T enc w b r l) : b < w.heap.size := by obtain ⟨v, h1, _⟩ := h.box; exact h1.lt
theorem Bag.aft (h : Bag TB T enc w b r l) (k : Aft S w w') (hb : b ∉ S) (hr : r ∉ S) : Bag TB T enc w' b r l := by
  obtain ⟨v, h1, h2⟩ := h.box
  exact ⟨⟨v, k.whole h1 hb, h2.aft k hr⟩, Nat.lt_of_lt_of_le h.lt k.size, h.up⟩
theorem Bag.below (h : Bag TB T enc w b r l) (k : Below w.heap.size w w') : Bag TB T enc w' b r l := h.aft (Aft.of_below (S := []) k) (by simp) (by simp)
theorem Bag.alloc (h : Bag TB T enc w b r l) (o : Obj) : Bag TB T enc (w.alloc o) b r l := h.below ((Below.refl _ w).alloc (Nat.le_refl _) o)
theorem Bag.drewN (h : Bag TB T enc w b r l) (n : Nat) : Bag TB T enc (w.drewN n) b r l := h.aft (S := []) ((Aft.refl _ w).drewN n) (by simp) (by simp)
theorem Bag.far (h : Bag TB T enc w b r l) {p : Addr} (hb : b ≠ p.block) (hr : r ≠ p.block) (u : Value) : Bag TB T enc (w.setCell p u) b r l := by
  obtain ⟨v, h1, h2⟩ := h.box
  exact ⟨⟨v, h1.far hb u, h2.far hr u⟩, by simpa [World.setCell] using h.lt, h.up⟩
end
end Go.Proofs.Ytomjaieplpjcpaa
