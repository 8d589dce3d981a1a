/- Words for a row of numbers of a call's own: its form, told as cells, opened. -/
import Derived.Test.YtomjaieplpjcpaaGrOrd
import Derived.Sort.OwnSortedInts
import Derived.Lib.RowBridge
namespace Go.Proofs.Ytomjaieplpjcpaa
open Go.RowKit Go.Lib Go.Sort Go.Maps

theorem bdrewN {B : Nat} {a b : World} (h : Below B a b) (n : Nat) : Below B a (b.drewN n) := ⟨h.os, h.tape, h.output, h.size, h.block⟩
section
variable {base : Nat} {v : Value} {l : List Int} {w : World}
theorem NewZ.form (h : NewZ base w v l) : (v = .slice none 0 0 ∧ l = []) ∨ ∃ r cap cur, v = .slice (some ⟨r, 0, none⟩) l.length cap ∧ base ≤ r ∧ Whole w r 3 cur ∧ l.length ≤ cap ∧ cap ≤ maxLen ∧ cur.size = cap ∧ ∀ j, j < l.length → cur[j]? = (l.map (Value.int .i64))[j]? := by
  rcases h.2 with ⟨rfl, h0⟩ | ⟨g, cap, cur, rfl, hg, hh, hn, hm, hs, ht⟩
  · exact .inl ⟨rfl, List.eq_nil_of_length_eq_zero h0⟩
  · refine .inr ⟨g, cap, cur, rfl, hg, hh, hn, hm, by omega, fun j hj => ?_⟩
    rw [← ht, List.getElem?_take, if_pos (by omega)]
    simp
theorem NewZ.mk' {r cap : Nat} {cur : Array Value} (hb : base ≤ r) (hh : Whole w r 3 cur) (hn : l.length ≤ cap) (hm : cap ≤ maxLen) (hs : cur.size = cap) (hc : ∀ j, j < l.length → cur[j]? = (l.map (Value.int .i64))[j]?) : NewZ base w (.slice (some ⟨r, 0, none⟩) l.length cap) l := by
  refine ⟨by simp, .inr ⟨r, cap, cur, rfl, hb, hh, hn, hm, by omega, ?_⟩⟩
  apply List.ext_getElem?
  intro j
  rw [List.getElem?_take]
  by_cases hj : j < l.length
  · rw [if_pos (by omega), ← hc j hj]
    simp
  · rw [if_neg (by omega), List.getElem?_eq_none (by simp; omega)]
theorem NewZ.holds {r : Nat} {cur : Array Value} (hh : Whole w r 3 cur) (hc : ∀ j, j < l.length → cur[j]? = (l.map (Value.int .i64))[j]?) : Holds (Value.int .i64) w r 0 l.toArray := by
  intro j hj
  have hj' : j < l.length := by simpa using hj
  refine ⟨?_, hh.free _⟩
  rw [Nat.zero_add, hh.cell, hc j hj', List.getElem?_map, List.getElem?_eq_getElem hj', BG.get_arr l j hj']
  rfl
end
theorem zs_block {w : World} {g n : Nat} {t : TypeId} {cs : Array Value} {xs : List Int} (h : Whole w g t cs) (hn : xs.length = n) (hc : cs.toList = xs.map (Value.int .i64)) : ZS w (some ⟨g, 0, none⟩) n xs :=
  ⟨hn, fun _ => ⟨g, 0, rfl, h.lt, fun j hj => by
    rw [Nat.zero_add, h.cell, ← Array.getElem?_toList, hc, List.getElem?_map, List.getElem?_eq_getElem hj]
    rfl⟩⟩
theorem es_block {w : World} {g n : Nat} {t : TypeId} {cs : Array Value} {es : List (Int × Int)} (h : Whole w g t cs) (hn : es.length = n) (hc : cs.toList = flatE es) : ES w (some ⟨g, 0, none⟩) n es :=
  ⟨hn, fun _ => ⟨g, 0, rfl, h.lt, fun j hj => by
    have hq := flatE_get es j es[j] (List.getElem?_eq_getElem hj)
    rw [Nat.zero_add, h.cell, h.cell, ← Array.getElem?_toList, ← Array.getElem?_toList, hc]
    exact hq⟩⟩
theorem rises_at {l : List Int} (h : BG.Rises l) {i : Nat} {x y : Int} (h1 : l[i]? = some x) (h2 : l[i + 1]? = some y) : x < y := by
  obtain ⟨a, e⟩ := List.getElem?_eq_some_iff.1 h1
  obtain ⟨b, f⟩ := List.getElem?_eq_some_iff.1 h2
  have := List.pairwise_iff_getElem.1 h i (i + 1) a b (by omega)
  rw [e, f] at this
  exact this
theorem ZS.get {w : World} {A : Option Addr} {n : Nat} {xs : List Int} (h : ZS w A n xs) {k : Nat} {x : Int} (hk : xs[k]? = some x) : ∃ b off, A = some ⟨b, off, none⟩ ∧ b < w.heap.size ∧ k < n ∧ w.cell? ⟨b, off + k, none⟩ = some (.int .i64 x) := by
  obtain ⟨hl, e⟩ := List.getElem?_eq_some_iff.1 hk
  obtain ⟨b, off, ea, hb, hc⟩ := h.at_ (k := k) (by rw [← h.len]; exact hl)
  exact ⟨b, off, ea, hb, by rw [← h.len]; exact hl, by rw [hc, e]⟩
/-- A row, opened: its length is a letter. -/
theorem NewZ.op {base : Nat} {w : World} {v : Value} {l : List Int} (h : NewZ base w v l) : ∃ A n c, v = .slice A n c ∧ l.length = n ∧ ZS w A n l := by
  obtain ⟨A, c, rfl, _⟩ := h.slice
  exact ⟨A, l.length, c, rfl, rfl, h.zs⟩
theorem NewE.op {T : TypeId} {base : Nat} {w : World} {v : Value} {l : List (Int × Int)} (h : NewE T base w v l) : ∃ A n c, v = .slice A n c ∧ l.length = n ∧ ES w A n l := by
  obtain ⟨A, c, rfl, _⟩ := h.slice
  exact ⟨A, l.length, c, rfl, rfl, h.es⟩
end Go.Proofs.Ytomjaieplpjcpaa
