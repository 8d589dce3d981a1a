/- Contracts of the library's functions over a row of numbers of a call's own; the contracts of graph's Reach and Lost. -/
import Derived.Test.YtmmclccghlmfmaaGrOrd
import Derived.Test.YtmmclccghlmfmaaGrShelf
import Derived.Sort.OwnSortedInts
import Derived.Lib.RowBridge
namespace Go.Proofs.Ytmmclccghlmfmaa
open Go.RowKit Go.Lib Go.Sort Go.Maps

theorem bdrewN {B : Nat} {a b : World} (h : Below B a b) (n : Nat) : Below B a (b.drewN n) := ⟨h.os, h.tape, h.output, h.size, h.block⟩
section
variable {base : Nat} {v : Value} {l : List Int} {w : World}
theorem NewZ.form (h : NewZ base w v l) : (v = .slice none 0 0 ∧ l = []) ∨ ∃ r cap cur, v = .slice (some ⟨r, 0, none⟩) l.length cap ∧ base ≤ r ∧ Whole w r 3 cur ∧ l.length ≤ cap ∧ cap ≤ maxLen ∧ cur.size = cap ∧ ∀ j, j < l.length → cur[j]? = (l.map (Value.int .i64))[j]? := by
  rcases h.2 with ⟨rfl, h0⟩ | ⟨g, cap, cur, rfl, hg, hh, hn, hm, hs, ht⟩
  · exact .inl ⟨rfl, List.eq_nil_of_length_eq_zero h0⟩
  · refine .inr ⟨g, cap, cur, rfl, hg, hh, hn, hm, by omega, fun j hj => ?_⟩
    rw [← ht, List.getElem?_take, if_pos (by omega)]
    simp
theorem NewZ.mk' {r cap : Nat} {cur : Array Value} (hb : base ≤ r) (hh : Whole w r 3 cur) (hn : l.length ≤ cap) (hm : cap ≤ maxLen) (hs : cur.size = cap) (hc : ∀ j, j < l.length → cur[j]? = (l.map (Value.int .i64))[j]?) : NewZ base w (.slice (some ⟨r, 0, none⟩) l.length cap) l := by
  refine ⟨by simp, .inr ⟨r, cap, cur, rfl, hb, hh, hn, hm, by omega, ?_⟩⟩
  apply List.ext_getElem?
  intro j
  rw [List.getElem?_take]
  by_cases hj : j < l.length
  · rw [if_pos (by omega), ← hc j hj]
    simp
  · rw [if_neg (by omega), List.getElem?_eq_none (by simp; omega)]
theorem NewZ.holds {r : Nat} {cur : Array Value} (hh : Whole w r 3 cur) (hc : ∀ j, j < l.length → cur[j]? = (l.map (Value.int .i64))[j]?) : Holds (Value.int .i64) w r 0 l.toArray := by
  intro j hj
  have hj' : j < l.length := by simpa using hj
  refine ⟨?_, hh.free _⟩
  rw [Nat.zero_add, hh.cell, hc j hj', List.getElem?_map, List.getElem?_eq_getElem hj', BG.get_arr l j hj']
  rfl

/-- slices.Sort turns the row in its place. -/
theorem sort_any (h : NewZ base w v l) (hl : l.length ≤ 1000000) :
    Calls Try.prog 21 #[v] w fun e w' => e = .returned (.tuple #[]) ∧ NewZ base w' v (BG.row l) ∧ w.grownBy w' v.ownBlock := by
  rcases h.form with ⟨rfl, rfl⟩ | ⟨r, cap, cur, rfl, hb, hh, hn, hm, hs, hc⟩
  · refine Calls.mono (Any.slices_Sort_int_none Try.l189 none 0 w) ?_
    rintro e w' ⟨rfl, rfl⟩
    exact ⟨rfl, by simpa [BG.row] using h, ⟨rfl, rfl, rfl, Nat.le_refl _, fun _ _ _ => rfl⟩⟩
  · refine Calls.mono (Any.slices_Sort_int Try.l189 r 0 cap l w (NewZ.holds hh hc) hh.lt (by omega)) ?_
    rintro e w' ⟨rfl, n, os, rfl⟩
    refine ⟨rfl, ?_, grownBy_sortedI _⟩
    have ho := ownsRow_sortedI (w := w) (base := base) (g := r) (cap := cap) (n := n) (e := 3) (os := os) (cur := cur) (ss := l) (ts := BG.row l) (BG.row_len l) hb hh hn hm (by omega)
    unfold NewZ
    rw [BG.row_len]
    exact ho

theorem search_any (h : NewZ base w v l) (hu : BG.Rises l) (hl : l.length ≤ 1000000) (x : Int) :
    Calls Try.prog 22 #[v, .int .i64 x] w fun e w' => e = .returned (.tuple #[.int .i64 (BG.pos l x : Nat), .bool (decide (x ∈ l))]) ∧ ∃ q, w' = w.drewN q := by
  rcases h.form with ⟨rfl, rfl⟩ | ⟨r, cap, cur, rfl, hb, hh, hn, hm, hs, hc⟩
  · refine Calls.mono (Any.slices_BinarySearch_int_empty Try.l25 none 0 x w) ?_
    rintro e w' ⟨rfl, rfl⟩
    exact ⟨rfl, 0, rfl⟩
  · have hcon := Any.slices_BinarySearch_int Try.l25 r 0 l.length cap l x w (Nat.le_refl _) (by omega) (fun j hj => by
      rw [Nat.zero_add, hh.cell, hc j hj, List.getElem?_map, List.getD_eq_getElem?_getD, List.getElem?_eq_getElem hj]; rfl) (by rw [List.take_length]; exact hu.imp fun hh => by omega)
    rw [List.take_length] at hcon
    refine Calls.mono hcon ?_
    rintro e w' ⟨he, hq⟩
    refine ⟨?_, hq⟩
    rw [he]
    simp [BG.pos]

/-- slices.Compact cuts the row in its place. -/
theorem compact_any (h : NewZ base w v l) (hl : l.length ≤ 1000000) (hc' : (Lib.compact l).length ≤ l.length) :
    Calls Try.prog 23 #[v] w fun e w' => ∃ v', e = .returned v' ∧ NewZ base w' v' (Lib.compact l) ∧ w.grownBy w' v.ownBlock := by
  rcases h.form with ⟨rfl, rfl⟩ | ⟨r, cap, cur, rfl, hb, hh, hn, hm, hs, hc⟩
  · refine Calls.mono (Any.slices_Compact_int_empty Try.l20 none 0 w) ?_
    rintro e w' ⟨rfl, rfl⟩
    exact ⟨_, rfl, NewZ.nil _ _, ⟨rfl, rfl, rfl, Nat.le_refl _, fun _ _ _ => rfl⟩⟩
  · refine Calls.mono (Any.slices_Compact_int Try.l20 r 0 cap l w (NewZ.holds hh hc) (by omega) hn) ?_
    rintro e w' ⟨rfl, q, rfl⟩
    have hw : Whole (putRow (Value.int .i64) (Sort.ahead w q) r 0 (Lib.compact l ++ List.replicate (l.length - (Lib.compact l).length) 0).toArray) r 3 (putCells (Value.int .i64) 0 (Lib.compact l ++ List.replicate (l.length - (Lib.compact l).length) 0).toArray cur) := by
      unfold Whole at hh ⊢
      simp [putRow, mapBlock, Sort.ahead, Array.getElem?_modify, hh, onCells]
    refine ⟨_, rfl, NewZ.mk' hb hw (by omega) hm (by simp [putCells, hs]) (fun j hj => ?_), ⟨rfl, rfl, rfl, by simp [putRow, mapBlock, Sort.ahead], fun k hk hne => ?_⟩⟩
    · have hj2 : j < cur.size := by omega
      have hj3 : j < (Lib.compact l).length + (l.length - (Lib.compact l).length) := by omega
      simp [putCells, hj2, hj, hj3]
    · have : r ≠ k := fun e => hne (by simp [Value.ownBlock, e])
      simp [putRow, mapBlock, Sort.ahead, Array.getElem?_modify, this]
end
theorem norm_compact (l : List Int) : Lib.compact (BG.row l) = BG.norm l := rfl

/-- The contract of graph's Reach. -/
theorem reach_any {w : World} {A B : Option Addr} {n m c d : Nat} {rs : List Int} {es : List (Int × Int)} (h : ZS w A n rs) (he : ES w B m es) (hr : ZI rs) (hi : EI es) (hn : n ≤ 1000) (hm : m ≤ 1000) :
    Calls Try.prog 15 #[.slice A n c, .slice B m d] w fun e w' => ∃ v, e = .returned v ∧ NewZ w.heap.size w' v (GM.rch es rs) ∧ Below w.heap.size w w' := by
  have hl : (GM.ord es rs).length ≤ 2000 := by have := GM.ord_len es rs; have := h.len; have := he.len; omega
  have HC := Lib.hid (order_any (c := c) (d := d) h he hr hi hn hm)
  clear h he hr hi
  go_enter Try.func15, Try.ntmps15
  go_wp2_with fail
  refine HC.out.mono ?_
  rintro e w1 ⟨v, rfl, hv, hb⟩
  have HV := Lib.hid hv
  have HB := Lib.hid hb
  have HS := Lib.hid (sort_any hv (by omega))
  clear HC hv hb
  go_wp2_with fail
  refine HS.out.mono ?_
  rintro e w2 ⟨rfl, hv2, hg⟩
  have HV2 := Lib.hid hv2
  have HG := Lib.hid hg
  clear HS hv2 hg
  go_wp2
  go_ret
  refine ⟨_, rfl, ?_, HB.out.grown HG.out HB.out.size fun j hj => (HV.out.own.lt j hj).1⟩
  rw [← GM.rch_row]
  exact HV2.out
end Go.Proofs.Ytmmclccghlmfmaa
