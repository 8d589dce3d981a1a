/- Contracts of the library's functions over a bag's row of numbers. -/
import Derived.Test.YtfmcgejoobbiiaaBgRow
import Derived.Test.YtfmcgejoobbiiaaBgShelf
import Derived.Test.YtfmcgejoobbiiaaBgShelf2
import Derived.Sort.OwnSortedInts
import Derived.Lib.RowBridge
namespace Go.Proofs.Ytfmcgejoobbiiaa
open Go.RowKit Go.Lib Go.Sort

theorem Aft.of_grown {S : List Nat} {w w' : World} {row : Option Nat} (h : w.grownBy w' row) (hr : ∀ k, row = some k → k ∈ S) : Aft S w w' :=
  ⟨h.os, h.tape, h.output, h.size, fun k hk hs => h.block k hk (fun e => hs (hr k e.symm))⟩

section
variable {T : TypeId} {enc : Int → Value} {w : World} {r : Nat} {v : Value} {l : List Int}
theorem Row.holds {cur : Array Value} (hh : Whole w r T cur) (hc : ∀ j, j < l.length → cur[j]? = (l.map enc)[j]?) : Holds enc w r 0 l.toArray := by
  intro j hj
  have hj' : j < l.length := by simpa using hj
  refine ⟨?_, hh.free _⟩
  rw [Nat.zero_add, hh.cell, hc j hj', List.getElem?_map, List.getElem?_eq_getElem hj', BG.get_arr l j hj']
  rfl
end

theorem search_any (r : Nat) (v : Value) (l : List Int) (x : Int) (w : World) (h : Row 3 (Value.int .i64) w r v l) (hu : BG.Rises l) (hl : l.length ≤ 1000000) :
    Calls Try.prog 37 #[v, .int .i64 x] w fun e w' => e = .returned (.tuple #[.int .i64 (BG.pos l x : Nat), .bool (decide (x ∈ l))]) ∧ ∃ q, w' = w.drewN q := by
  rcases h.form with ⟨rfl, rfl⟩ | ⟨cap, cur, rfl, hh, hn, hm, hs, hc⟩
  · refine Calls.mono (Any.slices_BinarySearch_int_empty Try.l25 none 0 x w) ?_
    rintro e w' ⟨rfl, rfl⟩
    exact ⟨rfl, 0, rfl⟩
  · have hcon := Any.slices_BinarySearch_int Try.l25 r 0 l.length cap l x w (Nat.le_refl _) (by omega) (fun j hj => by
      rw [Nat.zero_add, hh.cell, hc j hj, List.getElem?_map, List.getD_eq_getElem?_getD, List.getElem?_eq_getElem hj]; rfl) (by rw [List.take_length]; exact hu.imp fun hh => by omega)
    rw [List.take_length] at hcon
    refine Calls.mono hcon ?_
    rintro e w' ⟨he, hq⟩
    refine ⟨?_, hq⟩
    rw [he]
    simp [BG.pos]

/-- A slice that reads as these numbers, its memory anywhere. -/
def Reads (enc : Int → Value) (w : World) (A : Option Addr) (n : Nat) (xs : List Int) : Prop :=
  xs.length = n ∧ (0 < n → ∃ b off, A = some ⟨b, off, none⟩ ∧ b < w.heap.size ∧ ∀ j, (h : j < xs.length) → w.cell? ⟨b, off + j, none⟩ = some (enc xs[j]))
theorem Row.reads {T : TypeId} {enc : Int → Value} {w : World} {r : Nat} {A : Option Addr} {n c : Nat} {l : List Int} (h : Row T enc w r (.slice A n c) l) : Reads enc w A n l := by
  rcases h.form with ⟨e, rfl⟩ | ⟨cap, cur, e, hh, hn, hm, hs, hc⟩
  · injection e with e1 e2 e3
    subst e1 e2
    exact ⟨rfl, fun h => absurd h (by omega)⟩
  · injection e with e1 e2 e3
    subst e1 e2
    exact ⟨rfl, fun _ => ⟨r, 0, rfl, hh.lt, fun j hj => by rw [Nat.zero_add, hh.cell, hc j hj, List.getElem?_map, List.getElem?_eq_getElem hj]; rfl⟩⟩
theorem Reads.below {enc : Int → Value} {w w' : World} {A : Option Addr} {n : Nat} {xs : List Int} (h : Reads enc w A n xs) (hb : Below w.heap.size w w') : Reads enc w' A n xs := by
  refine ⟨h.1, fun hn => ?_⟩
  obtain ⟨b, off, e, hlt, hc⟩ := h.2 hn
  exact ⟨b, off, e, Nat.lt_of_lt_of_le hlt hb.size, fun j hj => (hb.cell (p := ⟨b, _, none⟩) hlt).trans (hc j hj)⟩

theorem clone_any (A : Option Addr) (n c : Nat) (xs : List Int) (w : World) (h : Reads (Value.int .i64) w A n xs) (hl : n ≤ 1000000) :
    Calls Try.prog 40 #[.slice A n c] w fun e w' => ∃ v', e = .returned v' ∧ w'.ownsRow w.heap.size 3 1 v' n (xs.map (Value.int .i64)) ∧ Below w.heap.size w w' := by
  rcases Nat.eq_zero_or_pos n with h0 | hn
  · subst h0
    have hx : xs = [] := List.eq_nil_of_length_eq_zero h.1
    subst hx
    cases A with
    | none =>
      refine Calls.mono (Any.slices_Clone_int_nil Try.l15 0 c w) ?_
      rintro e w' ⟨rfl, rfl⟩
      exact ⟨_, rfl, World.ownsRow_nil _ _ _ _, Below.refl _ _⟩
    | some a =>
      refine Calls.mono (Any.slices_Clone_int_zero Try.l15 a c w) ?_
      rintro e w' ⟨v', rfl, h1, _, h2⟩
      exact ⟨_, rfl, h1, h2⟩
  · obtain ⟨b, off, rfl, hlt, hc⟩ := h.2 hn
    have e := h.1
    have hcon := Any.slices_Clone_int Try.l15 b off n c xs w (by omega) (by omega) (fun j hj => by
      rw [hc j hj, List.getD_eq_getElem?_getD, List.getElem?_eq_getElem hj]; rfl)
    rw [List.take_of_length_le (by omega)] at hcon
    refine Calls.mono hcon ?_
    rintro e w' ⟨v', rfl, h1, _, h2⟩
    exact ⟨_, rfl, h1, h2⟩

theorem sort_any (r : Nat) (v : Value) (l : List Int) (w : World) (h : Row 3 (Value.int .i64) w r v l) (hl : l.length ≤ 1000000) :
    Calls Try.prog 49 #[v] w fun e w' => e = .returned (.tuple #[]) ∧ Row 3 (Value.int .i64) w' r v (BG.row l) ∧ Aft [r] w w' := by
  rcases h.form with ⟨rfl, rfl⟩ | ⟨cap, cur, rfl, hh, hn, hm, hs, hc⟩
  · refine Calls.mono (Any.slices_Sort_int_none Try.l189 none 0 w) ?_
    rintro e w' ⟨rfl, rfl⟩
    exact ⟨rfl, by simpa [BG.row] using h, Aft.refl _ _⟩
  · refine Calls.mono (Any.slices_Sort_int Try.l189 r 0 cap l w (Row.holds hh hc) hh.lt (by omega)) ?_
    rintro e w' ⟨rfl, n, os, rfl⟩
    refine ⟨rfl, ?_, Aft.of_grown (grownBy_sortedI _) (by intro k e; injection e with e; simp [e])⟩
    have ho := ownsRow_sortedI (w := w) (base := 0) (g := r) (cap := cap) (n := n) (e := 3) (os := os) (cur := cur) (ss := l) (ts := BG.row l) (BG.row_len l) (Nat.zero_le _) hh hn hm (by omega)
    exact Row.of_own ho rfl (fun k e => by simp [Value.ownBlock] at e; omega)

/-- What is inserted at place i. -/
def insAt (l : List Int) (i : Nat) (x : Int) : List Int := l.take i ++ x :: l.drop i
theorem insAt_len (l : List Int) (i : Nat) (x : Int) (hi : i ≤ l.length) : (insAt l i x).length = l.length + 1 := by
  simp [insAt, List.length_take, List.length_drop]; omega
theorem insAt_get (enc : Int → Value) (l : List Int) (i : Nat) (x : Int) (hi : i ≤ l.length) (j : Nat) : ((insAt l i x).map enc)[j]? = if j < i then (l.map enc)[j]? else if j = i then some (enc x) else (l.map enc)[j - 1]? := by
  unfold insAt
  rw [List.map_append, List.map_cons, List.map_take, List.map_drop]
  by_cases h1 : j < i
  · rw [if_pos h1, List.getElem?_append_left (by simp; omega), List.getElem?_take, if_pos h1]
  · rw [if_neg h1, List.getElem?_append_right (by simp; omega)]
    have hlen : (List.take i (l.map enc)).length = i := by simp; omega
    rw [hlen]
    by_cases h2 : j = i
    · rw [if_pos h2, h2, Nat.sub_self]; rfl
    · rw [if_neg h2]
      obtain ⟨d, hd⟩ : ∃ d, j - i = d + 1 := ⟨j - i - 1, by omega⟩
      rw [hd, List.getElem?_cons_succ, List.getElem?_drop]
      congr 1
      omega
theorem oneI (l : List Int) : ∀ u ∈ l.map (Value.int .i64), u.oneCell' = true := by
  intro u hu
  obtain ⟨x, _, rfl⟩ := List.mem_map.1 hu
  rfl
theorem Row.put_at {T : TypeId} {enc : Int → Value} {w : World} {r cap n i : Nat} {cur : Array Value} {l : List Int} {x : Int} (hh : Whole w r T cur) (hm : cap ≤ maxLen) (hs : cur.size = cap) (hi : i ≤ l.length) (hn : n = l.length + 1) (hroom : n ≤ cap)
    (hc : ∀ j, j < n → cur[j]? = if j < i then (l.map enc)[j]? else if j = i then some (enc x) else (l.map enc)[j - 1]?) : Row T enc w r (.slice (some ⟨r, 0, none⟩) n cap) (insAt l i x) := by
  have hlen := insAt_len l i x hi
  rw [hn, ← hlen]
  exact Row.mk' hh (by omega) hm hs (fun j hj => by rw [hc j (by omega), insAt_get enc l i x hi])

/-- What slices.Insert leaves: the row with the thing, in its block or in a new one. -/
def InsPost (T : TypeId) (enc : Int → Value) (r : Nat) (l : List Int) (w : World) (e : Ending) (w' : World) : Prop :=
  ∃ r' v', e = .returned v' ∧ Row T enc w' r' v' l ∧ (r' = r ∨ w.heap.size ≤ r') ∧ r' < w'.heap.size ∧ Aft [r] w w'

set_option maxHeartbeats 1000000 in
theorem insert_any (r vb : Nat) (v : Value) (l : List Int) (i : Nat) (x : Int) (w : World) (h : Row 3 (Value.int .i64) w r v l) (hl : l.length ≤ 1000000) (hi : i ≤ l.length) (hv : Whole w vb 3 #[.int .i64 x]) (hne : vb ≠ r) :
    Calls Try.prog 38 #[v, .int .i64 (i : Nat), .slice (some ⟨vb, 0, none⟩) 1 1] w (InsPost 3 (Value.int .i64) r (insAt l i x) w) := by
  have hvs : ∀ j u, [Value.int .i64 x][j]? = some u → w.cell? ⟨vb, 0 + j, none⟩ = some u := by
    intro j u hj
    rw [Nat.zero_add, hv.cell]
    simpa using hj
  have h1v : ∀ u ∈ [Value.int .i64 x], u.oneCell' = true := by intro u hu; simp at hu; subst hu; rfl
  rcases h.form with ⟨rfl, rfl⟩ | ⟨cap, cur, rfl, hh, hn, hm, hs, hc⟩
  · obtain rfl : i = 0 := by simpa using hi
    refine Calls.mono (Any2.slices_Insert_int_end_grow Try.l21 none 0 0 vb 0 1 1 [] [.int .i64 x] w (by decide) (by decide) (by decide) (by decide) rfl rfl (fun _ => rfl) (fun a e => by cases e) hvs h1v) ?_
    rintro e w' ⟨rfl, rfl⟩
    have g1 := grownCap_ge w (0 + 1) 0 (Try.l21_ren.t 3)
    have g2 := grownCap_le_maxLen w (0 + 1) 0 (Try.l21_ren.t 3) (by decide)
    generalize grownCap w (0 + 1) 0 (Try.l21_ren.t 3) = C at g1 g2
    refine ⟨w.heap.size, _, rfl, ?_, .inr (Nat.le_refl _), (Whole.fresh w.drew _ _).lt, ((Aft.refl _ w).drew).alloc _⟩
    exact Row.put_at (l := []) (i := 0) (x := x) (Whole.fresh w.drew _ _) g2 (by simp [Builtin.zeroCells, Value.cells]; omega) (Nat.le_refl _) rfl g1 (fun j hj => by
      obtain rfl : j = 0 := by omega
      rw [Array.getElem?_append_left (by simp)]
      rfl)
  · have hcs : ∀ j u, (l.map (Value.int .i64))[j]? = some u → w.cell? ⟨r, 0 + j, none⟩ = some u := by
      intro j u hj
      have hjl : j < l.length := by have := (List.getElem?_eq_some_iff.1 hj).1; simpa using this
      rw [Nat.zero_add, hh.cell, hc j hjl, hj]
    have hsome : ∀ j, j < cap → (w.cell? ⟨r, 0 + j, none⟩).isSome = true := by
      intro j hj
      rw [Nat.zero_add, hh.cell]
      simp [hs, hj]
    have hm' : cap ≤ 9223372036854775807 := by unfold maxLen at hm; omega
    have hcl : (l.map (Value.int .i64)).length = l.length := by simp
    by_cases hroom : l.length + 1 ≤ cap
    · by_cases hin : i < l.length
      · refine Calls.mono (Any2.slices_Insert_int_shift Try.l21 r 0 l.length cap i vb 0 1 1 (l.map (Value.int .i64)) [.int .i64 x] w hin (by decide) hroom hm' hne hcl rfl hcs (fun j hj => hsome j (by omega)) (fun j _ => hh.free _) hvs (oneI l) h1v
          3 3 1 cap (by unfold Whole at hv; simp [World.shape?, hv]) (by unfold Whole at hh; simp [World.shape?, hh, hs]) (by omega) (hv.free _) (hv.free _)) ?_
        rintro e w' ⟨rfl, rfl⟩
        refine ⟨r, _, rfl, ?_, .inl rfl, ?_, (((Aft.refl _ w).drew).setCells (by simp) _ _).setCells (by simp) _ _⟩
        · have hw := ((hh.drew).setCells ((l.map (Value.int .i64)).drop i) (0 + (i + 1))).setCells [Value.int .i64 x] (0 + i)
          refine Row.put_at hw hm (by rw [lay_size, lay_size, hs]) (by omega) rfl hroom (fun j hj => ?_)
          rw [lay_get? _ _ _ _ (by rw [lay_size]; simp; omega), lay_get? _ _ _ _ (by simp; omega)]
          simp only [List.length_cons, List.length_nil, List.length_drop, List.length_map]
          by_cases j1 : j < i
          · rw [if_neg (by omega), if_neg (by omega), if_pos j1, hc j (by omega)]
          · by_cases j2 : j = i
            · rw [if_pos (by omega), if_neg j1, if_pos j2, show j - (0 + i) = 0 by omega]
              rfl
            · rw [if_neg (by omega), if_pos (by omega), if_neg j1, if_neg j2, List.getElem?_drop]
              congr 1
              omega
        · have := ((((Aft.refl [r] w).drew).setCells (c := r) (by simp) (0 + (i + 1)) ((l.map (Value.int .i64)).drop i)).setCells (c := r) (by simp) (0 + i) [Value.int .i64 x]).size
          exact Nat.lt_of_lt_of_le hh.lt this
      · obtain rfl : i = l.length := by omega
        refine Calls.mono (Any2.slices_Insert_int_end_room Try.l21 r 0 l.length cap vb 0 1 1 [.int .i64 x] w (by decide) hroom hm' rfl (fun j hj => by have := hsome (l.length + j) (by omega); rwa [show 0 + (l.length + j) = 0 + l.length + j by omega] at this) (fun j _ => hh.free _) hvs h1v) ?_
        rintro e w' ⟨rfl, rfl⟩
        refine ⟨r, _, rfl, ?_, .inl rfl, ?_, (Aft.refl _ w).setCells (by simp) _ _⟩
        · have hw := hh.setCells [Value.int .i64 x] (0 + l.length)
          refine Row.put_at hw hm (by rw [lay_size, hs]) (Nat.le_refl _) rfl hroom (fun j hj => ?_)
          rw [lay_get? _ _ _ _ (by simp; omega)]
          simp only [List.length_cons, List.length_nil]
          by_cases j1 : j < l.length
          · rw [if_neg (by omega), if_pos j1, hc j j1]
          · obtain rfl : j = l.length := by omega
            rw [if_pos (by omega), if_neg j1, if_pos rfl, show l.length - (0 + l.length) = 0 by omega]
            rfl
        · have := ((Aft.refl [r] w).setCells (c := r) (by simp) (0 + l.length) [Value.int .i64 x]).size
          exact Nat.lt_of_lt_of_le hh.lt this
    · by_cases hin : i < l.length
      · refine Calls.mono (Any2.slices_Insert_int_grow Try.l21 r 0 l.length cap i vb 0 1 1 (l.map (Value.int .i64)) [.int .i64 x] w hin (by decide) hn (by omega) (by omega) hcl rfl hcs hvs (oneI l) h1v) ?_
        rintro e w' ⟨rfl, rfl⟩
        have g1 := grownCap_ge w (l.length + 1) cap (Try.l21_ren.t 3)
        have g2 := grownCap_le_maxLen w (l.length + 1) cap (Try.l21_ren.t 3) (by unfold maxLen; omega)
        generalize grownCap w (l.length + 1) cap (Try.l21_ren.t 3) = C at g1 g2
        have hw := (((Whole.fresh w (Try.l21_ren.t 3) (((l.map (Value.int .i64)).take i).toArray ++ Builtin.zeroCells (Value.int .i64 0).cells (l.length + 1 - i) ++ Builtin.zeroCells (Value.int .i64 0).cells (C - (l.length + 1)))).drew.setCells [Value.int .i64 x] i).drew).setCells ((l.map (Value.int .i64)).drop i) (i + 1)
        have hsz : (((l.map (Value.int .i64)).take i).toArray ++ Builtin.zeroCells (Value.int .i64 0).cells (l.length + 1 - i) ++ Builtin.zeroCells (Value.int .i64 0).cells (C - (l.length + 1))).size = C := by
          simp [Builtin.zeroCells, Value.cells]
          omega
        have ha := ((((((Aft.refl [w.heap.size, r] w).alloc (.cells (((l.map (Value.int .i64)).take i).toArray ++ Builtin.zeroCells (Value.int .i64 0).cells (l.length + 1 - i) ++ Builtin.zeroCells (Value.int .i64 0).cells (C - (l.length + 1))) (Try.l21_ren.t 3))).drew).setCells (c := w.heap.size) (by simp) i [Value.int .i64 x]).drew).setCells (c := w.heap.size) (by simp) (i + 1) ((l.map (Value.int .i64)).drop i)).less (Nat.le_refl _)
        refine ⟨w.heap.size, _, rfl, ?_, .inr (Nat.le_refl _), hw.lt, ha⟩
        refine Row.put_at hw g2 (by rw [lay_size, lay_size, hsz]) (by omega) rfl g1 (fun j hj => ?_)
        rw [lay_get? _ _ _ _ (by rw [lay_size, hsz]; simp; omega), lay_get? _ _ _ _ (by rw [hsz]; simp; omega)]
        simp only [List.length_cons, List.length_nil, List.length_drop, List.length_map]
        by_cases j1 : j < i
        · rw [if_neg (by omega), if_neg (by omega), if_pos j1, Array.append_assoc, Array.getElem?_append_left (by simp; omega)]
          simp [j1]
        · by_cases j2 : j = i
          · rw [if_neg (by omega), if_pos (by omega), if_neg j1, if_pos j2, show j - i = 0 by omega]
            rfl
          · rw [if_pos (by omega), if_neg j1, if_neg j2, List.getElem?_drop]
            congr 1
            omega
      · obtain rfl : i = l.length := by omega
        refine Calls.mono (Any2.slices_Insert_int_end_grow Try.l21 (some ⟨r, 0, none⟩) l.length cap vb 0 1 1 (l.map (Value.int .i64)) [.int .i64 x] w (by decide) hn (by omega) (by omega) hcl rfl (fun e => by cases e) (fun a e j u hj => by
          injection e with e
          subst e
          rw [Addr.add_lit]
          exact hcs j u hj) hvs h1v) ?_
        rintro e w' ⟨rfl, rfl⟩
        have g1 := grownCap_ge w (l.length + 1) cap (Try.l21_ren.t 3)
        have g2 := grownCap_le_maxLen w (l.length + 1) cap (Try.l21_ren.t 3) (by unfold maxLen; omega)
        generalize grownCap w (l.length + 1) cap (Try.l21_ren.t 3) = C at g1 g2
        refine ⟨w.heap.size, _, rfl, ?_, .inr (Nat.le_refl _), (Whole.fresh w.drew _ _).lt, ((Aft.refl _ w).drew).alloc _⟩
        refine Row.put_at (Whole.fresh w.drew _ _) g2 (by simp [Builtin.zeroCells, Value.cells]; omega) (Nat.le_refl _) rfl g1 (fun j hj => ?_)
        rw [Array.getElem?_append_left (by simp; omega)]
        by_cases j1 : j < l.length
        · rw [if_pos j1]
          simp [List.getElem?_append_left, j1]
        · obtain rfl : j = l.length := by omega
          simp

theorem delete_any (r : Nat) (v : Value) (l : List Int) (i : Nat) (w : World) (h : Row 3 (Value.int .i64) w r v l) (hl : l.length ≤ 1000000) (hi : i < l.length) :
    Calls Try.prog 39 #[v, .int .i64 (i : Nat), .int .i64 ((i + 1 : Nat) : Int)] w fun e w' => ∃ v', e = .returned v' ∧ Row 3 (Value.int .i64) w' r v' (l.take i ++ l.drop (i + 1)) ∧ Aft [r] w w' := by
  rcases h.form with ⟨rfl, rfl⟩ | ⟨cap, cur, rfl, hh, hn, hm, hs, hc⟩
  · simp at hi
  · refine Calls.mono (Any.slices_Delete_int Try.l23 r 0 cap i (i + 1) l w (Row.holds hh hc) hn (by unfold maxLen at hm; omega) (by omega) (by omega)) ?_
    rintro e w' ⟨rfl, q, rfl⟩
    have hk : (l.take i ++ l.drop (i + 1)).length = l.length - (i + 1 - i) := by simp; omega
    have ho := ownsRow_putRow (enc := Value.int .i64) (q := q) (k := l.length - (i + 1 - i)) (ys := l.take i ++ l.drop (i + 1) ++ List.replicate (i + 1 - i) 0) h.own (by simp; omega) (by omega)
    have e2 : (l.take i ++ l.drop (i + 1) ++ List.replicate (i + 1 - i) 0).take (l.length - (i + 1 - i)) = l.take i ++ l.drop (i + 1) := by rw [← hk, List.take_left]
    rw [e2] at ho
    refine ⟨_, rfl, Row.of_own ho rfl (fun k e => by simp [Value.ownBlock] at e; omega), ?_⟩
    exact ⟨rfl, rfl, rfl, by simp [putRow, mapBlock, Sort.ahead], fun k hk hr => by
      have : r ≠ k := by simp at hr; omega
      simp [putRow, mapBlock, Sort.ahead, Array.getElem?_modify, this]⟩
end Go.Proofs.Ytfmcgejoobbiiaa
