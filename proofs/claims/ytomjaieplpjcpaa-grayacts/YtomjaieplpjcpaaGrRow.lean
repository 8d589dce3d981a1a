/- Words for rows of numbers and of edges: those that came in, or lie anywhere, and those of a call's own. -/
import Derived.Test.YtomjaieplpjcpaaGrM
import Derived.Test.YtomjaieplpjcpaaBgRow
import Derived.Maps.AppendAt
namespace Go.Proofs.Ytomjaieplpjcpaa
open Go.RowKit Go.Lib Go.Sort

theorem infoZ : (Try.prog.info? 3).map (fun i => (i.zero, i.size, i.bytes)) = some (some (.int .i64 0), 1, 8) := by kernel_rfl
theorem infoF : (Try.prog.info? 48).map (fun i => (i.zero, i.size, i.bytes)) = some (some (.agg #[.int .i64 0, .int .i64 0]), 2, 16) := by kernel_rfl
theorem I64.wf {x : Int} (h : I64 x) : (Lit.int .i64 x).wf = true := WalkArith.wf_i64 (by unfold I64 at h; omega)
theorem I64.nat {i : Nat} (h : i ≤ 1000000) : I64 (i : Int) := by unfold I64; omega

/-- A slice that reads as these numbers, its memory anywhere. -/
def ZS (w : World) (A : Option Addr) (n : Nat) (xs : List Int) : Prop :=
  xs.length = n ∧ (0 < n → ∃ b off, A = some ⟨b, off, none⟩ ∧ b < w.heap.size ∧ ∀ j, (h : j < xs.length) → w.cell? ⟨b, off + j, none⟩ = some (.int .i64 xs[j]))
section
variable {w w' : World} {A : Option Addr} {n : Nat} {xs : List Int}
theorem ZS.len (h : ZS w A n xs) : xs.length = n := h.1
theorem ZS.below (h : ZS w A n xs) (hb : Below w.heap.size w w') : ZS w' A n xs := by
  refine ⟨h.1, fun hn => ?_⟩
  obtain ⟨b, off, e, hlt, hc⟩ := h.2 hn
  exact ⟨b, off, e, Nat.lt_of_lt_of_le hlt hb.size, fun j hj => (hb.cell (p := ⟨b, _, none⟩) hlt).trans (hc j hj)⟩
theorem ZS.at_ (h : ZS w A n xs) {k : Nat} (hk : k < n) : ∃ b off, A = some ⟨b, off, none⟩ ∧ b < w.heap.size ∧ w.cell? ⟨b, off + k, none⟩ = some (.int .i64 (xs[k]'(by rw [h.1]; exact hk))) := by
  obtain ⟨b, off, e, hlt, hc⟩ := h.2 (by omega)
  exact ⟨b, off, e, hlt, hc k _⟩
theorem ZS.take (h : ZS w A n xs) {k : Nat} (hk : k ≤ n) : ZS w A k (xs.take k) := by
  refine ⟨by rw [List.length_take, h.1]; omega, fun h0 => ?_⟩
  obtain ⟨b, off, e, hlt, hc⟩ := h.2 (by omega)
  exact ⟨b, off, e, hlt, fun j hj => by rw [hc j (by rw [List.length_take] at hj; omega), List.getElem_take]⟩
theorem ZS.nil (w : World) (A : Option Addr) : ZS w A 0 [] := ⟨rfl, fun h => absurd h (by omega)⟩
end

/-- A slice that reads as these edges, its memory anywhere. -/
def ES (w : World) (A : Option Addr) (n : Nat) (es : List (Int × Int)) : Prop :=
  es.length = n ∧ (0 < n → ∃ b off, A = some ⟨b, off, none⟩ ∧ b < w.heap.size ∧ ∀ j, (h : j < es.length) → w.cell? ⟨b, off + j * 2, none⟩ = some (.int .i64 es[j].1) ∧ w.cell? ⟨b, off + j * 2 + 1, none⟩ = some (.int .i64 es[j].2))
section
variable {w w' : World} {A : Option Addr} {n : Nat} {es : List (Int × Int)}
theorem ES.len (h : ES w A n es) : es.length = n := h.1
theorem ES.below (h : ES w A n es) (hb : Below w.heap.size w w') : ES w' A n es := by
  refine ⟨h.1, fun hn => ?_⟩
  obtain ⟨b, off, e, hlt, hc⟩ := h.2 hn
  exact ⟨b, off, e, Nat.lt_of_lt_of_le hlt hb.size, fun j hj => ⟨(hb.cell (p := ⟨b, _, none⟩) hlt).trans (hc j hj).1, (hb.cell (p := ⟨b, _, none⟩) hlt).trans (hc j hj).2⟩⟩
theorem ES.at_ (h : ES w A n es) {k : Nat} (hk : k < n) : ∃ b off, A = some ⟨b, off, none⟩ ∧ b < w.heap.size ∧ w.cell? ⟨b, off + k * 2, none⟩ = some (.int .i64 (es[k]'(by rw [h.1]; exact hk)).1) ∧ w.cell? ⟨b, off + k * 2 + 1, none⟩ = some (.int .i64 (es[k]'(by rw [h.1]; exact hk)).2) := by
  obtain ⟨b, off, e, hlt, hc⟩ := h.2 (by omega)
  exact ⟨b, off, e, hlt, hc k _⟩
theorem ES.nil (w : World) (A : Option Addr) : ES w A 0 [] := ⟨rfl, fun h => absurd h (by omega)⟩
end

/-- A row of numbers, its memory from block base on. -/
def NewZ (base : Nat) (w : World) (v : Value) (l : List Int) : Prop := w.ownsRow base 3 1 v l.length (l.map (Value.int .i64))
section
variable {w w' : World} {base b : Nat} {v : Value} {l : List Int} {S : List Nat}
theorem NewZ.own (h : NewZ base w v l) : w.ownsRow base 3 1 v l.length (l.map (Value.int .i64)) := h
theorem NewZ.nil (base : Nat) (w : World) : NewZ base w (.slice none 0 0) [] := World.ownsRow_nil _ _ _ _
theorem NewZ.keep (h : NewZ base w v l) (e : ∀ g, v.ownBlock = some g → base ≤ g → (∃ cs, Whole w g 3 cs) → w'.heap[g]? = w.heap[g]?) : NewZ base w' v l := by
  rcases h with ⟨h1, h2⟩
  refine ⟨h1, ?_⟩
  rcases h2 with h2 | ⟨g, cap, cur, rfl, hg, hh, r⟩
  · exact .inl h2
  · exact .inr ⟨g, cap, cur, rfl, hg, (e g rfl hg ⟨cur, hh⟩).trans hh, r⟩
theorem NewZ.below (h : NewZ base w v l) (k : Below w.heap.size w w') : NewZ base w' v l := h.keep fun g _ _ ⟨_, hg⟩ => k.block g hg.lt
theorem NewZ.drewN (h : NewZ base w v l) (m : Nat) : NewZ base (w.drewN m) v l := h.keep fun _ _ _ _ => rfl
theorem NewZ.alloc (h : NewZ base w v l) (o : Obj) : NewZ base (w.alloc o) v l := h.keep fun g _ _ ⟨_, hg⟩ => Below.heap_alloc w o g hg.lt
theorem NewZ.far (h : NewZ base w v l) (k : Aft S w w') (hS : ∀ s ∈ S, s < base) : NewZ base w' v l := h.keep fun g _ hg ⟨_, hw⟩ =>
  k.block g hw.lt fun hs => by have := hS g hs; omega
/-- A block in the row's own part is written that isn't the row's. -/
theorem NewZ.aft (h : NewZ base w v l) (k : Aft S w w') (hS : ∀ g, v.ownBlock = some g → g ∉ S) : NewZ base w' v l := h.keep fun g hv _ ⟨_, hw⟩ => k.block g hw.lt (hS g hv)
theorem NewZ.less (h : NewZ base w v l) {base' : Nat} (hb : base' ≤ base) : NewZ base' w v l := World.ownsRow.mono h hb
theorem NewZ.slice (h : NewZ base w v l) : ∃ A c, v = .slice A l.length c ∧ l.length ≤ c := by
  rcases h.2 with ⟨rfl, h0⟩ | ⟨g, cap, cur, rfl, _, _, hn, _⟩
  · exact ⟨none, 0, by rw [h0], by omega⟩
  · exact ⟨_, cap, rfl, hn⟩
theorem NewZ.cell (h : NewZ base w v l) {k : Nat} (hk : k < l.length) : ∃ g cap, v = .slice (some ⟨g, 0, none⟩) l.length cap ∧ base ≤ g ∧ g < w.heap.size ∧ w.cell? ⟨g, k, none⟩ = some (.int .i64 l[k]) := by
  rcases h.2 with ⟨rfl, h0⟩ | ⟨g, cap, cur, rfl, hg, hh, hn, hm, hs, ht⟩
  · omega
  · refine ⟨g, cap, rfl, hg, (Array.getElem?_eq_some_iff.1 hh).1, ?_⟩
    have hc : cur[k]? = (l.map (Value.int .i64))[k]? := by
      rw [← ht, List.getElem?_take, if_pos (by omega)]
      simp
    simp [World.cell?, hh, hc, hk]
theorem NewZ.zs {A : Option Addr} {n c : Nat} (h : NewZ base w (.slice A n c) l) : ZS w A n l := by
  obtain ⟨A', c', e, _⟩ := h.slice
  injection e with e1 e2 e3
  subst e1 e2
  refine ⟨rfl, fun hn => ?_⟩
  obtain ⟨g, cap, e, _, hg, _⟩ := h.cell hn
  injection e with e1 _ _
  subst e1
  refine ⟨g, 0, rfl, hg, fun j hj => ?_⟩
  obtain ⟨g', cap', e', _, _, hc⟩ := h.cell hj
  injection e' with e1 _ _
  injection e1 with e1
  injection e1 with e1
  subst e1
  rw [Nat.zero_add]
  exact hc
theorem NewZ.snoc {x : Int} (h : w.ownsRow base 3 1 v (l.length + 1) (l.map (Value.int .i64) ++ [.int .i64 x])) : NewZ base w v (l ++ [x]) := by
  unfold NewZ
  rw [List.map_append, List.length_append]
  exact h
/-- As a row whose block is told. -/
theorem NewZ.row (h : NewZ base w v l) : ∃ r, Row 3 (Value.int .i64) w r v l ∧ (l ≠ [] → base ≤ r) ∧ (v.ownBlock = none ∨ v.ownBlock = some r ∧ base ≤ r) := by
  rcases h.2 with ⟨rfl, h0⟩ | ⟨g, cap, cur, rfl, hg, hh, hn, hm, hs, ht⟩
  · have : l = [] := List.eq_nil_of_length_eq_zero h0
    subst this
    exact ⟨0, Row.nil _ _ _ _, fun h => absurd rfl h, .inl rfl⟩
  · exact ⟨g, Row.of_own (h.own) rfl (fun k e => by simp [Value.ownBlock] at e; omega), fun _ => hg, .inr ⟨rfl, hg⟩⟩
end

/-- The cells of a list of edges. -/
def flatE (l : List (Int × Int)) : List Value := l.flatMap fun x => [.int .i64 x.1, .int .i64 x.2]
theorem flatE_len (l : List (Int × Int)) : (flatE l).length = l.length * 2 := by
  induction l with
  | nil => rfl
  | cons x l ih => simp [flatE] at *; omega
theorem flatE_app (xs ys : List (Int × Int)) : flatE (xs ++ ys) = flatE xs ++ flatE ys := by simp [flatE]
theorem flatE_get : ∀ (l : List (Int × Int)) (j : Nat) (x : Int × Int), l[j]? = some x → (flatE l)[j * 2]? = some (.int .i64 x.1) ∧ (flatE l)[j * 2 + 1]? = some (.int .i64 x.2)
  | [], j, x, h => by simp at h
  | y :: l, 0, x, h => by
    simp at h
    subst h
    exact ⟨rfl, rfl⟩
  | y :: l, j + 1, x, h => by
    have ih := flatE_get l j x (by simpa using h)
    have e : flatE (y :: l) = .int .i64 y.1 :: .int .i64 y.2 :: flatE l := rfl
    rw [e, show (j + 1) * 2 = j * 2 + 1 + 1 by omega]
    exact ⟨ih.1, ih.2⟩
theorem flatE_one : ∀ (l : List (Int × Int)) (v : Value), v ∈ flatE l → v.oneCell' = true := by
  intro l v h
  obtain ⟨x, _, h⟩ := List.mem_flatMap.1 h
  simp at h
  rcases h with rfl | rfl <;> rfl

/-- A row of edges, of element type T, its memory from block base on. -/
def NewE (T : TypeId) (base : Nat) (w : World) (v : Value) (l : List (Int × Int)) : Prop := w.ownsRow base T 2 v l.length (flatE l)
section
variable {T : TypeId} {w w' : World} {base b : Nat} {v : Value} {l : List (Int × Int)} {S : List Nat}
theorem NewE.own (h : NewE T base w v l) : w.ownsRow base T 2 v l.length (flatE l) := h
theorem NewE.nil (T : TypeId) (base : Nat) (w : World) : NewE T base w (.slice none 0 0) [] := World.ownsRow_nil _ _ _ _
theorem NewE.keep (h : NewE T base w v l) (e : ∀ g, v.ownBlock = some g → base ≤ g → (∃ cs, Whole w g T cs) → w'.heap[g]? = w.heap[g]?) : NewE T base w' v l := by
  rcases h with ⟨h1, h2⟩
  refine ⟨h1, ?_⟩
  rcases h2 with h2 | ⟨g, cap, cur, rfl, hg, hh, r⟩
  · exact .inl h2
  · exact .inr ⟨g, cap, cur, rfl, hg, (e g rfl hg ⟨cur, hh⟩).trans hh, r⟩
theorem NewE.below (h : NewE T base w v l) (k : Below w.heap.size w w') : NewE T base w' v l := h.keep fun g _ _ ⟨_, hg⟩ => k.block g hg.lt
theorem NewE.drewN (h : NewE T base w v l) (m : Nat) : NewE T base (w.drewN m) v l := h.keep fun _ _ _ _ => rfl
theorem NewE.alloc (h : NewE T base w v l) (o : Obj) : NewE T base (w.alloc o) v l := h.keep fun g _ _ ⟨_, hg⟩ => Below.heap_alloc w o g hg.lt
theorem NewE.less (h : NewE T base w v l) {base' : Nat} (hb : base' ≤ base) : NewE T base' w v l := World.ownsRow.mono h hb
theorem NewE.slice (h : NewE T base w v l) : ∃ A c, v = .slice A l.length c ∧ l.length ≤ c := by
  rcases h.2 with ⟨rfl, h0⟩ | ⟨g, cap, cur, rfl, _, _, hn, _⟩
  · exact ⟨none, 0, by rw [h0], by omega⟩
  · exact ⟨_, cap, rfl, hn⟩
theorem NewE.cell (h : NewE T base w v l) {k : Nat} (hk : k < l.length) : ∃ g cap, v = .slice (some ⟨g, 0, none⟩) l.length cap ∧ base ≤ g ∧ g < w.heap.size ∧ w.cell? ⟨g, k * 2, none⟩ = some (.int .i64 l[k].1) ∧ w.cell? ⟨g, k * 2 + 1, none⟩ = some (.int .i64 l[k].2) := by
  rcases h.2 with ⟨rfl, h0⟩ | ⟨g, cap, cur, rfl, hg, hh, hn, hm, hs, ht⟩
  · omega
  · have hq := flatE_get l k l[k] (List.getElem?_eq_getElem hk)
    have hc : ∀ q, q < l.length * 2 → cur[q]? = (flatE l)[q]? := fun q hq => by
      rw [← ht, List.getElem?_take, if_pos hq]
      simp
    refine ⟨g, cap, rfl, hg, (Array.getElem?_eq_some_iff.1 hh).1, ?_, ?_⟩
    · simp [World.cell?, hh, hc (k * 2) (by omega), hq.1]
    · simp [World.cell?, hh, hc (k * 2 + 1) (by omega), hq.2]
theorem NewE.es {A : Option Addr} {n c : Nat} (h : NewE T base w (.slice A n c) l) : ES w A n l := by
  obtain ⟨A', c', e, _⟩ := h.slice
  injection e with e1 e2 e3
  subst e1 e2
  refine ⟨rfl, fun hn => ?_⟩
  obtain ⟨g, cap, e, _, hg, _⟩ := h.cell hn
  injection e with e1 _ _
  subst e1
  refine ⟨g, 0, rfl, hg, fun j hj => ?_⟩
  obtain ⟨g', cap', e', _, _, hc⟩ := h.cell hj
  injection e' with e1 _ _
  injection e1 with e1
  injection e1 with e1
  subst e1
  rw [Nat.zero_add]
  exact hc
theorem NewE.more {ys : List (Int × Int)} {n : Nat} (hn : n = l.length + ys.length) (h : w.ownsRow base T 2 v n (flatE l ++ flatE ys)) : NewE T base w v (l ++ ys) := by
  unfold NewE
  rw [flatE_app, List.length_append, ← hn]
  exact h
end
end Go.Proofs.Ytomjaieplpjcpaa
