/- Words for slices of ints whose memory lies between two blocks; an append of such a slice to a row of the call's own. -/
import Derived.Test.YteneadimchhhhaaDoorLyEnc2
import Derived.Maps.AppendAt
import Derived.Laws.AppendOwnNone
import Derived.WalkSmall
namespace Go.Proofs.YteneadimchhhhaaDoor
open Go.RowKit

theorem linfoInt : (Tryd.prog.info? 3).map (fun i => (i.zero, i.size, i.bytes)) = some (some (.int .i64 0), 1, 8) := by kernel_rfl

/-- Ints as values. -/
def ivals (xs : List Int) : List Value := xs.map fun x => Value.int .i64 x
theorem ivals_snoc (xs : List Int) (a : Int) : ivals (xs ++ [a]) = ivals xs ++ [.int .i64 a] := by simp [ivals]
theorem ivals_len (xs : List Int) : (ivals xs).length = xs.length := by simp [ivals]
theorem ivals_at {xs : List Int} {i : Nat} {u : Value} (h : (ivals xs)[i]? = some u) : ∃ x, xs[i]? = some x ∧ u = .int .i64 x := by
  simp only [ivals, List.getElem?_map, Option.map_eq_some_iff] at h
  obtain ⟨x, hx, rfl⟩ := h
  exact ⟨x, hx, rfl⟩

/-- The blocks from lo on and below hi are as they were. -/
def Kept (lo hi : Nat) (w w' : World) : Prop := ∀ g, lo ≤ g → g < hi → w'.heap[g]? = w.heap[g]?
theorem Kept.refl (lo hi : Nat) (w : World) : Kept lo hi w w := fun _ _ _ => rfl
theorem Kept.trans {lo hi : Nat} {a b c : World} (h : Kept lo hi a b) (k : Kept lo hi b c) : Kept lo hi a c := fun g h1 h2 => (k g h1 h2).trans (h g h1 h2)
theorem Kept.mono {lo hi lo' hi' : Nat} {a b : World} (h : Kept lo hi a b) (h1 : lo ≤ lo') (h2 : hi' ≤ hi) : Kept lo' hi' a b := fun g a b => h g (by omega) (by omega)
theorem Kept.of_below {B lo hi : Nat} {a b : World} (h : Below B a b) (hh : hi ≤ B) : Kept lo hi a b := fun g _ h2 => h.block g (by omega)
theorem Kept.setCell {lo hi : Nat} {a w : World} (h : Kept lo hi a w) {p : Addr} (hp : p.block < lo ∨ hi ≤ p.block) (u : Value) : Kept lo hi a (w.setCell p u) := fun g h1 h2 =>
  (Below.heap_setCell w p u g (by rintro rfl; omega)).trans (h g h1 h2)
theorem Kept.alloc {lo hi : Nat} {a w : World} (h : Kept lo hi a w) (hh : hi ≤ w.heap.size) (o : Obj) : Kept lo hi a (w.alloc o) := fun g h1 h2 => (Below.heap_alloc w o g (by omega)).trans (h g h1 h2)
theorem Kept.grown {lo hi : Nat} {a w w' : World} {row : Option Nat} (h : Kept lo hi a w) (hg : w.grownBy w' row) (hh : hi ≤ w.heap.size) (hr : ∀ k, row = some k → k < lo ∨ hi ≤ k) : Kept lo hi a w' := fun g h1 h2 =>
  (hg.block g (by omega) (fun e => by have := hr g e.symm; omega)).trans (h g h1 h2)

/-- A slice of ints that reads as the list xs, its memory from block lo on and below hi; a nil one has no room. -/
structure NI (w : World) (lo hi : Nat) (A : Option Addr) (n c : Nat) (xs : List Int) : Prop where
  ns : NS .i64 w hi A n xs
  low : ∀ a, A = some a → lo ≤ a.block
  nil : A = none → c = 0
theorem NI.kept {w w' : World} {lo hi n c : Nat} {A : Option Addr} {xs : List Int} (h : NI w lo hi A n c xs) (hk : Kept lo hi w w') : NI w' lo hi A n c xs := by
  refine ⟨⟨h.ns.1, h.ns.2.1, fun hn => ?_⟩, h.low, h.nil⟩
  obtain ⟨b, off, rfl, hlt, hc⟩ := h.ns.2.2 hn
  have hl := h.low _ rfl
  exact ⟨b, off, rfl, hlt, fun i x hi => (World.cell?_of_block (hk b hl hlt)).trans (hc i x hi)⟩
theorem NI.mono {w : World} {lo hi lo' hi' n c : Nat} {A : Option Addr} {xs : List Int} (h : NI w lo hi A n c xs) (h1 : lo' ≤ lo) (h2 : hi ≤ hi') : NI w lo' hi' A n c xs :=
  ⟨h.ns.more h2, fun a e => by have := h.low a e; omega, h.nil⟩
theorem NI.len {w : World} {lo hi n c : Nat} {A : Option Addr} {xs : List Int} (h : NI w lo hi A n c xs) : xs.length = n := h.ns.1

/-- A row of the call's own as a slice that reads. -/
theorem own_form {w : World} {base n : Nat} {e : TypeId} {v : Value} {xs : List Int} (h : w.ownsRow base e 1 v n (ivals xs)) (hx : ∀ x ∈ xs, (Lit.int .i64 x).wf = true) : ∃ A c, v = .slice A n c ∧ NI w base w.heap.size A n c xs := by
  have hl : xs.length = n := by have := h.1; rw [ivals_len] at this; omega
  rcases h.2 with ⟨rfl, h0⟩ | ⟨g, cap, cur, rfl, hg, hh, hn, hm, hs, ht⟩
  · subst h0
    exact ⟨none, 0, rfl, ⟨hl, hx, fun h => absurd h (by omega)⟩, fun a e => (by cases e), fun _ => rfl⟩
  · have hlt := (h.lt g rfl).2
    refine ⟨_, cap, rfl, ⟨hl, hx, fun _ => ⟨g, 0, rfl, hlt, fun i x hi => ?_⟩⟩, fun a e => (by cases e; exact hg), fun e => (by cases e)⟩
    have hi' : i < n := by have := (List.getElem?_eq_some_iff.1 hi).1; omega
    have hv : (ivals xs)[i]? = some (.int .i64 x) := by simp [ivals, hi]
    rw [← ht, List.getElem?_take, if_pos (by omega)] at hv
    rw [Nat.zero_add]
    simpa [World.cell?, hh] using hv

/-- An address leads into a block of ints. -/
def typedI (W : World) (A : Option Addr) : Prop := ∀ a, A = some a → ∃ cs fz, W.heap[a.block]? = some (.cells cs 3 fz)
theorem own_typed {w : World} {base n m c : Nat} {A : Option Addr} {xs : List Value} (h : w.ownsRow base 3 1 (.slice A m c) n xs) : typedI w A := by
  rintro a rfl
  rcases h.2 with ⟨e, _⟩ | ⟨g, cap, cur, e, _, hh, _⟩
  · cases e
  · injection e with e
    injection e with e
    subst e
    exact ⟨cur, (0, 0), hh⟩
theorem typedI.kept {w w' : World} {lo : Nat} {A : Option Addr} (h : typedI w A) (hlow : ∀ a, A = some a → lo ≤ a.block) (hk : Kept lo w.heap.size w w') : typedI w' A := fun a e => by
  obtain ⟨cs, fz, h1⟩ := h a e
  exact ⟨cs, fz, (hk a.block (hlow a e) (Array.getElem?_eq_some_iff.1 h1).1).trans h1⟩

section
variable {P : Program} (w : World)
theorem wpList_append_ni {ops : Array Oper} {rest : List Oper} {o : Oper} {a : Act} {Q : Exit → Act → World → Prop} (hgd : o.guard = none) (s x : Operand) (t : TypeId)
    (ho : o.op = .call { callee := .builtin .append, args := #[s, x], argTypes := #[t, t] })
    (base : Nat) (e : TypeId) (i : TypeInfo) (z : Value) (ht : P.underlying t = some (.slice e)) (hi : P.info? e = some i) (hz : i.zero = some z)
    (hsize : i.size = 1) (hby : i.bytes = 8) (hzs : z.cells.size = 1)
    (v : Value) (n : Nat) (xs : List Int) (hs : a.eval s = v) (hown : w.ownsRow base e 1 v n (ivals xs))
    (lo hi' : Nat) (A : Option Addr) (m c : Nat) (ys : List Int) (hx : a.eval x = .slice A m c) (hr : NI w lo hi' A m c ys)
    (h63 : n + m ≤ 1000000) (hbase : base ≤ w.heap.size)
    (h : ∀ v' w', w'.ownsRow base e 1 v' (n + m) (ivals (xs ++ ys)) → w.grownBy w' v.ownBlock → wpList P ops Q rest (a.put o.dst v') w') : wpList P ops Q (o :: rest) a w := by
  rcases A with _ | ad
  · obtain rfl := hr.nil rfl
    have hm : m = 0 := by
      rcases Nat.eq_zero_or_pos m with h0 | h0
      · exact h0
      · obtain ⟨b, off, e, _⟩ := hr.ns.2.2 h0
        cases e
    subst hm
    have hy : ys = [] := List.eq_nil_of_length_eq_zero hr.ns.1
    subst hy
    refine wpList_append_own_none hgd s x t ho base e i 1 ht hi v n (ivals xs) hs hown hx ?_
    exact h v w (by simpa using hown) (World.grownBy.refl w _)
  · refine wpList_append_own_at w hgd s x t ho base e i z 1 8 ht hi hz hsize hby hzs (by decide) v n (ivals xs) hs hown ad m c (ivals ys) hx (by rw [ivals_len, hr.ns.1]; omega) ?_ ?_ (by unfold maxLen; omega) (by omega) hbase ?_
    · intro j u hu
      obtain ⟨y, hy, rfl⟩ := ivals_at hu
      have hj : j < m := by have := (List.getElem?_eq_some_iff.1 hy).1; have := hr.ns.1; omega
      obtain ⟨b, off, e, hlt, hc⟩ := hr.ns.2.2 (by omega)
      injection e with e
      subst e
      have := hc j y hy
      unfold Addr.add
      by_cases h0 : j = 0
      · subst h0; simpa using this
      · simpa [h0] using this
    · intro u hu
      obtain ⟨y, _, rfl⟩ := List.mem_map.1 hu
      rfl
    · intro v' w' h1 h2 _ _
      refine h v' w' ?_ h2
      have : ivals (xs ++ ys) = ivals xs ++ ivals ys := by simp [ivals]
      rw [this]
      exact h1
end
end Go.Proofs.YteneadimchhhhaaDoor
