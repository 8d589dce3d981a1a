/- Contracts of All and Same of the document's answers; slices of places. -/
import Derived.Test.YteencfldehcbbaaDoorBmRef
import Derived.Maps.AppendAt
import Derived.Deep.QuietTactic
import Derived.BigQuiet
import Derived.WalkSmall
namespace Go.Proofs.YteencfldehcbbaaDoor
open Go.RowKit

theorem infoInt : (Tryd.prog.info? 3).map (fun i => (i.zero, i.size, i.bytes)) = some (some (.int .i64 0), 1, 8) := by kernel_rfl

/-- Places as values. -/
def vals (xs : List Nat) : List Value := xs.map fun x => Value.int .i64 (x : Nat)
theorem vals_snoc (xs : List Nat) (a : Nat) : vals (xs ++ [a]) = vals xs ++ [.int .i64 (a : Nat)] := by simp [vals]
theorem vals_len (xs : List Nat) : (vals xs).length = xs.length := by simp [vals]

/-- A slice that reads as these places. -/
def IS (w : World) (v : Value) (xs : List Nat) : Prop :=
  ∃ A c, v = .slice A xs.length c ∧ ∀ i x, xs[i]? = some x → ∃ g off, A = some ⟨g, off, none⟩ ∧ w.cell? ⟨g, off + i, none⟩ = some (.int .i64 (x : Nat))
theorem IS.of_owns {w : World} {base : Nat} {e : TypeId} {v : Value} {xs : List Nat} (h : w.ownsRow base e 1 v xs.length (vals xs)) : IS w v xs := by
  obtain ⟨h1, h2⟩ := h
  rcases h2 with ⟨rfl, h0⟩ | ⟨g, cap, cur, rfl, hg, hh, hn, hm, hs, ht⟩
  · have : xs = [] := List.length_eq_zero_iff.1 h0
    subst this
    exact ⟨none, 0, rfl, fun i x h => by simp at h⟩
  · refine ⟨_, cap, rfl, fun i x hx => ⟨g, 0, rfl, ?_⟩⟩
    have hi : i < xs.length := (List.getElem?_eq_some_iff.1 hx).1
    have hv : (vals xs)[i]? = some (.int .i64 (x : Nat)) := by simp [vals, hx]
    rw [← ht, List.getElem?_take, if_pos (by omega)] at hv
    rw [Nat.zero_add]
    simpa [World.cell?, hh] using hv
theorem IS.below {B : Nat} {w w' : World} {v : Value} {xs : List Nat} (h : IS w v xs) (hb : Below B w w') (hlt : ∀ g off n c, v = .slice (some ⟨g, off, none⟩) n c → g < B) : IS w' v xs := by
  obtain ⟨A, c, rfl, hc⟩ := h
  refine ⟨A, c, rfl, fun i x hx => ?_⟩
  obtain ⟨g, off, rfl, h1⟩ := hc i x hx
  exact ⟨g, off, rfl, (hb.cell (p := ⟨g, off + i, none⟩) (hlt g off _ _ rfl)).trans h1⟩

/-- What is left by a call that makes a slice of these places. -/
def RowPost (xs : List Nat) (w : World) (e : Ending) (w' : World) : Prop :=
  ∃ v, e = .returned v ∧ w'.ownsRow w.heap.size 3 1 v xs.length (vals xs) ∧ Below w.heap.size w w'

set_option maxHeartbeats 1000000 in
theorem same_any (u v : Value) (xs : List Nat) (w : World) (hn : xs.length ≤ 1048576) (hu : IS w u xs) (hv : IS w v xs) :
    Calls Tryd.prog 15 #[u, v] w fun e w' => e = .returned (.bool true) ∧ Below w.heap.size w w' := by
  obtain ⟨A, c, rfl, hA⟩ := hu
  obtain ⟨B, d, rfl, hB⟩ := hv
  have HA := Lib.hid hA
  have HB := Lib.hid hB
  clear hA hB
  obtain ⟨n, hn'⟩ : ∃ n, n = xs.length := ⟨_, rfl⟩
  rw [← hn'] at hn ⊢
  have HN := Lib.hid hn'
  clear hn'
  go_enter Tryd.func15, Tryd.ntmps15
  go_wp2
  go_loopw [5] (fun x wr => ∃ k j : Nat, k ≤ n ∧ x = .int .i64 k ∧ wr = w.drewN j) (fun x _ => n - (intOf x).toNat)
  case atStart => exact ⟨0, 0, Nat.zero_le _, rfl, rfl⟩
  case round =>
    obtain ⟨k, j, hk, rfl, rfl⟩ := hrel
    by_cases hlt : k < n
    · obtain ⟨x, hx⟩ : ∃ x, xs[k]? = some x := ⟨xs[k]'(by have := HN.out; omega), by simp⟩
      obtain ⟨g1, o1, rfl, c1⟩ := HA.out k x hx
      obtain ⟨g2, o2, rfl, c2⟩ := HB.out k x hx
      have HX := Lib.hid hx
      clear hx
      have e1 : (w.drewN j).cell? ⟨g1, o1 + k, none⟩ = some (.int .i64 (x : Nat)) := c1
      have e2 : (w.drewN j).cell? ⟨g2, o2 + k, none⟩ = some (.int .i64 (x : Nat)) := c2
      go_wp2
      go_quiet (fail)
      go_wp2
      go_roundw
      case rel => exact ⟨k + 1, _, by omega, by go_num, rfl⟩
      case measure => simp [intOf]; omega
    · go_wp2
      go_ret
      exact ⟨rfl, below_drewN (Below.refl _ _) _⟩
end Go.Proofs.YteencfldehcbbaaDoor
