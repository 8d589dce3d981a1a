/- Contracts of Same and list of the document's answers, where both have the same; the document's example. -/
import Derived.Test.YteneadimchhhhaaGreatDoorLyTold
namespace Go.Proofs.YteneadimchhhhaaGreatDoor
open Go.RowKit

set_option maxHeartbeats 1000000 in
theorem sameI_any (A : Option Addr) (n c : Nat) (D : Option Addr) (d : Nat) (xs : List Int) (B B' : Nat) (w : World) (hn : n ≤ 1000000) (hx : NS .i64 w B A n xs) (hy : NS .i64 w B' D n xs) :
    Calls Tryz.prog 14 #[.slice A n c, .slice D n d] w fun e w' => e = .returned (.bool true) ∧ ∃ m, w' = w.drewN m := by
  have HA := Lib.hid hx
  have HB := Lib.hid hy
  clear hx hy
  go_enter Tryz.func14, Tryz.ntmps14
  go_wp2
  go_loopw [5] (fun x wr => ∃ k j : Nat, k ≤ n ∧ x = .int .i64 k ∧ wr = w.drewN j) (fun x _ => n - (intOf x).toNat)
  case atStart => exact ⟨0, 0, Nat.zero_le _, rfl, rfl⟩
  case round =>
    obtain ⟨k, j, hk, rfl, rfl⟩ := hrel
    by_cases hlt : k < n
    · obtain ⟨g1, o1, p, rfl, l1, e1, f1, c1⟩ := HA.out.at_ hlt
      obtain ⟨g2, o2, p2, rfl, l2, e2, f2, c2⟩ := HB.out.at_ hlt
      obtain rfl : p = p2 := by rw [e1] at e2; injection e2
      have e1 : (w.drewN j).cell? ⟨g1, o1 + k, none⟩ = some (.int .i64 p) := c1
      have e2 : (w.drewN j).cell? ⟨g2, o2 + k, none⟩ = some (.int .i64 p) := c2
      clear f1 f2
      go_wp2
      go_quiet (fail)
      go_wp2
      go_roundw
      case rel => exact ⟨k + 1, _, by omega, by go_num, rfl⟩
      case measure => simp [intOf]; omega
    · go_wp2
      go_ret
      exact ⟨rfl, j, rfl⟩

theorem ns_one {w : World} {g t : Nat} {x : Int} (h : Whole w g t #[.int .i64 x]) (hx : (Lit.int .i64 x).wf = true) : NS .i64 w w.heap.size (some ⟨g, 0, none⟩) 1 [x] := by
  refine ⟨rfl, by simpa using hx, fun _ => ⟨g, 0, rfl, h.lt, fun i y hi => ?_⟩⟩
  rw [Nat.zero_add, h.cell]
  match i, hi with
  | 0, hi => simp at hi; subst hi; rfl
theorem ns_list {w : World} {g t : Nat} {xs : List Int} (h : Whole w g t (ivals xs).toArray) (hx : ∀ x ∈ xs, (Lit.int .i64 x).wf = true) : NS .i64 w w.heap.size (some ⟨g, 0, none⟩) xs.length xs := by
  refine ⟨rfl, hx, fun _ => ⟨g, 0, rfl, h.lt, fun i y hi => ?_⟩⟩
  rw [Nat.zero_add, h.cell]
  simp [ivals, hi]
theorem ns_owns {w : World} {base : Nat} {e : TypeId} {v : Value} {xs : List Int} (h : w.ownsRow base e 1 v xs.length (ivals xs)) (hx : ∀ x ∈ xs, (Lit.int .i64 x).wf = true) : ∃ A c, v = .slice A xs.length c ∧ NS .i64 w w.heap.size A xs.length xs := by
  obtain ⟨A, c, rfl, hn⟩ := own_form h hx
  exact ⟨A, c, rfl, hn.ns⟩
theorem wf_small {x : Int} (h0 : 0 ≤ x) (h1 : x ≤ 100000) : (Lit.int .i64 x).wf = true := by
  have e1 : IntKind.i64.min = -9223372036854775808 := by decide
  have e2 : IntKind.i64.max = 9223372036854775807 := by decide
  simp [Lit.wf, e1, e2]
  omega
theorem told_wf (F R : Int) (xs ys : List Int) (C : Int) : ∀ x ∈ LM.told F R xs ys C, (Lit.int .i64 x).wf = true := fun x hx => by
  have := LM.told_bd F R xs ys C x hx
  exact wf_small this.1 (by omega)
end Go.Proofs.YteneadimchhhhaaGreatDoor
