/- The contract of the law package's same. -/
import Derived.Test.YteencfldehcbbaaDoorStGrown
import Derived.BigQuiet
namespace Go.Proofs.YteencfldehcbbaaDoor
open Go.RowKit

theorem RowPost.use {xs : List Nat} {w w' : World} {e : Ending} (h : RowPost xs w e w') : ∃ A c, e = .returned (.slice A xs.length c) ∧ IS w' (.slice A xs.length c) xs ∧ Below w.heap.size w w' ∧ (∀ a, A = some a → w.heap.size ≤ a.block ∧ a.block < w'.heap.size) := by
  obtain ⟨v, rfl, ho, hb⟩ := h
  have hlt := ho.lt
  have his := IS.of_owns ho
  obtain ⟨A, c, rfl, hc⟩ := his
  exact ⟨A, c, rfl, ⟨A, c, rfl, hc⟩, hb, fun a e => by subst e; exact hlt _ rfl⟩
theorem ownerOf_in {own : Nat → Nat} {C k : Nat} (h : k < C) : ownerOf own C (k : Int) = own k := by
  unfold ownerOf
  rw [if_pos (by omega), Int.toNat_natCast]
theorem readV_in {own wd : Nat → Nat} {C K i : Nat} (h : i < C * K) : readV own wd C K (i : Int) = if own (i / K) = 0 then 0 else wd i := by
  unfold readV
  rw [addrE_in h, Int.toNat_natCast]
  by_cases e : own (i / K) = 0
  · rw [if_pos e, if_neg (by omega), if_pos e]
  · rw [if_neg e, if_pos rfl, if_neg e]

section
variable {w0 w : World} {B : SB} {R : RB} {C K : Nat} {own wd : Nat → Nat}
end
end Go.Proofs.YteencfldehcbbaaDoor
