/- The contract of graph's targetsOf. -/
import Derived.Test.YtomjaieplpjcpaaGrMap
import Derived.Test.YtomjaieplpjcpaaGrOpen
import Derived.Deep.RegionHeld3
import Derived.Deep.AppendLies
import Derived.BigQuiet
namespace Go.Proofs.Ytomjaieplpjcpaa
open Go.RowKit Go.Lib Go.Sort Go.Maps

theorem EI.at_ {es : List (Int × Int)} (h : EI es) {k : Nat} (hk : k < es.length) : I64 es[k].1 ∧ I64 es[k].2 := h _ (List.getElem_mem hk)
/-- The round's state. -/
structure TgR (w : World) (es : List (Int × Int)) (k : Nat) (wr : World) : Prop where
  at_ : TgAt wr (w.heap.size + 1) w.heap.size (es.take k)
  bel : Below w.heap.size w wr
  lo : w.heap.size + 1 ≤ wr.heap.size

theorem row_not {w : World} {lo e size n c : Nat} {v : Value} {xs : List Value} {t : TypeId} {cs : Array Value} (h : w.ownsRow lo e size v n xs) (hc : Whole w c t cs) (ht : t ≠ e) : some c ≠ v.ownBlock := by
  rcases h.2 with ⟨rfl, _⟩ | ⟨g, cap, cur, rfl, _, hh, _⟩
  · simp [Value.ownBlock]
  · intro e1
    simp [Value.ownBlock] at e1
    subst e1
    unfold Whole at hc
    rw [hc] at hh
    injection hh with h1
    injection h1 with _ h2 _
    exact ht h2
end Go.Proofs.Ytomjaieplpjcpaa
