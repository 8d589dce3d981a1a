/- What the rows' condition on the table of math/bits gives, and that the program's own start meets it. -/
import Derived.Test.YteneadimchhhhaaGreatDoorMgBase
import Derived.Test.YteneadimchhhhaaGreatDoorTie
import Derived.Test.YteneadimchhhhaaGreatDoorCards
import Derived.ProofKit
import Derived.LaidMore
import Derived.OpenShut
import Derived.ShutString
import Derived.ChangeOld
import Derived.Stop.Joined
import Derived.Lib.SmallJoins
namespace Go.Proofs.YteneadimchhhhaaGreatDoor
open Go.ChangeShapes Go.WideShapes Go.ChangeAt Go.RowKit Go.Joins

theorem gTab : Tryz.prog.globalNamed "math/bits.deBruijn64tab" = some 0 := by kernel_rfl
theorem tTab : (Tryz.prog.globals[0]?).map (·.type) = some 177 := by kernel_rfl

/-- The one listed variable. -/
def laidTab : List (String × DataW Unit) := [("math/bits.deBruijn64tab", Rows.laid_math_bits_deBruijn64tab)]

theorem door_met (os : Os) (args : Array Value) : laidMetH Tryz.prog laidTab ((World.doorLaid Tryz.prog 400 os).forCall (fun _ _ => 0) ⟨#[], args, []⟩).memory :=
  laidMetH_of_parts3 (fuel := 8) (laidMet_of_run' 8 (by kernel_rfl) (by kernel_rfl)) (by kernel_rfl) (by kernel_rfl)

/-- The datum as a list of numbers. -/
def datum (l : List Nat) : List (DataW Unit) := l.map fun n => .lit (.int .u8 (n : Nat))
theorem laid_datum : (Rows.laid_math_bits_deBruijn64tab : DataW Unit) = .agg (datum Lib.deBruijn64tab) := rfl

set_option maxRecDepth 100000 in
theorem of_laid {W : World} (h : laidMetH Tryz.prog laidTab W) : Tab W := by
  rw [MakeChecks.laidMetH_plain _ _ _ (by kernel_rfl)] at h
  obtain ⟨ps, ⟨g0, t0, cs0, f0, p0, q0, hg0, ht0, hv0, hd0, _, _⟩, _, _⟩ := h
  obtain rfl := Option.some.inj (gTab.symm.trans hg0)
  obtain rfl := Option.some.inj (tTab.symm.trans ht0)
  obtain ⟨xs, m, rfl, hx, hlen, hn, hel⟩ := DataW.trod_array Tryz.underlying177 hd0
  have c5 : Tryz.prog.cellsOf 5 = 1 := by kernel_rfl
  simp only [Prod.mk.injEq, laid_datum, DataW.agg.injEq] at hx
  intro j hj
  have hcell := World.var?_cell hg0 hv0 j
  have hx1 := hx.1
  have he := hel j hj
  rw [c5] at he
  have hxj : xs[j]? = some (xs[j]'(by omega)) := List.getElem?_eq_getElem (by omega)
  rw [hxj] at he
  obtain ⟨k, e1, e2, _⟩ := DataW.trod_int Tryz.underlying5 he
  have hd : (datum Lib.deBruijn64tab)[j]? = some (.lit (.int .u8 k)) := by
    rw [hx1, List.getElem?_map, hxj, Option.map_some, e2]
  have hk : k = ((Lib.deBruijn64tab.getD j 0 : Nat) : Int) := by
    unfold datum at hd
    rw [List.getElem?_map, Option.map_eq_some_iff] at hd
    obtain ⟨a, ha, hb⟩ := hd
    have : Lib.deBruijn64tab.getD j 0 = a := by simp [List.getD, ha]
    rw [this]
    injection hb with hb
    injection hb with _ hb
    exact hb.symm
  rw [hcell, ← hk]
  have hc : cs0.toList[j]? = some (.int .u8 k) := by
    have h0 : ((cs0.toList.drop (j * 1)).take 1)[0]? = some (.int .u8 k) := by rw [e1]; rfl
    simpa using h0
  simpa using hc
end Go.Proofs.YteneadimchhhhaaGreatDoor
