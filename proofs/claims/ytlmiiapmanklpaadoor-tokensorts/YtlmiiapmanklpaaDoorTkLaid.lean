/- What the rows' condition on the library's variables gives, and that the program's own start meets it. -/
import Derived.Test.YtlmiiapmanklpaaDoorTkBox
import Derived.Test.YtlmiiapmanklpaaDoorTie
import Derived.Test.YtlmiiapmanklpaaDoorCards
import Derived.ProofKit
import Derived.LaidMore
import Derived.OpenShut
import Derived.ShutString
import Derived.ChangeOld
import Derived.Stop.Joined
import Derived.Stop.LaidErr
import Derived.Lib.LaidTab
import Derived.Lib.SmallJoins
import Derived.SizedLaws
namespace Go.Proofs.YtlmiiapmanklpaaDoor
open Go.ChangeShapes Go.WideShapes Go.ChangeAt Go.RowKit Go.Joins

/-- The listed variables. -/
def laidTk : List (String × DataW Unit) := [("math/bits.deBruijn32tab", Rows.laid_math_bits_deBruijn32tab), ("math/bits.deBruijn64tab", Rows.laid_math_bits_deBruijn64tab), ("internal/strconv.uint64pow10", Rows.laid_internal_strconv_uint64pow10), ("strconv.ErrRange", Rows.laid_strconv_ErrRange), ("strconv.ErrSyntax", Rows.laid_strconv_ErrSyntax)]

theorem door_met (os : Os) (args : Array Value) : laidMetH Tryd.prog laidTk ((World.doorLaid Tryd.prog 400 os).forCall (fun _ _ => 0) ⟨#[], args, []⟩).memory :=
  laidMetH_of_parts3 (fuel := 8) (laidMet_of_run' 8 (by kernel_rfl) (by kernel_rfl)) (by kernel_rfl) (by kernel_rfl)

theorem tPow : (Tryd.prog.globals[0]?).map (·.type) = some 94 := by kernel_rfl
theorem tSyn : (Tryd.prog.globals[2]?).map (·.type) = some 54 := by kernel_rfl
theorem tRan : (Tryd.prog.globals[3]?).map (·.type) = some 54 := by kernel_rfl
theorem cErr : Tryd.prog.cellsOf 113 = 1 := by kernel_rfl
theorem cStr : Tryd.prog.cellsOf 9 = 1 := by kernel_rfl
theorem starE : "*" ++ "errors.errorString" = "*errors.errorString" := by decide
theorem rowErr (u : TypeId) (h : Tryd.prog.typeName? 3 u = some "*errors.errorString") : u = 111 :=
  typeName_ptr_named (nm := "errors.errorString") (by rw [starE]; kernel_rfl) (by kernel_rfl) (by decide) u (by rw [starE]; exact h)
theorem pow_datum : (Rows.laid_internal_strconv_uint64pow10 : DataW Unit) = Lib.tabData .u64 Lib.pow10Tab := by kernel_rfl

theorem var_lt {P : Program} {w : World} {n : String} {g : Nat} {cs : Array Value} (hg : P.globalNamed n = some g) (h : w.var? P n = some cs) : g < w.heap.size := by
  unfold World.var? at h
  rw [hg] at h
  simp only [Option.bind_some] at h
  rcases Nat.lt_or_ge g w.heap.size with hl | hl
  · exact hl
  · rw [Array.getElem?_eq_none hl] at h
    cases h
theorem of_laid {W : World} (h : laidMetH Tryd.prog laidTk W) : Tk W := by
  rw [MakeChecks.laidMetH_plain _ _ _ (by kernel_rfl)] at h
  unfold laidTk at h
  have hp := h.tail.tail
  rw [pow_datum] at hp
  obtain ⟨a1, s1, hv1, _⟩ := laid_sentinel h.tail.tail.tail gRan tRan Tryd.underlying54 rowErr Tryd.underlying111 Tryd.underlying113 rfl rfl Tryd.underlying9 cErr cStr
  obtain ⟨a0, s0, hv0, _⟩ := laid_sentinel h.tail.tail.tail.tail gSyn tSyn Tryd.underlying54 rowErr Tryd.underlying111 Tryd.underlying113 rfl rfl Tryd.underlying9 cErr cStr
  have hpw := Lib.tabIs_of_head gPow tPow Tryd.underlying94 Tryd.underlying73 (by kernel_rfl) (by kernel_rfl) hp
  exact ⟨⟨var_lt gPow hpw, var_lt gSyn hv0, var_lt gRan hv1⟩, hpw, ⟨_, _, hv0⟩, ⟨_, _, hv1⟩⟩
end Go.Proofs.YtlmiiapmanklpaaDoor
