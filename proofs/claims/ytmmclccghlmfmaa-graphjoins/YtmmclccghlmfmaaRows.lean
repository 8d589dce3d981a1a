/-
  No cell of these rows narrows 'for every input' (looked for: loops, veiled, ifaces, maps, wideKeys, modest, calm, conditions, laid).
  DERIVED. THE GIVEN ROWS OF THIS SEAT. 6 by the template 'for every input the law returns true; each argument reads behind the call as it read before'; 0 by the template 'total and deterministic' (their statements: YtmmclccghlmfmaaTotals.lean).
  GIVEN WITH THE SEED: the statements are not yours to turn. If you find one false, say at which input.
  Laid BY PROGRAM, IN A SANDBOX (cutbox-rows.mjs): the forced cells as the released guide's own fill.sh prints them over the translation d873830565627ee0… (all of the seat's roots in one cut). By AI agents, Wed Nov 11 2026. No macro, syntax, notation, axiom, sorry.
-/
import Derived.Test.YtmmclccghlmfmaaChecked
import GoSem.Claim
import GoSem.ClaimJoined
import GoSem.ClaimMapViews
import Derived.JoinedTies
import Derived.KernelRfl
namespace Go.Proofs.Ytmmclccghlmfmaa
/- THE CELL 'sum', in the pinned program and in every row, IS THE sha256 OF THE DUMP (.gsa) THAT YtmmclccghlmfmaaProg.lean LOADS. Nothing in Lean hashes anything: it is a label: what it is worth is what the hold of that sum in a sandbox is worth. -/
noncomputable def Try.pinned : Pinned := { name := "ytmmclccghlmfmaa", sum := "d873830565627ee0b2dfafcd92ba7faa94f61d79a488e76d165cdac306d7f504", checked := Try.checked }
namespace Rows
def none {H : Type} : Left H := { results := [], args := [] }

/-- 'turnrowlaw13.GraphActs': WHATEVER THE INPUT: true; the input reads as it did. -/
def graphActsSpec : ChangeSpec := { name := "graphActs", fn := fun _ => fun
  | [d1, d2, d3] => { results := [.lit (.bool true)], args := [d1, d2, d3] }
  | _ => none }
def graphActsRow : OpenClaim := { program := "ytmmclccghlmfmaa", sum := "d873830565627ee0b2dfafcd92ba7faa94f61d79a488e76d165cdac306d7f504", func := "turnrow/turnrowlaw13.GraphActs", spec := "graphActs", recurses := true, apart := false }
def GraphActsSaid : Prop := graphActsRow.holds Try.pinned (OpenSpec.ofChange graphActsSpec)

/-- ITS FALSE NEIGHBOUR: 'it returns false'. Refute it at one input. -/
def graphActsWrong : ChangeSpec := { name := "graphActs", fn := fun _ => fun
  | [d1, d2, d3] => { results := [.lit (.bool false)], args := [d1, d2, d3] }
  | _ => none }
def GraphActsWrongFalsely : Prop := graphActsRow.holds Try.pinned (OpenSpec.ofChange graphActsWrong)

/-- 'turnrowlaw13.GraphCloses': WHATEVER THE INPUT: true; the input reads as it did. -/
def graphClosesSpec : ChangeSpec := { name := "graphCloses", fn := fun _ => fun
  | [d1, d2] => { results := [.lit (.bool true)], args := [d1, d2] }
  | _ => none }
def graphClosesRow : OpenClaim := { program := "ytmmclccghlmfmaa", sum := "d873830565627ee0b2dfafcd92ba7faa94f61d79a488e76d165cdac306d7f504", func := "turnrow/turnrowlaw13.GraphCloses", spec := "graphCloses", apart := false }
def GraphClosesSaid : Prop := graphClosesRow.holds Try.pinned (OpenSpec.ofChange graphClosesSpec)

/-- ITS FALSE NEIGHBOUR: 'it returns false'. Refute it at one input. -/
def graphClosesWrong : ChangeSpec := { name := "graphCloses", fn := fun _ => fun
  | [d1, d2] => { results := [.lit (.bool false)], args := [d1, d2] }
  | _ => none }
def GraphClosesWrongFalsely : Prop := graphClosesRow.holds Try.pinned (OpenSpec.ofChange graphClosesWrong)

/-- 'turnrowlaw13.GraphJoins': WHATEVER THE INPUT: true; the input reads as it did. -/
def graphJoinsSpec : ChangeSpec := { name := "graphJoins", fn := fun _ => fun
  | [d1, d2, d3] => { results := [.lit (.bool true)], args := [d1, d2, d3] }
  | _ => none }
def graphJoinsRow : OpenClaim := { program := "ytmmclccghlmfmaa", sum := "d873830565627ee0b2dfafcd92ba7faa94f61d79a488e76d165cdac306d7f504", func := "turnrow/turnrowlaw13.GraphJoins", spec := "graphJoins", recurses := true, apart := false }
def GraphJoinsSaid : Prop := graphJoinsRow.holds Try.pinned (OpenSpec.ofChange graphJoinsSpec)

/-- ITS FALSE NEIGHBOUR: 'it returns false'. Refute it at one input. -/
def graphJoinsWrong : ChangeSpec := { name := "graphJoins", fn := fun _ => fun
  | [d1, d2, d3] => { results := [.lit (.bool false)], args := [d1, d2, d3] }
  | _ => none }
def GraphJoinsWrongFalsely : Prop := graphJoinsRow.holds Try.pinned (OpenSpec.ofChange graphJoinsWrong)

/-- 'turnrowlaw13.GraphLoose': WHATEVER THE INPUT: true; the input reads as it did. -/
def graphLooseSpec : ChangeSpec := { name := "graphLoose", fn := fun _ => fun
  | [d1, d2, d3] => { results := [.lit (.bool true)], args := [d1, d2, d3] }
  | _ => none }
def graphLooseRow : OpenClaim := { program := "ytmmclccghlmfmaa", sum := "d873830565627ee0b2dfafcd92ba7faa94f61d79a488e76d165cdac306d7f504", func := "turnrow/turnrowlaw13.GraphLoose", spec := "graphLoose", apart := false }
def GraphLooseSaid : Prop := graphLooseRow.holds Try.pinned (OpenSpec.ofChange graphLooseSpec)

/-- ITS FALSE NEIGHBOUR: 'it returns false'. Refute it at one input. -/
def graphLooseWrong : ChangeSpec := { name := "graphLoose", fn := fun _ => fun
  | [d1, d2, d3] => { results := [.lit (.bool false)], args := [d1, d2, d3] }
  | _ => none }
def GraphLooseWrongFalsely : Prop := graphLooseRow.holds Try.pinned (OpenSpec.ofChange graphLooseWrong)

/-- 'turnrowlaw13.GraphGrows': WHATEVER THE INPUT: true; the input reads as it did. -/
def graphGrowsSpec : ChangeSpec := { name := "graphGrows", fn := fun _ => fun
  | [d1, d2, d3] => { results := [.lit (.bool true)], args := [d1, d2, d3] }
  | _ => none }
def graphGrowsRow : OpenClaim := { program := "ytmmclccghlmfmaa", sum := "d873830565627ee0b2dfafcd92ba7faa94f61d79a488e76d165cdac306d7f504", func := "turnrow/turnrowlaw13.GraphGrows", spec := "graphGrows", recurses := true, apart := false }
def GraphGrowsSaid : Prop := graphGrowsRow.holds Try.pinned (OpenSpec.ofChange graphGrowsSpec)

/-- ITS FALSE NEIGHBOUR: 'it returns false'. Refute it at one input. -/
def graphGrowsWrong : ChangeSpec := { name := "graphGrows", fn := fun _ => fun
  | [d1, d2, d3] => { results := [.lit (.bool false)], args := [d1, d2, d3] }
  | _ => none }
def GraphGrowsWrongFalsely : Prop := graphGrowsRow.holds Try.pinned (OpenSpec.ofChange graphGrowsWrong)

/-- 'turnrowlaw13.GraphParts': WHATEVER THE INPUT: true; the input reads as it did. -/
def graphPartsSpec : ChangeSpec := { name := "graphParts", fn := fun _ => fun
  | [d1, d2, d3] => { results := [.lit (.bool true)], args := [d1, d2, d3] }
  | _ => none }
def graphPartsRow : OpenClaim := { program := "ytmmclccghlmfmaa", sum := "d873830565627ee0b2dfafcd92ba7faa94f61d79a488e76d165cdac306d7f504", func := "turnrow/turnrowlaw13.GraphParts", spec := "graphParts", recurses := true, apart := false }
def GraphPartsSaid : Prop := graphPartsRow.holds Try.pinned (OpenSpec.ofChange graphPartsSpec)

/-- ITS FALSE NEIGHBOUR: 'it returns false'. Refute it at one input. -/
def graphPartsWrong : ChangeSpec := { name := "graphParts", fn := fun _ => fun
  | [d1, d2, d3] => { results := [.lit (.bool false)], args := [d1, d2, d3] }
  | _ => none }
def GraphPartsWrongFalsely : Prop := graphPartsRow.holds Try.pinned (OpenSpec.ofChange graphPartsWrong)

/- THE SECOND FORM. 'bulk': how many values and letters a reading holds, each counted each time it is reached (what is shared counts as often as it is met; a slice's spare places count too). A statement '..UptoSaid' is the law's where the arguments, and the package variables that the reading takes, are together of bulk at most 1048576: NARROWER than '..Said'. Prove '..Said' where nothing that the law and all that it calls make is longer than what came in: it says more and counts as full. Else prove '..UptoSaid'. A law counts once. -/
mutual
def uptoBulk {H : Type} : DataW H → Nat
  | .lit (.string bytes) => bytes.length + 1
  | .lit _ => 1
  | .nil => 1
  | .ptr d => uptoBulk d + 1
  | .slice elems spare => uptoBulkAll elems + uptoBulkAll spare + 1
  | .agg parts => uptoBulkAll parts + 1
  | .iface _ d => uptoBulk d + 1
  | .map entries => uptoBulkEntries entries + 1
  | .held _ => 1
def uptoBulkAll {H : Type} : List (DataW H) → Nat
  | [] => 0
  | d :: r => uptoBulk d + uptoBulkAll r
def uptoBulkEntries {H : Type} : List (Lit × DataW H) → Nat
  | [] => 0
  | x :: r => uptoBulkEntry x + uptoBulkEntries r
def uptoBulkEntry {H : Type} : Lit × DataW H → Nat
  | (.string bytes, d) => bytes.length + uptoBulk d + 1
  | (_, d) => uptoBulk d + 1
 end
def uptoSmall : (H : Type) → List (DataW H) → Bool := fun _ ds => decide (uptoBulkAll ds ≤ 1048576)
def OpenSpec.upto (s : _root_.Go.ChangeSpec) : _root_.Go.OpenSpec := { _root_.Go.OpenSpec.ofChange s with cond := some uptoSmall }

/-- 'turnrowlaw13.GraphActs', WHERE WHAT IT READS IS OF BULK AT MOST 1048576: true; the input reads as it did. -/
def graphActsUptoRow : OpenClaim := { program := "ytmmclccghlmfmaa", sum := "d873830565627ee0b2dfafcd92ba7faa94f61d79a488e76d165cdac306d7f504", func := "turnrow/turnrowlaw13.GraphActs", spec := "graphActs", recurses := true, apart := false, narrowed := true }
def GraphActsUptoSaid : Prop := graphActsUptoRow.holds Try.pinned (OpenSpec.upto graphActsSpec)

/-- 'turnrowlaw13.GraphCloses', WHERE WHAT IT READS IS OF BULK AT MOST 1048576: true; the input reads as it did. -/
def graphClosesUptoRow : OpenClaim := { program := "ytmmclccghlmfmaa", sum := "d873830565627ee0b2dfafcd92ba7faa94f61d79a488e76d165cdac306d7f504", func := "turnrow/turnrowlaw13.GraphCloses", spec := "graphCloses", apart := false, narrowed := true }
def GraphClosesUptoSaid : Prop := graphClosesUptoRow.holds Try.pinned (OpenSpec.upto graphClosesSpec)

/-- 'turnrowlaw13.GraphJoins', WHERE WHAT IT READS IS OF BULK AT MOST 1048576: true; the input reads as it did. -/
def graphJoinsUptoRow : OpenClaim := { program := "ytmmclccghlmfmaa", sum := "d873830565627ee0b2dfafcd92ba7faa94f61d79a488e76d165cdac306d7f504", func := "turnrow/turnrowlaw13.GraphJoins", spec := "graphJoins", recurses := true, apart := false, narrowed := true }
def GraphJoinsUptoSaid : Prop := graphJoinsUptoRow.holds Try.pinned (OpenSpec.upto graphJoinsSpec)

/-- 'turnrowlaw13.GraphLoose', WHERE WHAT IT READS IS OF BULK AT MOST 1048576: true; the input reads as it did. -/
def graphLooseUptoRow : OpenClaim := { program := "ytmmclccghlmfmaa", sum := "d873830565627ee0b2dfafcd92ba7faa94f61d79a488e76d165cdac306d7f504", func := "turnrow/turnrowlaw13.GraphLoose", spec := "graphLoose", apart := false, narrowed := true }
def GraphLooseUptoSaid : Prop := graphLooseUptoRow.holds Try.pinned (OpenSpec.upto graphLooseSpec)

/-- 'turnrowlaw13.GraphGrows', WHERE WHAT IT READS IS OF BULK AT MOST 1048576: true; the input reads as it did. -/
def graphGrowsUptoRow : OpenClaim := { program := "ytmmclccghlmfmaa", sum := "d873830565627ee0b2dfafcd92ba7faa94f61d79a488e76d165cdac306d7f504", func := "turnrow/turnrowlaw13.GraphGrows", spec := "graphGrows", recurses := true, apart := false, narrowed := true }
def GraphGrowsUptoSaid : Prop := graphGrowsUptoRow.holds Try.pinned (OpenSpec.upto graphGrowsSpec)

/-- 'turnrowlaw13.GraphParts', WHERE WHAT IT READS IS OF BULK AT MOST 1048576: true; the input reads as it did. -/
def graphPartsUptoRow : OpenClaim := { program := "ytmmclccghlmfmaa", sum := "d873830565627ee0b2dfafcd92ba7faa94f61d79a488e76d165cdac306d7f504", func := "turnrow/turnrowlaw13.GraphParts", spec := "graphParts", recurses := true, apart := false, narrowed := true }
def GraphPartsUptoSaid : Prop := graphPartsUptoRow.holds Try.pinned (OpenSpec.upto graphPartsSpec)

end Rows
end Go.Proofs.Ytmmclccghlmfmaa
