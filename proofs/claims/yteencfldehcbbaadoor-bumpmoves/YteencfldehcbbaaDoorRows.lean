/-
  NARROWER THAN 'FOR EVERY INPUT', by the rows' own cells (each row's printed sentence says how): BumpActs: laid · BumpNews: laid · BumpApart: laid · BumpFew: laid · BumpMoves: laid · BumpRuns: laid.
  DERIVED. THE GIVEN ROWS OF THIS SEAT. 6 by the template 'for every input the law returns true; each argument reads behind the call as it read before'; 0 by the template 'total and deterministic' (their statements: YteencfldehcbbaaDoorTotals.lean).
  GIVEN WITH THE SEED: the statements are not yours to turn. If you find one false, say at which input.
  Laid BY PROGRAM, IN A SANDBOX (cutbox-rows.mjs): the forced cells as the released guide's own fill.sh prints them over the translation 0a26f11dede9fbbf… (all of the seat's roots in one cut). By AI agents, Wed Nov 11 2026. No macro, syntax, notation, axiom, sorry.
-/
import Derived.Test.YteencfldehcbbaaDoorChecked
import GoSem.Claim
import GoSem.ClaimJoined
import GoSem.ClaimMapViews
import Derived.JoinedTies
import Derived.KernelRfl
namespace Go.Proofs.YteencfldehcbbaaDoor
/- THE CELL 'sum', in the pinned program and in every row, IS THE sha256 OF THE DUMP (.gsa) THAT YteencfldehcbbaaDoorProg.lean LOADS. Nothing in Lean hashes anything: it is a label: what it is worth is what the hold of that sum in a sandbox is worth. -/
noncomputable def Tryd.pinned : Pinned := { name := "yteencfldehcbbaadoor", sum := "0a26f11dede9fbbfd69c61d22727490945c7537240dc329796ec39221e7a1d64", checked := Tryd.checked }
namespace Rows
def none {H : Type} : Left H := { results := [], args := [] }

/- WHAT THE LISTED PACKAGE-LEVEL VARIABLES READ AS WHEN THE CALL BEGINS. Each datum BY PROGRAM (the guide's laid-datum.mjs) off the statement by which the dump's own 'gosem.cut.vars' lays the variable. In a bare row this is a premise. The card (YteencfldehcbbaaDoorCards.lean) ties it to the program's text. -/
def laid_math_bits_deBruijn64tab {H : Type} : DataW H := .agg [.lit (.int .u8 0), .lit (.int .u8 1), .lit (.int .u8 56), .lit (.int .u8 2), .lit (.int .u8 57), .lit (.int .u8 49), .lit (.int .u8 28), .lit (.int .u8 3), .lit (.int .u8 61), .lit (.int .u8 58), .lit (.int .u8 42), .lit (.int .u8 50), .lit (.int .u8 38), .lit (.int .u8 29), .lit (.int .u8 17), .lit (.int .u8 4), .lit (.int .u8 62), .lit (.int .u8 47), .lit (.int .u8 59), .lit (.int .u8 36), .lit (.int .u8 45), .lit (.int .u8 43), .lit (.int .u8 51), .lit (.int .u8 22), .lit (.int .u8 53), .lit (.int .u8 39), .lit (.int .u8 33), .lit (.int .u8 30), .lit (.int .u8 24), .lit (.int .u8 18), .lit (.int .u8 12), .lit (.int .u8 5), .lit (.int .u8 63), .lit (.int .u8 55), .lit (.int .u8 48), .lit (.int .u8 27), .lit (.int .u8 60), .lit (.int .u8 41), .lit (.int .u8 37), .lit (.int .u8 16), .lit (.int .u8 46), .lit (.int .u8 35), .lit (.int .u8 44), .lit (.int .u8 21), .lit (.int .u8 52), .lit (.int .u8 32), .lit (.int .u8 23), .lit (.int .u8 11), .lit (.int .u8 54), .lit (.int .u8 26), .lit (.int .u8 40), .lit (.int .u8 15), .lit (.int .u8 34), .lit (.int .u8 20), .lit (.int .u8 31), .lit (.int .u8 10), .lit (.int .u8 25), .lit (.int .u8 14), .lit (.int .u8 19), .lit (.int .u8 9), .lit (.int .u8 13), .lit (.int .u8 8), .lit (.int .u8 7), .lit (.int .u8 6)]

/-- 'turnrowlaw09.BumpActs': WHATEVER THE INPUT: true; the input reads as it did. -/
def bumpActsSpec : ChangeSpec := { name := "bumpActs", fn := fun _ => fun
  | [d1, d2] => { results := [.lit (.bool true)], args := [d1, d2] }
  | _ => none }
def bumpActsRow : OpenClaim := { program := "yteencfldehcbbaadoor", sum := "0a26f11dede9fbbfd69c61d22727490945c7537240dc329796ec39221e7a1d64", func := "turnrow/turnrowlaw09.BumpActs", spec := "bumpActs", unfollowed := true, recurses := true, named := ["math/bits.deBruijn64tab"], apart := false, laid := [("math/bits.deBruijn64tab", laid_math_bits_deBruijn64tab)] }
def BumpActsSaid : Prop := bumpActsRow.holds Tryd.pinned (OpenSpec.ofChange bumpActsSpec)

/-- ITS FALSE NEIGHBOUR: 'it returns false'. Refute it at one input. -/
def bumpActsWrong : ChangeSpec := { name := "bumpActs", fn := fun _ => fun
  | [d1, d2] => { results := [.lit (.bool false)], args := [d1, d2] }
  | _ => none }
def BumpActsWrongFalsely : Prop := bumpActsRow.holds Tryd.pinned (OpenSpec.ofChange bumpActsWrong)

/-- 'turnrowlaw09.BumpNews': WHATEVER THE INPUT: true; the input reads as it did. -/
def bumpNewsSpec : ChangeSpec := { name := "bumpNews", fn := fun _ => fun
  | [d] => { results := [.lit (.bool true)], args := [d] }
  | _ => none }
def bumpNewsRow : OpenClaim := { program := "yteencfldehcbbaadoor", sum := "0a26f11dede9fbbfd69c61d22727490945c7537240dc329796ec39221e7a1d64", func := "turnrow/turnrowlaw09.BumpNews", spec := "bumpNews", unfollowed := true, recurses := true, named := ["math/bits.deBruijn64tab"], apart := false, laid := [("math/bits.deBruijn64tab", laid_math_bits_deBruijn64tab)] }
def BumpNewsSaid : Prop := bumpNewsRow.holds Tryd.pinned (OpenSpec.ofChange bumpNewsSpec)

/-- ITS FALSE NEIGHBOUR: 'it returns false'. Refute it at one input. -/
def bumpNewsWrong : ChangeSpec := { name := "bumpNews", fn := fun _ => fun
  | [d] => { results := [.lit (.bool false)], args := [d] }
  | _ => none }
def BumpNewsWrongFalsely : Prop := bumpNewsRow.holds Tryd.pinned (OpenSpec.ofChange bumpNewsWrong)

/-- 'turnrowlaw09.BumpApart': WHATEVER THE INPUT: true; the input reads as it did. -/
def bumpApartSpec : ChangeSpec := { name := "bumpApart", fn := fun _ => fun
  | [d1, d2] => { results := [.lit (.bool true)], args := [d1, d2] }
  | _ => none }
def bumpApartRow : OpenClaim := { program := "yteencfldehcbbaadoor", sum := "0a26f11dede9fbbfd69c61d22727490945c7537240dc329796ec39221e7a1d64", func := "turnrow/turnrowlaw09.BumpApart", spec := "bumpApart", unfollowed := true, recurses := true, named := ["math/bits.deBruijn64tab"], apart := false, laid := [("math/bits.deBruijn64tab", laid_math_bits_deBruijn64tab)] }
def BumpApartSaid : Prop := bumpApartRow.holds Tryd.pinned (OpenSpec.ofChange bumpApartSpec)

/-- ITS FALSE NEIGHBOUR: 'it returns false'. Refute it at one input. -/
def bumpApartWrong : ChangeSpec := { name := "bumpApart", fn := fun _ => fun
  | [d1, d2] => { results := [.lit (.bool false)], args := [d1, d2] }
  | _ => none }
def BumpApartWrongFalsely : Prop := bumpApartRow.holds Tryd.pinned (OpenSpec.ofChange bumpApartWrong)

/-- 'turnrowlaw09.BumpFew': WHATEVER THE INPUT: true; the input reads as it did. -/
def bumpFewSpec : ChangeSpec := { name := "bumpFew", fn := fun _ => fun
  | [d1, d2] => { results := [.lit (.bool true)], args := [d1, d2] }
  | _ => none }
def bumpFewRow : OpenClaim := { program := "yteencfldehcbbaadoor", sum := "0a26f11dede9fbbfd69c61d22727490945c7537240dc329796ec39221e7a1d64", func := "turnrow/turnrowlaw09.BumpFew", spec := "bumpFew", unfollowed := true, recurses := true, named := ["math/bits.deBruijn64tab"], apart := false, laid := [("math/bits.deBruijn64tab", laid_math_bits_deBruijn64tab)] }
def BumpFewSaid : Prop := bumpFewRow.holds Tryd.pinned (OpenSpec.ofChange bumpFewSpec)

/-- ITS FALSE NEIGHBOUR: 'it returns false'. Refute it at one input. -/
def bumpFewWrong : ChangeSpec := { name := "bumpFew", fn := fun _ => fun
  | [d1, d2] => { results := [.lit (.bool false)], args := [d1, d2] }
  | _ => none }
def BumpFewWrongFalsely : Prop := bumpFewRow.holds Tryd.pinned (OpenSpec.ofChange bumpFewWrong)

/-- 'turnrowlaw09.BumpMoves': WHATEVER THE INPUT: true; the input reads as it did. -/
def bumpMovesSpec : ChangeSpec := { name := "bumpMoves", fn := fun _ => fun
  | [d1, d2] => { results := [.lit (.bool true)], args := [d1, d2] }
  | _ => none }
def bumpMovesRow : OpenClaim := { program := "yteencfldehcbbaadoor", sum := "0a26f11dede9fbbfd69c61d22727490945c7537240dc329796ec39221e7a1d64", func := "turnrow/turnrowlaw09.BumpMoves", spec := "bumpMoves", unfollowed := true, recurses := true, named := ["math/bits.deBruijn64tab"], apart := false, laid := [("math/bits.deBruijn64tab", laid_math_bits_deBruijn64tab)] }
def BumpMovesSaid : Prop := bumpMovesRow.holds Tryd.pinned (OpenSpec.ofChange bumpMovesSpec)

/-- ITS FALSE NEIGHBOUR: 'it returns false'. Refute it at one input. -/
def bumpMovesWrong : ChangeSpec := { name := "bumpMoves", fn := fun _ => fun
  | [d1, d2] => { results := [.lit (.bool false)], args := [d1, d2] }
  | _ => none }
def BumpMovesWrongFalsely : Prop := bumpMovesRow.holds Tryd.pinned (OpenSpec.ofChange bumpMovesWrong)

/-- 'turnrowlaw09.BumpRuns': WHATEVER THE INPUT: true; the input reads as it did. -/
def bumpRunsSpec : ChangeSpec := { name := "bumpRuns", fn := fun _ => fun
  | [d1, d2, d3] => { results := [.lit (.bool true)], args := [d1, d2, d3] }
  | _ => none }
def bumpRunsRow : OpenClaim := { program := "yteencfldehcbbaadoor", sum := "0a26f11dede9fbbfd69c61d22727490945c7537240dc329796ec39221e7a1d64", func := "turnrow/turnrowlaw09.BumpRuns", spec := "bumpRuns", unfollowed := true, recurses := true, named := ["math/bits.deBruijn64tab"], apart := false, laid := [("math/bits.deBruijn64tab", laid_math_bits_deBruijn64tab)] }
def BumpRunsSaid : Prop := bumpRunsRow.holds Tryd.pinned (OpenSpec.ofChange bumpRunsSpec)

/-- ITS FALSE NEIGHBOUR: 'it returns false'. Refute it at one input. -/
def bumpRunsWrong : ChangeSpec := { name := "bumpRuns", fn := fun _ => fun
  | [d1, d2, d3] => { results := [.lit (.bool false)], args := [d1, d2, d3] }
  | _ => none }
def BumpRunsWrongFalsely : Prop := bumpRunsRow.holds Tryd.pinned (OpenSpec.ofChange bumpRunsWrong)

/- THE SECOND FORM. 'bulk': how many values and letters a reading holds, each counted each time it is reached (what is shared counts as often as it is met; a slice's spare places count too). A statement '..UptoSaid' is the law's where the arguments, and the package variables that the reading takes, are together of bulk at most 1048576: NARROWER than '..Said'. Prove '..Said' where nothing that the law and all that it calls make is longer than what came in: it says more and counts as full. Else prove '..UptoSaid'. A law counts once. -/
mutual
def uptoBulk {H : Type} : DataW H → Nat
  | .lit (.string bytes) => bytes.length + 1
  | .lit _ => 1
  | .nil => 1
  | .ptr d => uptoBulk d + 1
  | .slice elems spare => uptoBulkAll elems + uptoBulkAll spare + 1
  | .agg parts => uptoBulkAll parts + 1
  | .iface _ d => uptoBulk d + 1
  | .map entries => uptoBulkEntries entries + 1
  | .held _ => 1
def uptoBulkAll {H : Type} : List (DataW H) → Nat
  | [] => 0
  | d :: r => uptoBulk d + uptoBulkAll r
def uptoBulkEntries {H : Type} : List (Lit × DataW H) → Nat
  | [] => 0
  | x :: r => uptoBulkEntry x + uptoBulkEntries r
def uptoBulkEntry {H : Type} : Lit × DataW H → Nat
  | (.string bytes, d) => bytes.length + uptoBulk d + 1
  | (_, d) => uptoBulk d + 1
 end
def uptoSmall : (H : Type) → List (DataW H) → Bool := fun _ ds => decide (uptoBulkAll ds ≤ 1048576)
def OpenSpec.upto (s : _root_.Go.ChangeSpec) : _root_.Go.OpenSpec := { _root_.Go.OpenSpec.ofChange s with cond := some uptoSmall }

/-- 'turnrowlaw09.BumpActs', WHERE WHAT IT READS IS OF BULK AT MOST 1048576: true; the input reads as it did. -/
def bumpActsUptoRow : OpenClaim := { program := "yteencfldehcbbaadoor", sum := "0a26f11dede9fbbfd69c61d22727490945c7537240dc329796ec39221e7a1d64", func := "turnrow/turnrowlaw09.BumpActs", spec := "bumpActs", unfollowed := true, recurses := true, named := ["math/bits.deBruijn64tab"], apart := false, laid := [("math/bits.deBruijn64tab", laid_math_bits_deBruijn64tab)], narrowed := true }
def BumpActsUptoSaid : Prop := bumpActsUptoRow.holds Tryd.pinned (OpenSpec.upto bumpActsSpec)

/-- 'turnrowlaw09.BumpNews', WHERE WHAT IT READS IS OF BULK AT MOST 1048576: true; the input reads as it did. -/
def bumpNewsUptoRow : OpenClaim := { program := "yteencfldehcbbaadoor", sum := "0a26f11dede9fbbfd69c61d22727490945c7537240dc329796ec39221e7a1d64", func := "turnrow/turnrowlaw09.BumpNews", spec := "bumpNews", unfollowed := true, recurses := true, named := ["math/bits.deBruijn64tab"], apart := false, laid := [("math/bits.deBruijn64tab", laid_math_bits_deBruijn64tab)], narrowed := true }
def BumpNewsUptoSaid : Prop := bumpNewsUptoRow.holds Tryd.pinned (OpenSpec.upto bumpNewsSpec)

/-- 'turnrowlaw09.BumpApart', WHERE WHAT IT READS IS OF BULK AT MOST 1048576: true; the input reads as it did. -/
def bumpApartUptoRow : OpenClaim := { program := "yteencfldehcbbaadoor", sum := "0a26f11dede9fbbfd69c61d22727490945c7537240dc329796ec39221e7a1d64", func := "turnrow/turnrowlaw09.BumpApart", spec := "bumpApart", unfollowed := true, recurses := true, named := ["math/bits.deBruijn64tab"], apart := false, laid := [("math/bits.deBruijn64tab", laid_math_bits_deBruijn64tab)], narrowed := true }
def BumpApartUptoSaid : Prop := bumpApartUptoRow.holds Tryd.pinned (OpenSpec.upto bumpApartSpec)

/-- 'turnrowlaw09.BumpFew', WHERE WHAT IT READS IS OF BULK AT MOST 1048576: true; the input reads as it did. -/
def bumpFewUptoRow : OpenClaim := { program := "yteencfldehcbbaadoor", sum := "0a26f11dede9fbbfd69c61d22727490945c7537240dc329796ec39221e7a1d64", func := "turnrow/turnrowlaw09.BumpFew", spec := "bumpFew", unfollowed := true, recurses := true, named := ["math/bits.deBruijn64tab"], apart := false, laid := [("math/bits.deBruijn64tab", laid_math_bits_deBruijn64tab)], narrowed := true }
def BumpFewUptoSaid : Prop := bumpFewUptoRow.holds Tryd.pinned (OpenSpec.upto bumpFewSpec)

/-- 'turnrowlaw09.BumpMoves', WHERE WHAT IT READS IS OF BULK AT MOST 1048576: true; the input reads as it did. -/
def bumpMovesUptoRow : OpenClaim := { program := "yteencfldehcbbaadoor", sum := "0a26f11dede9fbbfd69c61d22727490945c7537240dc329796ec39221e7a1d64", func := "turnrow/turnrowlaw09.BumpMoves", spec := "bumpMoves", unfollowed := true, recurses := true, named := ["math/bits.deBruijn64tab"], apart := false, laid := [("math/bits.deBruijn64tab", laid_math_bits_deBruijn64tab)], narrowed := true }
def BumpMovesUptoSaid : Prop := bumpMovesUptoRow.holds Tryd.pinned (OpenSpec.upto bumpMovesSpec)

/-- 'turnrowlaw09.BumpRuns', WHERE WHAT IT READS IS OF BULK AT MOST 1048576: true; the input reads as it did. -/
def bumpRunsUptoRow : OpenClaim := { program := "yteencfldehcbbaadoor", sum := "0a26f11dede9fbbfd69c61d22727490945c7537240dc329796ec39221e7a1d64", func := "turnrow/turnrowlaw09.BumpRuns", spec := "bumpRuns", unfollowed := true, recurses := true, named := ["math/bits.deBruijn64tab"], apart := false, laid := [("math/bits.deBruijn64tab", laid_math_bits_deBruijn64tab)], narrowed := true }
def BumpRunsUptoSaid : Prop := bumpRunsUptoRow.holds Tryd.pinned (OpenSpec.upto bumpRunsSpec)

end Rows
end Go.Proofs.YteencfldehcbbaaDoor
