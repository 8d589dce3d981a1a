/-
  DERIVED. GIVEN WITH THE SEED: THE CARDS: each row of YteencfldehcbbaaDoorRows.lean that lists a variable, with what it lists TIED to the program's text (the seventh form; the later family's looks); each row that meets fmt, with fmt's text TOLD by the authors' own Lean function (tested against real Go, not proved from fmt's source: count such statements apart). THE CARD IS WHAT COUNTS. Prove the row's statement (the work); the ties are given (YteencfldehcbbaaDoorTie.lean); close each card by the builder's one call (the guide's Derived/Test/ToyasCard.lean, 'card_holds'). Laid BY PROGRAM, IN A SANDBOX (cutbox-door.mjs). By AI agents, Wed Nov 11 2026. No macro, syntax, notation, axiom, sorry.
-/
import Derived.Test.YteencfldehcbbaaDoorRows
import GoSem.ClaimSeven
namespace Go.Proofs.YteencfldehcbbaaDoor
namespace Rows

/-- THE TIED CARD OF 'turnrowlaw09.BumpActs'. -/
def bumpActsCard : Claim7 := { stood := { row := bumpActsRow, standIns := [], harness := (true, "c64c18b42ec72b3ba9d29b9ee339b5f919c842ac29f6c45a30f631178beaa7d2"), looks := false }, kinds := [], alts := [], laidByText := true, laidKinds := [.data], laidTests := true, laidLooks := .later }
def BumpActsCardSaid : Prop := Claim7.holds Tryd.pinned (.plain (OpenSpec.ofChange bumpActsSpec)) bumpActsCard

/-- THE TIED CARD OF 'turnrowlaw09.BumpNews'. -/
def bumpNewsCard : Claim7 := { stood := { row := bumpNewsRow, standIns := [], harness := (true, "c64c18b42ec72b3ba9d29b9ee339b5f919c842ac29f6c45a30f631178beaa7d2"), looks := false }, kinds := [], alts := [], laidByText := true, laidKinds := [.data], laidTests := true, laidLooks := .later }
def BumpNewsCardSaid : Prop := Claim7.holds Tryd.pinned (.plain (OpenSpec.ofChange bumpNewsSpec)) bumpNewsCard

/-- THE TIED CARD OF 'turnrowlaw09.BumpApart'. -/
def bumpApartCard : Claim7 := { stood := { row := bumpApartRow, standIns := [], harness := (true, "c64c18b42ec72b3ba9d29b9ee339b5f919c842ac29f6c45a30f631178beaa7d2"), looks := false }, kinds := [], alts := [], laidByText := true, laidKinds := [.data], laidTests := true, laidLooks := .later }
def BumpApartCardSaid : Prop := Claim7.holds Tryd.pinned (.plain (OpenSpec.ofChange bumpApartSpec)) bumpApartCard

/-- THE TIED CARD OF 'turnrowlaw09.BumpFew'. -/
def bumpFewCard : Claim7 := { stood := { row := bumpFewRow, standIns := [], harness := (true, "c64c18b42ec72b3ba9d29b9ee339b5f919c842ac29f6c45a30f631178beaa7d2"), looks := false }, kinds := [], alts := [], laidByText := true, laidKinds := [.data], laidTests := true, laidLooks := .later }
def BumpFewCardSaid : Prop := Claim7.holds Tryd.pinned (.plain (OpenSpec.ofChange bumpFewSpec)) bumpFewCard

/-- THE TIED CARD OF 'turnrowlaw09.BumpMoves'. -/
def bumpMovesCard : Claim7 := { stood := { row := bumpMovesRow, standIns := [], harness := (true, "c64c18b42ec72b3ba9d29b9ee339b5f919c842ac29f6c45a30f631178beaa7d2"), looks := false }, kinds := [], alts := [], laidByText := true, laidKinds := [.data], laidTests := true, laidLooks := .later }
def BumpMovesCardSaid : Prop := Claim7.holds Tryd.pinned (.plain (OpenSpec.ofChange bumpMovesSpec)) bumpMovesCard

/-- THE TIED CARD OF 'turnrowlaw09.BumpRuns'. -/
def bumpRunsCard : Claim7 := { stood := { row := bumpRunsRow, standIns := [], harness := (true, "c64c18b42ec72b3ba9d29b9ee339b5f919c842ac29f6c45a30f631178beaa7d2"), looks := false }, kinds := [], alts := [], laidByText := true, laidKinds := [.data], laidTests := true, laidLooks := .later }
def BumpRunsCardSaid : Prop := Claim7.holds Tryd.pinned (.plain (OpenSpec.ofChange bumpRunsSpec)) bumpRunsCard

/-- THE SECOND FORM's CARD OF 'turnrowlaw09.BumpActs'. -/
def bumpActsUptoCard : Claim7 := { stood := { row := bumpActsUptoRow, standIns := [], harness := (true, "c64c18b42ec72b3ba9d29b9ee339b5f919c842ac29f6c45a30f631178beaa7d2"), looks := false }, kinds := [], alts := [], laidByText := true, laidKinds := [.data], laidTests := true, laidLooks := .later }
def BumpActsUptoCardSaid : Prop := Claim7.holds Tryd.pinned (.plain (OpenSpec.upto bumpActsSpec)) bumpActsUptoCard

/-- THE SECOND FORM's CARD OF 'turnrowlaw09.BumpNews'. -/
def bumpNewsUptoCard : Claim7 := { stood := { row := bumpNewsUptoRow, standIns := [], harness := (true, "c64c18b42ec72b3ba9d29b9ee339b5f919c842ac29f6c45a30f631178beaa7d2"), looks := false }, kinds := [], alts := [], laidByText := true, laidKinds := [.data], laidTests := true, laidLooks := .later }
def BumpNewsUptoCardSaid : Prop := Claim7.holds Tryd.pinned (.plain (OpenSpec.upto bumpNewsSpec)) bumpNewsUptoCard

/-- THE SECOND FORM's CARD OF 'turnrowlaw09.BumpApart'. -/
def bumpApartUptoCard : Claim7 := { stood := { row := bumpApartUptoRow, standIns := [], harness := (true, "c64c18b42ec72b3ba9d29b9ee339b5f919c842ac29f6c45a30f631178beaa7d2"), looks := false }, kinds := [], alts := [], laidByText := true, laidKinds := [.data], laidTests := true, laidLooks := .later }
def BumpApartUptoCardSaid : Prop := Claim7.holds Tryd.pinned (.plain (OpenSpec.upto bumpApartSpec)) bumpApartUptoCard

/-- THE SECOND FORM's CARD OF 'turnrowlaw09.BumpFew'. -/
def bumpFewUptoCard : Claim7 := { stood := { row := bumpFewUptoRow, standIns := [], harness := (true, "c64c18b42ec72b3ba9d29b9ee339b5f919c842ac29f6c45a30f631178beaa7d2"), looks := false }, kinds := [], alts := [], laidByText := true, laidKinds := [.data], laidTests := true, laidLooks := .later }
def BumpFewUptoCardSaid : Prop := Claim7.holds Tryd.pinned (.plain (OpenSpec.upto bumpFewSpec)) bumpFewUptoCard

/-- THE SECOND FORM's CARD OF 'turnrowlaw09.BumpMoves'. -/
def bumpMovesUptoCard : Claim7 := { stood := { row := bumpMovesUptoRow, standIns := [], harness := (true, "c64c18b42ec72b3ba9d29b9ee339b5f919c842ac29f6c45a30f631178beaa7d2"), looks := false }, kinds := [], alts := [], laidByText := true, laidKinds := [.data], laidTests := true, laidLooks := .later }
def BumpMovesUptoCardSaid : Prop := Claim7.holds Tryd.pinned (.plain (OpenSpec.upto bumpMovesSpec)) bumpMovesUptoCard

/-- THE SECOND FORM's CARD OF 'turnrowlaw09.BumpRuns'. -/
def bumpRunsUptoCard : Claim7 := { stood := { row := bumpRunsUptoRow, standIns := [], harness := (true, "c64c18b42ec72b3ba9d29b9ee339b5f919c842ac29f6c45a30f631178beaa7d2"), looks := false }, kinds := [], alts := [], laidByText := true, laidKinds := [.data], laidTests := true, laidLooks := .later }
def BumpRunsUptoCardSaid : Prop := Claim7.holds Tryd.pinned (.plain (OpenSpec.upto bumpRunsSpec)) bumpRunsUptoCard
end Rows
end Go.Proofs.YteencfldehcbbaaDoor
