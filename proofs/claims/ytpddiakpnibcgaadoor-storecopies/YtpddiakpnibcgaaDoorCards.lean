/-
  DERIVED. GIVEN WITH THE SEED: THE CARDS: each row of YtpddiakpnibcgaaDoorRows.lean that lists a variable, with what it lists TIED to the program's text (the seventh form; the later family's looks); each row that meets fmt, with fmt's text TOLD by the authors' own Lean function (tested against real Go, not proved from fmt's source: count such statements apart). THE CARD IS WHAT COUNTS. Prove the row's statement (the work); the ties are given (YtpddiakpnibcgaaDoorTie.lean); close each card by the builder's one call (the guide's Derived/Test/ToyasCard.lean, 'card_holds'). Laid BY PROGRAM, IN A SANDBOX (cutbox-door.mjs). By AI agents, Wed Nov 11 2026. No macro, syntax, notation, axiom, sorry.
-/
import Derived.Test.YtpddiakpnibcgaaDoorRows
import GoSem.ClaimSeven
namespace Go.Proofs.YtpddiakpnibcgaaDoor
namespace Rows

/-- THE TIED CARD OF 'turnrowlaw03.StoreActs'. -/
def storeActsCard : Claim7 := { stood := { row := storeActsRow, standIns := [], harness := (true, "e2fe5109551c7d6f9f0a8fb692bfb6242a5faa2c61cd7694374308a01cdcbb1f"), looks := false }, kinds := [], alts := [], laidByText := true, laidKinds := [.data], laidTests := true, laidLooks := .later }
def StoreActsCardSaid : Prop := Claim7.holds Tryd.pinned (.plain (OpenSpec.ofChange storeActsSpec)) storeActsCard

/-- THE TIED CARD OF 'turnrowlaw03.StoreNews'. -/
def storeNewsCard : Claim7 := { stood := { row := storeNewsRow, standIns := [], harness := (true, "e2fe5109551c7d6f9f0a8fb692bfb6242a5faa2c61cd7694374308a01cdcbb1f"), looks := false }, kinds := [], alts := [], laidByText := true, laidKinds := [.data], laidTests := true, laidLooks := .later }
def StoreNewsCardSaid : Prop := Claim7.holds Tryd.pinned (.plain (OpenSpec.ofChange storeNewsSpec)) storeNewsCard

/-- THE TIED CARD OF 'turnrowlaw03.StoreTakes'. -/
def storeTakesCard : Claim7 := { stood := { row := storeTakesRow, standIns := [], harness := (true, "e2fe5109551c7d6f9f0a8fb692bfb6242a5faa2c61cd7694374308a01cdcbb1f"), looks := false }, kinds := [], alts := [], laidByText := true, laidKinds := [.data], laidTests := true, laidLooks := .later }
def StoreTakesCardSaid : Prop := Claim7.holds Tryd.pinned (.plain (OpenSpec.ofChange storeTakesSpec)) storeTakesCard

/-- THE TIED CARD OF 'turnrowlaw03.StoreCopies'. -/
def storeCopiesCard : Claim7 := { stood := { row := storeCopiesRow, standIns := [], harness := (true, "e2fe5109551c7d6f9f0a8fb692bfb6242a5faa2c61cd7694374308a01cdcbb1f"), looks := false }, kinds := [], alts := [], laidByText := true, laidKinds := [.data], laidTests := true, laidLooks := .later }
def StoreCopiesCardSaid : Prop := Claim7.holds Tryd.pinned (.plain (OpenSpec.ofChange storeCopiesSpec)) storeCopiesCard

/-- THE TIED CARD OF 'turnrowlaw03.StoreGives'. -/
def storeGivesCard : Claim7 := { stood := { row := storeGivesRow, standIns := [], harness := (true, "e2fe5109551c7d6f9f0a8fb692bfb6242a5faa2c61cd7694374308a01cdcbb1f"), looks := false }, kinds := [], alts := [], laidByText := true, laidKinds := [.data], laidTests := true, laidLooks := .later }
def StoreGivesCardSaid : Prop := Claim7.holds Tryd.pinned (.plain (OpenSpec.ofChange storeGivesSpec)) storeGivesCard

/-- THE TIED CARD OF 'turnrowlaw03.StoreRuns'. -/
def storeRunsCard : Claim7 := { stood := { row := storeRunsRow, standIns := [], harness := (true, "e2fe5109551c7d6f9f0a8fb692bfb6242a5faa2c61cd7694374308a01cdcbb1f"), looks := false }, kinds := [], alts := [], laidByText := true, laidKinds := [.data], laidTests := true, laidLooks := .later }
def StoreRunsCardSaid : Prop := Claim7.holds Tryd.pinned (.plain (OpenSpec.ofChange storeRunsSpec)) storeRunsCard

/-- THE TIED CARD OF 'turnrowlaw03.StoreParts'. -/
def storePartsCard : Claim7 := { stood := { row := storePartsRow, standIns := [], harness := (true, "e2fe5109551c7d6f9f0a8fb692bfb6242a5faa2c61cd7694374308a01cdcbb1f"), looks := false }, kinds := [], alts := [], laidByText := true, laidKinds := [.data], laidTests := true, laidLooks := .later }
def StorePartsCardSaid : Prop := Claim7.holds Tryd.pinned (.plain (OpenSpec.ofChange storePartsSpec)) storePartsCard

/-- THE SECOND FORM's CARD OF 'turnrowlaw03.StoreActs'. -/
def storeActsUptoCard : Claim7 := { stood := { row := storeActsUptoRow, standIns := [], harness := (true, "e2fe5109551c7d6f9f0a8fb692bfb6242a5faa2c61cd7694374308a01cdcbb1f"), looks := false }, kinds := [], alts := [], laidByText := true, laidKinds := [.data], laidTests := true, laidLooks := .later }
def StoreActsUptoCardSaid : Prop := Claim7.holds Tryd.pinned (.plain (OpenSpec.upto storeActsSpec)) storeActsUptoCard

/-- THE SECOND FORM's CARD OF 'turnrowlaw03.StoreNews'. -/
def storeNewsUptoCard : Claim7 := { stood := { row := storeNewsUptoRow, standIns := [], harness := (true, "e2fe5109551c7d6f9f0a8fb692bfb6242a5faa2c61cd7694374308a01cdcbb1f"), looks := false }, kinds := [], alts := [], laidByText := true, laidKinds := [.data], laidTests := true, laidLooks := .later }
def StoreNewsUptoCardSaid : Prop := Claim7.holds Tryd.pinned (.plain (OpenSpec.upto storeNewsSpec)) storeNewsUptoCard

/-- THE SECOND FORM's CARD OF 'turnrowlaw03.StoreTakes'. -/
def storeTakesUptoCard : Claim7 := { stood := { row := storeTakesUptoRow, standIns := [], harness := (true, "e2fe5109551c7d6f9f0a8fb692bfb6242a5faa2c61cd7694374308a01cdcbb1f"), looks := false }, kinds := [], alts := [], laidByText := true, laidKinds := [.data], laidTests := true, laidLooks := .later }
def StoreTakesUptoCardSaid : Prop := Claim7.holds Tryd.pinned (.plain (OpenSpec.upto storeTakesSpec)) storeTakesUptoCard

/-- THE SECOND FORM's CARD OF 'turnrowlaw03.StoreCopies'. -/
def storeCopiesUptoCard : Claim7 := { stood := { row := storeCopiesUptoRow, standIns := [], harness := (true, "e2fe5109551c7d6f9f0a8fb692bfb6242a5faa2c61cd7694374308a01cdcbb1f"), looks := false }, kinds := [], alts := [], laidByText := true, laidKinds := [.data], laidTests := true, laidLooks := .later }
def StoreCopiesUptoCardSaid : Prop := Claim7.holds Tryd.pinned (.plain (OpenSpec.upto storeCopiesSpec)) storeCopiesUptoCard

/-- THE SECOND FORM's CARD OF 'turnrowlaw03.StoreGives'. -/
def storeGivesUptoCard : Claim7 := { stood := { row := storeGivesUptoRow, standIns := [], harness := (true, "e2fe5109551c7d6f9f0a8fb692bfb6242a5faa2c61cd7694374308a01cdcbb1f"), looks := false }, kinds := [], alts := [], laidByText := true, laidKinds := [.data], laidTests := true, laidLooks := .later }
def StoreGivesUptoCardSaid : Prop := Claim7.holds Tryd.pinned (.plain (OpenSpec.upto storeGivesSpec)) storeGivesUptoCard

/-- THE SECOND FORM's CARD OF 'turnrowlaw03.StoreRuns'. -/
def storeRunsUptoCard : Claim7 := { stood := { row := storeRunsUptoRow, standIns := [], harness := (true, "e2fe5109551c7d6f9f0a8fb692bfb6242a5faa2c61cd7694374308a01cdcbb1f"), looks := false }, kinds := [], alts := [], laidByText := true, laidKinds := [.data], laidTests := true, laidLooks := .later }
def StoreRunsUptoCardSaid : Prop := Claim7.holds Tryd.pinned (.plain (OpenSpec.upto storeRunsSpec)) storeRunsUptoCard

/-- THE SECOND FORM's CARD OF 'turnrowlaw03.StoreParts'. -/
def storePartsUptoCard : Claim7 := { stood := { row := storePartsUptoRow, standIns := [], harness := (true, "e2fe5109551c7d6f9f0a8fb692bfb6242a5faa2c61cd7694374308a01cdcbb1f"), looks := false }, kinds := [], alts := [], laidByText := true, laidKinds := [.data], laidTests := true, laidLooks := .later }
def StorePartsUptoCardSaid : Prop := Claim7.holds Tryd.pinned (.plain (OpenSpec.upto storePartsSpec)) storePartsUptoCard
end Rows
end Go.Proofs.YtpddiakpnibcgaaDoor
