/-
  DERIVED. GIVEN WITH THE SEED: THE CARDS: each row of YteneadimchhhhaaGreatDoorRows.lean that lists a variable, with what it lists TIED to the program's text (the seventh form; the later family's looks); each row that meets fmt, with fmt's text TOLD by the authors' own Lean function (tested against real Go, not proved from fmt's source: count such statements apart). THE CARD IS WHAT COUNTS. Prove the row's statement (the work); the ties are given (YteneadimchhhhaaGreatDoorTie.lean); close each card by the builder's one call (the guide's Derived/Test/ToyasCard.lean, 'card_holds'). Laid BY PROGRAM, IN A SANDBOX (cutbox-door.mjs). By AI agents, Wed Nov 11 2026. No macro, syntax, notation, axiom, sorry.
-/
import Derived.Test.YteneadimchhhhaaGreatDoorRows
import GoSem.ClaimSeven
namespace Go.Proofs.YteneadimchhhhaaGreatDoor
namespace Rows

/-- THE TIED CARD OF 'turnrowlaw12.ImageActs'. -/
def imageActsCard : Claim7 := { stood := { row := imageActsRow, standIns := [], harness := (true, "038bbc7fb860ac1b65cd3fb69e6b1ec1ea52a2c9d4ceafa5bd552ba412fcebfb"), looks := false }, kinds := [], alts := [], laidByText := true, laidKinds := [.data], laidTests := true, laidLooks := .later }
def ImageActsCardSaid : Prop := Claim7.holds Tryz.pinned (.plain (OpenSpec.ofChange imageActsSpec)) imageActsCard

/-- THE TIED CARD OF 'turnrowlaw12.ImageLinks'. -/
def imageLinksCard : Claim7 := { stood := { row := imageLinksRow, standIns := [], harness := (true, "038bbc7fb860ac1b65cd3fb69e6b1ec1ea52a2c9d4ceafa5bd552ba412fcebfb"), looks := false }, kinds := [], alts := [], laidByText := true, laidKinds := [.data], laidTests := true, laidLooks := .later }
def ImageLinksCardSaid : Prop := Claim7.holds Tryz.pinned (.plain (OpenSpec.ofChange imageLinksSpec)) imageLinksCard

/-- THE SECOND FORM's CARD OF 'turnrowlaw12.ImageActs'. -/
def imageActsUptoCard : Claim7 := { stood := { row := imageActsUptoRow, standIns := [], harness := (true, "038bbc7fb860ac1b65cd3fb69e6b1ec1ea52a2c9d4ceafa5bd552ba412fcebfb"), looks := false }, kinds := [], alts := [], laidByText := true, laidKinds := [.data], laidTests := true, laidLooks := .later }
def ImageActsUptoCardSaid : Prop := Claim7.holds Tryz.pinned (.plain (OpenSpec.upto imageActsSpec)) imageActsUptoCard

/-- THE SECOND FORM's CARD OF 'turnrowlaw12.ImageLinks'. -/
def imageLinksUptoCard : Claim7 := { stood := { row := imageLinksUptoRow, standIns := [], harness := (true, "038bbc7fb860ac1b65cd3fb69e6b1ec1ea52a2c9d4ceafa5bd552ba412fcebfb"), looks := false }, kinds := [], alts := [], laidByText := true, laidKinds := [.data], laidTests := true, laidLooks := .later }
def ImageLinksUptoCardSaid : Prop := Claim7.holds Tryz.pinned (.plain (OpenSpec.upto imageLinksSpec)) imageLinksUptoCard
end Rows
end Go.Proofs.YteneadimchhhhaaGreatDoor
