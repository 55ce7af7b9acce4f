/-
  DERIVED. GIVEN WITH THE SEED: THE CARDS: each row of YtlchkflpaehgcaaGreatDoorRows.lean that lists a variable, with what it lists TIED to the program's text (the seventh form; the later family's looks); each row that meets fmt, with fmt's text TOLD by the authors' own Lean function (tested against real Go, not proved from fmt's source: count such statements apart). THE CARD IS WHAT COUNTS. Prove the row's statement (the work); the ties are given (YtlchkflpaehgcaaGreatDoorTie.lean); close each card by the builder's one call (the guide's Derived/Test/ToyasCard.lean, 'card_holds'). Laid BY PROGRAM, IN A SANDBOX (cutbox-door.mjs). By AI agents, Wed Nov 11 2026. No macro, syntax, notation, axiom, sorry.
-/
import Derived.Test.YtlchkflpaehgcaaGreatDoorRows
import GoSem.ClaimSeven
namespace Go.Proofs.YtlchkflpaehgcaaGreatDoor
namespace Rows

/-- THE TIED CARD OF 'whirligiglaw06.ListingLines'. -/
def listingLinesCard : Claim7 := { stood := { row := listingLinesRow, standIns := [], harness := (true, "4bc9692775dbd6c1c2d26866fc52f776b5ef1430313f9435a859acb5b478bc08"), looks := false }, kinds := [], alts := [], laidByText := true, laidKinds := [.data, .data, .data, .data, .data, .data, .data, .data, .data, .data, .data, .data, .data, .pinned], laidTests := true, laidLooks := .later }
def ListingLinesCardSaid : Prop := Claim7.holds Tryz.pinned (.plain (OpenSpec.ofChange listingLinesSpec)) listingLinesCard

/-- THE TIED CARD OF 'whirligiglaw06.ListingAssembles'. -/
def listingAssemblesCard : Claim7 := { stood := { row := listingAssemblesRow, standIns := [], harness := (true, "4bc9692775dbd6c1c2d26866fc52f776b5ef1430313f9435a859acb5b478bc08"), looks := false }, kinds := [], alts := [], laidByText := true, laidKinds := [.data, .data, .data, .data, .data, .data, .data, .data, .data, .data, .data, .data, .data, .pinned], laidTests := true, laidLooks := .later }
def ListingAssemblesCardSaid : Prop := Claim7.holds Tryz.pinned (.plain (OpenSpec.ofChange listingAssemblesSpec)) listingAssemblesCard

/-- THE TIED CARD OF 'whirligiglaw06.ListingAlls'. -/
def listingAllsCard : Claim7 := { stood := { row := listingAllsRow, standIns := [], harness := (true, "4bc9692775dbd6c1c2d26866fc52f776b5ef1430313f9435a859acb5b478bc08"), looks := false }, kinds := [], alts := [], laidByText := true, laidKinds := [.data, .data, .data, .data, .data, .data, .data, .data, .data, .data, .data, .data, .data, .pinned], laidTests := true, laidLooks := .later }
def ListingAllsCardSaid : Prop := Claim7.holds Tryz.pinned (.plain (OpenSpec.ofChange listingAllsSpec)) listingAllsCard

/-- THE SECOND FORM's CARD OF 'whirligiglaw06.ListingLines'. -/
def listingLinesUptoCard : Claim7 := { stood := { row := listingLinesUptoRow, standIns := [], harness := (true, "4bc9692775dbd6c1c2d26866fc52f776b5ef1430313f9435a859acb5b478bc08"), looks := false }, kinds := [], alts := [], laidByText := true, laidKinds := [.data, .data, .data, .data, .data, .data, .data, .data, .data, .data, .data, .data, .data, .pinned], laidTests := true, laidLooks := .later }
def ListingLinesUptoCardSaid : Prop := Claim7.holds Tryz.pinned (.plain (OpenSpec.upto listingLinesSpec)) listingLinesUptoCard

/-- THE SECOND FORM's CARD OF 'whirligiglaw06.ListingAssembles'. -/
def listingAssemblesUptoCard : Claim7 := { stood := { row := listingAssemblesUptoRow, standIns := [], harness := (true, "4bc9692775dbd6c1c2d26866fc52f776b5ef1430313f9435a859acb5b478bc08"), looks := false }, kinds := [], alts := [], laidByText := true, laidKinds := [.data, .data, .data, .data, .data, .data, .data, .data, .data, .data, .data, .data, .data, .pinned], laidTests := true, laidLooks := .later }
def ListingAssemblesUptoCardSaid : Prop := Claim7.holds Tryz.pinned (.plain (OpenSpec.upto listingAssemblesSpec)) listingAssemblesUptoCard

/-- THE SECOND FORM's CARD OF 'whirligiglaw06.ListingAlls'. -/
def listingAllsUptoCard : Claim7 := { stood := { row := listingAllsUptoRow, standIns := [], harness := (true, "4bc9692775dbd6c1c2d26866fc52f776b5ef1430313f9435a859acb5b478bc08"), looks := false }, kinds := [], alts := [], laidByText := true, laidKinds := [.data, .data, .data, .data, .data, .data, .data, .data, .data, .data, .data, .data, .data, .pinned], laidTests := true, laidLooks := .later }
def ListingAllsUptoCardSaid : Prop := Claim7.holds Tryz.pinned (.plain (OpenSpec.upto listingAllsSpec)) listingAllsUptoCard
end Rows
end Go.Proofs.YtlchkflpaehgcaaGreatDoor
