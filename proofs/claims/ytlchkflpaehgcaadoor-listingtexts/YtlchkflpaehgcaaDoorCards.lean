/-
  DERIVED. GIVEN WITH THE SEED: THE CARDS: each row of YtlchkflpaehgcaaDoorRows.lean that lists a variable, with what it lists TIED to the program's text (the seventh form; the later family's looks); each row that meets fmt, with fmt's text TOLD by the authors' own Lean function (tested against real Go, not proved from fmt's source: count such statements apart). THE CARD IS WHAT COUNTS. Prove the row's statement (the work); the ties are given (YtlchkflpaehgcaaDoorTie.lean); close each card by the builder's one call (the guide's Derived/Test/ToyasCard.lean, 'card_holds'). Laid BY PROGRAM, IN A SANDBOX (cutbox-door.mjs). By AI agents, Wed Nov 11 2026. No macro, syntax, notation, axiom, sorry.
-/
import Derived.Test.YtlchkflpaehgcaaDoorRows
import GoSem.ClaimSeven
namespace Go.Proofs.YtlchkflpaehgcaaDoor
namespace Rows

/-- THE TIED CARD OF 'whirligiglaw06.ListingTexts'. -/
def listingTextsCard : Claim7 := { stood := { row := listingTextsRow, standIns := [], harness := (true, "0153ddde95f500d625140688f3eac77442b9ac2605c7af3f0cb6dc067b554127"), looks := false }, kinds := [], alts := [], laidByText := true, laidKinds := [.data, .data, .data, .data, .data, .data, .data, .data, .data, .data, .data, .data, .data, .pinned], laidTests := true, laidLooks := .later }
def ListingTextsCardSaid : Prop := Claim7.holds Tryd.pinned (.plain (OpenSpec.ofChange listingTextsSpec)) listingTextsCard

/-- THE TIED CARD OF 'whirligiglaw06.ListingOnes'. -/
def listingOnesCard : Claim7 := { stood := { row := listingOnesRow, standIns := [], harness := (true, "0153ddde95f500d625140688f3eac77442b9ac2605c7af3f0cb6dc067b554127"), looks := false }, kinds := [], alts := [], laidByText := true, laidKinds := [.data, .data, .data, .data, .data, .data, .data, .data, .data, .data, .data, .data, .data, .pinned], laidTests := true, laidLooks := .later }
def ListingOnesCardSaid : Prop := Claim7.holds Tryd.pinned (.plain (OpenSpec.ofChange listingOnesSpec)) listingOnesCard

/-- THE TIED CARD OF 'whirligiglaw06.ListingBack'. -/
def listingBackCard : Claim7 := { stood := { row := listingBackRow, standIns := [], harness := (true, "0153ddde95f500d625140688f3eac77442b9ac2605c7af3f0cb6dc067b554127"), looks := false }, kinds := [], alts := [], laidByText := true, laidKinds := [.data, .data, .data, .data, .data, .data, .data, .data, .data, .data, .data, .data, .data, .pinned], laidTests := true, laidLooks := .later }
def ListingBackCardSaid : Prop := Claim7.holds Tryd.pinned (.plain (OpenSpec.ofChange listingBackSpec)) listingBackCard

/-- THE SECOND FORM's CARD OF 'whirligiglaw06.ListingTexts'. -/
def listingTextsUptoCard : Claim7 := { stood := { row := listingTextsUptoRow, standIns := [], harness := (true, "0153ddde95f500d625140688f3eac77442b9ac2605c7af3f0cb6dc067b554127"), looks := false }, kinds := [], alts := [], laidByText := true, laidKinds := [.data, .data, .data, .data, .data, .data, .data, .data, .data, .data, .data, .data, .data, .pinned], laidTests := true, laidLooks := .later }
def ListingTextsUptoCardSaid : Prop := Claim7.holds Tryd.pinned (.plain (OpenSpec.upto listingTextsSpec)) listingTextsUptoCard

/-- THE SECOND FORM's CARD OF 'whirligiglaw06.ListingOnes'. -/
def listingOnesUptoCard : Claim7 := { stood := { row := listingOnesUptoRow, standIns := [], harness := (true, "0153ddde95f500d625140688f3eac77442b9ac2605c7af3f0cb6dc067b554127"), looks := false }, kinds := [], alts := [], laidByText := true, laidKinds := [.data, .data, .data, .data, .data, .data, .data, .data, .data, .data, .data, .data, .data, .pinned], laidTests := true, laidLooks := .later }
def ListingOnesUptoCardSaid : Prop := Claim7.holds Tryd.pinned (.plain (OpenSpec.upto listingOnesSpec)) listingOnesUptoCard

/-- THE SECOND FORM's CARD OF 'whirligiglaw06.ListingBack'. -/
def listingBackUptoCard : Claim7 := { stood := { row := listingBackUptoRow, standIns := [], harness := (true, "0153ddde95f500d625140688f3eac77442b9ac2605c7af3f0cb6dc067b554127"), looks := false }, kinds := [], alts := [], laidByText := true, laidKinds := [.data, .data, .data, .data, .data, .data, .data, .data, .data, .data, .data, .data, .data, .pinned], laidTests := true, laidLooks := .later }
def ListingBackUptoCardSaid : Prop := Claim7.holds Tryd.pinned (.plain (OpenSpec.upto listingBackSpec)) listingBackUptoCard
end Rows
end Go.Proofs.YtlchkflpaehgcaaDoor
