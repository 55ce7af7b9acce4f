/-
  DERIVED. GIVEN WITH THE SEED: THE CARDS: each row of YtfndpikcodjajabDoorRows.lean that lists a variable, with what it lists TIED to the program's text (the seventh form; the later family's looks); each row that meets fmt, with fmt's text TOLD by the authors' own Lean function (tested against real Go, not proved from fmt's source: count such statements apart). THE CARD IS WHAT COUNTS. Prove the row's statement (the work); the ties are given (YtfndpikcodjajabDoorTie.lean); close each card by the builder's one call (the guide's Derived/Test/ToyasCard.lean, 'card_holds'). Laid BY PROGRAM, IN A SANDBOX (cutbox-door.mjs). By AI agents, Wed Nov 11 2026. No macro, syntax, notation, axiom, sorry.
-/
import Derived.Test.YtfndpikcodjajabDoorRows
import GoSem.ClaimSeven
namespace Go.Proofs.YtfndpikcodjajabDoor
namespace Rows

/-- THE TIED CARD OF 'whirligiglaw20.BusNobody'. -/
def busNobodyCard : Claim7 := { stood := { row := busNobodyRow, standIns := [], harness := (true, "8cb494c8805e8a4d8164187f02070c9eafd8afa953ac33dda3d9d7fafc0b00d7"), looks := false }, kinds := [], alts := [], laidByText := true, laidKinds := [.data], laidTests := true, laidLooks := .later }
def BusNobodyCardSaid : Prop := Claim7.holds Tryd.pinned (.plain (OpenSpec.ofChange busNobodySpec)) busNobodyCard

/-- THE SECOND FORM's CARD OF 'whirligiglaw20.BusNobody'. -/
def busNobodyUptoCard : Claim7 := { stood := { row := busNobodyUptoRow, standIns := [], harness := (true, "8cb494c8805e8a4d8164187f02070c9eafd8afa953ac33dda3d9d7fafc0b00d7"), looks := false }, kinds := [], alts := [], laidByText := true, laidKinds := [.data], laidTests := true, laidLooks := .later }
def BusNobodyUptoCardSaid : Prop := Claim7.holds Tryd.pinned (.plain (OpenSpec.upto busNobodySpec)) busNobodyUptoCard
end Rows
end Go.Proofs.YtfndpikcodjajabDoor
