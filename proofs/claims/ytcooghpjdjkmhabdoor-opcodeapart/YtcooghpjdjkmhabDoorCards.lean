/-
  DERIVED. GIVEN WITH THE SEED: THE CARDS: each row of YtcooghpjdjkmhabDoorRows.lean that lists a variable, with what it lists TIED to the program's text (the seventh form; the later family's looks); each row that meets fmt, with fmt's text TOLD by the authors' own Lean function (tested against real Go, not proved from fmt's source: count such statements apart). THE CARD IS WHAT COUNTS. Prove the row's statement (the work); the ties are given (YtcooghpjdjkmhabDoorTie.lean); close each card by the builder's one call (the guide's Derived/Test/ToyasCard.lean, 'card_holds'). Laid BY PROGRAM, IN A SANDBOX (cutbox-door.mjs). By AI agents, Wed Nov 11 2026. No macro, syntax, notation, axiom, sorry.
-/
import Derived.Test.YtcooghpjdjkmhabDoorRows
import GoSem.ClaimSeven
namespace Go.Proofs.YtcooghpjdjkmhabDoor
namespace Rows

/-- THE TIED CARD OF 'whirligiglaw05.OpcodeApart'. -/
def opcodeApartCard : Claim7 := { stood := { row := opcodeApartRow, standIns := [], harness := (true, "8e14e1728bbc1c621aed1194a1e6a5a7f655b595bac92a69e8ddde53de7be515"), looks := false }, kinds := [], alts := [], laidByText := true, laidKinds := [.data], laidTests := true, laidLooks := .later }
def OpcodeApartCardSaid : Prop := Claim7.holds Tryd.pinned (.plain (OpenSpec.ofChange opcodeApartSpec)) opcodeApartCard

/-- THE TIED CARD OF 'whirligiglaw05.OpcodeCounts'. -/
def opcodeCountsCard : Claim7 := { stood := { row := opcodeCountsRow, standIns := [], harness := (true, "8e14e1728bbc1c621aed1194a1e6a5a7f655b595bac92a69e8ddde53de7be515"), looks := false }, kinds := [], alts := [], laidByText := true, laidKinds := [.data], laidTests := true, laidLooks := .later }
def OpcodeCountsCardSaid : Prop := Claim7.holds Tryd.pinned (.plain (OpenSpec.ofChange opcodeCountsSpec)) opcodeCountsCard

/-- THE SECOND FORM's CARD OF 'whirligiglaw05.OpcodeApart'. -/
def opcodeApartUptoCard : Claim7 := { stood := { row := opcodeApartUptoRow, standIns := [], harness := (true, "8e14e1728bbc1c621aed1194a1e6a5a7f655b595bac92a69e8ddde53de7be515"), looks := false }, kinds := [], alts := [], laidByText := true, laidKinds := [.data], laidTests := true, laidLooks := .later }
def OpcodeApartUptoCardSaid : Prop := Claim7.holds Tryd.pinned (.plain (OpenSpec.upto opcodeApartSpec)) opcodeApartUptoCard

/-- THE SECOND FORM's CARD OF 'whirligiglaw05.OpcodeCounts'. -/
def opcodeCountsUptoCard : Claim7 := { stood := { row := opcodeCountsUptoRow, standIns := [], harness := (true, "8e14e1728bbc1c621aed1194a1e6a5a7f655b595bac92a69e8ddde53de7be515"), looks := false }, kinds := [], alts := [], laidByText := true, laidKinds := [.data], laidTests := true, laidLooks := .later }
def OpcodeCountsUptoCardSaid : Prop := Claim7.holds Tryd.pinned (.plain (OpenSpec.upto opcodeCountsSpec)) opcodeCountsUptoCard
end Rows
end Go.Proofs.YtcooghpjdjkmhabDoor
