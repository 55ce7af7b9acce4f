/-
  DERIVED. GIVEN WITH THE SEED: THE CARDS: each row of YtcooghpjdjkmhaaDoorRows.lean that lists a variable, with what it lists TIED to the program's text (the seventh form; the later family's looks); each row that meets fmt, with fmt's text TOLD by the authors' own Lean function (tested against real Go, not proved from fmt's source: count such statements apart). THE CARD IS WHAT COUNTS. Prove the row's statement (the work); the ties are given (YtcooghpjdjkmhaaDoorTie.lean); close each card by the builder's one call (the guide's Derived/Test/ToyasCard.lean, 'card_holds'). Laid BY PROGRAM, IN A SANDBOX (cutbox-door.mjs). By AI agents, Wed Nov 11 2026. No macro, syntax, notation, axiom, sorry.
-/
import Derived.Test.YtcooghpjdjkmhaaDoorRows
import GoSem.ClaimSeven
namespace Go.Proofs.YtcooghpjdjkmhaaDoor
namespace Rows

/-- THE TIED CARD OF 'whirligiglaw05.OpcodeDecodes'. -/
def opcodeDecodesCard : Claim7 := { stood := { row := opcodeDecodesRow, standIns := [], harness := (true, "de7096b40c55d7ec45cbc1dabb0e477d68fa6b235f3197bb420066fc85fd2ab4"), looks := false }, kinds := [], alts := [], laidByText := true, laidKinds := [.data], laidTests := true, laidLooks := .later }
def OpcodeDecodesCardSaid : Prop := Claim7.holds Tryd.pinned (.plain (OpenSpec.ofChange opcodeDecodesSpec)) opcodeDecodesCard

/-- THE TIED CARD OF 'whirligiglaw05.OpcodePrefixes'. -/
def opcodePrefixesCard : Claim7 := { stood := { row := opcodePrefixesRow, standIns := [], harness := (true, "de7096b40c55d7ec45cbc1dabb0e477d68fa6b235f3197bb420066fc85fd2ab4"), looks := false }, kinds := [], alts := [], laidByText := true, laidKinds := [.data], laidTests := true, laidLooks := .later }
def OpcodePrefixesCardSaid : Prop := Claim7.holds Tryd.pinned (.plain (OpenSpec.ofChange opcodePrefixesSpec)) opcodePrefixesCard

/-- THE TIED CARD OF 'whirligiglaw05.OpcodeIllegals'. -/
def opcodeIllegalsCard : Claim7 := { stood := { row := opcodeIllegalsRow, standIns := [], harness := (true, "de7096b40c55d7ec45cbc1dabb0e477d68fa6b235f3197bb420066fc85fd2ab4"), looks := false }, kinds := [], alts := [], laidByText := true, laidKinds := [.data], laidTests := true, laidLooks := .later }
def OpcodeIllegalsCardSaid : Prop := Claim7.holds Tryd.pinned (.plain (OpenSpec.ofChange opcodeIllegalsSpec)) opcodeIllegalsCard

/-- THE TIED CARD OF 'whirligiglaw05.OpcodeEncodes'. -/
def opcodeEncodesCard : Claim7 := { stood := { row := opcodeEncodesRow, standIns := [], harness := (true, "de7096b40c55d7ec45cbc1dabb0e477d68fa6b235f3197bb420066fc85fd2ab4"), looks := false }, kinds := [], alts := [], laidByText := true, laidKinds := [.data], laidTests := true, laidLooks := .later }
def OpcodeEncodesCardSaid : Prop := Claim7.holds Tryd.pinned (.plain (OpenSpec.ofChange opcodeEncodesSpec)) opcodeEncodesCard

/-- THE TIED CARD OF 'whirligiglaw05.OpcodeBack'. -/
def opcodeBackCard : Claim7 := { stood := { row := opcodeBackRow, standIns := [], harness := (true, "de7096b40c55d7ec45cbc1dabb0e477d68fa6b235f3197bb420066fc85fd2ab4"), looks := false }, kinds := [], alts := [], laidByText := true, laidKinds := [.data], laidTests := true, laidLooks := .later }
def OpcodeBackCardSaid : Prop := Claim7.holds Tryd.pinned (.plain (OpenSpec.ofChange opcodeBackSpec)) opcodeBackCard

/-- THE TIED CARD OF 'whirligiglaw05.OpcodeTimes'. -/
def opcodeTimesCard : Claim7 := { stood := { row := opcodeTimesRow, standIns := [], harness := (true, "de7096b40c55d7ec45cbc1dabb0e477d68fa6b235f3197bb420066fc85fd2ab4"), looks := false }, kinds := [], alts := [], laidByText := true, laidKinds := [.data], laidTests := true, laidLooks := .later }
def OpcodeTimesCardSaid : Prop := Claim7.holds Tryd.pinned (.plain (OpenSpec.ofChange opcodeTimesSpec)) opcodeTimesCard

/-- THE SECOND FORM's CARD OF 'whirligiglaw05.OpcodeDecodes'. -/
def opcodeDecodesUptoCard : Claim7 := { stood := { row := opcodeDecodesUptoRow, standIns := [], harness := (true, "de7096b40c55d7ec45cbc1dabb0e477d68fa6b235f3197bb420066fc85fd2ab4"), looks := false }, kinds := [], alts := [], laidByText := true, laidKinds := [.data], laidTests := true, laidLooks := .later }
def OpcodeDecodesUptoCardSaid : Prop := Claim7.holds Tryd.pinned (.plain (OpenSpec.upto opcodeDecodesSpec)) opcodeDecodesUptoCard

/-- THE SECOND FORM's CARD OF 'whirligiglaw05.OpcodePrefixes'. -/
def opcodePrefixesUptoCard : Claim7 := { stood := { row := opcodePrefixesUptoRow, standIns := [], harness := (true, "de7096b40c55d7ec45cbc1dabb0e477d68fa6b235f3197bb420066fc85fd2ab4"), looks := false }, kinds := [], alts := [], laidByText := true, laidKinds := [.data], laidTests := true, laidLooks := .later }
def OpcodePrefixesUptoCardSaid : Prop := Claim7.holds Tryd.pinned (.plain (OpenSpec.upto opcodePrefixesSpec)) opcodePrefixesUptoCard

/-- THE SECOND FORM's CARD OF 'whirligiglaw05.OpcodeIllegals'. -/
def opcodeIllegalsUptoCard : Claim7 := { stood := { row := opcodeIllegalsUptoRow, standIns := [], harness := (true, "de7096b40c55d7ec45cbc1dabb0e477d68fa6b235f3197bb420066fc85fd2ab4"), looks := false }, kinds := [], alts := [], laidByText := true, laidKinds := [.data], laidTests := true, laidLooks := .later }
def OpcodeIllegalsUptoCardSaid : Prop := Claim7.holds Tryd.pinned (.plain (OpenSpec.upto opcodeIllegalsSpec)) opcodeIllegalsUptoCard

/-- THE SECOND FORM's CARD OF 'whirligiglaw05.OpcodeEncodes'. -/
def opcodeEncodesUptoCard : Claim7 := { stood := { row := opcodeEncodesUptoRow, standIns := [], harness := (true, "de7096b40c55d7ec45cbc1dabb0e477d68fa6b235f3197bb420066fc85fd2ab4"), looks := false }, kinds := [], alts := [], laidByText := true, laidKinds := [.data], laidTests := true, laidLooks := .later }
def OpcodeEncodesUptoCardSaid : Prop := Claim7.holds Tryd.pinned (.plain (OpenSpec.upto opcodeEncodesSpec)) opcodeEncodesUptoCard

/-- THE SECOND FORM's CARD OF 'whirligiglaw05.OpcodeBack'. -/
def opcodeBackUptoCard : Claim7 := { stood := { row := opcodeBackUptoRow, standIns := [], harness := (true, "de7096b40c55d7ec45cbc1dabb0e477d68fa6b235f3197bb420066fc85fd2ab4"), looks := false }, kinds := [], alts := [], laidByText := true, laidKinds := [.data], laidTests := true, laidLooks := .later }
def OpcodeBackUptoCardSaid : Prop := Claim7.holds Tryd.pinned (.plain (OpenSpec.upto opcodeBackSpec)) opcodeBackUptoCard

/-- THE SECOND FORM's CARD OF 'whirligiglaw05.OpcodeTimes'. -/
def opcodeTimesUptoCard : Claim7 := { stood := { row := opcodeTimesUptoRow, standIns := [], harness := (true, "de7096b40c55d7ec45cbc1dabb0e477d68fa6b235f3197bb420066fc85fd2ab4"), looks := false }, kinds := [], alts := [], laidByText := true, laidKinds := [.data], laidTests := true, laidLooks := .later }
def OpcodeTimesUptoCardSaid : Prop := Claim7.holds Tryd.pinned (.plain (OpenSpec.upto opcodeTimesSpec)) opcodeTimesUptoCard
end Rows
end Go.Proofs.YtcooghpjdjkmhaaDoor
