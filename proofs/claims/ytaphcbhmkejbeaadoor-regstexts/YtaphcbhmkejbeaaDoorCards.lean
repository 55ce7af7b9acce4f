/-
  DERIVED. GIVEN WITH THE SEED: THE CARDS: each row of YtaphcbhmkejbeaaDoorRows.lean that lists a variable, with what it lists TIED to the program's text (the seventh form; the later family's looks); each row that meets fmt, with fmt's text TOLD by the authors' own Lean function (tested against real Go, not proved from fmt's source: count such statements apart). THE CARD IS WHAT COUNTS. Prove the row's statement (the work); the ties are given (YtaphcbhmkejbeaaDoorTie.lean); close each card by the builder's one call (the guide's Derived/Test/ToyasCard.lean, 'card_holds'). Laid BY PROGRAM, IN A SANDBOX (cutbox-door.mjs). By AI agents, Wed Nov 11 2026. No macro, syntax, notation, axiom, sorry.
-/
import Derived.Test.YtaphcbhmkejbeaaDoorRows
import GoSem.ClaimSeven
namespace Go.Proofs.YtaphcbhmkejbeaaDoor
namespace Rows

/-- THE TIED CARD OF 'whirligiglaw04.RegsGets'. -/
def regsGetsCard : Claim7 := { stood := { row := regsGetsRow, standIns := [], harness := (true, "2bde32e456ccbec39e292ed0a65ba0812bed2f2691de639a9e8750e5466e6271"), looks := false }, kinds := [], alts := [], laidByText := true, laidKinds := [.data], laidTests := true, laidLooks := .later }
def RegsGetsCardSaid : Prop := Claim7.holds Tryd.pinned (.plain (OpenSpec.ofChange regsGetsSpec)) regsGetsCard

/-- THE TIED CARD OF 'whirligiglaw04.RegsPuts'. -/
def regsPutsCard : Claim7 := { stood := { row := regsPutsRow, standIns := [], harness := (true, "2bde32e456ccbec39e292ed0a65ba0812bed2f2691de639a9e8750e5466e6271"), looks := false }, kinds := [], alts := [], laidByText := true, laidKinds := [.data], laidTests := true, laidLooks := .later }
def RegsPutsCardSaid : Prop := Claim7.holds Tryd.pinned (.plain (OpenSpec.ofChange regsPutsSpec)) regsPutsCard

/-- THE TIED CARD OF 'whirligiglaw04.RegsPairs'. -/
def regsPairsCard : Claim7 := { stood := { row := regsPairsRow, standIns := [], harness := (true, "2bde32e456ccbec39e292ed0a65ba0812bed2f2691de639a9e8750e5466e6271"), looks := false }, kinds := [], alts := [], laidByText := true, laidKinds := [.data], laidTests := true, laidLooks := .later }
def RegsPairsCardSaid : Prop := Claim7.holds Tryd.pinned (.plain (OpenSpec.ofChange regsPairsSpec)) regsPairsCard

/-- THE TIED CARD OF 'whirligiglaw04.RegsPutPairs'. -/
def regsPutPairsCard : Claim7 := { stood := { row := regsPutPairsRow, standIns := [], harness := (true, "2bde32e456ccbec39e292ed0a65ba0812bed2f2691de639a9e8750e5466e6271"), looks := false }, kinds := [], alts := [], laidByText := true, laidKinds := [.data], laidTests := true, laidLooks := .later }
def RegsPutPairsCardSaid : Prop := Claim7.holds Tryd.pinned (.plain (OpenSpec.ofChange regsPutPairsSpec)) regsPutPairsCard

/-- THE TIED CARD OF 'whirligiglaw04.RegsFlags'. -/
def regsFlagsCard : Claim7 := { stood := { row := regsFlagsRow, standIns := [], harness := (true, "2bde32e456ccbec39e292ed0a65ba0812bed2f2691de639a9e8750e5466e6271"), looks := false }, kinds := [], alts := [], laidByText := true, laidKinds := [.data], laidTests := true, laidLooks := .later }
def RegsFlagsCardSaid : Prop := Claim7.holds Tryd.pinned (.plain (OpenSpec.ofChange regsFlagsSpec)) regsFlagsCard

/-- THE TIED CARD OF 'whirligiglaw04.RegsTexts'. -/
def regsTextsCard : Claim7 := { stood := { row := regsTextsRow, standIns := [], harness := (true, "2bde32e456ccbec39e292ed0a65ba0812bed2f2691de639a9e8750e5466e6271"), looks := false }, kinds := [], alts := [], laidByText := true, laidKinds := [.data], laidTests := true, laidLooks := .later }
def RegsTextsCardSaid : Prop := Claim7.holds Tryd.pinned (.plain (OpenSpec.ofChange regsTextsSpec)) regsTextsCard

/-- THE SECOND FORM's CARD OF 'whirligiglaw04.RegsGets'. -/
def regsGetsUptoCard : Claim7 := { stood := { row := regsGetsUptoRow, standIns := [], harness := (true, "2bde32e456ccbec39e292ed0a65ba0812bed2f2691de639a9e8750e5466e6271"), looks := false }, kinds := [], alts := [], laidByText := true, laidKinds := [.data], laidTests := true, laidLooks := .later }
def RegsGetsUptoCardSaid : Prop := Claim7.holds Tryd.pinned (.plain (OpenSpec.upto regsGetsSpec)) regsGetsUptoCard

/-- THE SECOND FORM's CARD OF 'whirligiglaw04.RegsPuts'. -/
def regsPutsUptoCard : Claim7 := { stood := { row := regsPutsUptoRow, standIns := [], harness := (true, "2bde32e456ccbec39e292ed0a65ba0812bed2f2691de639a9e8750e5466e6271"), looks := false }, kinds := [], alts := [], laidByText := true, laidKinds := [.data], laidTests := true, laidLooks := .later }
def RegsPutsUptoCardSaid : Prop := Claim7.holds Tryd.pinned (.plain (OpenSpec.upto regsPutsSpec)) regsPutsUptoCard

/-- THE SECOND FORM's CARD OF 'whirligiglaw04.RegsPairs'. -/
def regsPairsUptoCard : Claim7 := { stood := { row := regsPairsUptoRow, standIns := [], harness := (true, "2bde32e456ccbec39e292ed0a65ba0812bed2f2691de639a9e8750e5466e6271"), looks := false }, kinds := [], alts := [], laidByText := true, laidKinds := [.data], laidTests := true, laidLooks := .later }
def RegsPairsUptoCardSaid : Prop := Claim7.holds Tryd.pinned (.plain (OpenSpec.upto regsPairsSpec)) regsPairsUptoCard

/-- THE SECOND FORM's CARD OF 'whirligiglaw04.RegsPutPairs'. -/
def regsPutPairsUptoCard : Claim7 := { stood := { row := regsPutPairsUptoRow, standIns := [], harness := (true, "2bde32e456ccbec39e292ed0a65ba0812bed2f2691de639a9e8750e5466e6271"), looks := false }, kinds := [], alts := [], laidByText := true, laidKinds := [.data], laidTests := true, laidLooks := .later }
def RegsPutPairsUptoCardSaid : Prop := Claim7.holds Tryd.pinned (.plain (OpenSpec.upto regsPutPairsSpec)) regsPutPairsUptoCard

/-- THE SECOND FORM's CARD OF 'whirligiglaw04.RegsFlags'. -/
def regsFlagsUptoCard : Claim7 := { stood := { row := regsFlagsUptoRow, standIns := [], harness := (true, "2bde32e456ccbec39e292ed0a65ba0812bed2f2691de639a9e8750e5466e6271"), looks := false }, kinds := [], alts := [], laidByText := true, laidKinds := [.data], laidTests := true, laidLooks := .later }
def RegsFlagsUptoCardSaid : Prop := Claim7.holds Tryd.pinned (.plain (OpenSpec.upto regsFlagsSpec)) regsFlagsUptoCard

/-- THE SECOND FORM's CARD OF 'whirligiglaw04.RegsTexts'. -/
def regsTextsUptoCard : Claim7 := { stood := { row := regsTextsUptoRow, standIns := [], harness := (true, "2bde32e456ccbec39e292ed0a65ba0812bed2f2691de639a9e8750e5466e6271"), looks := false }, kinds := [], alts := [], laidByText := true, laidKinds := [.data], laidTests := true, laidLooks := .later }
def RegsTextsUptoCardSaid : Prop := Claim7.holds Tryd.pinned (.plain (OpenSpec.upto regsTextsSpec)) regsTextsUptoCard
end Rows
end Go.Proofs.YtaphcbhmkejbeaaDoor
