/-
  DERIVED. GIVEN WITH THE SEED: THE CARDS: each row of YtfmehkaojfjdjaaDoorRows.lean that lists a variable, with what it lists TIED to the program's text (the seventh form; the later family's looks); each row that meets fmt, with fmt's text TOLD by the authors' own Lean function (tested against real Go, not proved from fmt's source: count such statements apart). THE CARD IS WHAT COUNTS. Prove the row's statement (the work); the ties are given (YtfmehkaojfjdjaaDoorTie.lean); close each card by the builder's one call (the guide's Derived/Test/ToyasCard.lean, 'card_holds'). Laid BY PROGRAM, IN A SANDBOX (cutbox-door.mjs). By AI agents, Wed Nov 11 2026. No macro, syntax, notation, axiom, sorry.
-/
import Derived.Test.YtfmehkaojfjdjaaDoorRows
import GoSem.ClaimSeven
namespace Go.Proofs.YtfmehkaojfjdjaaDoor
namespace Rows

/-- THE TIED CARD OF 'whirligiglaw07.HeaderParses'. -/
def headerParsesCard : Claim7 := { stood := { row := headerParsesRow, standIns := [], harness := (true, "f076c456085580f8e73dadb02942c3c81ce793993e43a96c8dfc4c40aab5fd4a"), looks := true }, kinds := [], alts := [], laidByText := true, laidKinds := [.data, .data], laidTests := true, laidLooks := .later }
def HeaderParsesCardSaid : Prop := Claim7.holds Tryd.pinned (.plain (OpenSpec.ofChange headerParsesSpec)) headerParsesCard

/-- THE TIED CARD OF 'whirligiglaw07.HeaderSums'. -/
def headerSumsCard : Claim7 := { stood := { row := headerSumsRow, standIns := [], harness := (true, "f076c456085580f8e73dadb02942c3c81ce793993e43a96c8dfc4c40aab5fd4a"), looks := true }, kinds := [], alts := [], laidByText := true, laidKinds := [.data, .data], laidTests := true, laidLooks := .later }
def HeaderSumsCardSaid : Prop := Claim7.holds Tryd.pinned (.plain (OpenSpec.ofChange headerSumsSpec)) headerSumsCard

/-- THE TIED CARD OF 'whirligiglaw07.HeaderMakes'. -/
def headerMakesCard : Claim7 := { stood := { row := headerMakesRow, standIns := [], harness := (true, "f076c456085580f8e73dadb02942c3c81ce793993e43a96c8dfc4c40aab5fd4a"), looks := true }, kinds := [], alts := [], laidByText := true, laidKinds := [.data, .data], laidTests := true, laidLooks := .later }
def HeaderMakesCardSaid : Prop := Claim7.holds Tryd.pinned (.plain (OpenSpec.ofChange headerMakesSpec)) headerMakesCard

/-- THE TIED CARD OF 'whirligiglaw07.HeaderBack'. -/
def headerBackCard : Claim7 := { stood := { row := headerBackRow, standIns := [], harness := (true, "f076c456085580f8e73dadb02942c3c81ce793993e43a96c8dfc4c40aab5fd4a"), looks := true }, kinds := [], alts := [], laidByText := true, laidKinds := [.data, .data], laidTests := true, laidLooks := .later }
def HeaderBackCardSaid : Prop := Claim7.holds Tryd.pinned (.plain (OpenSpec.ofChange headerBackSpec)) headerBackCard

/-- THE TIED CARD OF 'whirligiglaw07.HeaderTurned'. -/
def headerTurnedCard : Claim7 := { stood := { row := headerTurnedRow, standIns := [], harness := (true, "f076c456085580f8e73dadb02942c3c81ce793993e43a96c8dfc4c40aab5fd4a"), looks := true }, kinds := [], alts := [], laidByText := true, laidKinds := [.data, .data], laidTests := true, laidLooks := .later }
def HeaderTurnedCardSaid : Prop := Claim7.holds Tryd.pinned (.plain (OpenSpec.ofChange headerTurnedSpec)) headerTurnedCard

/-- THE TIED CARD OF 'whirligiglaw07.HeaderElse'. -/
def headerElseCard : Claim7 := { stood := { row := headerElseRow, standIns := [], harness := (true, "f076c456085580f8e73dadb02942c3c81ce793993e43a96c8dfc4c40aab5fd4a"), looks := true }, kinds := [], alts := [], laidByText := true, laidKinds := [.data, .data], laidTests := true, laidLooks := .later }
def HeaderElseCardSaid : Prop := Claim7.holds Tryd.pinned (.plain (OpenSpec.ofChange headerElseSpec)) headerElseCard

/-- THE SECOND FORM's CARD OF 'whirligiglaw07.HeaderParses'. -/
def headerParsesUptoCard : Claim7 := { stood := { row := headerParsesUptoRow, standIns := [], harness := (true, "f076c456085580f8e73dadb02942c3c81ce793993e43a96c8dfc4c40aab5fd4a"), looks := true }, kinds := [], alts := [], laidByText := true, laidKinds := [.data, .data], laidTests := true, laidLooks := .later }
def HeaderParsesUptoCardSaid : Prop := Claim7.holds Tryd.pinned (.plain (OpenSpec.upto headerParsesSpec)) headerParsesUptoCard

/-- THE SECOND FORM's CARD OF 'whirligiglaw07.HeaderSums'. -/
def headerSumsUptoCard : Claim7 := { stood := { row := headerSumsUptoRow, standIns := [], harness := (true, "f076c456085580f8e73dadb02942c3c81ce793993e43a96c8dfc4c40aab5fd4a"), looks := true }, kinds := [], alts := [], laidByText := true, laidKinds := [.data, .data], laidTests := true, laidLooks := .later }
def HeaderSumsUptoCardSaid : Prop := Claim7.holds Tryd.pinned (.plain (OpenSpec.upto headerSumsSpec)) headerSumsUptoCard

/-- THE SECOND FORM's CARD OF 'whirligiglaw07.HeaderMakes'. -/
def headerMakesUptoCard : Claim7 := { stood := { row := headerMakesUptoRow, standIns := [], harness := (true, "f076c456085580f8e73dadb02942c3c81ce793993e43a96c8dfc4c40aab5fd4a"), looks := true }, kinds := [], alts := [], laidByText := true, laidKinds := [.data, .data], laidTests := true, laidLooks := .later }
def HeaderMakesUptoCardSaid : Prop := Claim7.holds Tryd.pinned (.plain (OpenSpec.upto headerMakesSpec)) headerMakesUptoCard

/-- THE SECOND FORM's CARD OF 'whirligiglaw07.HeaderBack'. -/
def headerBackUptoCard : Claim7 := { stood := { row := headerBackUptoRow, standIns := [], harness := (true, "f076c456085580f8e73dadb02942c3c81ce793993e43a96c8dfc4c40aab5fd4a"), looks := true }, kinds := [], alts := [], laidByText := true, laidKinds := [.data, .data], laidTests := true, laidLooks := .later }
def HeaderBackUptoCardSaid : Prop := Claim7.holds Tryd.pinned (.plain (OpenSpec.upto headerBackSpec)) headerBackUptoCard

/-- THE SECOND FORM's CARD OF 'whirligiglaw07.HeaderTurned'. -/
def headerTurnedUptoCard : Claim7 := { stood := { row := headerTurnedUptoRow, standIns := [], harness := (true, "f076c456085580f8e73dadb02942c3c81ce793993e43a96c8dfc4c40aab5fd4a"), looks := true }, kinds := [], alts := [], laidByText := true, laidKinds := [.data, .data], laidTests := true, laidLooks := .later }
def HeaderTurnedUptoCardSaid : Prop := Claim7.holds Tryd.pinned (.plain (OpenSpec.upto headerTurnedSpec)) headerTurnedUptoCard

/-- THE SECOND FORM's CARD OF 'whirligiglaw07.HeaderElse'. -/
def headerElseUptoCard : Claim7 := { stood := { row := headerElseUptoRow, standIns := [], harness := (true, "f076c456085580f8e73dadb02942c3c81ce793993e43a96c8dfc4c40aab5fd4a"), looks := true }, kinds := [], alts := [], laidByText := true, laidKinds := [.data, .data], laidTests := true, laidLooks := .later }
def HeaderElseUptoCardSaid : Prop := Claim7.holds Tryd.pinned (.plain (OpenSpec.upto headerElseSpec)) headerElseUptoCard
end Rows
end Go.Proofs.YtfmehkaojfjdjaaDoor
