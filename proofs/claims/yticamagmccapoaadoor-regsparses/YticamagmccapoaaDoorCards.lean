/-
  DERIVED. GIVEN WITH THE SEED: THE CARDS: each row of YticamagmccapoaaDoorRows.lean that lists a variable, with what it lists TIED to the program's text (the seventh form; the later family's looks); each row that meets fmt, with fmt's text TOLD by the authors' own Lean function (tested against real Go, not proved from fmt's source: count such statements apart). THE CARD IS WHAT COUNTS. Prove the row's statement (the work); the ties are given (YticamagmccapoaaDoorTie.lean); close each card by the builder's one call (the guide's Derived/Test/ToyasCard.lean, 'card_holds'). Laid BY PROGRAM, IN A SANDBOX (cutbox-door.mjs). By AI agents, Wed Nov 11 2026. No macro, syntax, notation, axiom, sorry.
-/
import Derived.Test.YticamagmccapoaaDoorRows
import GoSem.ClaimSeven
namespace Go.Proofs.YticamagmccapoaaDoor
namespace Rows

/-- THE TIED CARD OF 'whirligiglaw04.RegsParses'. -/
def regsParsesCard : Claim7 := { stood := { row := regsParsesRow, standIns := [], harness := (true, "89571b227bf2a85ffece14aa88c5d76fc3c00d069d4bdbdcfb8820869b6c3f4d"), looks := false }, kinds := [], alts := [], laidByText := true, laidKinds := [.data], laidTests := true, laidLooks := .later }
def RegsParsesCardSaid : Prop := Claim7.holds Tryd.pinned (.plain (OpenSpec.ofChange regsParsesSpec)) regsParsesCard

/-- THE TIED CARD OF 'whirligiglaw04.RegsBack'. -/
def regsBackCard : Claim7 := { stood := { row := regsBackRow, standIns := [], harness := (true, "89571b227bf2a85ffece14aa88c5d76fc3c00d069d4bdbdcfb8820869b6c3f4d"), looks := false }, kinds := [], alts := [], laidByText := true, laidKinds := [.data], laidTests := true, laidLooks := .later }
def RegsBackCardSaid : Prop := Claim7.holds Tryd.pinned (.plain (OpenSpec.ofChange regsBackSpec)) regsBackCard

/-- THE SECOND FORM's CARD OF 'whirligiglaw04.RegsParses'. -/
def regsParsesUptoCard : Claim7 := { stood := { row := regsParsesUptoRow, standIns := [], harness := (true, "89571b227bf2a85ffece14aa88c5d76fc3c00d069d4bdbdcfb8820869b6c3f4d"), looks := false }, kinds := [], alts := [], laidByText := true, laidKinds := [.data], laidTests := true, laidLooks := .later }
def RegsParsesUptoCardSaid : Prop := Claim7.holds Tryd.pinned (.plain (OpenSpec.upto regsParsesSpec)) regsParsesUptoCard

/-- THE SECOND FORM's CARD OF 'whirligiglaw04.RegsBack'. -/
def regsBackUptoCard : Claim7 := { stood := { row := regsBackUptoRow, standIns := [], harness := (true, "89571b227bf2a85ffece14aa88c5d76fc3c00d069d4bdbdcfb8820869b6c3f4d"), looks := false }, kinds := [], alts := [], laidByText := true, laidKinds := [.data], laidTests := true, laidLooks := .later }
def RegsBackUptoCardSaid : Prop := Claim7.holds Tryd.pinned (.plain (OpenSpec.upto regsBackSpec)) regsBackUptoCard
end Rows
end Go.Proofs.YticamagmccapoaaDoor
