/-
  DERIVED. GIVEN WITH THE SEED: THE CARDS: each row of YtfmddnekooojkaaGreatDoorRows.lean that lists a variable, with what it lists TIED to the program's text (the seventh form; the later family's looks); each row that meets fmt, with fmt's text TOLD by the authors' own Lean function (tested against real Go, not proved from fmt's source: count such statements apart). THE CARD IS WHAT COUNTS. Prove the row's statement (the work); the ties are given (YtfmddnekooojkaaGreatDoorTie.lean); close each card by the builder's one call (the guide's Derived/Test/ToyasCard.lean, 'card_holds'). Laid BY PROGRAM, IN A SANDBOX (cutbox-door.mjs). By AI agents, Wed Nov 11 2026. No macro, syntax, notation, axiom, sorry.
-/
import Derived.Test.YtfmddnekooojkaaGreatDoorRows
import GoSem.ClaimSeven
namespace Go.Proofs.YtfmddnekooojkaaGreatDoor
namespace Rows

/-- THE TIED CARD OF 'whirligiglaw10.CartPlays'. -/
def cartPlaysCard : Claim7 := { stood := { row := cartPlaysRow, standIns := [], harness := (true, "845485b3ebe00b32d2c76370f29bfefc457cf9adacf1585c57588489cf63580c"), looks := true }, kinds := [], alts := [], laidByText := true, laidKinds := [.data, .data], laidTests := true, laidLooks := .later }
def CartPlaysCardSaid : Prop := Claim7.holds Tryz.pinned (.plain (OpenSpec.ofChange cartPlaysSpec)) cartPlaysCard

/-- THE SECOND FORM's CARD OF 'whirligiglaw10.CartPlays'. -/
def cartPlaysUptoCard : Claim7 := { stood := { row := cartPlaysUptoRow, standIns := [], harness := (true, "845485b3ebe00b32d2c76370f29bfefc457cf9adacf1585c57588489cf63580c"), looks := true }, kinds := [], alts := [], laidByText := true, laidKinds := [.data, .data], laidTests := true, laidLooks := .later }
def CartPlaysUptoCardSaid : Prop := Claim7.holds Tryz.pinned (.plain (OpenSpec.upto cartPlaysSpec)) cartPlaysUptoCard
end Rows
end Go.Proofs.YtfmddnekooojkaaGreatDoor
