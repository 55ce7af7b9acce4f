/-
  DERIVED. GIVEN WITH THE SEED: THE CARDS: each row of YthjpngfbabeboabDoorRows.lean that lists a variable, with what it lists TIED to the program's text (the seventh form; the later family's looks); each row that meets fmt, with fmt's text TOLD by the authors' own Lean function (tested against real Go, not proved from fmt's source: count such statements apart). THE CARD IS WHAT COUNTS. Prove the row's statement (the work); the ties are given (YthjpngfbabeboabDoorTie.lean); close each card by the builder's one call (the guide's Derived/Test/ToyasCard.lean, 'card_holds'). Laid BY PROGRAM, IN A SANDBOX (cutbox-door.mjs). By AI agents, Wed Nov 11 2026. No macro, syntax, notation, axiom, sorry.
-/
import Derived.Test.YthjpngfbabeboabDoorRows
import GoSem.ClaimSeven
namespace Go.Proofs.YthjpngfbabeboabDoor
namespace Rows

/-- THE TIED CARD OF 'whirligiglaw11.TimerLoads'. -/
def timerLoadsCard : Claim7 := { stood := { row := timerLoadsRow, standIns := [], harness := (true, "5f96bfc72fdc925fda49cab1a37105bdff6ccd1d8e92b7bf439992e8dceb45d1"), looks := false }, kinds := [], alts := [], laidByText := true, laidKinds := [.data], laidTests := true, laidLooks := .later }
def TimerLoadsCardSaid : Prop := Claim7.holds Tryd.pinned (.plain (OpenSpec.ofChange timerLoadsSpec)) timerLoadsCard

/-- THE SECOND FORM's CARD OF 'whirligiglaw11.TimerLoads'. -/
def timerLoadsUptoCard : Claim7 := { stood := { row := timerLoadsUptoRow, standIns := [], harness := (true, "5f96bfc72fdc925fda49cab1a37105bdff6ccd1d8e92b7bf439992e8dceb45d1"), looks := false }, kinds := [], alts := [], laidByText := true, laidKinds := [.data], laidTests := true, laidLooks := .later }
def TimerLoadsUptoCardSaid : Prop := Claim7.holds Tryd.pinned (.plain (OpenSpec.upto timerLoadsSpec)) timerLoadsUptoCard
end Rows
end Go.Proofs.YthjpngfbabeboabDoor
