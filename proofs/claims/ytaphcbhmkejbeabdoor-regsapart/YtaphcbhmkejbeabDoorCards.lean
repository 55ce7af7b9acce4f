/-
  DERIVED. GIVEN WITH THE SEED: THE CARDS: each row of YtaphcbhmkejbeabDoorRows.lean that lists a variable, with what it lists TIED to the program's text (the seventh form; the later family's looks); each row that meets fmt, with fmt's text TOLD by the authors' own Lean function (tested against real Go, not proved from fmt's source: count such statements apart). THE CARD IS WHAT COUNTS. Prove the row's statement (the work); the ties are given (YtaphcbhmkejbeabDoorTie.lean); close each card by the builder's one call (the guide's Derived/Test/ToyasCard.lean, 'card_holds'). Laid BY PROGRAM, IN A SANDBOX (cutbox-door.mjs). By AI agents, Wed Nov 11 2026. No macro, syntax, notation, axiom, sorry.
-/
import Derived.Test.YtaphcbhmkejbeabDoorRows
import GoSem.ClaimSeven
namespace Go.Proofs.YtaphcbhmkejbeabDoor
namespace Rows

/-- THE TIED CARD OF 'whirligiglaw04.RegsParses'. -/
def regsParsesCard : Claim7 := { stood := { row := regsParsesRow, standIns := [], harness := (true, "baf75714f12357ef0ae812025b45882918632e1f6a02f51067a15151541ea1df"), looks := false }, kinds := [], alts := [], laidByText := true, laidKinds := [.data], laidTests := true, laidLooks := .later }
def RegsParsesCardSaid : Prop := Claim7.holds Tryd.pinned (.plain (OpenSpec.ofChange regsParsesSpec)) regsParsesCard

/-- THE TIED CARD OF 'whirligiglaw04.RegsBack'. -/
def regsBackCard : Claim7 := { stood := { row := regsBackRow, standIns := [], harness := (true, "baf75714f12357ef0ae812025b45882918632e1f6a02f51067a15151541ea1df"), looks := false }, kinds := [], alts := [], laidByText := true, laidKinds := [.data], laidTests := true, laidLooks := .later }
def RegsBackCardSaid : Prop := Claim7.holds Tryd.pinned (.plain (OpenSpec.ofChange regsBackSpec)) regsBackCard

/-- THE TIED CARD OF 'whirligiglaw04.RegsApart'. -/
def regsApartCard : Claim7 := { stood := { row := regsApartRow, standIns := [], harness := (true, "baf75714f12357ef0ae812025b45882918632e1f6a02f51067a15151541ea1df"), looks := false }, kinds := [], alts := [], laidByText := true, laidKinds := [.data], laidTests := true, laidLooks := .later }
def RegsApartCardSaid : Prop := Claim7.holds Tryd.pinned (.plain (OpenSpec.ofChange regsApartSpec)) regsApartCard

/-- THE SECOND FORM's CARD OF 'whirligiglaw04.RegsParses'. -/
def regsParsesUptoCard : Claim7 := { stood := { row := regsParsesUptoRow, standIns := [], harness := (true, "baf75714f12357ef0ae812025b45882918632e1f6a02f51067a15151541ea1df"), looks := false }, kinds := [], alts := [], laidByText := true, laidKinds := [.data], laidTests := true, laidLooks := .later }
def RegsParsesUptoCardSaid : Prop := Claim7.holds Tryd.pinned (.plain (OpenSpec.upto regsParsesSpec)) regsParsesUptoCard

/-- THE SECOND FORM's CARD OF 'whirligiglaw04.RegsBack'. -/
def regsBackUptoCard : Claim7 := { stood := { row := regsBackUptoRow, standIns := [], harness := (true, "baf75714f12357ef0ae812025b45882918632e1f6a02f51067a15151541ea1df"), looks := false }, kinds := [], alts := [], laidByText := true, laidKinds := [.data], laidTests := true, laidLooks := .later }
def RegsBackUptoCardSaid : Prop := Claim7.holds Tryd.pinned (.plain (OpenSpec.upto regsBackSpec)) regsBackUptoCard

/-- THE SECOND FORM's CARD OF 'whirligiglaw04.RegsApart'. -/
def regsApartUptoCard : Claim7 := { stood := { row := regsApartUptoRow, standIns := [], harness := (true, "baf75714f12357ef0ae812025b45882918632e1f6a02f51067a15151541ea1df"), looks := false }, kinds := [], alts := [], laidByText := true, laidKinds := [.data], laidTests := true, laidLooks := .later }
def RegsApartUptoCardSaid : Prop := Claim7.holds Tryd.pinned (.plain (OpenSpec.upto regsApartSpec)) regsApartUptoCard
end Rows
end Go.Proofs.YtaphcbhmkejbeabDoor
