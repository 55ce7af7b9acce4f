/-
  DERIVED. GIVEN WITH THE SEED: THE CARDS: each row of YtbflhpffojlpgaaDoorRows.lean that lists a variable, with what it lists TIED to the program's text (the seventh form; the later family's looks); each row that meets fmt, with fmt's text TOLD by the authors' own Lean function (tested against real Go, not proved from fmt's source: count such statements apart). THE CARD IS WHAT COUNTS. Prove the row's statement (the work); the ties are given (YtbflhpffojlpgaaDoorTie.lean); close each card by the builder's one call (the guide's Derived/Test/ToyasCard.lean, 'card_holds'). Laid BY PROGRAM, IN A SANDBOX (cutbox-door.mjs). By AI agents, Wed Nov 11 2026. No macro, syntax, notation, axiom, sorry.
-/
import Derived.Test.YtbflhpffojlpgaaDoorRows
import GoSem.ClaimSeven
namespace Go.Proofs.YtbflhpffojlpgaaDoor
namespace Rows

/-- THE TIED CARD OF 'whirligiglaw21.MicroPlans'. -/
def microPlansCard : Claim7 := { stood := { row := microPlansRow, standIns := [], harness := (true, "4bbbfd2cb3e9699e2ae7631645a5974ae856c12fc3caf501e8409f9d7c520b13"), looks := false }, kinds := [], alts := [], laidByText := true, laidKinds := [.data, .data], laidTests := true, laidLooks := .later }
def MicroPlansCardSaid : Prop := Claim7.holds Tryd.pinned (.plain (OpenSpec.ofChange microPlansSpec)) microPlansCard

/-- THE TIED CARD OF 'whirligiglaw21.MicroAsks'. -/
def microAsksCard : Claim7 := { stood := { row := microAsksRow, standIns := [], harness := (true, "4bbbfd2cb3e9699e2ae7631645a5974ae856c12fc3caf501e8409f9d7c520b13"), looks := false }, kinds := [], alts := [], laidByText := true, laidKinds := [.data, .data], laidTests := true, laidLooks := .later }
def MicroAsksCardSaid : Prop := Claim7.holds Tryd.pinned (.plain (OpenSpec.ofChange microAsksSpec)) microAsksCard

/-- THE TIED CARD OF 'whirligiglaw21.MicroTimes'. -/
def microTimesCard : Claim7 := { stood := { row := microTimesRow, standIns := [], harness := (true, "4bbbfd2cb3e9699e2ae7631645a5974ae856c12fc3caf501e8409f9d7c520b13"), looks := false }, kinds := [], alts := [], laidByText := true, laidKinds := [.data, .data], laidTests := true, laidLooks := .later }
def MicroTimesCardSaid : Prop := Claim7.holds Tryd.pinned (.plain (OpenSpec.ofChange microTimesSpec)) microTimesCard

/-- THE TIED CARD OF 'whirligiglaw21.MicroBytes'. -/
def microBytesCard : Claim7 := { stood := { row := microBytesRow, standIns := [], harness := (true, "4bbbfd2cb3e9699e2ae7631645a5974ae856c12fc3caf501e8409f9d7c520b13"), looks := false }, kinds := [], alts := [], laidByText := true, laidKinds := [.data, .data], laidTests := true, laidLooks := .later }
def MicroBytesCardSaid : Prop := Claim7.holds Tryd.pinned (.plain (OpenSpec.ofChange microBytesSpec)) microBytesCard

/-- THE TIED CARD OF 'whirligiglaw21.MicroBus'. -/
def microBusCard : Claim7 := { stood := { row := microBusRow, standIns := [], harness := (true, "4bbbfd2cb3e9699e2ae7631645a5974ae856c12fc3caf501e8409f9d7c520b13"), looks := false }, kinds := [], alts := [], laidByText := true, laidKinds := [.data, .data], laidTests := true, laidLooks := .later }
def MicroBusCardSaid : Prop := Claim7.holds Tryd.pinned (.plain (OpenSpec.ofChange microBusSpec)) microBusCard

/-- THE SECOND FORM's CARD OF 'whirligiglaw21.MicroPlans'. -/
def microPlansUptoCard : Claim7 := { stood := { row := microPlansUptoRow, standIns := [], harness := (true, "4bbbfd2cb3e9699e2ae7631645a5974ae856c12fc3caf501e8409f9d7c520b13"), looks := false }, kinds := [], alts := [], laidByText := true, laidKinds := [.data, .data], laidTests := true, laidLooks := .later }
def MicroPlansUptoCardSaid : Prop := Claim7.holds Tryd.pinned (.plain (OpenSpec.upto microPlansSpec)) microPlansUptoCard

/-- THE SECOND FORM's CARD OF 'whirligiglaw21.MicroAsks'. -/
def microAsksUptoCard : Claim7 := { stood := { row := microAsksUptoRow, standIns := [], harness := (true, "4bbbfd2cb3e9699e2ae7631645a5974ae856c12fc3caf501e8409f9d7c520b13"), looks := false }, kinds := [], alts := [], laidByText := true, laidKinds := [.data, .data], laidTests := true, laidLooks := .later }
def MicroAsksUptoCardSaid : Prop := Claim7.holds Tryd.pinned (.plain (OpenSpec.upto microAsksSpec)) microAsksUptoCard

/-- THE SECOND FORM's CARD OF 'whirligiglaw21.MicroTimes'. -/
def microTimesUptoCard : Claim7 := { stood := { row := microTimesUptoRow, standIns := [], harness := (true, "4bbbfd2cb3e9699e2ae7631645a5974ae856c12fc3caf501e8409f9d7c520b13"), looks := false }, kinds := [], alts := [], laidByText := true, laidKinds := [.data, .data], laidTests := true, laidLooks := .later }
def MicroTimesUptoCardSaid : Prop := Claim7.holds Tryd.pinned (.plain (OpenSpec.upto microTimesSpec)) microTimesUptoCard

/-- THE SECOND FORM's CARD OF 'whirligiglaw21.MicroBytes'. -/
def microBytesUptoCard : Claim7 := { stood := { row := microBytesUptoRow, standIns := [], harness := (true, "4bbbfd2cb3e9699e2ae7631645a5974ae856c12fc3caf501e8409f9d7c520b13"), looks := false }, kinds := [], alts := [], laidByText := true, laidKinds := [.data, .data], laidTests := true, laidLooks := .later }
def MicroBytesUptoCardSaid : Prop := Claim7.holds Tryd.pinned (.plain (OpenSpec.upto microBytesSpec)) microBytesUptoCard

/-- THE SECOND FORM's CARD OF 'whirligiglaw21.MicroBus'. -/
def microBusUptoCard : Claim7 := { stood := { row := microBusUptoRow, standIns := [], harness := (true, "4bbbfd2cb3e9699e2ae7631645a5974ae856c12fc3caf501e8409f9d7c520b13"), looks := false }, kinds := [], alts := [], laidByText := true, laidKinds := [.data, .data], laidTests := true, laidLooks := .later }
def MicroBusUptoCardSaid : Prop := Claim7.holds Tryd.pinned (.plain (OpenSpec.upto microBusSpec)) microBusUptoCard
end Rows
end Go.Proofs.YtbflhpffojlpgaaDoor
