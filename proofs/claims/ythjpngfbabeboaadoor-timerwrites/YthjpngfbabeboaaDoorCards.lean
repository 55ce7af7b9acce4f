/-
  DERIVED. GIVEN WITH THE SEED: THE CARDS: each row of YthjpngfbabeboaaDoorRows.lean that lists a variable, with what it lists TIED to the program's text (the seventh form; the later family's looks); each row that meets fmt, with fmt's text TOLD by the authors' own Lean function (tested against real Go, not proved from fmt's source: count such statements apart). THE CARD IS WHAT COUNTS. Prove the row's statement (the work); the ties are given (YthjpngfbabeboaaDoorTie.lean); close each card by the builder's one call (the guide's Derived/Test/ToyasCard.lean, 'card_holds'). Laid BY PROGRAM, IN A SANDBOX (cutbox-door.mjs). By AI agents, Wed Nov 11 2026. No macro, syntax, notation, axiom, sorry.
-/
import Derived.Test.YthjpngfbabeboaaDoorRows
import GoSem.ClaimSeven
namespace Go.Proofs.YthjpngfbabeboaaDoor
namespace Rows

/-- THE TIED CARD OF 'whirligiglaw11.TimerHots'. -/
def timerHotsCard : Claim7 := { stood := { row := timerHotsRow, standIns := [], harness := (true, "edc907bcb3f183ea1d7b75025699d8f1255ee7c90eb85055d1724d717623884d"), looks := false }, kinds := [], alts := [], laidByText := true, laidKinds := [.data], laidTests := true, laidLooks := .later }
def TimerHotsCardSaid : Prop := Claim7.holds Tryd.pinned (.plain (OpenSpec.ofChange timerHotsSpec)) timerHotsCard

/-- THE TIED CARD OF 'whirligiglaw11.TimerSteps'. -/
def timerStepsCard : Claim7 := { stood := { row := timerStepsRow, standIns := [], harness := (true, "edc907bcb3f183ea1d7b75025699d8f1255ee7c90eb85055d1724d717623884d"), looks := false }, kinds := [], alts := [], laidByText := true, laidKinds := [.data], laidTests := true, laidLooks := .later }
def TimerStepsCardSaid : Prop := Claim7.holds Tryd.pinned (.plain (OpenSpec.ofChange timerStepsSpec)) timerStepsCard

/-- THE TIED CARD OF 'whirligiglaw11.TimerReads'. -/
def timerReadsCard : Claim7 := { stood := { row := timerReadsRow, standIns := [], harness := (true, "edc907bcb3f183ea1d7b75025699d8f1255ee7c90eb85055d1724d717623884d"), looks := false }, kinds := [], alts := [], laidByText := true, laidKinds := [.data], laidTests := true, laidLooks := .later }
def TimerReadsCardSaid : Prop := Claim7.holds Tryd.pinned (.plain (OpenSpec.ofChange timerReadsSpec)) timerReadsCard

/-- THE TIED CARD OF 'whirligiglaw11.TimerWrites'. -/
def timerWritesCard : Claim7 := { stood := { row := timerWritesRow, standIns := [], harness := (true, "edc907bcb3f183ea1d7b75025699d8f1255ee7c90eb85055d1724d717623884d"), looks := false }, kinds := [], alts := [], laidByText := true, laidKinds := [.data], laidTests := true, laidLooks := .later }
def TimerWritesCardSaid : Prop := Claim7.holds Tryd.pinned (.plain (OpenSpec.ofChange timerWritesSpec)) timerWritesCard

/-- THE TIED CARD OF 'whirligiglaw11.TimerDivs'. -/
def timerDivsCard : Claim7 := { stood := { row := timerDivsRow, standIns := [], harness := (true, "edc907bcb3f183ea1d7b75025699d8f1255ee7c90eb85055d1724d717623884d"), looks := false }, kinds := [], alts := [], laidByText := true, laidKinds := [.data], laidTests := true, laidLooks := .later }
def TimerDivsCardSaid : Prop := Claim7.holds Tryd.pinned (.plain (OpenSpec.ofChange timerDivsSpec)) timerDivsCard

/-- THE TIED CARD OF 'whirligiglaw11.TimerRate'. -/
def timerRateCard : Claim7 := { stood := { row := timerRateRow, standIns := [], harness := (true, "edc907bcb3f183ea1d7b75025699d8f1255ee7c90eb85055d1724d717623884d"), looks := false }, kinds := [], alts := [], laidByText := true, laidKinds := [.data], laidTests := true, laidLooks := .later }
def TimerRateCardSaid : Prop := Claim7.holds Tryd.pinned (.plain (OpenSpec.ofChange timerRateSpec)) timerRateCard

/-- THE SECOND FORM's CARD OF 'whirligiglaw11.TimerHots'. -/
def timerHotsUptoCard : Claim7 := { stood := { row := timerHotsUptoRow, standIns := [], harness := (true, "edc907bcb3f183ea1d7b75025699d8f1255ee7c90eb85055d1724d717623884d"), looks := false }, kinds := [], alts := [], laidByText := true, laidKinds := [.data], laidTests := true, laidLooks := .later }
def TimerHotsUptoCardSaid : Prop := Claim7.holds Tryd.pinned (.plain (OpenSpec.upto timerHotsSpec)) timerHotsUptoCard

/-- THE SECOND FORM's CARD OF 'whirligiglaw11.TimerSteps'. -/
def timerStepsUptoCard : Claim7 := { stood := { row := timerStepsUptoRow, standIns := [], harness := (true, "edc907bcb3f183ea1d7b75025699d8f1255ee7c90eb85055d1724d717623884d"), looks := false }, kinds := [], alts := [], laidByText := true, laidKinds := [.data], laidTests := true, laidLooks := .later }
def TimerStepsUptoCardSaid : Prop := Claim7.holds Tryd.pinned (.plain (OpenSpec.upto timerStepsSpec)) timerStepsUptoCard

/-- THE SECOND FORM's CARD OF 'whirligiglaw11.TimerReads'. -/
def timerReadsUptoCard : Claim7 := { stood := { row := timerReadsUptoRow, standIns := [], harness := (true, "edc907bcb3f183ea1d7b75025699d8f1255ee7c90eb85055d1724d717623884d"), looks := false }, kinds := [], alts := [], laidByText := true, laidKinds := [.data], laidTests := true, laidLooks := .later }
def TimerReadsUptoCardSaid : Prop := Claim7.holds Tryd.pinned (.plain (OpenSpec.upto timerReadsSpec)) timerReadsUptoCard

/-- THE SECOND FORM's CARD OF 'whirligiglaw11.TimerWrites'. -/
def timerWritesUptoCard : Claim7 := { stood := { row := timerWritesUptoRow, standIns := [], harness := (true, "edc907bcb3f183ea1d7b75025699d8f1255ee7c90eb85055d1724d717623884d"), looks := false }, kinds := [], alts := [], laidByText := true, laidKinds := [.data], laidTests := true, laidLooks := .later }
def TimerWritesUptoCardSaid : Prop := Claim7.holds Tryd.pinned (.plain (OpenSpec.upto timerWritesSpec)) timerWritesUptoCard

/-- THE SECOND FORM's CARD OF 'whirligiglaw11.TimerDivs'. -/
def timerDivsUptoCard : Claim7 := { stood := { row := timerDivsUptoRow, standIns := [], harness := (true, "edc907bcb3f183ea1d7b75025699d8f1255ee7c90eb85055d1724d717623884d"), looks := false }, kinds := [], alts := [], laidByText := true, laidKinds := [.data], laidTests := true, laidLooks := .later }
def TimerDivsUptoCardSaid : Prop := Claim7.holds Tryd.pinned (.plain (OpenSpec.upto timerDivsSpec)) timerDivsUptoCard

/-- THE SECOND FORM's CARD OF 'whirligiglaw11.TimerRate'. -/
def timerRateUptoCard : Claim7 := { stood := { row := timerRateUptoRow, standIns := [], harness := (true, "edc907bcb3f183ea1d7b75025699d8f1255ee7c90eb85055d1724d717623884d"), looks := false }, kinds := [], alts := [], laidByText := true, laidKinds := [.data], laidTests := true, laidLooks := .later }
def TimerRateUptoCardSaid : Prop := Claim7.holds Tryd.pinned (.plain (OpenSpec.upto timerRateSpec)) timerRateUptoCard
end Rows
end Go.Proofs.YthjpngfbabeboaaDoor
