/-
  DERIVED. GIVEN WITH THE SEED: THE CARDS: each row of YtfmddnekooojkaaDoorRows.lean that lists a variable, with what it lists TIED to the program's text (the seventh form; the later family's looks); each row that meets fmt, with fmt's text TOLD by the authors' own Lean function (tested against real Go, not proved from fmt's source: count such statements apart). THE CARD IS WHAT COUNTS. Prove the row's statement (the work); the ties are given (YtfmddnekooojkaaDoorTie.lean); close each card by the builder's one call (the guide's Derived/Test/ToyasCard.lean, 'card_holds'). Laid BY PROGRAM, IN A SANDBOX (cutbox-door.mjs). By AI agents, Wed Nov 11 2026. No macro, syntax, notation, axiom, sorry.
-/
import Derived.Test.YtfmddnekooojkaaDoorRows
import GoSem.ClaimSeven
namespace Go.Proofs.YtfmddnekooojkaaDoor
namespace Rows

/-- THE TIED CARD OF 'whirligiglaw10.CartNews'. -/
def cartNewsCard : Claim7 := { stood := { row := cartNewsRow, standIns := [], harness := (true, "0d43c1cadac42fc04b166a95ba9d0f68484e43719bba922789908df02987ef0d"), looks := true }, kinds := [], alts := [], laidByText := true, laidKinds := [.data, .data], laidTests := true, laidLooks := .later }
def CartNewsCardSaid : Prop := Claim7.holds Tryd.pinned (.plain (OpenSpec.ofChange cartNewsSpec)) cartNewsCard

/-- THE TIED CARD OF 'whirligiglaw10.CartBack'. -/
def cartBackCard : Claim7 := { stood := { row := cartBackRow, standIns := [], harness := (true, "0d43c1cadac42fc04b166a95ba9d0f68484e43719bba922789908df02987ef0d"), looks := true }, kinds := [], alts := [], laidByText := true, laidKinds := [.data, .data], laidTests := true, laidLooks := .later }
def CartBackCardSaid : Prop := Claim7.holds Tryd.pinned (.plain (OpenSpec.ofChange cartBackSpec)) cartBackCard

/-- THE TIED CARD OF 'whirligiglaw10.CartLoads'. -/
def cartLoadsCard : Claim7 := { stood := { row := cartLoadsRow, standIns := [], harness := (true, "0d43c1cadac42fc04b166a95ba9d0f68484e43719bba922789908df02987ef0d"), looks := true }, kinds := [], alts := [], laidByText := true, laidKinds := [.data, .data], laidTests := true, laidLooks := .later }
def CartLoadsCardSaid : Prop := Claim7.holds Tryd.pinned (.plain (OpenSpec.ofChange cartLoadsSpec)) cartLoadsCard

/-- THE TIED CARD OF 'whirligiglaw10.CartShut'. -/
def cartShutCard : Claim7 := { stood := { row := cartShutRow, standIns := [], harness := (true, "0d43c1cadac42fc04b166a95ba9d0f68484e43719bba922789908df02987ef0d"), looks := true }, kinds := [], alts := [], laidByText := true, laidKinds := [.data, .data], laidTests := true, laidLooks := .later }
def CartShutCardSaid : Prop := Claim7.holds Tryd.pinned (.plain (OpenSpec.ofChange cartShutSpec)) cartShutCard

/-- THE TIED CARD OF 'whirligiglaw10.CartNobody'. -/
def cartNobodyCard : Claim7 := { stood := { row := cartNobodyRow, standIns := [], harness := (true, "0d43c1cadac42fc04b166a95ba9d0f68484e43719bba922789908df02987ef0d"), looks := true }, kinds := [], alts := [], laidByText := true, laidKinds := [.data, .data], laidTests := true, laidLooks := .later }
def CartNobodyCardSaid : Prop := Claim7.holds Tryd.pinned (.plain (OpenSpec.ofChange cartNobodySpec)) cartNobodyCard

/-- THE SECOND FORM's CARD OF 'whirligiglaw10.CartNews'. -/
def cartNewsUptoCard : Claim7 := { stood := { row := cartNewsUptoRow, standIns := [], harness := (true, "0d43c1cadac42fc04b166a95ba9d0f68484e43719bba922789908df02987ef0d"), looks := true }, kinds := [], alts := [], laidByText := true, laidKinds := [.data, .data], laidTests := true, laidLooks := .later }
def CartNewsUptoCardSaid : Prop := Claim7.holds Tryd.pinned (.plain (OpenSpec.upto cartNewsSpec)) cartNewsUptoCard

/-- THE SECOND FORM's CARD OF 'whirligiglaw10.CartBack'. -/
def cartBackUptoCard : Claim7 := { stood := { row := cartBackUptoRow, standIns := [], harness := (true, "0d43c1cadac42fc04b166a95ba9d0f68484e43719bba922789908df02987ef0d"), looks := true }, kinds := [], alts := [], laidByText := true, laidKinds := [.data, .data], laidTests := true, laidLooks := .later }
def CartBackUptoCardSaid : Prop := Claim7.holds Tryd.pinned (.plain (OpenSpec.upto cartBackSpec)) cartBackUptoCard

/-- THE SECOND FORM's CARD OF 'whirligiglaw10.CartLoads'. -/
def cartLoadsUptoCard : Claim7 := { stood := { row := cartLoadsUptoRow, standIns := [], harness := (true, "0d43c1cadac42fc04b166a95ba9d0f68484e43719bba922789908df02987ef0d"), looks := true }, kinds := [], alts := [], laidByText := true, laidKinds := [.data, .data], laidTests := true, laidLooks := .later }
def CartLoadsUptoCardSaid : Prop := Claim7.holds Tryd.pinned (.plain (OpenSpec.upto cartLoadsSpec)) cartLoadsUptoCard

/-- THE SECOND FORM's CARD OF 'whirligiglaw10.CartShut'. -/
def cartShutUptoCard : Claim7 := { stood := { row := cartShutUptoRow, standIns := [], harness := (true, "0d43c1cadac42fc04b166a95ba9d0f68484e43719bba922789908df02987ef0d"), looks := true }, kinds := [], alts := [], laidByText := true, laidKinds := [.data, .data], laidTests := true, laidLooks := .later }
def CartShutUptoCardSaid : Prop := Claim7.holds Tryd.pinned (.plain (OpenSpec.upto cartShutSpec)) cartShutUptoCard

/-- THE SECOND FORM's CARD OF 'whirligiglaw10.CartNobody'. -/
def cartNobodyUptoCard : Claim7 := { stood := { row := cartNobodyUptoRow, standIns := [], harness := (true, "0d43c1cadac42fc04b166a95ba9d0f68484e43719bba922789908df02987ef0d"), looks := true }, kinds := [], alts := [], laidByText := true, laidKinds := [.data, .data], laidTests := true, laidLooks := .later }
def CartNobodyUptoCardSaid : Prop := Claim7.holds Tryd.pinned (.plain (OpenSpec.upto cartNobodySpec)) cartNobodyUptoCard
end Rows
end Go.Proofs.YtfmddnekooojkaaDoor
