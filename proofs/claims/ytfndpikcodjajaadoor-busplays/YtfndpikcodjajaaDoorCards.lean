/-
  DERIVED. GIVEN WITH THE SEED: THE CARDS: each row of YtfndpikcodjajaaDoorRows.lean that lists a variable, with what it lists TIED to the program's text (the seventh form; the later family's looks); each row that meets fmt, with fmt's text TOLD by the authors' own Lean function (tested against real Go, not proved from fmt's source: count such statements apart). THE CARD IS WHAT COUNTS. Prove the row's statement (the work); the ties are given (YtfndpikcodjajaaDoorTie.lean); close each card by the builder's one call (the guide's Derived/Test/ToyasCard.lean, 'card_holds'). Laid BY PROGRAM, IN A SANDBOX (cutbox-door.mjs). By AI agents, Wed Nov 11 2026. No macro, syntax, notation, axiom, sorry.
-/
import Derived.Test.YtfndpikcodjajaaDoorRows
import GoSem.ClaimSeven
namespace Go.Proofs.YtfndpikcodjajaaDoor
namespace Rows

/-- THE TIED CARD OF 'whirligiglaw20.BusRegions'. -/
def busRegionsCard : Claim7 := { stood := { row := busRegionsRow, standIns := [], harness := (true, "fd86d0d1a3cf814b10850d8060fb27309c7cc3d7b8d77e510614e9c1bf0020ab"), looks := false }, kinds := [], alts := [], laidByText := true, laidKinds := [.data], laidTests := true, laidLooks := .later }
def BusRegionsCardSaid : Prop := Claim7.holds Tryd.pinned (.plain (OpenSpec.ofChange busRegionsSpec)) busRegionsCard

/-- THE TIED CARD OF 'whirligiglaw20.BusShuts'. -/
def busShutsCard : Claim7 := { stood := { row := busShutsRow, standIns := [], harness := (true, "fd86d0d1a3cf814b10850d8060fb27309c7cc3d7b8d77e510614e9c1bf0020ab"), looks := false }, kinds := [], alts := [], laidByText := true, laidKinds := [.data], laidTests := true, laidLooks := .later }
def BusShutsCardSaid : Prop := Claim7.holds Tryd.pinned (.plain (OpenSpec.ofChange busShutsSpec)) busShutsCard

/-- THE TIED CARD OF 'whirligiglaw20.BusMeets'. -/
def busMeetsCard : Claim7 := { stood := { row := busMeetsRow, standIns := [], harness := (true, "fd86d0d1a3cf814b10850d8060fb27309c7cc3d7b8d77e510614e9c1bf0020ab"), looks := false }, kinds := [], alts := [], laidByText := true, laidKinds := [.data], laidTests := true, laidLooks := .later }
def BusMeetsCardSaid : Prop := Claim7.holds Tryd.pinned (.plain (OpenSpec.ofChange busMeetsSpec)) busMeetsCard

/-- THE TIED CARD OF 'whirligiglaw20.BusPlays'. -/
def busPlaysCard : Claim7 := { stood := { row := busPlaysRow, standIns := [], harness := (true, "fd86d0d1a3cf814b10850d8060fb27309c7cc3d7b8d77e510614e9c1bf0020ab"), looks := false }, kinds := [], alts := [], laidByText := true, laidKinds := [.data], laidTests := true, laidLooks := .later }
def BusPlaysCardSaid : Prop := Claim7.holds Tryd.pinned (.plain (OpenSpec.ofChange busPlaysSpec)) busPlaysCard

/-- THE TIED CARD OF 'whirligiglaw20.BusBack'. -/
def busBackCard : Claim7 := { stood := { row := busBackRow, standIns := [], harness := (true, "fd86d0d1a3cf814b10850d8060fb27309c7cc3d7b8d77e510614e9c1bf0020ab"), looks := false }, kinds := [], alts := [], laidByText := true, laidKinds := [.data], laidTests := true, laidLooks := .later }
def BusBackCardSaid : Prop := Claim7.holds Tryd.pinned (.plain (OpenSpec.ofChange busBackSpec)) busBackCard

/-- THE TIED CARD OF 'whirligiglaw20.BusPlaces'. -/
def busPlacesCard : Claim7 := { stood := { row := busPlacesRow, standIns := [], harness := (true, "fd86d0d1a3cf814b10850d8060fb27309c7cc3d7b8d77e510614e9c1bf0020ab"), looks := false }, kinds := [], alts := [], laidByText := true, laidKinds := [.data], laidTests := true, laidLooks := .later }
def BusPlacesCardSaid : Prop := Claim7.holds Tryd.pinned (.plain (OpenSpec.ofChange busPlacesSpec)) busPlacesCard

/-- THE SECOND FORM's CARD OF 'whirligiglaw20.BusRegions'. -/
def busRegionsUptoCard : Claim7 := { stood := { row := busRegionsUptoRow, standIns := [], harness := (true, "fd86d0d1a3cf814b10850d8060fb27309c7cc3d7b8d77e510614e9c1bf0020ab"), looks := false }, kinds := [], alts := [], laidByText := true, laidKinds := [.data], laidTests := true, laidLooks := .later }
def BusRegionsUptoCardSaid : Prop := Claim7.holds Tryd.pinned (.plain (OpenSpec.upto busRegionsSpec)) busRegionsUptoCard

/-- THE SECOND FORM's CARD OF 'whirligiglaw20.BusShuts'. -/
def busShutsUptoCard : Claim7 := { stood := { row := busShutsUptoRow, standIns := [], harness := (true, "fd86d0d1a3cf814b10850d8060fb27309c7cc3d7b8d77e510614e9c1bf0020ab"), looks := false }, kinds := [], alts := [], laidByText := true, laidKinds := [.data], laidTests := true, laidLooks := .later }
def BusShutsUptoCardSaid : Prop := Claim7.holds Tryd.pinned (.plain (OpenSpec.upto busShutsSpec)) busShutsUptoCard

/-- THE SECOND FORM's CARD OF 'whirligiglaw20.BusMeets'. -/
def busMeetsUptoCard : Claim7 := { stood := { row := busMeetsUptoRow, standIns := [], harness := (true, "fd86d0d1a3cf814b10850d8060fb27309c7cc3d7b8d77e510614e9c1bf0020ab"), looks := false }, kinds := [], alts := [], laidByText := true, laidKinds := [.data], laidTests := true, laidLooks := .later }
def BusMeetsUptoCardSaid : Prop := Claim7.holds Tryd.pinned (.plain (OpenSpec.upto busMeetsSpec)) busMeetsUptoCard

/-- THE SECOND FORM's CARD OF 'whirligiglaw20.BusPlays'. -/
def busPlaysUptoCard : Claim7 := { stood := { row := busPlaysUptoRow, standIns := [], harness := (true, "fd86d0d1a3cf814b10850d8060fb27309c7cc3d7b8d77e510614e9c1bf0020ab"), looks := false }, kinds := [], alts := [], laidByText := true, laidKinds := [.data], laidTests := true, laidLooks := .later }
def BusPlaysUptoCardSaid : Prop := Claim7.holds Tryd.pinned (.plain (OpenSpec.upto busPlaysSpec)) busPlaysUptoCard

/-- THE SECOND FORM's CARD OF 'whirligiglaw20.BusBack'. -/
def busBackUptoCard : Claim7 := { stood := { row := busBackUptoRow, standIns := [], harness := (true, "fd86d0d1a3cf814b10850d8060fb27309c7cc3d7b8d77e510614e9c1bf0020ab"), looks := false }, kinds := [], alts := [], laidByText := true, laidKinds := [.data], laidTests := true, laidLooks := .later }
def BusBackUptoCardSaid : Prop := Claim7.holds Tryd.pinned (.plain (OpenSpec.upto busBackSpec)) busBackUptoCard

/-- THE SECOND FORM's CARD OF 'whirligiglaw20.BusPlaces'. -/
def busPlacesUptoCard : Claim7 := { stood := { row := busPlacesUptoRow, standIns := [], harness := (true, "fd86d0d1a3cf814b10850d8060fb27309c7cc3d7b8d77e510614e9c1bf0020ab"), looks := false }, kinds := [], alts := [], laidByText := true, laidKinds := [.data], laidTests := true, laidLooks := .later }
def BusPlacesUptoCardSaid : Prop := Claim7.holds Tryd.pinned (.plain (OpenSpec.upto busPlacesSpec)) busPlacesUptoCard
end Rows
end Go.Proofs.YtfndpikcodjajaaDoor
