/- The program's clock: Of, by what it keeps. -/
import Derived.Test.YtfmddnekooojkaaGreatDoorG28
namespace Go.Proofs.YtfmddnekooojkaaGreatDoor
open Go.RowKit

theorem cof_any (z : List Int) (a : Option Addr) (cap : Nat) (w : World) (row : Row w a z) (lc : z.length ≤ cap) (cm : cap ≤ maxLen) : Calls Tryz.prog 42 #[.slice a z.length cap] w fun e w' => e = .returned (.tuple #[ckV (ofX z), ckV (ofY z), .int .i64 (ofE z)]) ∧ Kept w w' :=
  (gof_any z a cap w row lc cm).mono fun _ _ h => ⟨h.1, Kept.of h.2⟩
end Go.Proofs.YtfmddnekooojkaaGreatDoor
