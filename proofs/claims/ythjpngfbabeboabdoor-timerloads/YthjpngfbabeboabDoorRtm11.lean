/- What the document's answers of layer 11 come to: power, Chosen, Hot, count. -/
import Derived.Test.YthjpngfbabeboabDoorTm11
import Derived.Test.YthjpngfbabeboabDoorK8
import Derived.Test.YthjpngfbabeboabDoorChecked
import Derived.Handy
import Derived.Deep.RegionHeld3
import Derived.Deep.QuietTactic
import Derived.BigQuiet
namespace Go.Proofs.YthjpngfbabeboabDoor
open Go.RowKit
set_option linter.unusedVariables false
set_option linter.unusedSimpArgs false

abbrev tmV (t : Tm) : Value := .agg #[.int .u16 t.div, .int .u8 t.tima, .int .u8 t.tma, .int .u8 t.tac, .int .u8 t.st]
def bitT (c : Int) : Nat := if c % 4 = 0 then 9 else if c % 4 = 1 then 3 else if c % 4 = 2 then 5 else 7
theorem bit_pw (c : Int) : (2 : Int) ^ bitT c = pwT c := by
  unfold bitT pwT
  by_cases a : c % 4 = 0
  · rw [if_pos a, if_pos a]; rfl
  by_cases b : c % 4 = 1
  · rw [if_neg a, if_neg a, if_pos b, if_pos b]; rfl
  by_cases d : c % 4 = 2
  · rw [if_neg a, if_neg a, if_neg b, if_neg b, if_pos d, if_pos d]; rfl
  · rw [if_neg a, if_neg a, if_neg b, if_neg b, if_neg d, if_neg d]; rfl
theorem bit_le (c : Int) : bitT c ≤ 9 := by
  unfold bitT
  split
  · omega
  split
  · omega
  split <;> omega
end Go.Proofs.YthjpngfbabeboabDoor
