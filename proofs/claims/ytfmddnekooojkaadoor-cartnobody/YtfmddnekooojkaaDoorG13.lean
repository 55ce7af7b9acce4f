/- What the document's answers of layer 9 come to: one. What the document's answers of layer 9 come to: Of. -/
import Derived.Test.YtfmddnekooojkaaDoorG08
import Derived.Test.YtfmddnekooojkaaDoorG04
import Derived.Deep.RegionHeld3
namespace Go.Proofs.YtfmddnekooojkaaDoor
open Go.RowKit
set_option linter.unusedVariables false
set_option linter.unusedSimpArgs false

def oneBad (b0 b1 b2 b4 : Int) : Prop := 63 < b0 ∨ 63 < b1 ∨ 31 < b2 ∨ 1 < b4 % 64
def oneC (b0 b1 b2 b3 b4 : Int) : Ck := ⟨b0, b1, b2, b4 % 2 * 256 + b3, b4 / 64 % 2 == 1, decide (128 ≤ b4)⟩
end Go.Proofs.YtfmddnekooojkaaDoor
namespace Go.Proofs.YtfmddnekooojkaaDoor
open Go.RowKit
set_option linter.unusedVariables false
set_option linter.unusedSimpArgs false

abbrev badA (z : List Int) : Prop := 63 < z.getD 0 0 ∨ 63 < z.getD 1 0 ∨ 31 < z.getD 2 0 ∨ 1 < z.getD 4 0 % 64
abbrev badB (z : List Int) : Prop := 63 < z.getD 5 0 ∨ 63 < z.getD 6 0 ∨ 31 < z.getD 7 0 ∨ 1 < z.getD 9 0 % 64
def ofE (z : List Int) : Int := if z.length ≠ 10 then 5 else if badA z ∨ badB z then 6 else 0
def ofX (z : List Int) : Ck := if ofE z = 0 then oneC (z.getD 0 0) (z.getD 1 0) (z.getD 2 0) (z.getD 3 0) (z.getD 4 0) else ck0
def ofY (z : List Int) : Ck := if ofE z = 0 then oneC (z.getD 5 0) (z.getD 6 0) (z.getD 7 0) (z.getD 8 0) (z.getD 9 0) else ck0
theorem of_no (z : List Int) (n : Int) (h : ofE z = n) (h0 : n ≠ 0) : ofX z = ck0 ∧ ofY z = ck0 := by
  unfold ofX ofY; rw [h, if_neg h0, if_neg h0]; exact ⟨rfl, rfl⟩
theorem get_off9 {w : World} {x : Addr} {v : Value} {n : Nat} (h : w.cell? (x.add n) = some v) (hn : 0 < n) : w.cell? ⟨x.block, x.off + n, none⟩ = some v := by
  have e : x.add n = ⟨x.block, x.off + n, none⟩ := by unfold Addr.add; rw [if_neg (by omega)]
  rw [← e]; exact h
end Go.Proofs.YtfmddnekooojkaaDoor
