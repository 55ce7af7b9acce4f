/- Plain numbers of layer 5: the opcode of a form. -/
import Derived.Test.YtcooghpjdjkmhabDoorOp
namespace Go.Proofs.YtcooghpjdjkmhabDoor
open Go.RowKit
set_option linter.unusedVariables false
set_option linter.unusedSimpArgs false

def hit (f : Fm) (k : Nat) : Option (Int × Bool) := if (decOf (k : Int)).same f then some ((k : Int), false) else if (cbOf (k : Int)).same f then some ((k : Int), true) else none
def encTo (f : Fm) : Nat → Option (Int × Bool)
  | 0 => none
  | k + 1 => match encTo f k with
    | some r => some r
    | none => hit f k
def encR (f : Fm) : Option (Int × Bool) := if f.kind == 5 then none else encTo f 256
def encA (f : Fm) : Int := (encR f).elim 0 (·.1)
def encB (f : Fm) : Bool := (encR f).elim false (·.2)
def encE (f : Fm) : Int := (encR f).elim 7 (fun _ => 0)
theorem encTo_le (f : Fm) (r : Int × Bool) (k n : Nat) (h : k ≤ n) (hk : encTo f k = some r) : encTo f n = some r := by
  induction n with
  | zero => obtain rfl : k = 0 := by omega
            exact hk
  | succ n ih =>
    by_cases e : k = n + 1
    · rw [← e]; exact hk
    · simp [encTo, ih (by omega)]
theorem enc5 (f : Fm) (h : (f.kind == 5) = true) : encA f = 0 ∧ encB f = false ∧ encE f = 7 := by
  simp [encA, encB, encE, encR, h]
theorem enc_none (f : Fm) (h : encTo f 256 = none) : encA f = 0 ∧ encB f = false ∧ encE f = 7 := by
  simp [encA, encB, encE, encR, h]
theorem enc_hit (f : Fm) (k : Nat) (a : Int) (b : Bool) (h5 : (f.kind == 5) = false) (hk : k < 256) (hn : encTo f k = none) (hh : hit f k = some (a, b)) : encA f = a ∧ encB f = b ∧ encE f = 0 := by
  have e : encTo f 256 = some (a, b) := encTo_le f (a, b) (k + 1) 256 (by omega) (by simp [encTo, hn, hh])
  simp [encA, encB, encE, encR, h5, e]
theorem enc_next (f : Fm) (k : Nat) (hn : encTo f k = none) (h1 : (decOf (k : Int)).same f = false) (h2 : (cbOf (k : Int)).same f = false) : encTo f (k + 1) = none := by
  simp [encTo, hn, hit, h1, h2]
end Go.Proofs.YtcooghpjdjkmhabDoor
