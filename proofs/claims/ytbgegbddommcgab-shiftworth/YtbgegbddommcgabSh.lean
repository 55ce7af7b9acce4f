/- Plain numbers of layer 3: what a shift lets out, takes in and comes to; no program in sight. -/
import Derived.Test.YtbgegbddommcgabBits
namespace Go.Proofs.Ytbgegbddommcgab
open Go.RowKit

def shUp (k : Int) : Bool := k == 0 || k == 2 || k == 4
def shIn (k v : Int) (c : Bool) (last : Int) : Bool :=
  if k = 0 ∨ k = 1 then bitOf v last else if k = 2 ∨ k = 3 then c else if k = 5 then bitOf v 7 else false
def shOut (k v : Int) : Bool := if shUp k then bitOf v 7 else if k = 6 then false else bitOf v 0
def shOf (k v : Int) (c : Bool) : Int :=
  if shUp k then putOf (v * 2 % 256) 0 (shIn k v c 7) else if k = 6 then turnOf v 4 else putOf (v / 2) 7 (shIn k v c 0)
def moveTo (v : Int) (up inn : Bool) : Nat → Int
  | 0 => 0
  | k + 1 => putOf (moveTo v up inn k) k (if (if up then decide (1 ≤ k) else decide (k < 7)) then bitOf v (if up then (k : Int) - 1 else (k : Int) + 1) else inn)
def moveOf (v : Int) (up inn : Bool) : Int := moveTo v up inn 8

theorem turn_bd (a n : Int) : 0 ≤ turnOf a n ∧ turnOf a n ≤ 255 := turnTo_bd _ _ _
theorem sh_bd (k v : Int) (c : Bool) (v0 : 0 ≤ v) (v1 : v ≤ 255) : 0 ≤ shOf k v c ∧ shOf k v c ≤ 255 := by
  unfold shOf
  split
  · exact put_bd _ _ _ (by omega) (by omega)
  · split
    · exact turn_bd _ _
    · exact put_bd _ _ _ (by omega) (by omega)
theorem moveTo_bd (v : Int) (up inn : Bool) (k : Nat) : 0 ≤ moveTo v up inn k ∧ moveTo v up inn k ≤ 255 := by
  induction k with
  | zero => exact ⟨Int.le_refl 0, (by decide : (0 : Int) ≤ 255)⟩
  | succ k ih => exact put_bd _ _ _ ih.1 ih.2
theorem move_fin : ∀ v : Fin 256, ∀ inn : Bool, moveOf (v.val : Int) true inn = putOf ((v.val : Int) * 2 % 256) 0 inn ∧ moveOf (v.val : Int) false inn = putOf ((v.val : Int) / 2) 7 inn := by decide +kernel
theorem swap_fin : ∀ v : Fin 256, (v.val : Int) % 16 * 16 + (v.val : Int) / 16 = turnOf (v.val : Int) 4 := by decide +kernel
theorem back_fin : ∀ v : Fin 256, ∀ c : Bool, shOf 1 (shOf 0 (v.val : Int) c) (shOut 0 (v.val : Int)) = (v.val : Int) ∧ shOut 1 (shOf 0 (v.val : Int) c) = shOut 0 (v.val : Int) ∧
    shOf 3 (shOf 2 (v.val : Int) c) (shOut 2 (v.val : Int)) = (v.val : Int) ∧ shOut 3 (shOf 2 (v.val : Int) c) = c := by decide +kernel
def nineTo (k v : Int) (c : Bool) : Nat → Int × Bool
  | 0 => (v, c)
  | n + 1 => (shOf k (nineTo k v c n).1 (nineTo k v c n).2, shOut k (nineTo k v c n).1)
def eightTo (v : Int) (c : Bool) : Nat → Int
  | 0 => v
  | n + 1 => shOf 0 (eightTo v c n) c
theorem nine_bd (k v : Int) (c : Bool) (v0 : 0 ≤ v) (v1 : v ≤ 255) (n : Nat) : 0 ≤ (nineTo k v c n).1 ∧ (nineTo k v c n).1 ≤ 255 := by
  induction n with
  | zero => exact ⟨v0, v1⟩
  | succ n ih => exact sh_bd _ _ _ ih.1 ih.2
theorem eight_bd (v : Int) (c : Bool) (v0 : 0 ≤ v) (v1 : v ≤ 255) (n : Nat) : 0 ≤ eightTo v c n ∧ eightTo v c n ≤ 255 := by
  induction n with
  | zero => exact ⟨v0, v1⟩
  | succ n ih => exact sh_bd _ _ _ ih.1 ih.2
theorem nine_fin : ∀ v : Fin 256, ∀ c : Bool, nineTo 2 (v.val : Int) c 9 = ((v.val : Int), c) ∧ nineTo 3 (v.val : Int) c 9 = ((v.val : Int), c) ∧ eightTo (v.val : Int) c 8 = (v.val : Int) := by decide +kernel
theorem worth_fin : ∀ v : Fin 256, ∀ c : Bool, shOf 4 (v.val : Int) c + (if shOut 4 (v.val : Int) then 256 else 0) = 2 * (v.val : Int) ∧
    2 * shOf 7 (v.val : Int) c + (if shOut 7 (v.val : Int) then 1 else 0) = (v.val : Int) ∧
    2 * signedOf (shOf 5 (v.val : Int) c) + (if shOut 7 (v.val : Int) then 1 else 0) = signedOf (v.val : Int) ∧ shOut 5 (v.val : Int) = shOut 7 (v.val : Int) ∧
    shOf 6 (shOf 6 (v.val : Int) c) c = (v.val : Int) := by decide +kernel
theorem putbit_fin : ∀ v : Fin 256, ∀ n : Fin 8, bitOf (putOf (v.val : Int) (n.val : Int) true) (n.val : Int) = true ∧ bitOf (putOf (v.val : Int) (n.val : Int) false) (n.val : Int) = false := by decide +kernel
end Go.Proofs.Ytbgegbddommcgab
