/- Plain numbers of layer 7: what a head says. -/
import Derived.Test.YtbflhpffojlpgaaDoorBits
import Derived.Test.YtbflhpffojlpgaaDoorRow7
namespace Go.Proofs.YtbflhpffojlpgaaDoor
open Go.RowKit
set_option linter.unusedVariables false
set_option linter.unusedSimpArgs false

structure Hd where
  title : ByteArray
  kind : Int
  map : Int
  ram : Bool
  bat : Bool
  clk : Bool
  banks : Int
  size : Int
  sum : Int
  whole : Int
def hd0 : Hd := ⟨⟨#[]⟩, 0, 0, false, false, false, 0, 0, 0, 0⟩
def inL (ls : List Int) (b : Int) : Bool := ls.any (fun x => x == b)
def kN (k : Int) : Bool := inL [0, 8, 9] k
def k1 (k : Int) : Bool := inL [1, 2, 3] k
def k3 (k : Int) : Bool := inL [15, 16, 17, 18, 19] k
def k5 (k : Int) : Bool := inL [25, 26, 27, 28, 29, 30] k
def kRam (k : Int) : Bool := inL [2, 3, 8, 9, 16, 18, 19, 26, 27, 29, 30] k
def kBat (k : Int) : Bool := inL [3, 9, 15, 16, 19, 27, 30] k
def kClk (k : Int) : Bool := inL [15, 16] k
def kMap (k : Int) : Int := if k5 k then 5 else if k3 k then 3 else if k1 k then 1 else 0
def kindOk (k : Int) : Bool := kN k || k1 k || k3 k || k5 k
def kindH (k : Int) : Hd := if kindOk k then ⟨⟨#[]⟩, k, kMap k, kRam k, kBat k, kClk k, 0, 0, 0, 0⟩ else hd0
theorem kind_fin : ∀ a : Fin 256, (k1 (a.val : Int) = true ∧ k3 (a.val : Int) = false ∧ k5 (a.val : Int) = false ∧ kN (a.val : Int) = false) ∨ (k1 (a.val : Int) = false ∧ k3 (a.val : Int) = true ∧ k5 (a.val : Int) = false ∧ kN (a.val : Int) = false) ∨ (k1 (a.val : Int) = false ∧ k3 (a.val : Int) = false ∧ k5 (a.val : Int) = true ∧ kN (a.val : Int) = false) ∨ (k1 (a.val : Int) = false ∧ k3 (a.val : Int) = false ∧ k5 (a.val : Int) = false ∧ kN (a.val : Int) = true) ∨ (k1 (a.val : Int) = false ∧ k3 (a.val : Int) = false ∧ k5 (a.val : Int) = false ∧ kN (a.val : Int) = false) := by decide +kernel
theorem kind_of (k : Int) (h0 : 0 ≤ k) (h1 : k ≤ 255) : (k1 k = true ∧ k3 k = false ∧ k5 k = false ∧ kN k = false) ∨ (k1 k = false ∧ k3 k = true ∧ k5 k = false ∧ kN k = false) ∨ (k1 k = false ∧ k3 k = false ∧ k5 k = true ∧ kN k = false) ∨ (k1 k = false ∧ k3 k = false ∧ k5 k = false ∧ kN k = true) ∨ (k1 k = false ∧ k3 k = false ∧ k5 k = false ∧ kN k = false) :=
  fin8 (p := fun k => (k1 k = true ∧ k3 k = false ∧ k5 k = false ∧ kN k = false) ∨ (k1 k = false ∧ k3 k = true ∧ k5 k = false ∧ kN k = false) ∨ (k1 k = false ∧ k3 k = false ∧ k5 k = true ∧ kN k = false) ∨ (k1 k = false ∧ k3 k = false ∧ k5 k = false ∧ kN k = true) ∨ (k1 k = false ∧ k3 k = false ∧ k5 k = false ∧ kN k = false)) kind_fin k h0 h1
def mostTo : Nat → Int
  | 0 => 32768
  | k + 1 => mostTo k * 2
def mostOf (r : Int) : Int := mostTo r.toNat
theorem most_fin : ∀ r : Fin 10, 32768 ≤ mostTo r.val ∧ mostTo r.val ≤ 16777216 := by decide +kernel
def sumTo (z : List Int) : Nat → Int
  | 0 => 0
  | k + 1 => (sumTo z k + 512 - z.getD (308 + k) 0 - 1) % 256
def sumOf (z : List Int) : Int := sumTo z 25
def sumV (z : List Int) : Int := if z.length < 336 then 0 else sumOf z
def sumE (z : List Int) : Int := if z.length < 336 then 2 else 0
theorem sumTo_bd (z : List Int) (k : Nat) : 0 ≤ sumTo z k ∧ sumTo z k ≤ 255 := by
  cases k with
  | zero => exact ⟨Int.le_refl 0, by show (0 : Int) ≤ _; decide⟩
  | succ k => simp only [sumTo]; constructor <;> omega
def wholeTo (z : List Int) : Nat → Int
  | 0 => 0
  | k + 1 => if k = 334 ∨ k = 335 then wholeTo z k else (wholeTo z k + z.getD k 0) % 65536
def wholeOf (z : List Int) : Int := wholeTo z z.length
theorem wholeTo_bd (z : List Int) (k : Nat) : 0 ≤ wholeTo z k ∧ wholeTo z k ≤ 65535 := by
  induction k with
  | zero => exact ⟨Int.le_refl 0, by show (0 : Int) ≤ _; decide⟩
  | succ k ih =>
    simp only [wholeTo]
    split
    · exact ih
    · omega
def signB (b : Int) : Bool := decide (32 ≤ b) && decide (b ≤ 126)
def sizeM (m : Int) : Int := ([0, 2048, 8192, 32768, 131072, 65536] : List Int).getD m.toNat 0
def titL (z : List Int) : List Int := ((z.drop 308).take 16).takeWhile signB
def strB (ns : List Int) : ByteArray := ⟨(ns.map (fun n => UInt8.ofNat n.toNat)).toArray⟩
def parseE (z : List Int) : Int :=
  if z.length < 336 then 2 else if kindOk (z.getD 327 0) = false then 4
  else if 8 < z.getD 328 0 ∨ 5 < z.getD 329 0 ∨ mostOf (z.getD 328 0) < (z.length : Int) then 5 else if sumOf z ≠ z.getD 333 0 then 3 else 0
def parseH (z : List Int) : Hd :=
  if parseE z = 0 then ⟨strB (titL z), z.getD 327 0, kMap (z.getD 327 0), kRam (z.getD 327 0), kBat (z.getD 327 0), kClk (z.getD 327 0), mostOf (z.getD 328 0) / 16384, (if kRam (z.getD 327 0) then sizeM (z.getD 329 0) else 0), sumOf z, 256 * z.getD 334 0 + z.getD 335 0⟩ else hd0
end Go.Proofs.YtbflhpffojlpgaaDoor
