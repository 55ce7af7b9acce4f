/- What Decode of the document's answers of layer 5 comes to. What Illegal and DecodeCB of the document's answers of layer 5 come to. -/
import Derived.Test.YtlchkflpaehgcabDoorCh
namespace Go.Proofs.YtlchkflpaehgcabDoor
open Go.RowKit
set_option linter.unusedVariables false
set_option linter.unusedSimpArgs false

def noneD (op : Int) : Nat → Bool
  | 0 => true
  | k + 1 => noneD op k && !fok (ds k) op 8
theorem ds_fin : ∀ k : Fin 46, (ds k.val).size = 8 ∧ (∀ j : Fin 8, sg (ds k.val) j.val = 48 ∨ sg (ds k.val) j.val = 49 ∨ sg (ds k.val) j.val = 120 ∨ sg (ds k.val) j.val = 121) ∧ ((dk k.val 0 = 21 ∨ dk k.val 0 = 22 ∨ dk k.val 0 = 25 ∨ dk k.val 0 = 26 ∨ dk k.val 0 = 8 ∨ dk k.val 0 = 7 ∨ dk k.val 0 = 23) → dk k.val 4 = 0) := by decide +kernel
theorem doc_fin : ∀ a : Fin 256, ∀ k : Fin 46, (fok (ds k.val) (a.val : Int) 8 && noneD (a.val : Int) k.val) = true → ((decOf (a.val : Int)).same (toldOf (dk k.val 0) (dk k.val 1) (dk k.val 2) (dk k.val 3) (dk k.val 4) (fx (ds k.val) (a.val : Int) 8) (fy (ds k.val) (a.val : Int) 8))) = true := by decide +kernel
theorem docno_fin : ∀ a : Fin 256, (noneD (a.val : Int) 46) = true → ((decOf (a.val : Int)).same ⟨5, 0, 0, 1, 1, 1⟩) = true := by decide +kernel
end Go.Proofs.YtlchkflpaehgcabDoor
namespace Go.Proofs.YtlchkflpaehgcabDoor
open Go.RowKit
set_option linter.unusedVariables false
set_option linter.unusedSimpArgs false

theorem cbfits_fin : ∀ a : Fin 256, fok ⟨#[48, 48, 120, 120, 120, 121, 121, 121]⟩ ((a.val : Int) % 64) 8 = true ∧ fx ⟨#[48, 48, 120, 120, 120, 121, 121, 121]⟩ ((a.val : Int) % 64) 8 = (a.val : Int) / 8 % 8 ∧ fy ⟨#[48, 48, 120, 120, 120, 121, 121, 121]⟩ ((a.val : Int) % 64) 8 = (a.val : Int) % 8 := by decide +kernel
theorem sgs_fin : ∀ k : Fin 8, sg ⟨#[48, 48, 120, 120, 120, 121, 121, 121]⟩ k.val = 48 ∨ sg ⟨#[48, 48, 120, 120, 120, 121, 121, 121]⟩ k.val = 49 ∨ sg ⟨#[48, 48, 120, 120, 120, 121, 121, 121]⟩ k.val = 120 ∨ sg ⟨#[48, 48, 120, 120, 120, 121, 121, 121]⟩ k.val = 121 := by decide +kernel
theorem sgs (k : Nat) (h : k < 8) : sg ⟨#[48, 48, 120, 120, 120, 121, 121, 121]⟩ k = 48 ∨ sg ⟨#[48, 48, 120, 120, 120, 121, 121, 121]⟩ k = 49 ∨ sg ⟨#[48, 48, 120, 120, 120, 121, 121, 121]⟩ k = 120 ∨ sg ⟨#[48, 48, 120, 120, 120, 121, 121, 121]⟩ k = 121 := sgs_fin ⟨k, h⟩
theorem rcbn_fin : ∀ a : Fin 256, (!((a.val : Int) % 8 == 6)) = true → ((cbOf (a.val : Int)).same ⟨43 + (a.val : Int) / 64, (a.val : Int) / 8 % 8, (a.val : Int) % 8, 2, 2, 2⟩) = true := by decide +kernel
theorem rcbn (a : Int) (h0 : 0 ≤ a) (h1 : a ≤ 255) (h : (!(a % 8 == 6)) = true) : cbOf a = ⟨43 + a / 64, a / 8 % 8, a % 8, 2, 2, 2⟩ :=
  (same_iff _ _).1 (fin8 (p := fun a => (!(a % 8 == 6)) = true → ((cbOf a).same ⟨43 + a / 64, a / 8 % 8, a % 8, 2, 2, 2⟩) = true) rcbn_fin a h0 h1 h)
theorem rcb3_fin : ∀ a : Fin 256, ((a.val : Int) % 8 == 6 && 43 + (a.val : Int) / 64 == 44) = true → ((cbOf (a.val : Int)).same ⟨43 + (a.val : Int) / 64, (a.val : Int) / 8 % 8, (a.val : Int) % 8, 2, 3, 3⟩) = true := by decide +kernel
theorem rcb3 (a : Int) (h0 : 0 ≤ a) (h1 : a ≤ 255) (h : (a % 8 == 6 && 43 + a / 64 == 44) = true) : cbOf a = ⟨43 + a / 64, a / 8 % 8, a % 8, 2, 3, 3⟩ :=
  (same_iff _ _).1 (fin8 (p := fun a => (a % 8 == 6 && 43 + a / 64 == 44) = true → ((cbOf a).same ⟨43 + a / 64, a / 8 % 8, a % 8, 2, 3, 3⟩) = true) rcb3_fin a h0 h1 h)
theorem rcb4_fin : ∀ a : Fin 256, ((a.val : Int) % 8 == 6 && !(43 + (a.val : Int) / 64 == 44)) = true → ((cbOf (a.val : Int)).same ⟨43 + (a.val : Int) / 64, (a.val : Int) / 8 % 8, (a.val : Int) % 8, 2, 4, 4⟩) = true := by decide +kernel
theorem rcb4 (a : Int) (h0 : 0 ≤ a) (h1 : a ≤ 255) (h : (a % 8 == 6 && !(43 + a / 64 == 44)) = true) : cbOf a = ⟨43 + a / 64, a / 8 % 8, a % 8, 2, 4, 4⟩ :=
  (same_iff _ _).1 (fin8 (p := fun a => (a % 8 == 6 && !(43 + a / 64 == 44)) = true → ((cbOf a).same ⟨43 + a / 64, a / 8 % 8, a % 8, 2, 4, 4⟩) = true) rcb4_fin a h0 h1 h)
end Go.Proofs.YtlchkflpaehgcabDoor
