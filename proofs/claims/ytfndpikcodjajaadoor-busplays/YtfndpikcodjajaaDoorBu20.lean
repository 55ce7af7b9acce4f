/- Plain: layer 20's places, by the row that they stand in. -/
import Derived.Test.YtfndpikcodjajaaDoorAp10
namespace Go.Proofs.YtfndpikcodjajaaDoor
open Go.RowKit
set_option linter.unusedVariables false
set_option linter.unusedSimpArgs false

/-- The row that a place stands in. -/
def rwK (a : Int) : Nat := if a ≤ 32767 then 0 else if a ≤ 40959 then 1 else if a ≤ 49151 then 2 else if a ≤ 57343 then 3 else if a ≤ 65023 then 4 else if a ≤ 65183 then 5 else if a ≤ 65279 then 6 else if a ≤ 65407 then 7 else if a ≤ 65534 then 8 else 9
def firK : Nat → Int
  | 0 => 0
  | 1 => 32768
  | 2 => 40960
  | 3 => 49152
  | 4 => 57344
  | 5 => 65024
  | 6 => 65184
  | 7 => 65280
  | 8 => 65408
  | _ => 65535
def lasK : Nat → Int
  | 0 => 32767
  | 1 => 40959
  | 2 => 49151
  | 3 => 57343
  | 4 => 65023
  | 5 => 65183
  | 6 => 65279
  | 7 => 65407
  | 8 => 65534
  | _ => 65535
def regK : Nat → Int
  | 0 => 0
  | 1 => 1
  | 2 => 2
  | 3 => 3
  | 4 => 3
  | 5 => 4
  | 6 => 5
  | 7 => 6
  | 8 => 7
  | _ => 8
def linK : Nat → Int
  | 0 => 0
  | 1 => 1
  | 2 => 0
  | 3 => 0
  | 4 => 0
  | 5 => 2
  | 6 => 2
  | 7 => 2
  | 8 => 2
  | _ => 2
theorem rw_cases (a : Int) (a0 : 0 ≤ a) (a1 : a ≤ 65535) : (rwK a = 0 ∧ 0 ≤ a ∧ a ≤ 32767) ∨ (rwK a = 1 ∧ 32768 ≤ a ∧ a ≤ 40959) ∨ (rwK a = 2 ∧ 40960 ≤ a ∧ a ≤ 49151) ∨ (rwK a = 3 ∧ 49152 ≤ a ∧ a ≤ 57343) ∨ (rwK a = 4 ∧ 57344 ≤ a ∧ a ≤ 65023) ∨ (rwK a = 5 ∧ 65024 ≤ a ∧ a ≤ 65183) ∨ (rwK a = 6 ∧ 65184 ≤ a ∧ a ≤ 65279) ∨ (rwK a = 7 ∧ 65280 ≤ a ∧ a ≤ 65407) ∨ (rwK a = 8 ∧ 65408 ≤ a ∧ a ≤ 65534) ∨ (rwK a = 9 ∧ 65535 ≤ a ∧ a ≤ 65535) := by
  unfold rwK
  repeat' split
  all_goals omega
theorem rw_lt (a : Int) : rwK a < 10 := by
  unfold rwK
  repeat' split
  all_goals omega
theorem rw_fits (a : Int) (a0 : 0 ≤ a) (a1 : a ≤ 65535) : firK (rwK a) ≤ a ∧ a ≤ lasK (rwK a) := by
  rcases rw_cases a a0 a1 with ⟨h, q0, q1⟩ | ⟨h, q0, q1⟩ | ⟨h, q0, q1⟩ | ⟨h, q0, q1⟩ | ⟨h, q0, q1⟩ | ⟨h, q0, q1⟩ | ⟨h, q0, q1⟩ | ⟨h, q0, q1⟩ | ⟨h, q0, q1⟩ | ⟨h, q0, q1⟩
  all_goals (rw [h]; exact ⟨q0, q1⟩)
theorem rw_below (a : Int) (a0 : 0 ≤ a) (a1 : a ≤ 65535) (j : Nat) (hj : j < rwK a) : lasK j < a := by
  rcases rw_cases a a0 a1 with ⟨h, q0, q1⟩ | ⟨h, q0, q1⟩ | ⟨h, q0, q1⟩ | ⟨h, q0, q1⟩ | ⟨h, q0, q1⟩ | ⟨h, q0, q1⟩ | ⟨h, q0, q1⟩ | ⟨h, q0, q1⟩ | ⟨h, q0, q1⟩ | ⟨h, q0, q1⟩
  · rw [h] at hj
    exact absurd hj (Nat.not_lt_zero _)
  · rw [h] at hj
    match j, hj with
    | 0, _ => show (32767 : Int) < a; omega
    | j + 1, hj => exact absurd hj (by omega)
  · rw [h] at hj
    match j, hj with
    | 0, _ => show (32767 : Int) < a; omega
    | 1, _ => show (40959 : Int) < a; omega
    | j + 2, hj => exact absurd hj (by omega)
  · rw [h] at hj
    match j, hj with
    | 0, _ => show (32767 : Int) < a; omega
    | 1, _ => show (40959 : Int) < a; omega
    | 2, _ => show (49151 : Int) < a; omega
    | j + 3, hj => exact absurd hj (by omega)
  · rw [h] at hj
    match j, hj with
    | 0, _ => show (32767 : Int) < a; omega
    | 1, _ => show (40959 : Int) < a; omega
    | 2, _ => show (49151 : Int) < a; omega
    | 3, _ => show (57343 : Int) < a; omega
    | j + 4, hj => exact absurd hj (by omega)
  · rw [h] at hj
    match j, hj with
    | 0, _ => show (32767 : Int) < a; omega
    | 1, _ => show (40959 : Int) < a; omega
    | 2, _ => show (49151 : Int) < a; omega
    | 3, _ => show (57343 : Int) < a; omega
    | 4, _ => show (65023 : Int) < a; omega
    | j + 5, hj => exact absurd hj (by omega)
  · rw [h] at hj
    match j, hj with
    | 0, _ => show (32767 : Int) < a; omega
    | 1, _ => show (40959 : Int) < a; omega
    | 2, _ => show (49151 : Int) < a; omega
    | 3, _ => show (57343 : Int) < a; omega
    | 4, _ => show (65023 : Int) < a; omega
    | 5, _ => show (65183 : Int) < a; omega
    | j + 6, hj => exact absurd hj (by omega)
  · rw [h] at hj
    match j, hj with
    | 0, _ => show (32767 : Int) < a; omega
    | 1, _ => show (40959 : Int) < a; omega
    | 2, _ => show (49151 : Int) < a; omega
    | 3, _ => show (57343 : Int) < a; omega
    | 4, _ => show (65023 : Int) < a; omega
    | 5, _ => show (65183 : Int) < a; omega
    | 6, _ => show (65279 : Int) < a; omega
    | j + 7, hj => exact absurd hj (by omega)
  · rw [h] at hj
    match j, hj with
    | 0, _ => show (32767 : Int) < a; omega
    | 1, _ => show (40959 : Int) < a; omega
    | 2, _ => show (49151 : Int) < a; omega
    | 3, _ => show (57343 : Int) < a; omega
    | 4, _ => show (65023 : Int) < a; omega
    | 5, _ => show (65183 : Int) < a; omega
    | 6, _ => show (65279 : Int) < a; omega
    | 7, _ => show (65407 : Int) < a; omega
    | j + 8, hj => exact absurd hj (by omega)
  · rw [h] at hj
    match j, hj with
    | 0, _ => show (32767 : Int) < a; omega
    | 1, _ => show (40959 : Int) < a; omega
    | 2, _ => show (49151 : Int) < a; omega
    | 3, _ => show (57343 : Int) < a; omega
    | 4, _ => show (65023 : Int) < a; omega
    | 5, _ => show (65183 : Int) < a; omega
    | 6, _ => show (65279 : Int) < a; omega
    | 7, _ => show (65407 : Int) < a; omega
    | 8, _ => show (65534 : Int) < a; omega
    | j + 9, hj => exact absurd hj (by omega)
def regP (a : Int) : Int := regK (rwK a)
def atP20 (a : Int) : Int := a - firK (rwK a)
def linP (a : Int) : Int := linK (rwK a)
def shutP (a : Int) (v o c : Bool) : Bool := (regP a == 1 && v) || ((regP a == 4 || regP a == 5) && (o || c))
def meetP (a s : Int) (c : Bool) : Bool := c && (linP a == linP s && decide (linP a < 2))
theorem lin_cases (a : Int) (a0 : 0 ≤ a) (a1 : a ≤ 65535) : linP a = 0 ∨ linP a = 1 ∨ linP a = 2 := by
  unfold linP
  rcases rw_cases a a0 a1 with ⟨h, q0, q1⟩ | ⟨h, q0, q1⟩ | ⟨h, q0, q1⟩ | ⟨h, q0, q1⟩ | ⟨h, q0, q1⟩ | ⟨h, q0, q1⟩ | ⟨h, q0, q1⟩ | ⟨h, q0, q1⟩ | ⟨h, q0, q1⟩ | ⟨h, q0, q1⟩
  all_goals (rw [h]; decide)
theorem reg_cases (a : Int) (a0 : 0 ≤ a) (a1 : a ≤ 65535) : 0 ≤ regP a ∧ regP a ≤ 8 := by
  unfold regP
  rcases rw_cases a a0 a1 with ⟨h, q0, q1⟩ | ⟨h, q0, q1⟩ | ⟨h, q0, q1⟩ | ⟨h, q0, q1⟩ | ⟨h, q0, q1⟩ | ⟨h, q0, q1⟩ | ⟨h, q0, q1⟩ | ⟨h, q0, q1⟩ | ⟨h, q0, q1⟩ | ⟨h, q0, q1⟩
  all_goals (rw [h]; decide)
theorem at_in (a : Int) (a0 : 0 ≤ a) (a1 : a ≤ 65535) : 0 ≤ atP20 a ∧ atP20 a ≤ a := by
  have := rw_fits a a0 a1
  unfold atP20
  rcases rw_cases a a0 a1 with ⟨h, q0, q1⟩ | ⟨h, q0, q1⟩ | ⟨h, q0, q1⟩ | ⟨h, q0, q1⟩ | ⟨h, q0, q1⟩ | ⟨h, q0, q1⟩ | ⟨h, q0, q1⟩ | ⟨h, q0, q1⟩ | ⟨h, q0, q1⟩ | ⟨h, q0, q1⟩
  · rw [h]; show 0 ≤ a - 0 ∧ a - 0 ≤ a; omega
  · rw [h]; show 0 ≤ a - 32768 ∧ a - 32768 ≤ a; omega
  · rw [h]; show 0 ≤ a - 40960 ∧ a - 40960 ≤ a; omega
  · rw [h]; show 0 ≤ a - 49152 ∧ a - 49152 ≤ a; omega
  · rw [h]; show 0 ≤ a - 57344 ∧ a - 57344 ≤ a; omega
  · rw [h]; show 0 ≤ a - 65024 ∧ a - 65024 ≤ a; omega
  · rw [h]; show 0 ≤ a - 65184 ∧ a - 65184 ≤ a; omega
  · rw [h]; show 0 ≤ a - 65280 ∧ a - 65280 ≤ a; omega
  · rw [h]; show 0 ≤ a - 65408 ∧ a - 65408 ≤ a; omega
  · rw [h]; show 0 ≤ a - 65535 ∧ a - 65535 ≤ a; omega
end Go.Proofs.YtfndpikcodjajaaDoor
