/- Plain numbers of layer 8: a cartridge's registers. -/
import Derived.Test.YtoehmmieceobeabBits
import Derived.Test.YtoehmmieceobeabK6
namespace Go.Proofs.Ytoehmmieceobeab
open Go.RowKit
set_option linter.unusedVariables false
set_option linter.unusedSimpArgs false

structure Mp where
  kind : Int
  op : Bool
  low : Int
  high : Int
  ram : Int
  mode : Bool
def mp0 : Mp := ⟨0, false, 0, 0, 0, false⟩
def newM (k : Int) : Mp := ⟨k, false, 0, 0, 0, false⟩
def newOk (k : Int) : Bool := k == 0 || k == 1 || k == 3 || k == 5
def newE (k : Int) : Int := if newOk k then 0 else 4
def newR (k : Int) : Mp := if newOk k then newM k else mp0
structure MpIn (m : Mp) : Prop where
  k0 : -9223372036854775808 ≤ m.kind
  k1 : m.kind ≤ 9223372036854775807
  l0 : 0 ≤ m.low
  l1 : m.low ≤ 255
  h0 : 0 ≤ m.high
  h1 : m.high ≤ 255
  r0 : 0 ≤ m.ram
  r1 : m.ram ≤ 255
def zone (a : Int) : Nat := if a < 8192 then 0 else if a < 12288 then 1 else if a < 16384 then 2 else if a < 24576 then 3 else if a < 32768 then 4 else 5
def write1 (m : Mp) (v : Int) : Nat → Mp
  | 0 => { m with op := v % 16 == 10 }
  | 1 => { m with low := v % 32 }
  | 2 => { m with low := v % 32 }
  | 3 => { m with high := v % 4 }
  | 4 => { m with mode := v % 2 == 1 }
  | _ => m
def write3 (m : Mp) (v : Int) : Nat → Mp
  | 0 => { m with op := v % 16 == 10 }
  | 1 => { m with low := v % 128 }
  | 2 => { m with low := v % 128 }
  | 3 => { m with ram := v % 16 }
  | _ => m
def write5 (m : Mp) (v : Int) : Nat → Mp
  | 0 => { m with op := v == 10 }
  | 1 => { m with low := v }
  | 2 => { m with high := v % 2 }
  | 3 => { m with ram := v % 16 }
  | _ => m
def writeZ (m : Mp) (z : Nat) (v : Int) : Mp := if m.kind = 1 then write1 m v z else if m.kind = 3 then write3 m v z else if m.kind = 5 then write5 m v z else m
def writeM (m : Mp) (a v : Int) : Mp := writeZ m (zone a) v
def one (x : Int) : Int := if x = 0 then 1 else x
def bankHi (m : Mp) : Int := if m.kind = 1 then 32 * m.high + one m.low else if m.kind = 3 then one m.low else if m.kind = 5 then 256 * m.high + m.low else 1
def bankLo (m : Mp) : Int := if m.kind = 1 then (if m.mode then 32 * m.high else 0) else 0
def bankM (m : Mp) (a : Int) : Int := if a < 16384 then bankLo m else if a < 32768 then bankHi m else 0
def romM (m : Mp) (a s : Int) : Int := if s < 1 ∨ 32767 < a then -1 else (16384 * bankM m a + a % 16384) % s
def inWin (a : Int) : Bool := decide (40960 ≤ a) && decide (a ≤ 49151)
def ramB (m : Mp) : Int := if m.kind = 1 then (if m.mode then m.high else 0) else if m.kind = 3 then m.ram else if m.kind = 5 then m.ram else 0
def ramNo (m : Mp) : Bool := if m.kind = 1 then !m.op else if m.kind = 3 then (!m.op || decide (7 < m.ram)) else if m.kind = 5 then !m.op else false
def ramM (m : Mp) (a s : Int) : Int := if s < 1 ∨ inWin a = false ∨ ramNo m = true then -1 else (8192 * ramB m + a - 40960) % s
def regM (m : Mp) (a : Int) : Int := if m.kind = 3 ∧ m.op = true ∧ inWin a = true ∧ 8 ≤ m.ram ∧ m.ram ≤ 12 then m.ram else 0
theorem write_in (m : Mp) (a v : Int) (h : MpIn m) (v0 : 0 ≤ v) (v1 : v ≤ 255) : MpIn (writeM m a v) := by
  unfold writeM writeZ
  have e1 := h.l0; have e2 := h.l1; have e3 := h.h0; have e4 := h.h1; have e5 := h.r0; have e6 := h.r1
  split
  · unfold write1; split <;> first | exact h | exact ⟨h.k0, h.k1, by first | exact e1 | (show 0 ≤ _ % _; omega), by first | exact e2 | (show _ % _ ≤ _; omega), by first | exact e3 | (show 0 ≤ _ % _; omega), by first | exact e4 | (show _ % _ ≤ _; omega), by first | exact e5 | (show 0 ≤ _ % _; omega), by first | exact e6 | (show _ % _ ≤ _; omega)⟩
  · split
    · unfold write3; split <;> first | exact h | exact ⟨h.k0, h.k1, by first | exact e1 | (show 0 ≤ _ % _; omega), by first | exact e2 | (show _ % _ ≤ _; omega), by first | exact e3 | (show 0 ≤ _ % _; omega), by first | exact e4 | (show _ % _ ≤ _; omega), by first | exact e5 | (show 0 ≤ _ % _; omega), by first | exact e6 | (show _ % _ ≤ _; omega)⟩
    · split
      · unfold write5; split <;> first | exact h | exact ⟨h.k0, h.k1, by first | exact e1 | exact v0 | (show 0 ≤ _ % _; omega), by first | exact e2 | exact v1 | (show _ % _ ≤ _; omega), by first | exact e3 | (show 0 ≤ _ % _; omega), by first | exact e4 | (show _ % _ ≤ _; omega), by first | exact e5 | (show 0 ≤ _ % _; omega), by first | exact e6 | (show _ % _ ≤ _; omega)⟩
      · exact h
theorem new_in (k : Int) (k0 : -9223372036854775808 ≤ k) (k1 : k ≤ 9223372036854775807) : MpIn (newR k) := by
  unfold newR
  split
  · exact ⟨k0, k1, Int.le_refl 0, (by decide : (0 : Int) ≤ 255), Int.le_refl 0, (by decide : (0 : Int) ≤ 255), Int.le_refl 0, (by decide : (0 : Int) ≤ 255)⟩
  · exact ⟨by decide, by decide, by decide, by decide, by decide, by decide, by decide, by decide⟩
theorem one_bd (x : Int) (h0 : 0 ≤ x) (h1 : x ≤ 255) : 1 ≤ one x ∧ one x ≤ 255 := by unfold one; split <;> omega
theorem bank_bd (m : Mp) (a : Int) (h : MpIn m) : 0 ≤ bankM m a ∧ bankM m a ≤ 65535 := by
  have e1 := h.l0; have e2 := h.l1; have e3 := h.h0; have e4 := h.h1
  have o := one_bd m.low e1 e2
  unfold bankM bankLo bankHi
  repeat' split
  all_goals omega
theorem ramB_bd (m : Mp) (h : MpIn m) : 0 ≤ ramB m ∧ ramB m ≤ 255 := by
  have e3 := h.h0; have e4 := h.h1; have e5 := h.r0; have e6 := h.r1
  unfold ramB
  repeat' split
  all_goals omega
theorem kinds_of (k : Int) : k = 1 ∨ k = 3 ∨ k = 5 ∨ (k ≠ 1 ∧ k ≠ 3 ∧ k ≠ 5) := by omega
end Go.Proofs.Ytoehmmieceobeab
