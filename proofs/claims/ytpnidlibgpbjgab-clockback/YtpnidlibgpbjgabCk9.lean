/- Plain numbers of layer 9: a cartridge's clock. -/
import Derived.Test.YtpnidlibgpbjgabBits
import Derived.Test.YtpnidlibgpbjgabK8
namespace Go.Proofs.Ytpnidlibgpbjgab
open Go.RowKit
set_option linter.unusedVariables false
set_option linter.unusedSimpArgs false

structure Ck where
  sec : Int
  min : Int
  hour : Int
  day : Int
  halt : Bool
  carry : Bool
def ck0 : Ck := ⟨0, 0, 0, 0, false, false⟩
structure CkIn (c : Ck) : Prop where
  s0 : 0 ≤ c.sec
  s1 : c.sec ≤ 255
  m0 : 0 ≤ c.min
  m1 : c.min ≤ 255
  h0 : 0 ≤ c.hour
  h1 : c.hour ≤ 255
  d0 : 0 ≤ c.day
  d1 : c.day ≤ 65535
structure CkOk (c : Ck) : Prop where
  s0 : 0 ≤ c.sec
  s1 : c.sec ≤ 63
  m0 : 0 ≤ c.min
  m1 : c.min ≤ 63
  h0 : 0 ≤ c.hour
  h1 : c.hour ≤ 31
  d0 : 0 ≤ c.day
  d1 : c.day ≤ 511
def normC (c : Ck) : Ck := ⟨c.sec % 64, c.min % 64, c.hour % 32, c.day % 512, c.halt, c.carry⟩
theorem CkOk.inn {c : Ck} (h : CkOk c) : CkIn c := by
  obtain ⟨a, b, c, d, e, f, g, i⟩ := h
  exact ⟨a, by omega, c, by omega, e, by omega, g, by omega⟩
theorem norm_ok {c : Ck} (h : CkIn c) : CkOk (normC c) := by
  obtain ⟨a, b, c, d, e, f, g, i⟩ := h
  exact ⟨by show 0 ≤ _ % 64; omega, by show _ % 64 ≤ 63; omega, by show 0 ≤ _ % 64; omega, by show _ % 64 ≤ 63; omega, by show 0 ≤ _ % 32; omega, by show _ % 32 ≤ 31; omega, by show 0 ≤ _ % 512; omega, by show _ % 512 ≤ 511; omega⟩
theorem norm_id {c : Ck} (h : CkOk c) : normC c = c := by
  obtain ⟨sec, min, hour, day, halt, carry⟩ := c
  obtain ⟨a, b, c, d, e, f, g, i⟩ := h
  simp only at a b c d e f g i
  unfold normC
  simp only [Ck.mk.injEq, and_true]
  refine ⟨?_, ?_, ?_, ?_⟩ <;> omega
def tickN (w : Ck) : Ck :=
  if w.halt then w
  else if w.sec ≠ 59 then { w with sec := (w.sec + 1) % 64 }
  else if w.min ≠ 59 then { w with sec := 0, min := (w.min + 1) % 64 }
  else if w.hour ≠ 23 then { w with sec := 0, min := 0, hour := (w.hour + 1) % 32 }
  else if w.day ≠ 511 then { w with sec := 0, min := 0, hour := 0, day := w.day + 1 }
  else { w with sec := 0, min := 0, hour := 0, day := 0, carry := true }
def tickC (c : Ck) : Ck := tickN (normC c)
def runN : Nat → Ck → Ck
  | 0, c => c
  | n + 1, c => tickN (runN n c)
def runC (c : Ck) (n : Int) : Ck := runN n.toNat (normC c)
def runE (n : Int) : Int := if n < 0 ∨ 100000 < n then 1 else 0
def runR (c : Ck) (n : Int) : Ck := if n < 0 ∨ 100000 < n then ck0 else runC c n
theorem tick_ok {c : Ck} (h : CkOk c) : CkOk (tickN c) := by
  obtain ⟨a, b, d, e, f, g, i, j⟩ := id h
  unfold tickN
  by_cases q1 : c.halt = true
  · rw [if_pos q1]; exact h
  rw [if_neg q1]
  by_cases q2 : c.sec ≠ 59
  · rw [if_pos q2]; exact ⟨by show 0 ≤ _ % 64; omega, by show _ % 64 ≤ 63; omega, d, e, f, g, i, j⟩
  rw [if_neg q2]
  by_cases q3 : c.min ≠ 59
  · rw [if_pos q3]; exact ⟨Int.le_refl 0, (by decide : (0 : Int) ≤ 63), by show 0 ≤ _ % 64; omega, by show _ % 64 ≤ 63; omega, f, g, i, j⟩
  rw [if_neg q3]
  by_cases q4 : c.hour ≠ 23
  · rw [if_pos q4]; exact ⟨Int.le_refl 0, (by decide : (0 : Int) ≤ 63), Int.le_refl 0, (by decide : (0 : Int) ≤ 63), by show 0 ≤ _ % 32; omega, by show _ % 32 ≤ 31; omega, i, j⟩
  rw [if_neg q4]
  by_cases q5 : c.day ≠ 511
  · rw [if_pos q5]; exact ⟨Int.le_refl 0, (by decide : (0 : Int) ≤ 63), Int.le_refl 0, (by decide : (0 : Int) ≤ 63), Int.le_refl 0, (by decide : (0 : Int) ≤ 31), by show 0 ≤ c.day + 1; omega, by show c.day + 1 ≤ 511; omega⟩
  rw [if_neg q5]
  exact ⟨Int.le_refl 0, (by decide : (0 : Int) ≤ 63), Int.le_refl 0, (by decide : (0 : Int) ≤ 63), Int.le_refl 0, (by decide : (0 : Int) ≤ 31), Int.le_refl 0, (by decide : (0 : Int) ≤ 511)⟩
theorem run_ok {c : Ck} (h : CkOk c) (n : Nat) : CkOk (runN n c) := by
  induction n with
  | zero => exact h
  | succ n ih => exact tick_ok ih
theorem tickC_ok {c : Ck} (h : CkOk c) : tickC c = tickN c := by unfold tickC; rw [norm_id h]
theorem run_add (m n : Nat) (c : Ck) : runN n (runN m c) = runN (m + n) c := by
  induction n with
  | zero => rfl
  | succ n ih => show tickN (runN n (runN m c)) = tickN (runN (m + n) c); rw [ih]
def bit (b : Bool) (v : Int) : Int := if b then v else 0
def readV (w : Ck) (reg : Int) : Int :=
  if reg = 8 then w.sec else if reg = 9 then w.min else if reg = 10 then w.hour else if reg = 11 then w.day % 256 else if reg = 12 then w.day / 256 + bit w.halt 64 + bit w.carry 128 else 0
def regOk (reg : Int) : Bool := reg == 8 || reg == 9 || reg == 10 || reg == 11 || reg == 12
def regE (reg : Int) : Int := if regOk reg then 0 else 7
def writeN (w : Ck) (reg v : Int) : Ck :=
  if reg = 8 then { w with sec := v % 64 } else if reg = 9 then { w with min := v % 64 } else if reg = 10 then { w with hour := v % 32 } else if reg = 11 then { w with day := w.day / 256 * 256 + v }
  else if reg = 12 then { w with day := w.day % 256 + v % 2 * 256, halt := v / 64 % 2 == 1, carry := decide (128 ≤ v) } else ck0
def readC (c : Ck) (reg : Int) : Int := readV (normC c) reg
def writeC (c : Ck) (reg v : Int) : Ck := writeN (normC c) reg v
end Go.Proofs.Ytpnidlibgpbjgab
