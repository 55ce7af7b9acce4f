/- Plain numbers of layer 15: where the picture is, as a record, and what follows. -/
import Derived.Test.YtpgdkoiinigepaaBits
namespace Go.Proofs.Ytpgdkoiinigepaa
open Go.RowKit
set_option linter.unusedVariables false
set_option linter.unusedSimpArgs false

structure Lc where
  on : Bool
  line : Int
  dot : Int
  lyc : Int
  sel : Int
  high : Bool
  extra : Int
structure LcIn (l : Lc) : Prop where
  l0 : 0 ≤ l.line
  l1 : l.line ≤ 255
  d0 : 0 ≤ l.dot
  d1 : l.dot ≤ 65535
  y0 : 0 ≤ l.lyc
  y1 : l.lyc ≤ 255
  s0 : 0 ≤ l.sel
  s1 : l.sel ≤ 255
  e0 : 0 ≤ l.extra
  e1 : l.extra ≤ 65535
def modeL (l : Lc) : Int := if l.on = true then (if 144 ≤ l.line then 1 else if l.dot < 80 then 2 else if l.dot < 252 + l.extra then 3 else 0) else 0
def srcL (l : Lc) : Bool := l.on && ((modeL l == 0 && bitOf l.sel 3) || (modeL l == 1 && bitOf l.sel 4) || (modeL l == 2 && bitOf l.sel 5) || (l.line == l.lyc && bitOf l.sel 6))
def setL (l : Lc) : Lc := ⟨l.on, l.line, l.dot, l.lyc, l.sel, srcL l, l.extra⟩
def riseL (l : Lc) : Bool := srcL l && !l.high
def onL (l : Lc) : Lc := if l.dot < 455 then ⟨l.on, l.line, l.dot + 1, l.lyc, l.sel, l.high, l.extra⟩ else if l.line < 153 then ⟨l.on, l.line + 1, 0, l.lyc, l.sel, l.high, l.extra⟩ else ⟨l.on, 0, 0, l.lyc, l.sel, l.high, l.extra⟩
def mostL (x : Int) : Int := if x ≤ 200 then x else 200
def drawL (l : Lc) : Bool := decide (l.line < 144) && (l.dot == 80)
def frameL (l : Lc) : Bool := (l.line == 144) && (l.dot == 0)
def exL (l : Lc) (x : Int) : Lc := if drawL l = true then ⟨l.on, l.line, l.dot, l.lyc, l.sel, l.high, mostL x⟩ else l
def stepL (l : Lc) (x : Int) : Lc := if l.on = true then setL (exL (onL l) x) else l
def stepF (l : Lc) : Bool := l.on && frameL (onL l)
def stepD (l : Lc) : Bool := l.on && drawL (onL l)
def stepR (l : Lc) (x : Int) : Bool := l.on && riseL (exL (onL l) x)
def bareL (l : Lc) (on : Bool) : Lc := ⟨on, 0, 0, l.lyc, l.sel, l.high, 0⟩
def powL (l : Lc) (on : Bool) : Lc := if l.on = on then l else setL (bareL l on)
def powR (l : Lc) (on : Bool) : Bool := if l.on = on then false else riseL (bareL l on)
def fourL (l : Lc) : Int := if l.line = l.lyc then 4 else 0
def statL (l : Lc) : Int := 128 + l.sel / 8 % 16 * 8 + modeL l + fourL l
def readL (l : Lc) (a : Int) : Int := if a = 65345 then statL l else if a = 65348 then l.line else if a = 65349 then l.lyc else 255
def toldL (l : Lc) (a v : Int) : Lc := if a = 65345 then ⟨l.on, l.line, l.dot, l.lyc, v / 8 % 16 * 8, l.high, l.extra⟩ else ⟨l.on, l.line, l.dot, v, l.sel, l.high, l.extra⟩
def writeL (l : Lc) (a v : Int) : Lc := if a = 65345 ∨ a = 65349 then setL (toldL l a v) else l
def writeR (l : Lc) (a v : Int) : Bool := if a = 65345 ∨ a = 65349 then riseL (toldL l a v) else false
theorem mode_cases (l : Lc) : modeL l = 0 ∨ modeL l = 1 ∨ modeL l = 2 ∨ modeL l = 3 := by
  unfold modeL
  split
  · split
    · exact .inr (.inl rfl)
    · split
      · exact .inr (.inr (.inl rfl))
      · split
        · exact .inr (.inr (.inr rfl))
        · exact .inl rfl
  · exact .inl rfl
theorem mode_in (l : Lc) : 0 ≤ modeL l ∧ modeL l ≤ 3 := by rcases mode_cases l with h | h | h | h <;> rw [h] <;> decide
theorem set_in {l : Lc} (h : LcIn l) : LcIn (setL l) := ⟨h.l0, h.l1, h.d0, h.d1, h.y0, h.y1, h.s0, h.s1, h.e0, h.e1⟩
theorem on_in {l : Lc} (h : LcIn l) : LcIn (onL l) := by
  unfold onL
  have h1 := h.l0
  have h2 := h.d0
  split
  · exact ⟨h.l0, h.l1, by show 0 ≤ l.dot + 1; omega, by show l.dot + 1 ≤ 65535; omega, h.y0, h.y1, h.s0, h.s1, h.e0, h.e1⟩
  · split
    · exact ⟨by show 0 ≤ l.line + 1; omega, by show l.line + 1 ≤ 255; omega, Int.le_refl 0, (by decide : (0 : Int) ≤ 65535), h.y0, h.y1, h.s0, h.s1, h.e0, h.e1⟩
    · exact ⟨Int.le_refl 0, (by decide : (0 : Int) ≤ 255), Int.le_refl 0, (by decide : (0 : Int) ≤ 65535), h.y0, h.y1, h.s0, h.s1, h.e0, h.e1⟩
theorem most_in (x : Int) (h : 0 ≤ x) : 0 ≤ mostL x ∧ mostL x ≤ 200 := by unfold mostL; split <;> omega
theorem ex_in {l : Lc} (h : LcIn l) (x : Int) (hx : 0 ≤ x) : LcIn (exL l x) := by
  unfold exL
  have m := most_in x hx
  split
  · exact ⟨h.l0, h.l1, h.d0, h.d1, h.y0, h.y1, h.s0, h.s1, m.1, by show mostL x ≤ 65535; omega⟩
  · exact h
theorem step_in {l : Lc} (h : LcIn l) (x : Int) (hx : 0 ≤ x) : LcIn (stepL l x) := by
  unfold stepL
  split
  · exact set_in (ex_in (on_in h) x hx)
  · exact h
theorem bare_in {l : Lc} (h : LcIn l) (on : Bool) : LcIn (bareL l on) := ⟨Int.le_refl 0, (by decide : (0 : Int) ≤ 255), Int.le_refl 0, (by decide : (0 : Int) ≤ 65535), h.y0, h.y1, h.s0, h.s1, Int.le_refl 0, (by decide : (0 : Int) ≤ 65535)⟩
theorem told_in {l : Lc} (h : LcIn l) (a v : Int) (v0 : 0 ≤ v) (v1 : v ≤ 255) : LcIn (toldL l a v) := by
  unfold toldL
  split
  · exact ⟨h.l0, h.l1, h.d0, h.d1, h.y0, h.y1, by show 0 ≤ v / 8 % 16 * 8; omega, by show v / 8 % 16 * 8 ≤ 255; omega, h.e0, h.e1⟩
  · exact ⟨h.l0, h.l1, h.d0, h.d1, v0, v1, h.s0, h.s1, h.e0, h.e1⟩
theorem src_off (l : Lc) (h : l.on = false) : srcL l = false := by unfold srcL; rw [h]; rfl
theorem src_0 (l : Lc) (o : l.on = true) (h : modeL l = 0) : srcL l = (bitOf l.sel 3 || (l.line == l.lyc && bitOf l.sel 6)) := by
  unfold srcL; rw [h, o]; simp
theorem src_1 (l : Lc) (o : l.on = true) (h : modeL l = 1) : srcL l = (bitOf l.sel 4 || (l.line == l.lyc && bitOf l.sel 6)) := by
  unfold srcL; rw [h, o]; simp
theorem src_2 (l : Lc) (o : l.on = true) (h : modeL l = 2) : srcL l = (bitOf l.sel 5 || (l.line == l.lyc && bitOf l.sel 6)) := by
  unfold srcL; rw [h, o]; simp
theorem src_3 (l : Lc) (o : l.on = true) (h : modeL l = 3) : srcL l = (l.line == l.lyc && bitOf l.sel 6) := by
  unfold srcL; rw [h, o]; simp
theorem set_src (l : Lc) : srcL (setL l) = srcL l := rfl
theorem ex_on (l : Lc) (x : Int) : (exL l x).on = l.on := by unfold exL; split <;> rfl
theorem on_on (l : Lc) : (onL l).on = l.on := by unfold onL; split <;> (try split) <;> rfl
theorem ex_line (l : Lc) (x : Int) : (exL l x).line = l.line := by unfold exL; split <;> rfl
theorem ex_dot (l : Lc) (x : Int) : (exL l x).dot = l.dot := by unfold exL; split <;> rfl
theorem ex_high (l : Lc) (x : Int) : (exL l x).high = l.high := by unfold exL; split <;> rfl
theorem on_high (l : Lc) : (onL l).high = l.high := by unfold onL; split <;> (try split) <;> rfl
end Go.Proofs.Ytpgdkoiinigepaa
