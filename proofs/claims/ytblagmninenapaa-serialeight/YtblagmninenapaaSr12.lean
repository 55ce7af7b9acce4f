/- Plain numbers of layer 12: a port as a record, and what follows. -/
import Derived.Test.YtblagmninenapaaBits
namespace Go.Proofs.Ytblagmninenapaa
open Go.RowKit
set_option linter.unusedVariables false
set_option linter.unusedSimpArgs false

structure Sr where
  data : Int
  ctl : Int
  left : Int
  ph : Int
structure SrIn (s : Sr) : Prop where
  d0 : 0 ≤ s.data
  d1 : s.data ≤ 255
  c0 : 0 ≤ s.ctl
  c1 : s.ctl ≤ 255
  l0 : 0 ≤ s.left
  l1 : s.left ≤ 255
  p0 : 0 ≤ s.ph
  p1 : s.ph ≤ 255
def oneS (b : Bool) : Int := if b = true then 1 else 0
def shiftS (s : Sr) (b : Bool) : Sr := ⟨s.data * 2 % 256 + oneS b, if s.left = 1 then s.ctl - 128 else s.ctl, s.left - 1, s.ph⟩
def goesS (s : Sr) : Bool := decide (128 ≤ s.ctl) && (s.left != 0)
def ownS (s : Sr) (b : Bool) : Sr := if s.ph < 127 then { s with ph := s.ph + 1 } else shiftS { s with ph := 0 } b
def stepS (s : Sr) (b edge : Bool) : Sr := if goesS s = true then (if s.ctl % 2 = 1 then ownS s b else if edge = true then shiftS s b else s) else s
def askS (s : Sr) (edge : Bool) : Bool := goesS s && (if s.ctl % 2 = 1 then decide (127 ≤ s.ph) else edge) && (s.left == 1)
def outS (s : Sr) : Bool := decide (128 ≤ s.data)
def readS (s : Sr) (a : Int) : Int := if a = 65281 then s.data else if a = 65282 then s.ctl / 128 * 128 + 126 + s.ctl % 2 else 255
def writeS (s : Sr) (a v : Int) : Sr := if a = 65281 then { s with data := v } else if a = 65282 then ⟨s.data, v / 128 * 128 + v % 2, if 128 ≤ v then 8 else 0, 0⟩ else s
theorem one_le (b : Bool) : 0 ≤ oneS b ∧ oneS b ≤ 1 := by cases b <;> decide
theorem goes_iff (s : Sr) : goesS s = true ↔ 128 ≤ s.ctl ∧ s.left ≠ 0 := by unfold goesS; simp
theorem shift_in {s : Sr} (h : SrIn s) (b : Bool) (hc : 128 ≤ s.ctl) (hl : s.left ≠ 0) : SrIn (shiftS s b) := by
  obtain ⟨h0, h1, h2, h3, h4, h5, h6, h7⟩ := h
  have o := one_le b
  unfold shiftS
  refine ⟨?_, ?_, ?_, ?_, ?_, ?_, h6, h7⟩
  · show 0 ≤ s.data * 2 % 256 + oneS b; omega
  · show s.data * 2 % 256 + oneS b ≤ 255; omega
  · show 0 ≤ if s.left = 1 then s.ctl - 128 else s.ctl; split <;> omega
  · show (if s.left = 1 then s.ctl - 128 else s.ctl) ≤ 255; split <;> omega
  · show 0 ≤ s.left - 1; omega
  · show s.left - 1 ≤ 255; omega
theorem step_inS {s : Sr} (h : SrIn s) (b edge : Bool) : SrIn (stepS s b edge) := by
  unfold stepS
  split
  · rename_i g
    obtain ⟨g1, g2⟩ := (goes_iff s).1 g
    split
    · unfold ownS
      split
      · exact ⟨h.d0, h.d1, h.c0, h.c1, h.l0, h.l1, by show 0 ≤ s.ph + 1; have := h.p0; omega, by show s.ph + 1 ≤ 255; omega⟩
      · exact shift_in (s := { s with ph := 0 }) ⟨h.d0, h.d1, h.c0, h.c1, h.l0, h.l1, Int.le_refl 0, (by decide : (0 : Int) ≤ 255)⟩ b g1 g2
    · split
      · exact shift_in h b g1 g2
      · exact h
  · exact h
/-- A port that doesn't go stays as it is. -/
theorem idle_step (s : Sr) (b edge : Bool) (h : goesS s = false) : stepS s b edge = s ∧ askS s edge = false := by
  unfold stepS askS
  rw [h]
  exact ⟨rfl, rfl⟩
/-- The byte behind q bits of o that went out and of i that came in. -/
def dE (o i : Int) (q : Nat) : Int := o * 2 ^ q % 256 + i / 2 ^ (8 - q)
def bitS (i : Int) (k : Nat) : Bool := i / 2 ^ k % 2 == 1
theorem dE_next (o i : Int) (q : Nat) (hq : q < 8) (i0 : 0 ≤ i) (i1 : i ≤ 255) : dE o i q * 2 % 256 + oneS (bitS i (7 - q)) = dE o i (q + 1) := by
  have e : ∀ k, oneS (bitS i k) = i / 2 ^ k % 2 := fun k => by
    unfold oneS bitS
    by_cases h : i / 2 ^ k % 2 = 1
    · rw [h]; rfl
    · have : i / 2 ^ k % 2 = 0 := by omega
      rw [this]; rfl
  rw [e]
  unfold dE
  have c : q = 0 ∨ q = 1 ∨ q = 2 ∨ q = 3 ∨ q = 4 ∨ q = 5 ∨ q = 6 ∨ q = 7 := by omega
  rcases c with rfl | rfl | rfl | rfl | rfl | rfl | rfl | rfl <;> simp only [Nat.reduceSub, Nat.reduceAdd, Int.reducePow] <;> omega
theorem dE_out (o i : Int) (q : Nat) (hq : q < 8) (o0 : 0 ≤ o) (o1 : o ≤ 255) (i0 : 0 ≤ i) (i1 : i ≤ 255) : decide (128 ≤ dE o i q) = bitS o (7 - q) := by
  have e : 128 ≤ dE o i q ↔ o / 2 ^ (7 - q) % 2 = 1 := by
    unfold dE
    have c : q = 0 ∨ q = 1 ∨ q = 2 ∨ q = 3 ∨ q = 4 ∨ q = 5 ∨ q = 6 ∨ q = 7 := by omega
    rcases c with rfl | rfl | rfl | rfl | rfl | rfl | rfl | rfl <;> simp only [Nat.reduceSub, Nat.reduceAdd, Int.reducePow] <;> omega
  unfold bitS
  by_cases h : o / 2 ^ (7 - q) % 2 = 1
  · rw [decide_eq_true (e.2 h), h]; rfl
  · rw [decide_eq_false (fun x => h (e.1 x))]; exact (by simpa using h : (o / 2 ^ (7 - q) % 2 == 1) = false).symm
theorem dE_in (o i : Int) (q : Nat) (hq : q ≤ 8) (i0 : 0 ≤ i) (i1 : i ≤ 255) : 0 ≤ dE o i q ∧ dE o i q ≤ 255 := by
  unfold dE
  have c : q = 0 ∨ q = 1 ∨ q = 2 ∨ q = 3 ∨ q = 4 ∨ q = 5 ∨ q = 6 ∨ q = 7 ∨ q = 8 := by omega
  rcases c with rfl | rfl | rfl | rfl | rfl | rfl | rfl | rfl | rfl <;> simp only [Nat.reduceSub, Nat.reduceAdd, Int.reducePow] <;> omega
theorem dE_0 (o i : Int) (o0 : 0 ≤ o) (o1 : o ≤ 255) (i0 : 0 ≤ i) (i1 : i ≤ 255) : dE o i 0 = o := by
  unfold dE
  simp only [Nat.reduceSub, Int.reducePow]
  omega
theorem dE_8 (o i : Int) : dE o i 8 = i := by
  unfold dE
  simp only [Nat.reduceSub, Int.reducePow]
  omega
/-- The port with its own clock behind j cycles. -/
def ownE (o i : Int) (j : Nat) : Sr := ⟨dE o i (j / 128), if j < 1024 then 129 else 1, 8 - ((j / 128 : Nat) : Int), ((j % 128 : Nat) : Int)⟩
/-- The port with the other's clock behind j cycles. -/
def farE (o i : Int) (j : Nat) : Sr := ⟨dE o i (j / 128), if j < 1024 then 128 else 0, 8 - ((j / 128 : Nat) : Int), 0⟩
theorem own_in (o i : Int) (j : Nat) (hj : j ≤ 1024) (i0 : 0 ≤ i) (i1 : i ≤ 255) : SrIn (ownE o i j) := by
  have d := dE_in o i (j / 128) (by omega) i0 i1
  refine ⟨d.1, d.2, ?_, ?_, ?_, ?_, ?_, ?_⟩
  · show (0 : Int) ≤ if j < 1024 then 129 else 1; split <;> decide
  · show (if j < 1024 then 129 else 1) ≤ (255 : Int); split <;> decide
  · show 0 ≤ 8 - ((j / 128 : Nat) : Int); omega
  · show 8 - ((j / 128 : Nat) : Int) ≤ 255; omega
  · show 0 ≤ ((j % 128 : Nat) : Int); omega
  · show ((j % 128 : Nat) : Int) ≤ 255; omega
theorem far_in (o i : Int) (j : Nat) (hj : j ≤ 1024) (i0 : 0 ≤ i) (i1 : i ≤ 255) : SrIn (farE o i j) := by
  have d := dE_in o i (j / 128) (by omega) i0 i1
  refine ⟨d.1, d.2, ?_, ?_, ?_, ?_, Int.le_refl 0, (by decide : (0 : Int) ≤ 255)⟩
  · show (0 : Int) ≤ if j < 1024 then 128 else 0; split <;> decide
  · show (if j < 1024 then 128 else 0) ≤ (255 : Int); split <;> decide
  · show 0 ≤ 8 - ((j / 128 : Nat) : Int); omega
  · show 8 - ((j / 128 : Nat) : Int) ≤ 255; omega
theorem own_next (o i : Int) (j : Nat) (hj : j < 1024) (i0 : 0 ≤ i) (i1 : i ≤ 255) (edge : Bool) : stepS (ownE o i j) (bitS i (7 - j / 128)) edge = ownE o i (j + 1) := by
  have E : ownE o i j = ⟨dE o i (j / 128), 129, 8 - ((j / 128 : Nat) : Int), ((j % 128 : Nat) : Int)⟩ := by unfold ownE; rw [if_pos hj]
  have g : goesS (ownE o i j) = true := (goes_iff _).2 (by rw [E]; exact ⟨(by decide : (128 : Int) ≤ 129), by show 8 - ((j / 128 : Nat) : Int) ≠ 0; omega⟩)
  unfold stepS
  rw [if_pos g, E, if_pos (by rfl)]
  unfold ownS
  by_cases q : j % 128 = 127
  · rw [if_neg (by show ¬ ((j % 128 : Nat) : Int) < 127; omega)]
    unfold shiftS ownE
    have h1 : (j + 1) / 128 = j / 128 + 1 := by omega
    rw [dE_next o i (j / 128) (by omega) i0 i1, h1]
    have h2 : (j + 1) % 128 = 0 := by omega
    rw [h2]
    by_cases z : j + 1 < 1024
    · rw [if_pos z, if_neg (by show ¬ 8 - ((j / 128 : Nat) : Int) = 1; omega)]
      congr 1
      show 8 - ((j / 128 : Nat) : Int) - 1 = 8 - ((j / 128 + 1 : Nat) : Int)
      omega
    · rw [if_neg z, if_pos (by show 8 - ((j / 128 : Nat) : Int) = 1; omega)]
      congr 1
      show 8 - ((j / 128 : Nat) : Int) - 1 = 8 - ((j / 128 + 1 : Nat) : Int)
      omega
  · rw [if_pos (by show ((j % 128 : Nat) : Int) < 127; omega)]
    unfold ownE
    have h1 : (j + 1) / 128 = j / 128 := by omega
    have h2 : (j + 1) % 128 = j % 128 + 1 := by omega
    rw [h1, h2, if_pos (by omega)]
    congr 1
theorem own_ask (o i : Int) (j : Nat) (hj : j < 1024) (edge : Bool) : askS (ownE o i j) edge = decide ((j : Int) = 1023) := by
  have E : ownE o i j = ⟨dE o i (j / 128), 129, 8 - ((j / 128 : Nat) : Int), ((j % 128 : Nat) : Int)⟩ := by unfold ownE; rw [if_pos hj]
  have g : goesS (ownE o i j) = true := (goes_iff _).2 (by rw [E]; exact ⟨(by decide : (128 : Int) ≤ 129), by show 8 - ((j / 128 : Nat) : Int) ≠ 0; omega⟩)
  unfold askS
  rw [g, E, if_pos (by rfl), Bool.true_and]
  show (decide (127 ≤ ((j % 128 : Nat) : Int)) && (8 - ((j / 128 : Nat) : Int) == 1)) = _
  by_cases z : (j : Int) = 1023
  · rw [decide_eq_true z, decide_eq_true (by omega), show 8 - ((j / 128 : Nat) : Int) = 1 by omega]; rfl
  · rw [decide_eq_false z]
    by_cases y : 127 ≤ ((j % 128 : Nat) : Int)
    · rw [show (8 - ((j / 128 : Nat) : Int) == 1) = false by simp; omega, Bool.and_false]
    · rw [decide_eq_false y, Bool.false_and]
theorem own_out (o i : Int) (j : Nat) (hj : j < 1024) (o0 : 0 ≤ o) (o1 : o ≤ 255) (i0 : 0 ≤ i) (i1 : i ≤ 255) : outS (ownE o i j) = bitS o (7 - j / 128) := dE_out o i (j / 128) (by omega) o0 o1 i0 i1
theorem far_out (o i : Int) (j : Nat) (hj : j < 1024) (o0 : 0 ≤ o) (o1 : o ≤ 255) (i0 : 0 ≤ i) (i1 : i ≤ 255) : outS (farE o i j) = bitS o (7 - j / 128) := dE_out o i (j / 128) (by omega) o0 o1 i0 i1
theorem own_left (o i : Int) (j : Nat) (hj : j < 1024) : ((ownE o i (j + 1)).left != (ownE o i j).left) = decide (j % 128 = 127) := by
  show (8 - (((j + 1) / 128 : Nat) : Int) != 8 - ((j / 128 : Nat) : Int)) = _
  by_cases q : j % 128 = 127
  · rw [decide_eq_true q]; simp; omega
  · rw [decide_eq_false q]; simp; omega
theorem far_next (o i : Int) (j : Nat) (hj : j < 1024) (i0 : 0 ≤ i) (i1 : i ≤ 255) : stepS (farE o i j) (bitS i (7 - j / 128)) (decide (j % 128 = 127)) = farE o i (j + 1) := by
  have E : farE o i j = ⟨dE o i (j / 128), 128, 8 - ((j / 128 : Nat) : Int), 0⟩ := by unfold farE; rw [if_pos hj]
  have g : goesS (farE o i j) = true := (goes_iff _).2 (by rw [E]; exact ⟨(by decide : (128 : Int) ≤ 128), by show 8 - ((j / 128 : Nat) : Int) ≠ 0; omega⟩)
  unfold stepS
  rw [if_pos g, E, if_neg (by decide : ¬ (128 : Int) % 2 = 1)]
  by_cases q : j % 128 = 127
  · rw [if_pos (decide_eq_true q)]
    unfold shiftS farE
    have h1 : (j + 1) / 128 = j / 128 + 1 := by omega
    rw [dE_next o i (j / 128) (by omega) i0 i1, h1]
    by_cases z : j + 1 < 1024
    · rw [if_pos z, if_neg (by show ¬ 8 - ((j / 128 : Nat) : Int) = 1; omega)]
      congr 1
      show 8 - ((j / 128 : Nat) : Int) - 1 = 8 - ((j / 128 + 1 : Nat) : Int)
      omega
    · rw [if_neg z, if_pos (by show 8 - ((j / 128 : Nat) : Int) = 1; omega)]
      congr 1
      show 8 - ((j / 128 : Nat) : Int) - 1 = 8 - ((j / 128 + 1 : Nat) : Int)
      omega
  · rw [if_neg (by simpa using q)]
    unfold farE
    have h1 : (j + 1) / 128 = j / 128 := by omega
    rw [h1, if_pos (by omega)]
theorem far_ask (o i : Int) (j : Nat) (hj : j < 1024) : askS (farE o i j) (decide (j % 128 = 127)) = decide ((j : Int) = 1023) := by
  have E : farE o i j = ⟨dE o i (j / 128), 128, 8 - ((j / 128 : Nat) : Int), 0⟩ := by unfold farE; rw [if_pos hj]
  have g : goesS (farE o i j) = true := (goes_iff _).2 (by rw [E]; exact ⟨(by decide : (128 : Int) ≤ 128), by show 8 - ((j / 128 : Nat) : Int) ≠ 0; omega⟩)
  unfold askS
  rw [g, E, if_neg (by decide : ¬ (128 : Int) % 2 = 1), Bool.true_and]
  show (decide (j % 128 = 127) && (8 - ((j / 128 : Nat) : Int) == 1)) = _
  by_cases z : (j : Int) = 1023
  · rw [decide_eq_true z, decide_eq_true (by omega), show 8 - ((j / 128 : Nat) : Int) = 1 by omega]; rfl
  · rw [decide_eq_false z]
    by_cases y : j % 128 = 127
    · rw [show (8 - ((j / 128 : Nat) : Int) == 1) = false by simp; omega, Bool.and_false]
    · rw [decide_eq_false y, Bool.false_and]
end Go.Proofs.Ytblagmninenapaa
