/- Plain: what ObjectsLines wants. -/
import Derived.Test.YtaknbjignaefkabRp16
namespace Go.Proofs.Ytaknbjignaefkab
open Go.RowKit
set_option linter.unusedVariables false
set_option linter.unusedSimpArgs false

/-- The object, wholly within the picture. -/
def inO (o : Ob) : Ob := (⟨16 + o.1.val % 129, by omega⟩, ⟨8 + o.2.1.val % 153, by omega⟩, o.2.2.1, o.2.2.2.1, o.2.2.2.2)
structure Within (o : Ob) : Prop where
  y0 : 16 ≤ o.1.val
  y1 : o.1.val ≤ 144
  x0 : 8 ≤ o.2.1.val
  x1 : o.2.1.val ≤ 160
theorem inO_in (o : Ob) : Within (inO o) := ⟨by show 16 ≤ 16 + _; omega, by show 16 + _ ≤ 144; omega, by show 8 ≤ 8 + _; omega, by show 8 + _ ≤ 160; omega⟩
theorem xor64_lt (v : Fin 256) : (bits .xor .u8 (v.val : Int) 64).toNat < 256 := by have := (xor64_fin v).2; omega
/-- Turned about. -/
def flO (o : Ob) : Ob := (o.1, o.2.1, o.2.2.1, ⟨(bits .xor .u8 (o.2.2.2.1.val : Int) 64).toNat, xor64_lt _⟩, o.2.2.2.2)
theorem flO_a (o : Ob) : ((flO o).2.2.2.1.val : Int) = bits .xor .u8 (o.2.2.2.1.val : Int) 64 := by
  have := (xor64_fin o.2.2.2.1).2
  show (((bits .xor .u8 (o.2.2.2.1.val : Int) 64).toNat : Nat) : Int) = _
  omega
theorem flO_bit (o : Ob) : bitOf ((flO o).2.2.2.1.val : Int) 6 = !(bitOf (o.2.2.2.1.val : Int) 6) := by rw [flO_a]; exact (xor64_fin o.2.2.2.1).1
/-- The line from the other end. -/
def backL (o : Ob) (l : Int) (t : Bool) : Int := 2 * (o.1.val : Int) - 32 + rowsI t - 1 - l
theorem fl_on {o : Ob} {l : Int} {t : Bool} (W : Within o) (h : onP o l t = true) : onP (flO o) (backL o l t) t = true := by
  rw [onP_iff] at h ⊢
  obtain ⟨a, b, c, d⟩ := h
  have := W.y0; have := W.y1
  show 0 ≤ backL o l t ∧ backL o l t ≤ 143 ∧ (o.1.val : Int) ≤ backL o l t + 16 ∧ backL o l t + 16 < o.1.val + rowsI t
  have r : rowsI t = 16 ∨ rowsI t = 8 := by cases t <;> simp [rowsI]
  unfold backL
  omega
theorem fl_rI {o : Ob} {l : Int} {t : Bool} (h : onP o l t = true) : rI (flO o) (backL o l t) t = rI o l t := by
  unfold rI
  rw [flO_bit]
  show (if (!bitOf (o.2.2.2.1.val : Int) 6) = true then rowsI t - 1 - (backL o l t + 16 - (o.1.val : Int)) else backL o l t + 16 - (o.1.val : Int)) = _
  unfold backL
  cases bitOf (o.2.2.2.1.val : Int) 6 <;> simp <;> omega
theorem fl_tile {o : Ob} {l : Int} {t : Bool} (W : Within o) (h : onP o l t = true) : tileR (flO o) (backL o l t) t = tileR o l t ∧ rowR (flO o) (backL o l t) t = rowR o l t := by
  unfold tileR rowR
  rw [fl_on W h, h, fl_rI h]
  exact ⟨rfl, rfl⟩
theorem row_in {o : Ob} {l : Int} {t : Bool} (h : onP o l t = true) : 0 ≤ rowR o l t ∧ rowR o l t ≤ 7 := by
  have := rI_in h
  unfold rowR
  rw [h, if_pos rfl]
  cases t
  · simp only [Bool.false_eq_true, if_false]; rw [rows_f] at this; omega
  · simp only [if_true]; omega
/-- How many lines so far. -/
def linN (o : Ob) (t : Bool) (l : Int) : Int := if l ≤ (o.1.val : Int) - 16 then 0 else if l ≤ (o.1.val : Int) - 16 + rowsI t then l - ((o.1.val : Int) - 16) else rowsI t
theorem on_within {o : Ob} (W : Within o) (l : Int) (t : Bool) : onP o l t = true ↔ (o.1.val : Int) - 16 ≤ l ∧ l < (o.1.val : Int) - 16 + rowsI t := by
  have := W.y0; have := W.y1
  rw [onP_iff]
  have r : rowsI t = 16 ∨ rowsI t = 8 := by cases t <;> simp [rowsI]
  omega
theorem lin_no {o : Ob} (W : Within o) {l : Int} {t : Bool} (h : onP o l t = false) : linN o t (l + 1) = linN o t l := by
  have q : ¬ ((o.1.val : Int) - 16 ≤ l ∧ l < (o.1.val : Int) - 16 + rowsI t) := fun q => by rw [(on_within W l t).2 q] at h; cases h
  have r : rowsI t = 16 ∨ rowsI t = 8 := by cases t <;> simp [rowsI]
  unfold linN
  repeat' split
  all_goals omega
theorem lin_yes {o : Ob} (W : Within o) {l : Int} {t : Bool} (h : onP o l t = true) : linN o t (l + 1) = linN o t l + 1 := by
  have q := (on_within W l t).1 h
  have r : rowsI t = 16 ∨ rowsI t = 8 := by cases t <;> simp [rowsI]
  unfold linN
  repeat' split
  all_goals omega
theorem lin_start {o : Ob} (W : Within o) (t : Bool) : linN o t (-3) = 0 := by
  have := W.y0
  unfold linN
  rw [if_pos (by omega)]
theorem lin_end {o : Ob} (W : Within o) (t : Bool) : linN o t 150 = rowsI t := by
  have := W.y1
  have r : rowsI t = 16 ∨ rowsI t = 8 := by cases t <;> simp [rowsI]
  unfold linN
  repeat' split
  all_goals omega
theorem lin_bd (o : Ob) (t : Bool) (l : Int) : 0 ≤ linN o t l ∧ linN o t l ≤ 16 := by
  have r : rowsI t = 16 ∨ rowsI t = 8 := by cases t <;> simp [rowsI]
  unfold linN
  repeat' split
  all_goals omega
/-- The columns that were seen so far, as bits. -/
def seenS (f : Bool) (k : Nat) : Int := if f then 256 - 2 ^ (8 - k) else 2 ^ k - 1
def colK (f : Bool) (k : Nat) : Int := if f then 7 - (k : Int) else (k : Int)
theorem seen_fin : ∀ (k : Fin 8) (f : Bool), bits .and .i64 (colK f k.val) 7 = colK f k.val ∧ bits .or .i64 (seenS f k.val) (2 ^ (colK f k.val).toNat) = seenS f (k.val + 1) ∧ 0 ≤ colK f k.val ∧ colK f k.val ≤ 7 := by decide +kernel
theorem pow_fin16 : ∀ n : Fin 8, 1 ≤ (2 : Int) ^ n.val ∧ (2 : Int) ^ n.val ≤ 128 := by decide
theorem sh_all16 (n : Nat) (b : Int) (h : (2 : Int) ^ n = b) (b0 : 1 ≤ b) (b1 : b ≤ 128) : wrap64 (1 * 2 ^ n) = b ∧ wrap64 (2 ^ n) = b ∧ IntKind.i64.wrap (1 * 2 ^ n) = b ∧ IntKind.i64.wrap (2 ^ n) = b := by
  rw [h, Int.one_mul]
  clear h
  have e1 : wrap64 b = b := by unfold wrap64; omega
  have e2 : IntKind.i64.wrap b = b := by rw [IntKind.wrap_i64]; omega
  exact ⟨e1, e1, e2, e2⟩
theorem wr_one {p : Int} (h0 : 1 ≤ p) (h1 : p ≤ 128) : wrap64 p = p ∧ IntKind.i64.wrap p = p := ⟨by unfold wrap64; omega, by rw [IntKind.wrap_i64]; omega⟩
/-- How many columns so far. -/
def seenK (o : Ob) (x : Int) : Nat := min 8 (x - ((o.2.1.val : Int) - 8)).toNat
def seenI (o : Ob) (x : Int) : Int := seenS (bitOf (o.2.2.2.1.val : Int) 5) (seenK o x)
theorem col_within {o : Ob} (W : Within o) (x : Int) : colOn o x = true ↔ (o.2.1.val : Int) - 8 ≤ x ∧ x < (o.2.1.val : Int) := by
  have := W.x0; have := W.x1
  rw [colOn_iff]
  omega
theorem seen_start {o : Ob} (W : Within o) : seenI o (-3) = 0 := by
  have := W.x0
  unfold seenI
  rw [show seenK o (-3) = 0 by unfold seenK; omega]
  cases bitOf (o.2.2.2.1.val : Int) 5 <;> rfl
theorem seen_end {o : Ob} (W : Within o) : seenI o 170 = 255 := by
  have := W.x1
  unfold seenI
  rw [show seenK o 170 = 8 by unfold seenK; omega]
  cases bitOf (o.2.2.2.1.val : Int) 5 <;> rfl
theorem seen_no {o : Ob} (W : Within o) {x : Int} (h : colOn o x = false) : seenI o (x + 1) = seenI o x := by
  have q : ¬ ((o.2.1.val : Int) - 8 ≤ x ∧ x < (o.2.1.val : Int)) := fun q => by rw [(col_within W x).2 q] at h; cases h
  unfold seenI
  rw [show seenK o (x + 1) = seenK o x by unfold seenK; omega]
/-- What a round with a column does. -/
theorem seen_yes {o : Ob} (W : Within o) {x : Int} (h : colOn o x = true) : ∃ p : Int, bits .and .i64 (colI o x) 7 = colI o x ∧ (2 : Int) ^ (colI o x).toNat = p ∧ 1 ≤ p ∧ p ≤ 128 ∧ bits .or .i64 (seenI o x) p = seenI o (x + 1) ∧ 0 ≤ colI o x ∧ colI o x ≤ 7 := by
  have q := (col_within W x).1 h
  obtain ⟨k, hk⟩ : ∃ k : Nat, x = (o.2.1.val : Int) - 8 + k := ⟨(x - ((o.2.1.val : Int) - 8)).toNat, by omega⟩
  have hk8 : k < 8 := by omega
  have e1 : seenK o x = k := by unfold seenK; omega
  have e2 : seenK o (x + 1) = k + 1 := by unfold seenK; omega
  have ec : colI o x = colK (bitOf (o.2.2.2.1.val : Int) 5) k := by
    unfold colI colK
    rw [h, if_pos rfl]
    split <;> omega
  obtain ⟨a, b, c, d⟩ := seen_fin ⟨k, hk8⟩ (bitOf (o.2.2.2.1.val : Int) 5)
  simp only at a b c d
  rw [← ec] at a b c d
  have pw := pow_fin16 ⟨(colI o x).toNat, by omega⟩
  refine ⟨_, a, rfl, pw.1, pw.2, ?_, c, d⟩
  unfold seenI
  rw [e1, e2]
  exact b
end Go.Proofs.Ytaknbjignaefkab
