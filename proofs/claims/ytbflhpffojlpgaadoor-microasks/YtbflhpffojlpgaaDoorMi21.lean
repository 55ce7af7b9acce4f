/- Plain numbers of layer 21: what an instruction does in each cycle behind its fetch. -/
import Derived.Test.YtbflhpffojlpgaaDoorOp
namespace Go.Proofs.YtbflhpffojlpgaaDoor
open Go.RowKit

/-- A cycle: its bus, its place, its value. -/
abbrev Mc : Type := Int × Int × Int
def onM (g : Bool) (l : List Mc) : List Mc := if g = true then l else []
def idlM : List Mc := [(0, 0, 0)]
def loM : List Mc := [(1, 1, 1)]
def wdM : List Mc := [(1, 1, 1), (1, 1, 2)]
def chgM : List Mc := [(1, 2, 1), (2, 2, 9)]
def popM : List Mc := [(1, 12, 1), (1, 12, 2)]
def callM : List Mc := [(0, 0, 0), (2, 11, 8), (2, 11, 7)]
def backM : List Mc := [(1, 12, 1), (1, 12, 2), (0, 0, 0)]
def cndP (k x : Int) : Bool := (k == 36 || k == 37 || k == 39 || k == 40) && decide (x < 4)
/-- The program's four parts. -/
def accP (k x : Int) : List Mc :=
  if k = 9 then [(1, 3 + x, 1)] else if k = 10 then [(2, 3 + x, 3)] else if k = 11 then [(1, 1, 1), (1, 7, 1)] else if k = 12 then [(1, 1, 1), (2, 7, 3)]
  else if k = 13 then [(1, 8, 1)] else if k = 14 then [(2, 8, 3)] else if k = 15 then [(1, 1, 1), (1, 1, 2), (1, 9, 1)] else if k = 16 then [(1, 1, 1), (1, 1, 2), (2, 9, 3)] else []
def bytP (k x y : Int) : List Mc :=
  if k = 1 then loM else if k = 24 then loM else if k = 7 then onM (y == 6) [(1, 2, 1)] ++ onM (x == 6) [(2, 2, 4)] else if k = 8 then loM ++ onM (x == 6) [(2, 2, 1)]
  else if k = 23 then onM (y == 6) [(1, 2, 1)] else if k = 44 then onM (y == 6) [(1, 2, 1)] else if k = 25 then onM (x == 6) chgM else if k = 26 then onM (x == 6) chgM
  else if k = 43 then onM (y == 6) chgM else if k = 45 then onM (y == 6) chgM else if k = 46 then onM (y == 6) chgM else []
def wrdP (k : Int) : List Mc :=
  if k = 17 then wdM else if k = 18 then [(1, 1, 1), (1, 1, 2), (2, 9, 5), (2, 10, 6)] else if k = 19 then idlM else if k = 27 then idlM else if k = 28 then idlM else if k = 29 then idlM
  else if k = 20 then [(1, 1, 1), (0, 0, 0)] else if k = 30 then [(1, 1, 1), (0, 0, 0), (0, 0, 0)] else if k = 21 then [(0, 0, 0), (2, 11, 10), (2, 11, 11)] else if k = 22 then popM else []
def jmpP (k x : Int) (g : Bool) : List Mc :=
  if k = 36 then loM ++ onM g idlM else if k = 37 then wdM ++ onM g idlM else if k = 39 then wdM ++ onM g callM else if k = 40 then onM (cndP 40 x) idlM ++ onM g backM
  else if k = 41 then backM else if k = 42 then callM else []
def planP (f : Fm) (t : Bool) : List Mc := accP f.kind f.x ++ bytP f.kind f.x f.y ++ wrdP f.kind ++ jmpP f.kind f.x (t || !cndP f.kind f.x)
def fmOf (op : Int) (cb : Bool) : Fm := if cb = true then cbOf op else decOf op
/-- The document's: a kind's cycles as letters. -/
def wordsS (k x y : Int) : ByteArray :=
  if k = 1 then ⟨#[108]⟩ else if k = 24 then ⟨#[108]⟩
  else if k = 7 then (if y = 6 then ⟨#[114]⟩ else if x = 6 then ⟨#[119]⟩ else ⟨#[]⟩)
  else if k = 8 then (if x = 6 then ⟨#[108, 87]⟩ else ⟨#[108]⟩)
  else if k = 9 then ⟨#[113]⟩ else if k = 10 then ⟨#[81]⟩ else if k = 11 then ⟨#[108, 103]⟩ else if k = 12 then ⟨#[108, 71]⟩ else if k = 13 then ⟨#[112]⟩ else if k = 14 then ⟨#[80]⟩
  else if k = 15 then ⟨#[108, 104, 102]⟩ else if k = 16 then ⟨#[108, 104, 70]⟩ else if k = 17 then ⟨#[108, 104]⟩ else if k = 18 then ⟨#[108, 104, 115, 83]⟩
  else if k = 19 then ⟨#[105]⟩ else if k = 27 then ⟨#[105]⟩ else if k = 28 then ⟨#[105]⟩ else if k = 29 then ⟨#[105]⟩ else if k = 20 then ⟨#[108, 105]⟩ else if k = 30 then ⟨#[108, 105, 105]⟩
  else if k = 21 then ⟨#[105, 116, 84]⟩ else if k = 22 then ⟨#[111, 79]⟩
  else if k = 23 then (if y = 6 then ⟨#[114]⟩ else ⟨#[]⟩) else if k = 44 then (if y = 6 then ⟨#[114]⟩ else ⟨#[]⟩)
  else if k = 25 then (if x = 6 then ⟨#[114, 100]⟩ else ⟨#[]⟩) else if k = 26 then (if x = 6 then ⟨#[114, 100]⟩ else ⟨#[]⟩)
  else if k = 43 then (if y = 6 then ⟨#[114, 100]⟩ else ⟨#[]⟩) else if k = 45 then (if y = 6 then ⟨#[114, 100]⟩ else ⟨#[]⟩) else if k = 46 then (if y = 6 then ⟨#[114, 100]⟩ else ⟨#[]⟩)
  else if k = 36 then ⟨#[108, 46, 105]⟩ else if k = 37 then ⟨#[108, 104, 46, 105]⟩ else if k = 39 then ⟨#[108, 104, 46, 105, 99, 67]⟩
  else if k = 40 then (if x < 4 then ⟨#[105, 46, 111, 79, 105]⟩ else ⟨#[111, 79, 105]⟩) else if k = 41 then ⟨#[111, 79, 105]⟩ else if k = 42 then ⟨#[105, 99, 67]⟩ else ⟨#[]⟩
def stkP (c : Int) : Mc :=
  if c = 116 then (2, 11, 10) else if c = 84 then (2, 11, 11) else if c = 99 then (2, 11, 8) else if c = 67 then (2, 11, 7) else if c = 111 then (1, 12, 1) else if c = 79 then (1, 12, 2) else (0, 0, 0)
def cycP (c x : Int) : Mc :=
  if c = 108 then (1, 1, 1) else if c = 104 then (1, 1, 2) else if c = 114 then (1, 2, 1) else if c = 119 then (2, 2, 4) else if c = 87 then (2, 2, 1) else if c = 100 then (2, 2, 9)
  else if c = 113 then (1, 3 + x, 1) else if c = 81 then (2, 3 + x, 3) else if c = 103 then (1, 7, 1) else if c = 71 then (2, 7, 3) else if c = 112 then (1, 8, 1) else if c = 80 then (2, 8, 3)
  else if c = 102 then (1, 9, 1) else if c = 70 then (2, 9, 3) else if c = 115 then (2, 9, 5) else if c = 83 then (2, 10, 6) else stkP c
/-- The cycles of the letters from one on. -/
def tellP (x : Int) (t : Bool) : List UInt8 → List Mc
  | [] => []
  | c :: r => if c = 46 then (if t = false ∧ ¬ x = 4 then [] else tellP x t r) else cycP (c.toNat : Int) x :: tellP x t r
def rplanP (f : Fm) (t : Bool) : List Mc := tellP f.x t (wordsS f.kind f.x f.y).data.toList
def raskP (f : Fm) : Bool := (f.kind == 36 || f.kind == 37 || f.kind == 39 || f.kind == 40) && f.x != 4
/-- Every instruction, with the prefix or without it, its condition holding or not. -/
def allM (p : Fm → Bool → Bool) : Bool := (List.range 256).all fun a => p (decOf (a : Int)) false && p (decOf (a : Int)) true && p (cbOf (a : Int)) false && p (cbOf (a : Int)) true
theorem all_m {p : Fm → Bool → Bool} (h : allM p = true) (op : Int) (cb t : Bool) (h0 : 0 ≤ op) (h1 : op ≤ 255) : p (fmOf op cb) t = true := by
  have h2 := List.all_eq_true.1 h op.toNat (by simp; omega)
  have e : ((op.toNat : Nat) : Int) = op := by omega
  rw [e] at h2
  simp only [Bool.and_eq_true] at h2
  obtain ⟨⟨⟨a, b⟩, c⟩, d⟩ := h2
  cases cb <;> cases t <;> simp only [fmOf, if_true, if_false, Bool.false_eq_true] <;> assumption
theorem plans_one : allM (fun f t => rplanP f t == planP f t) = true := by decide +kernel
theorem plans_two : allM (fun f t => (decide ((planP f t).length ≤ 6) && decide (0 ≤ f.x) && decide (f.x ≤ 7)) && ((!(f.kind == 9) && !(f.kind == 10)) || decide (f.x ≤ 3))) = true := by decide +kernel
theorem asks_one : allM (fun f _ => raskP f == cndP f.kind f.x) = true := by decide +kernel
theorem plan_same (op : Int) (cb t : Bool) (h0 : 0 ≤ op) (h1 : op ≤ 255) : rplanP (fmOf op cb) t = planP (fmOf op cb) t := by
  have := all_m plans_one op cb t h0 h1
  simpa using this
theorem ask_same (op : Int) (cb : Bool) (h0 : 0 ≤ op) (h1 : op ≤ 255) : raskP (fmOf op cb) = cndP (fmOf op cb).kind (fmOf op cb).x := by
  have := all_m asks_one op cb true h0 h1
  simpa using this
theorem plan_in (op : Int) (cb t : Bool) (h0 : 0 ≤ op) (h1 : op ≤ 255) : (planP (fmOf op cb) t).length ≤ 6 ∧ 0 ≤ (fmOf op cb).x ∧ (fmOf op cb).x ≤ 7 ∧ ((fmOf op cb).kind = 9 ∨ (fmOf op cb).kind = 10 → (fmOf op cb).x ≤ 3) := by
  have := all_m plans_two op cb t h0 h1
  simp only [Bool.and_eq_true, Bool.or_eq_true, decide_eq_true_eq, Bool.not_eq_true', beq_eq_false_iff_ne, ne_eq] at this
  obtain ⟨⟨⟨a, b⟩, c⟩, d⟩ := this
  refine ⟨a, b, c, fun q => ?_⟩
  rcases d with ⟨d, e⟩ | d
  · rcases q with q | q
    · exact absurd q d
    · exact absurd q e
  · exact d
/-- What the laws want of cycles and forms. -/
def timP (f : Fm) (cb : Bool) : Bool := let n : Int := if cb = true then 2 else 1
  ((planP f false).length : Int) + n == f.cycles && ((planP f true).length : Int) + n == f.taken && (cndP f.kind f.x || f.cycles == f.taken) && decide (f.taken ≤ 6)
theorem times_one : ((List.range 256).all fun a => timP (decOf (a : Int)) false && timP (cbOf (a : Int)) true) = true := by decide +kernel
theorem times_all (op : Int) (cb : Bool) (h0 : 0 ≤ op) (h1 : op ≤ 255) : timP (fmOf op cb) cb = true := by
  have h2 := List.all_eq_true.1 times_one op.toNat (by simp; omega)
  have e : ((op.toNat : Nat) : Int) = op := by omega
  rw [e] at h2
  simp only [Bool.and_eq_true] at h2
  cases cb
  · exact h2.1
  · exact h2.2
end Go.Proofs.YtbflhpffojlpgaaDoor
