/- Plain numbers of layer 14: what is pending, the numbers of bits, what is asked for and taken, and what follows. -/
import Derived.Test.YtfgkchmnmnmccaaBits
import Derived.Test.YtfgkchmnmnmccaaEach
namespace Go.Proofs.Ytfgkchmnmnmccaa
open Go.RowKit
set_option linter.unusedVariables false
set_option linter.unusedSimpArgs false

structure Iq where
  f : Int
  e : Int
structure IqIn (i : Iq) : Prop where
  f0 : 0 ≤ i.f
  f1 : i.f ≤ 255
  e0 : 0 ≤ i.e
  e1 : i.e ≤ 255
/-- The bits 0 to 4 that are 1 in both. -/
def pendP (f e : Int) : Int := eachTo 4 f e 5
theorem pend_in (f e : Int) : 0 ≤ pendP f e ∧ pendP f e ≤ 255 := eachTo_bd 4 f e 5
theorem pend_next (f e : Int) (k : Nat) : eachTo 4 f e (k + 1) = putOf (eachTo 4 f e k) (k : Int) (bitOf f k && bitOf e k) := rfl
theorem and31_fin : ∀ k : Fin 256, bits .and .u8 (k.val : Int) 31 = (k.val : Int) % 32 := by decide +kernel
theorem and31 (v : Int) (h0 : 0 ≤ v) (h1 : v ≤ 255) : bits .and .u8 v 31 = v % 32 := fin8 (p := fun v => bits .and .u8 v 31 = v % 32) and31_fin v h0 h1
theorem pend_and (f e : Int) (f0 : 0 ≤ f) (f1 : f ≤ 255) (e0 : 0 ≤ e) (e1 : e ≤ 255) : bits .and .u8 (bits .and .u8 f e) 31 = pendP f e := by
  have b := bits8 (· &&& ·) f e
  have b0 : 0 ≤ bits .and .u8 f e := b.1
  have b1 : bits .and .u8 f e ≤ 255 := b.2.1
  rw [and31 _ b0 b1]
  have q := each_nat 4 f.toNat e.toNat (bits .and .u8 f e).toNat (by
    intro k _
    show (IntKind.u8.wrap ((BitVec.ofInt 8 f &&& BitVec.ofInt 8 e).toNat : Nat)).toNat.testBit k = _
    rw [b.2.2, BitVec.toNat_and, ofInt8 f f0 f1, ofInt8 e e0 e1, Nat.testBit_and]
    rfl) 5 (by decide)
  rw [Int.toNat_of_nonneg f0, Int.toNat_of_nonneg e0] at q
  show _ = eachTo 4 f e 5
  rw [q]
  generalize bits .and .u8 f e = x at *
  simp only [Nat.reducePow]
  omega
/-- The numbers of bits, up to k. -/
def allTo (p : Int) : Nat → List Int
  | 0 => []
  | k + 1 => if bitOf p k = true then allTo p k ++ [(k : Int)] else allTo p k
def allP (p : Int) : List Int := allTo p 5
def firstP (p : Int) : Int := (allP p).headD 0
def isP (p : Int) : Bool := decide (0 < (allP p).length)
theorem allTo_len (p : Int) (k : Nat) : (allTo p k).length ≤ k := by
  induction k with
  | zero => exact Nat.le_refl 0
  | succ k ih =>
    show (if bitOf p k = true then allTo p k ++ [(k : Int)] else allTo p k).length ≤ k + 1
    split
    · rw [List.length_append]; exact Nat.succ_le_succ ih
    · omega
theorem allTo_yes (p : Int) (k : Nat) (h : bitOf p k = true) : allTo p (k + 1) = allTo p k ++ [(k : Int)] := if_pos h
theorem allTo_no (p : Int) (k : Nat) (h : bitOf p k = false) : allTo p (k + 1) = allTo p k := if_neg (by rw [h]; decide)
theorem allTo_pre (p : Int) (k m : Nat) (h : k ≤ m) : allTo p k <+: allTo p m := by
  induction m with
  | zero => obtain rfl : k = 0 := by omega
            exact List.prefix_refl _
  | succ m ih =>
    by_cases e : k = m + 1
    · subst e; exact List.prefix_refl _
    · refine (ih (by omega)).trans ?_
      show _ <+: (if bitOf p m = true then allTo p m ++ [(m : Int)] else allTo p m)
      split
      · exact List.prefix_append _ _
      · exact List.prefix_refl _
theorem allP_len (p : Int) : (allP p).length ≤ 5 := allTo_len p 5
/-- Where an interrupt stands. -/
def bitN (n : Int) : Int := if 0 ≤ n ∧ n < 5 then 2 ^ n.toNat else 0
theorem and_bitN_fin : ∀ a : Fin 256, ∀ k : Fin 5, (bits .and .u8 (a.val : Int) (bitN (k.val : Int)) != 0) = bitOf (a.val : Int) (k.val : Int) := by decide +kernel
theorem fin85 {p : Int → Int → Prop} (h : ∀ k : Fin 256, ∀ n : Fin 5, p (k.val : Int) (n.val : Int)) (a n : Int) (h0 : 0 ≤ a) (h1 : a ≤ 255) (h2 : 0 ≤ n) (h3 : n < 5) : p a n := by
  have e := h ⟨a.toNat, by omega⟩ ⟨n.toNat, by omega⟩
  have e2 : ((a.toNat : Nat) : Int) = a := by omega
  have e3 : ((n.toNat : Nat) : Int) = n := by omega
  simp only [e2, e3] at e
  exact e
theorem and_bitN (a n : Int) (h0 : 0 ≤ a) (h1 : a ≤ 255) (h2 : 0 ≤ n) (h3 : n < 5) : (bits .and .u8 a (bitN n) != 0) = bitOf a n :=
  fin85 (p := fun a n => (bits .and .u8 a (bitN n) != 0) = bitOf a n) and_bitN_fin a n h0 h1 h2 h3
theorem or_bitN_fin : ∀ a : Fin 256, ∀ k : Fin 5, bits .or .u8 (a.val : Int) (bitN (k.val : Int)) = putOf (a.val : Int) (k.val : Int) true := by decide +kernel
theorem not_bitN_fin : ∀ a : Fin 256, ∀ k : Fin 5, bits .andNot .u8 (a.val : Int) (bitN (k.val : Int)) = putOf (a.val : Int) (k.val : Int) false := by decide +kernel
theorem or_0_fin : ∀ a : Fin 256, bits .or .u8 (a.val : Int) 0 = (a.val : Int) := by decide +kernel
theorem not_0_fin : ∀ a : Fin 256, bits .andNot .u8 (a.val : Int) 0 = (a.val : Int) := by decide +kernel
def askN (f n : Int) : Int := if 0 ≤ n ∧ n < 5 then putOf f n true else f
def takeN (f n : Int) : Int := if 0 ≤ n ∧ n < 5 then putOf f n false else f
theorem ask_or (f n : Int) (f0 : 0 ≤ f) (f1 : f ≤ 255) : bits .or .u8 f (bitN n) = askN f n := by
  unfold askN
  by_cases h : 0 ≤ n ∧ n < 5
  · rw [if_pos h]; exact fin85 (p := fun a n => bits .or .u8 a (bitN n) = putOf a n true) or_bitN_fin f n f0 f1 h.1 h.2
  · rw [if_neg h, show bitN n = 0 from if_neg h]; exact fin8 (p := fun a => bits .or .u8 a 0 = a) or_0_fin f f0 f1
theorem take_not (f n : Int) (f0 : 0 ≤ f) (f1 : f ≤ 255) : bits .andNot .u8 f (bitN n) = takeN f n := by
  unfold takeN
  by_cases h : 0 ≤ n ∧ n < 5
  · rw [if_pos h]; exact fin85 (p := fun a n => bits .andNot .u8 a (bitN n) = putOf a n false) not_bitN_fin f n f0 f1 h.1 h.2
  · rw [if_neg h, show bitN n = 0 from if_neg h]; exact fin8 (p := fun a => bits .andNot .u8 a 0 = a) not_0_fin f f0 f1
theorem ask_bd (f n : Int) (f0 : 0 ≤ f) (f1 : f ≤ 255) : 0 ≤ askN f n ∧ askN f n ≤ 255 := by
  unfold askN; split
  · exact put_bd _ _ _ f0 f1
  · exact ⟨f0, f1⟩
theorem take_bd (f n : Int) (f0 : 0 ≤ f) (f1 : f ≤ 255) : 0 ≤ takeN f n ∧ takeN f n ≤ 255 := by
  unfold takeN; split
  · exact put_bd _ _ _ f0 f1
  · exact ⟨f0, f1⟩
def askI (i : Iq) (n : Int) : Iq := ⟨askN i.f n, i.e⟩
def takeI (i : Iq) (n : Int) : Iq := ⟨takeN i.f n, i.e⟩
def vecV (n : Int) : Int := if 0 ≤ n ∧ n < 5 then 64 + 8 * n else 0
def vecE (n : Int) : Int := if 0 ≤ n ∧ n < 5 then 0 else 1
def readI (i : Iq) (a : Int) : Int := if a = 65295 then 224 + i.f % 32 else if a = 65535 then i.e else 255
def writeI (i : Iq) (a v : Int) : Iq := if a = 65295 then ⟨v % 32, i.e⟩ else if a = 65535 then ⟨i.f, v⟩ else i
theorem or224_fin : ∀ a : Fin 256, bits .or .u8 224 (a.val : Int) = 224 + (a.val : Int) % 32 := by decide +kernel
theorem or224 (v : Int) (h0 : 0 ≤ v) (h1 : v ≤ 255) : bits .or .u8 224 v = 224 + v % 32 := fin8 (p := fun v => bits .or .u8 224 v = 224 + v % 32) or224_fin v h0 h1
end Go.Proofs.Ytfgkchmnmnmccaa
